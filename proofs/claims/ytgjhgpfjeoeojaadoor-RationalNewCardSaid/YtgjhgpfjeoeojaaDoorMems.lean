/- Digits in memory: a segment of a block that holds digits, a slice that owns its digits, a slice whose digits can be read; how these facts go on when the world changes. -/
import Derived.WalkKit
import Derived.Deep.Draws
import Derived.Test.YtgjhgpfjeoeojaaDoorProg
import Derived.Outline
import Derived.Lib.Hide
import Derived.Test.YtgjhgpfjeoeojaaDoorShelf
import Derived.Deep.QuietTactic
import Derived.BigQuiet
import Derived.Laws.CopyOwn
import Derived.Test.YtgjhgpfjeoeojaaDoorPlain
namespace Go.Proofs.YtgjhgpfjeoeojaaDoor
open Go.RowKit Dig

/-- Digits as values. -/
def U (xs : List Nat) : List Value := xs.map fun (d : Nat) => Value.int .u32 (d : Int)
theorem U_length (xs : List Nat) : (U xs).length = xs.length := by simp [U]
theorem U_append (xs ys : List Nat) : U (xs ++ ys) = U xs ++ U ys := by simp [U]
theorem U_get (xs : List Nat) (j : Nat) (h : j < xs.length) : (U xs)[j]? = some (.int .u32 ((xs.getD j 0 : Nat) : Int)) := by
  simp [U, List.getD_eq_getElem?_getD, List.getElem?_eq_getElem h]
theorem U_set (xs : List Nat) (j v : Nat) : (U xs).set j (.int .u32 (v : Int)) = U (xs.set j v) := by simp [U, List.map_set]
theorem U_replicate (n : Nat) : U (List.replicate n 0) = List.replicate n (.int .u32 0) := by simp [U]
theorem U_take (xs : List Nat) (k : Nat) : (U xs).take k = U (xs.take k) := by simp [U, List.map_take]
theorem U_oneCell (xs : List Nat) : ∀ u ∈ U xs, u.oneCell' = true := by
  intro u hu
  simp only [U, List.mem_map] at hu
  obtain ⟨d, _, rfl⟩ := hu
  rfl

/-- Block g holds, between two lists of values, the digits xs; none of its cells is frozen. -/
def Seg (w : World) (g : Nat) (pre : List Value) (xs : List Nat) (post : List Value) : Prop := w.heap[g]? = some (.cells (pre ++ U xs ++ post).toArray 32 (0, 0))

section
variable {w w' : World} {g : Nat} {pre post : List Value} {xs : List Nat}
theorem Seg.lt (h : Seg w g pre xs post) : g < w.heap.size := by
  rcases Nat.lt_or_ge g w.heap.size with hlt | hge
  · exact hlt
  · unfold Seg at h; rw [Array.getElem?_eq_none hge] at h; cases h
theorem Seg.frozen (h : Seg w g pre xs post) (i : Nat) : w.frozen? ⟨g, i, none⟩ = false := by
  unfold Seg at h
  simp [World.frozen?, h]
theorem Seg.cell (h : Seg w g pre xs post) {j : Nat} (hj : j < xs.length) : w.cell? ⟨g, pre.length + j, none⟩ = some (.int .u32 ((xs.getD j 0 : Nat) : Int)) := by
  rw [cell_of_row w g _ _ _ (0, 0) h]
  rw [List.getElem?_toArray, List.append_assoc, List.getElem?_append_right (by omega), Nat.add_sub_cancel_left, List.getElem?_append_left (by rw [U_length]; exact hj)]
  exact U_get xs j hj
theorem Seg.set (h : Seg w g pre xs post) (j v : Nat) (hj : j < xs.length) : Seg (w.setCell ⟨g, pre.length + j, none⟩ (.int .u32 (v : Int))) g pre (xs.set j v) post := by
  unfold Seg at h ⊢
  simp only [World.setCell, Array.getElem?_modify, h]
  simp only [if_true, Option.map_some, Option.some.injEq, Obj.cells.injEq, and_true, List.setIfInBounds_toArray]
  rw [List.append_assoc, List.set_append_right _ _ (by omega), Nat.add_sub_cancel_left, List.set_append_left _ _ (by rw [U_length]; exact hj), U_set, ← List.append_assoc]
  simp
theorem Seg.of_block (h : Seg w g pre xs post) (e : w'.heap[g]? = w.heap[g]?) : Seg w' g pre xs post := by
  unfold Seg at h ⊢
  rw [e]
  exact h
theorem Seg.alloc (h : Seg w g pre xs post) (o : Obj) : Seg (w.alloc o) g pre xs post := h.of_block (Below.heap_alloc w o g h.lt)
theorem Seg.drewN (h : Seg w g pre xs post) (n : Nat) : Seg (w.drewN n) g pre xs post := h
theorem Seg.far (h : Seg w g pre xs post) {p : Addr} (hp : g ≠ p.block) (u : Value) : Seg (w.setCell p u) g pre xs post := h.of_block (Below.heap_setCell w p u g hp)
theorem Seg.below {B : Nat} (h : Seg w g pre xs post) (hb : Below B w w') (hg : g < B) : Seg w' g pre xs post := h.of_block (hb.block g hg)
theorem Seg.grown {row : Option Nat} (h : Seg w g pre xs post) (hb : w.grownBy w' row) (hg : some g ≠ row) : Seg w' g pre xs post := h.of_block (hb.block g h.lt hg)
/-- The first part of a segment is a segment. -/
theorem Seg.left {ys : List Nat} (h : Seg w g pre (xs ++ ys) post) : Seg w g pre xs (U ys ++ post) := by
  unfold Seg at h ⊢
  rw [h, U_append]
  simp
theorem Seg.right {ys : List Nat} (h : Seg w g pre (xs ++ ys) post) : Seg w g (pre ++ U xs) ys post := by
  unfold Seg at h ⊢
  rw [h, U_append]
  simp
theorem Seg.ofLeft {ys : List Nat} (h : Seg w g pre xs (U ys ++ post)) : Seg w g pre (xs ++ ys) post := by
  unfold Seg at h ⊢
  rw [h, U_append]
  simp
theorem Seg.ofRight {ys : List Nat} (h : Seg w g (pre ++ U xs) ys post) : Seg w g pre (xs ++ ys) post := by
  unfold Seg at h ⊢
  rw [h, U_append]
  simp
end

/-- A slice whose elements are the digits xs, which can be read. -/
def Num (w : World) (v : Value) (xs : List Nat) : Prop :=
  ∃ A c, v = .slice A xs.length c ∧ (xs.length ≤ c ∧ (A = none → c = 0)) ∧ c ≤ maxLen ∧ Small xs ∧
    (0 < xs.length → ∃ b off, A = some ⟨b, off, none⟩ ∧ b < w.heap.size ∧ ∀ j, j < xs.length → w.cell? ⟨b, off + j, none⟩ = some (.int .u32 ((xs.getD j 0 : Nat) : Int)))

/-- A slice that owns its digits: nil, or the head of a block from 'base' on that nobody else holds. -/
def Own (base : Nat) (w : World) (v : Value) (xs : List Nat) : Prop :=
  Small xs ∧ ((v = .slice none 0 0 ∧ xs = []) ∨
    ∃ g rest, v = .slice (some ⟨g, 0, none⟩) xs.length (xs.length + rest.length) ∧ base ≤ g ∧ xs.length + rest.length ≤ maxLen ∧ Seg w g [] xs rest)

section
variable {w w' : World} {v : Value} {xs : List Nat} {base : Nat}
theorem Num.small (h : Num w v xs) : Small xs := by obtain ⟨_, _, _, _, _, h, _⟩ := h; exact h
theorem Num.nil (w : World) : Num w (.slice none 0 0) [] := ⟨none, 0, rfl, ⟨Nat.le_refl _, fun _ => rfl⟩, by unfold maxLen; omega, Small.nil, fun h => absurd h (by simp)⟩
theorem Num.keep (h : Num w v xs) (hs : w.heap.size ≤ w'.heap.size) (hk : ∀ b o, b < w.heap.size → w'.cell? ⟨b, o, none⟩ = w.cell? ⟨b, o, none⟩) : Num w' v xs := by
  obtain ⟨A, c, h1, h2, h3, h4, h5⟩ := h
  refine ⟨A, c, h1, h2, h3, h4, fun hp => ?_⟩
  obtain ⟨b, off, e, hb, hc⟩ := h5 hp
  exact ⟨b, off, e, by omega, fun j hj => (hk _ _ hb).trans (hc j hj)⟩
theorem Num.below (h : Num w v xs) (hb : Below w.heap.size w w') : Num w' v xs := h.keep hb.size fun b o hlt => hb.cell (p := ⟨b, o, none⟩) hlt
theorem Num.drewN (h : Num w v xs) (n : Nat) : Num (w.drewN n) v xs := h
theorem Num.alloc (h : Num w v xs) (o : Obj) : Num (w.alloc o) v xs := h.below ((Below.refl _ _).alloc (Nat.le_refl _) o)
theorem Own.small (h : Own base w v xs) : Small xs := h.1
theorem Own.nil (base : Nat) (w : World) : Own base w (.slice none 0 0) [] := ⟨Small.nil, .inl ⟨rfl, rfl⟩⟩
theorem Own.num (h : Own base w v xs) : Num w v xs := by
  obtain ⟨hs, h⟩ := h
  rcases h with ⟨rfl, rfl⟩ | ⟨g, rest, rfl, hb, hm, hg⟩
  · exact Num.nil w
  · exact ⟨_, _, rfl, ⟨by omega, fun e => by simp at e⟩, hm, hs, fun _ => ⟨g, 0, rfl, hg.lt, fun j hj => by have := hg.cell hj; simpa using this⟩⟩
theorem Own.mono {base' : Nat} (h : Own base w v xs) (hb : base' ≤ base) : Own base' w v xs := by
  obtain ⟨hs, h⟩ := h
  refine ⟨hs, ?_⟩
  rcases h with h | ⟨g, rest, e, hg, hm, hh⟩
  · exact .inl h
  · exact .inr ⟨g, rest, e, by omega, hm, hh⟩
/-- The first digits of what is owned are owned. -/
theorem Own.take {k : Nat} {c : Nat} {g : Nat} (h : Own base w (.slice (some ⟨g, 0, none⟩) xs.length c) xs) (hk : k ≤ xs.length) : Own base w (.slice (some ⟨g, 0, none⟩) k c) (xs.take k) := by
  obtain ⟨hs, h⟩ := h
  rcases h with ⟨h, _⟩ | ⟨g', rest, e, hg, hm, hh⟩
  · simp at h
  · simp only [Value.slice.injEq, Option.some.injEq, Addr.mk.injEq, and_true, true_and] at e
    obtain ⟨rfl, rfl⟩ := e
    refine ⟨hs.take k, .inr ⟨g, U (xs.drop k) ++ rest, ?_, hg, ?_, ?_⟩⟩
    · simp [U_length, Nat.min_eq_left hk]; omega
    · simp [U_length, Nat.min_eq_left hk]; omega
    · have : Seg w g [] (xs.take k ++ xs.drop k) rest := by rw [List.take_append_drop]; exact hh
      exact this.left
theorem Own.below {B : Nat} (h : Own base w v xs) (hb : Below B w w') (hB : w.heap.size ≤ B) : Own base w' v xs := by
  obtain ⟨hs, h⟩ := h
  refine ⟨hs, ?_⟩
  rcases h with h | ⟨g, rest, e, hg, hm, hh⟩
  · exact .inl h
  · exact .inr ⟨g, rest, e, hg, hm, hh.below hb (by have := hh.lt; omega)⟩
theorem Own.drewN (h : Own base w v xs) (n : Nat) : Own base (w.drewN n) v xs := h
theorem Own.ownsRow (h : Own base w v xs) : w.ownsRow base 32 1 v xs.length (U xs) := by
  obtain ⟨hs, h⟩ := h
  rcases h with ⟨rfl, rfl⟩ | ⟨g, rest, rfl, hg, hm, hh⟩
  · exact World.ownsRow_nil w base _ 1
  · exact ⟨by simp [U_length], .inr ⟨g, _, _, rfl, hg, hh, by omega, hm, by simp [U_length], by simp [U_length]⟩⟩
theorem Own.of_ownsRow (h : w.ownsRow base 32 1 v xs.length (U xs)) (hs : Small xs) : Own base w v xs := by
  refine ⟨hs, ?_⟩
  rcases h.2 with ⟨rfl, hl⟩ | ⟨g, cap, cur, rfl, hb, hh, hn, hm, hz, ht⟩
  · exact .inl ⟨rfl, List.eq_nil_of_length_eq_zero hl⟩
  · have hl : cur.toList.length = cap := by simpa using hz
    have e : cur.toList = U xs ++ cur.toList.drop xs.length := by
      conv => lhs; rw [← List.take_append_drop xs.length cur.toList]
      rw [Nat.mul_one] at ht
      rw [ht]
    refine .inr ⟨g, cur.toList.drop xs.length, ?_, hb, ?_, ?_⟩
    · rw [List.length_drop, hl, Nat.add_sub_cancel' hn]
    · rw [List.length_drop, hl, Nat.add_sub_cancel' hn]; exact hm
    · unfold Seg
      rw [hh, List.nil_append, ← e]
end

/-- A call that hands back a number of its own, and leaves what was there. -/
def RNat (w : World) (n : Nat) (e : Ending) (w' : World) : Prop := ∃ r, e = .returned r ∧ Own w.heap.size w' r (dg n) ∧ Below w.heap.size w w'
end Go.Proofs.YtgjhgpfjeoeojaaDoor

/- The contract of trim: it cuts the leading zeros off and shares the memory of its argument. -/
namespace Go.Proofs.YtgjhgpfjeoeojaaDoor
open Go.RowKit Dig

/-- What trim makes of a slice at A with capacity c when m digits are left. -/
def trimV (A : Option Addr) (c m : Nat) : Value := if m = 0 then .slice none 0 0 else .slice A m c

theorem ret_eq {a b : Value} (h : a = b) : Ending.returned a = .returned b := by rw [h]
theorem trimV_zero (A : Option Addr) (c : Nat) : trimV A c 0 = .slice none 0 0 := rfl
theorem trimV_pos (A : Option Addr) (c m : Nat) (h : 0 < m) : trimV A c m = .slice A m c := by unfold trimV; rw [if_neg (by omega)]

set_option maxHeartbeats 400000 in
theorem trim_c (w : World) (A : Option Addr) (n c : Nat) (xs : List Nat) (h : Num w (.slice A n c) xs) :
    Calls Tryd.prog 31 #[.slice A n c] w fun e w' => e = .returned (trimV A c (dg (val xs)).length) ∧ w = w' := by
  obtain ⟨A', c', e, ⟨hc, hn⟩, hm, hs, hr⟩ := h
  simp only [Value.slice.injEq] at e
  obtain ⟨rfl, rfl, rfl⟩ := e
  unfold maxLen at hm
  clear hn
  go_enter Tryd.func31, Tryd.ntmps31
  go_wp2
  go_loop [3] (fun i => ∃ k : Nat, k ≤ xs.length ∧ i = .int .i64 k ∧ (∀ j, k ≤ j → j < xs.length → xs.getD j 0 = 0)) (fun i => (intOf i).toNat)
  case atStart => exact ⟨xs.length, Nat.le_refl _, rfl, fun j h1 h2 => by omega⟩
  case round =>
    obtain ⟨k, hk, rfl, hz⟩ := hrel
    by_cases h0 : k = 0
    · subst h0
      have H := take_trim xs 0 hs (by omega) (fun j _ h2 => hz j (by omega) h2) (.inl rfl)
      go_wp2
      go_ret
      exact ⟨by rw [← H]; rfl, rfl⟩
    · obtain ⟨b, off, rfl, hb, hcell⟩ := hr (by omega)
      have hc1 := hcell (k - 1) (by omega)
      have hk0 : (0 : Int) < k := by omega
      obtain ⟨d, hdd⟩ : ∃ d, xs.getD (k - 1) 0 = d := ⟨_, rfl⟩
      rw [hdd] at hc1
      have HD := Lib.hid hdd
      clear hdd
      by_cases hd : d = 0
      · subst hd
        go_wp2
        go_round
        case rel =>
          refine ⟨k - 1, by omega, by go_num, fun j h1 h2 => ?_⟩
          by_cases hj : j = k - 1
          · rw [hj]; exact HD.out
          · exact hz j (by omega) h2
        case measure => simp [intOf]; omega
      · have H : Hid (xs.take k = dg (val xs)) := take_trim xs k hs hk hz (.inr (by rw [HD.out]; exact hd))
        go_wp2
        go_ret
        exact ⟨ret_eq (show Value.slice (some ⟨b, off, none⟩) k c = _ by rw [← H.out, List.length_take, Nat.min_eq_left hk, trimV_pos _ _ _ (by omega)]), rfl⟩

theorem trim_nil (w : World) (A : Option Addr) (n c : Nat) (xs : List Nat) (h : Num w (.slice A n c) xs) (h0 : (dg (val xs)).length = 0) :
    Calls Tryd.prog 31 #[.slice A n c] w fun e w' => e = .returned (.slice none 0 0) ∧ w = w' :=
  (trim_c w A n c xs h).mono fun _ _ ⟨a, b⟩ => ⟨by rw [a, h0]; rfl, b⟩
theorem trim_some (w : World) (A : Option Addr) (n c : Nat) (xs : List Nat) (h : Num w (.slice A n c) xs) (m : Nat) (h0 : (dg (val xs)).length = m) (hm : 0 < m) :
    Calls Tryd.prog 31 #[.slice A n c] w fun e w' => e = .returned (.slice A m c) ∧ w = w' :=
  (trim_c w A n c xs h).mono fun _ _ ⟨a, b⟩ => ⟨by rw [a, h0, trimV_pos _ _ _ hm], b⟩

/-- The cells of what is left when the leading zeros are cut off. -/
theorem Num.top {w : World} {A : Option Addr} {n c : Nat} {xs : List Nat} (h : Num w (.slice A n c) xs) (h0 : 0 < (dg (val xs)).length) :
    (dg (val xs)).length ≤ n ∧ n ≤ c ∧ c ≤ 9223372036854775807 ∧ ∃ b off, A = some ⟨b, off, none⟩ ∧ b < w.heap.size ∧ ∀ j, j < (dg (val xs)).length → w.cell? ⟨b, off + j, none⟩ = some (.int .u32 (((dg (val xs)).getD j 0 : Nat) : Int)) := by
  obtain ⟨A', c', e, ⟨hc, hn⟩, hm, hs, hr⟩ := h
  simp only [Value.slice.injEq] at e
  obtain ⟨rfl, rfl, rfl⟩ := e
  have hl := dg_length_val xs hs
  refine ⟨hl, hc, by unfold maxLen at hm; omega, ?_⟩
  obtain ⟨b, off, e, hb, hcell⟩ := hr (by omega)
  refine ⟨b, off, e, hb, fun j hj => ?_⟩
  rw [hcell j (by omega), ← dg_prefix xs hs, getD_take _ _ _ hj]
theorem Num.bounds {w : World} {A : Option Addr} {n c : Nat} {xs : List Nat} (h : Num w (.slice A n c) xs) : n = xs.length ∧ n ≤ c ∧ c ≤ 9223372036854775807 := by
  obtain ⟨A', c', e, ⟨hc, hn⟩, hm, hs, hr⟩ := h
  simp only [Value.slice.injEq] at e
  obtain ⟨rfl, rfl, rfl⟩ := e
  exact ⟨rfl, hc, by unfold maxLen at hm; omega⟩
theorem Num.form {w : World} {v : Value} {xs : List Nat} (h : Num w v xs) : ∃ A c, v = .slice A xs.length c := by
  obtain ⟨A, c, e, _⟩ := h
  exact ⟨A, c, e⟩

theorem Num.trimmed {w : World} {A : Option Addr} {n c : Nat} {xs : List Nat} (h : Num w (.slice A n c) xs) : Num w (trimV A c (dg (val xs)).length) (dg (val xs)) := by
  obtain ⟨A', c', e, ⟨hc, hn⟩, hm, hs, hr⟩ := h
  simp only [Value.slice.injEq] at e
  obtain ⟨rfl, rfl, rfl⟩ := e
  have hp := dg_prefix xs hs
  have hl := dg_length_val xs hs
  by_cases h0 : (dg (val xs)).length = 0
  · have e0 := List.eq_nil_of_length_eq_zero h0
    rw [e0]; exact Num.nil w
  · rw [trimV_pos _ _ _ (by omega)]
    refine ⟨A, c, rfl, ⟨by omega, hn⟩, hm, small_dg _, fun _ => ?_⟩
    obtain ⟨b, off, e, hb, hcell⟩ := hr (by omega)
    refine ⟨b, off, e, hb, fun j hj => ?_⟩
    rw [hcell j (by omega), ← hp, getD_take _ _ _ hj]

/-- trim, said of whatever argument: a slice of the canonical digits. -/
theorem trim_n (w : World) (v : Value) (xs : List Nat) (h : Num w v xs) :
    Calls Tryd.prog 31 #[v] w fun e w' => ∃ A c, e = .returned (.slice A (dg (val xs)).length c) ∧ Num w (.slice A (dg (val xs)).length c) (dg (val xs)) ∧ w = w' := by
  obtain ⟨A, c, rfl⟩ := h.form
  refine (trim_c w A _ c xs h).mono fun e w' ⟨a, b⟩ => ?_
  subst b
  have ht := h.trimmed
  by_cases h0 : (dg (val xs)).length = 0
  · have e0 := List.eq_nil_of_length_eq_zero h0
    rw [e0] at a ht ⊢
    exact ⟨none, 0, a, ht, rfl⟩
  · rw [trimV_pos _ _ _ (by omega)] at a ht
    exact ⟨A, c, a, ht, rfl⟩

/-- trim, said of whatever argument and of whatever world in which it can be read. -/
theorem trim_any (w : World) (v : Value) (xs : List Nat) (h : Num w v xs) :
    Calls Tryd.prog 31 #[v] w fun e w' => ∃ A c, e = .returned (.slice A (dg (val xs)).length c) ∧ (∀ W, Num W v xs → Num W (.slice A (dg (val xs)).length c) (dg (val xs))) ∧ w = w' := by
  obtain ⟨A, c, rfl⟩ := h.form
  refine (trim_c w A _ c xs h).mono fun e w' ⟨a, b⟩ => ?_
  subst b
  have ht : ∀ W, Num W (.slice A xs.length c) xs → Num W (trimV A c (dg (val xs)).length) (dg (val xs)) := fun W hW => hW.trimmed
  by_cases h0 : (dg (val xs)).length = 0
  · have e0 := List.eq_nil_of_length_eq_zero h0
    rw [e0] at a ht ⊢
    exact ⟨none, 0, a, ht, rfl⟩
  · rw [trimV_pos _ _ _ (by omega)] at a ht
    exact ⟨A, c, a, ht, rfl⟩

theorem Own.trimmed {base : Nat} {w : World} {A : Option Addr} {n c : Nat} {xs : List Nat} (h : Own base w (.slice A n c) xs) : Own base w (trimV A c (dg (val xs)).length) (dg (val xs)) := by
  have hs := h.small
  have hp := dg_prefix xs hs
  have hl := dg_length_val xs hs
  by_cases h0 : (dg (val xs)).length = 0
  · have e0 := List.eq_nil_of_length_eq_zero h0
    rw [e0]; exact Own.nil _ w
  · rw [trimV_pos _ _ _ (by omega)]
    have h' := h
    obtain ⟨_, h2⟩ := h'
    rcases h2 with ⟨e, rfl⟩ | ⟨g, rest, e, _⟩
    · exact absurd rfl h0
    · simp only [Value.slice.injEq] at e
      obtain ⟨rfl, rfl, rfl⟩ := e
      have := h.take (k := (dg (val xs)).length) hl
      rwa [hp] at this
end Go.Proofs.YtgjhgpfjeoeojaaDoor

/- The contracts of the functions of package bignat that only read: order, Uint64, BitLen, Cmp. -/
namespace Go.Proofs.YtgjhgpfjeoeojaaDoor
open Go.RowKit Dig

theorem order_true (w : World) : Calls Tryd.prog 70 #[.bool true] w fun e w' => e = .returned (.int .i64 (-1)) ∧ w = w' := by
  go_enter Tryd.func70, Tryd.ntmps70
  go_wp2
  go_ret
  exact ⟨rfl, rfl⟩
theorem order_false (w : World) : Calls Tryd.prog 70 #[.bool false] w fun e w' => e = .returned (.int .i64 1) ∧ w = w' := by
  go_enter Tryd.func70, Tryd.ntmps70
  go_wp2
  go_ret
  exact ⟨rfl, rfl⟩

def fits (n : Nat) : Bool := decide (n < 18446744073709551616)
def u64Of (n : Nat) : Nat := if n < 18446744073709551616 then n else 0

theorem or_u64 (a b : Nat) (ha : a < 4294967296) (hb : b < 4294967296) : bits .or .u64 ((b : Int) * 4294967296) (a : Int) = ((a + 4294967296 * b : Nat) : Int) := by
  have h := u64_or_nat (b * 4294967296) a (by omega) (by omega)
  rw [show ((b * 4294967296 : Nat) : Int) = (b : Int) * 4294967296 by omega] at h
  rw [h]
  congr 1
  have := Nat.shiftLeft_add_eq_or_of_lt (i := 32) (b := a) (by omega) b
  rw [Nat.shiftLeft_eq] at this
  rw [← this]
  omega
theorem ret2_eq {a b c d : Value} (h : a = c) (k : b = d) : Ending.returned (.tuple #[a, b]) = .returned (.tuple #[c, d]) := by rw [h, k]
theorem u64_small {n : Nat} (h : n < 18446744073709551616) : u64Of n = n ∧ fits n = true := by
  unfold u64Of fits
  exact ⟨if_pos h, decide_eq_true h⟩
theorem u64_large {n : Nat} (h : 18446744073709551616 ≤ n) : u64Of n = 0 ∧ fits n = false := by
  unfold u64Of fits
  exact ⟨if_neg (by omega), decide_eq_false (by omega)⟩
theorem int_eq {k : IntKind} {a b : Nat} (h : a = b) : Value.int k (a : Int) = .int k (b : Int) := by rw [h]

set_option maxHeartbeats 400000 in
theorem uint64_c (w : World) (A : Option Addr) (n c : Nat) (xs : List Nat) (h : Num w (.slice A n c) xs) :
    Calls Tryd.prog 62 #[.slice A n c] w fun e w' => e = .returned (.tuple #[.int .u64 (u64Of (val xs)), .bool (fits (val xs))]) ∧ ∃ N, w' = w.drewN N := by
  by_cases h0 : (dg (val xs)).length = 0
  · go_enter Tryd.func62, Tryd.ntmps62
    go_wp2_with (go_at_call 31; refine (trim_nil _ _ _ _ _ h h0).mono ?_; rintro e w' ⟨rfl, rfl⟩)
    have e0 := dg_len0 h0
    obtain ⟨e1, e2⟩ := u64_small (n := val xs) (by omega)
    go_ret2
    exact ⟨ret2_eq (int_eq (a := 0) (by rw [e1, e0])) (congrArg Value.bool e2.symm), 0, rfl⟩
  · obtain ⟨hl, hc, hm, b, off, rfl, hb, hcell⟩ := h.top (by omega)
    have T := Lib.hid (trim_some w _ _ _ _ h _ rfl (by omega))
    have c0 : w.cell? ⟨b, off, none⟩ = some (.int .u32 (((dg (val xs)).getD 0 0 : Nat) : Int)) := hcell 0 (by omega)
    have b0 := (small_dg (val xs)).get 0
    generalize hd0 : (dg (val xs)).getD 0 0 = d0 at c0 b0
    have D0 := Lib.hid hd0
    clear hd0
    have c1 : 1 < (dg (val xs)).length → w.cell? ⟨b, off + 1, none⟩ = some (.int .u32 (((dg (val xs)).getD 1 0 : Nat) : Int)) := fun hh => hcell 1 hh
    have b1 := (small_dg (val xs)).get 1
    generalize hd1 : (dg (val xs)).getD 1 0 = d1 at c1 b1
    have D1 := Lib.hid hd1
    clear hd1 hcell
    by_cases h1 : (dg (val xs)).length = 1
    · go_enter Tryd.func62, Tryd.ntmps62
      go_wp2_with (go_at_call 31; refine (T.out).mono ?_; rintro e w' ⟨rfl, rfl⟩)
      have e0 := dg_len1 h1
      rw [D0.out] at e0
      obtain ⟨e1, e2⟩ := u64_small (n := val xs) (by omega)
      go_ret2
      exact ⟨ret2_eq (int_eq (a := d0) (by rw [e1, e0])) (congrArg Value.bool e2.symm), 0, rfl⟩
    · by_cases h2 : (dg (val xs)).length = 2
      · have c1 := c1 (by omega)
        go_enter Tryd.func62, Tryd.ntmps62
        go_wp2_with (go_at_call 31; refine (T.out).mono ?_; rintro e w' ⟨rfl, rfl⟩)
        go_quiet (fail)
        go_wp2
        have e0 := dg_len2 h2
        rw [D0.out, D1.out] at e0
        obtain ⟨e1, e2⟩ := u64_small (n := val xs) (by omega)
        go_ret2
        exact ⟨ret2_eq (show Value.int .u64 (bits .or .u64 ((d1 : Int) * 4294967296) (d0 : Int)) = _ by rw [or_u64 d0 d1 b0 b1, e1, e0]) (congrArg Value.bool e2.symm), _, rfl⟩
      · go_enter Tryd.func62, Tryd.ntmps62
        go_wp2_with (go_at_call 31; refine (T.out).mono ?_; rintro e w' ⟨rfl, rfl⟩)
        have e0 := dg_len3 (n := val xs) (by omega)
        obtain ⟨e1, e2⟩ := u64_large e0
        go_ret2
        exact ⟨ret2_eq (int_eq (a := 0) (by rw [e1])) (congrArg Value.bool e2.symm), 0, rfl⟩

set_option maxHeartbeats 400000 in
theorem bitLen_c (w : World) (A : Option Addr) (n c : Nat) (xs : List Nat) (h : Num w (.slice A n c) xs) (hz : n ≤ 72057594037927936) :
    Calls Tryd.prog 58 #[.slice A n c] w fun e w' => e = .returned (.int .i64 (nbits (val xs))) ∧ w = w' := by
  by_cases h0 : (dg (val xs)).length = 0
  · go_enter Tryd.func58, Tryd.ntmps58
    go_wp2_with (go_at_call 31; refine (trim_nil _ _ _ _ _ h h0).mono ?_; rintro e w' ⟨rfl, rfl⟩)
    have e0 := dg_len0 h0
    go_ret
    exact ⟨ret_eq (int_eq (a := 0) (by rw [e0]; rfl)), rfl⟩
  · obtain ⟨hl, hc, hm, b, off, rfl, hb, hcell⟩ := h.top (by omega)
    obtain ⟨k, hk⟩ : ∃ k, (dg (val xs)).length = k + 1 := ⟨(dg (val xs)).length - 1, by omega⟩
    have T := Lib.hid (trim_some w _ _ _ _ h (k + 1) hk (by omega))
    have ct := hcell k (by omega)
    have bt := (small_dg (val xs)).get k
    have ht := nbits_dg (val xs) k hk
    generalize hd : (dg (val xs)).getD k 0 = d at ct bt ht
    have HT := Lib.hid ht
    have hkn : k + 1 ≤ n := by omega
    have hb32 : nbits d ≤ 32 := by
      rcases Nat.lt_or_ge 32 (nbits d) with h1 | h1
      · rcases Nat.eq_zero_or_pos d with h2 | h2
        · subst h2; simp [nbits_zero] at h1
        · have h3 := (nbits_le d h2).2
          have h4 : 2 ^ 32 ≤ 2 ^ (nbits d - 1) := Nat.pow_le_pow_right (by omega) (by omega)
          omega
      · exact h1
    have L := Lib.hid (bitLen_eq d (by omega))
    clear ht hd hcell hl hk h0
    go_enter Tryd.func58, Tryd.ntmps58
    go_wp2_with (first | (go_at_call 31; refine (T.out).mono ?_; rintro e w' ⟨rfl, rfl⟩) | (go_at_call 76; refine (Tryd.bits_Len32 (d : Int) _ (by omega) (by omega)).mono ?_; rintro e w' ⟨rfl, rfl⟩; rw [Int.toNat_natCast, L.out]))
    go_ret
    exact ⟨ret_eq (show Value.int .i64 ((k : Int) * 32 + (nbits d : Int)) = _ by rw [HT.out]; congr 1), rfl⟩
end Go.Proofs.YtgjhgpfjeoeojaaDoor

/- The contract of Cmp: the order of the numbers. -/
namespace Go.Proofs.YtgjhgpfjeoeojaaDoor
open Go.RowKit Dig

theorem quiet_here {P : Program} {f : FuncId} {args : Array Value} {w : World} {a n : Nat} {v : Value}
    (h : Calls P f args (w.drewN (a + n)) fun e w' => e = .returned v ∧ w.drewN (a + n) = w') :
    Calls P f args (w.drewN (a + n)) fun e w' => e = .returned v ∧ ∃ m, w' = w.drewN (a + m) :=
  h.mono fun _ _ ⟨x, y⟩ => ⟨x, n, y.symm⟩
theorem quiet_now {P : Program} {f : FuncId} {args : Array Value} {w : World} {n : Nat} {v : Value}
    (h : Calls P f args (w.drewN n) fun e w' => e = .returned v ∧ w.drewN n = w') :
    Calls P f args (w.drewN n) fun e w' => e = .returned v ∧ ∃ m, w' = w.drewN m :=
  h.mono fun _ _ ⟨x, y⟩ => ⟨x, n, y.symm⟩

/-- The cells of a slice of digits. -/
theorem Num.cells {w : World} {A : Option Addr} {n c : Nat} {xs : List Nat} (h : Num w (.slice A n c) xs) (h0 : 0 < n) :
    ∃ b off, A = some ⟨b, off, none⟩ ∧ b < w.heap.size ∧ ∀ j, j < n → w.cell? ⟨b, off + j, none⟩ = some (.int .u32 ((xs.getD j 0 : Nat) : Int)) := by
  obtain ⟨A', c', e, ⟨hc, hn⟩, hm, hs, hr⟩ := h
  simp only [Value.slice.injEq] at e
  obtain ⟨rfl, rfl, rfl⟩ := e
  exact hr h0

set_option maxHeartbeats 400000 in
theorem cmp_lt (w : World) (va vb : Value) (xs ys : List Nat) (ha : Num w va xs) (hb : Num w vb ys) (hl : (dg (val xs)).length < (dg (val ys)).length) :
    Calls Tryd.prog 52 #[va, vb] w fun e w' => e = .returned (.int .i64 (-1)) ∧ w = w' := by
  have Ta := Lib.hid (trim_n w va xs ha)
  have Tb := Lib.hid (trim_n w vb ys hb)
  have hne : (((dg (val xs)).length : Int) != ((dg (val ys)).length : Int)) = true := by rw [bne_iff_ne]; omega
  go_enter Tryd.func52, Tryd.ntmps52
  go_wp2_with fail
  refine (Ta.out).mono ?_
  rintro e w' ⟨A, c, rfl, hA, rfl⟩
  go_wp2_with fail
  refine (Tb.out).mono ?_
  rintro e w' ⟨A', c', rfl, hA', rfl⟩
  go_wp2_with (go_at_call 70; refine (order_true _).mono ?_; rintro e w' ⟨rfl, rfl⟩)
  go_ret
  exact ⟨rfl, rfl⟩

set_option maxHeartbeats 400000 in
theorem cmp_gt (w : World) (va vb : Value) (xs ys : List Nat) (ha : Num w va xs) (hb : Num w vb ys) (hl : (dg (val ys)).length < (dg (val xs)).length) :
    Calls Tryd.prog 52 #[va, vb] w fun e w' => e = .returned (.int .i64 1) ∧ w = w' := by
  have Ta := Lib.hid (trim_n w va xs ha)
  have Tb := Lib.hid (trim_n w vb ys hb)
  have hne : (((dg (val xs)).length : Int) != ((dg (val ys)).length : Int)) = true := by rw [bne_iff_ne]; omega
  have hnl : decide ((dg (val xs)).length < (dg (val ys)).length) = false := by simp; omega
  go_enter Tryd.func52, Tryd.ntmps52
  go_wp2_with fail
  refine (Ta.out).mono ?_
  rintro e w' ⟨A, c, rfl, hA, rfl⟩
  go_wp2_with fail
  refine (Tb.out).mono ?_
  rintro e w' ⟨A', c', rfl, hA', rfl⟩
  go_wp2_with (go_at_call 70; refine (order_false _).mono ?_; rintro e w' ⟨rfl, rfl⟩)
  go_ret
  exact ⟨rfl, rfl⟩

set_option maxHeartbeats 1000000 in
theorem cmp_same (w : World) (va vb : Value) (xs ys : List Nat) (ha : Num w va xs) (hb : Num w vb ys) (hl : (dg (val xs)).length = (dg (val ys)).length) :
    Calls Tryd.prog 52 #[va, vb] w fun e w' => e = .returned (.int .i64 (cmpI (val xs) (val ys))) ∧ ∃ N, w' = w.drewN N := by
  have Ta := Lib.hid (trim_n w va xs ha)
  have Tb := Lib.hid (trim_n w vb ys hb)
  have hva := val_dg (val xs)
  have hvb := val_dg (val ys)
  have sa := small_dg (val xs)
  have sb := small_dg (val ys)
  generalize dg (val xs) = X at *
  generalize dg (val ys) = Y at *
  obtain ⟨m, hm⟩ : ∃ m, X.length = m := ⟨_, rfl⟩
  rw [hm] at hl Ta
  rw [← hl] at Tb
  rw [← hva, ← hvb]
  have HM := Lib.hid hm
  have HL := Lib.hid hl
  clear hm hl hva hvb
  go_enter Tryd.func52, Tryd.ntmps52
  go_wp2_with fail
  refine (Ta.out).mono ?_
  rintro e w' ⟨A, c, rfl, hA, rfl⟩
  go_wp2_with fail
  refine (Tb.out).mono ?_
  rintro e w' ⟨A', c', rfl, hA', rfl⟩
  have hmx := hA.bounds.2.2
  have hmy := hA.bounds.2.1
  have hmc : (m : Int) ≤ 9223372036854775807 := by omega
  go_wp2_with fail
  go_loopw [5] (fun i wr => ∃ k N : Nat, k ≤ m ∧ i = .int .i64 ((k : Int) - 1) ∧ wr = w.drewN N ∧ ∀ j, k ≤ j → j < m → X.getD j 0 = Y.getD j 0) (fun i _ => (intOf i + 1).toNat)
  case atStart => exact ⟨m, 0, Nat.le_refl _, rfl, rfl, fun j h1 h2 => by omega⟩
  case round =>
    obtain ⟨k, N, hk, rfl, rfl, he⟩ := hrel
    rcases Nat.eq_zero_or_pos k with h0 | h0
    · subst h0
      have E : X = Y := ext_getD (by rw [HM.out]; exact HL.out) (fun j hj => he j (by omega) (by rw [HM.out] at hj; exact hj))
      have EE := Lib.hid E
      clear E
      go_wp2_with fail
      go_ret
      exact ⟨ret_eq (show Value.int .i64 0 = _ by rw [EE.out, cmpI_eq]), _, rfl⟩
    · obtain ⟨b, off, rfl, hb1, cellx⟩ := hA.cells (by omega)
      obtain ⟨b', off', rfl, hb2, celly⟩ := hA'.cells (by omega)
      have cx := cellx (k - 1) (by omega)
      have cy := celly (k - 1) (by omega)
      clear cellx celly
      generalize hx : X.getD (k - 1) 0 = x at cx
      generalize hy : Y.getD (k - 1) 0 = y at cy
      have HX := Lib.hid hx
      have HY := Lib.hid hy
      clear hx hy
      have k1 : (0 : Int) < k := by omega
      rcases Nat.lt_trichotomy x y with hxy | hxy | hxy
      · have hne : ((x : Int) != (y : Int)) = true := by rw [bne_iff_ne]; omega
        have E := Lib.hid (cmpI_lt (lt_of_digit X Y sa (k - 1) (by rw [HM.out]; exact HL.out) (by rw [HM.out]; omega) (fun j h1 h2 => he j (by omega) (by rw [HM.out] at h2; exact h2)) (by rw [HX.out, HY.out]; exact hxy)))
        go_wp2_with fail
        go_quiet (fail)
        go_wp2_with fail
        go_quiet ((first | (go_at_call 70; exact quiet_here (order_true _)) | (go_at_call 70; exact quiet_now (order_true _))))
        go_wp2_with fail
        go_ret
        exact ⟨ret_eq (show Value.int .i64 (-1) = _ by rw [E.out]), _, by rw [World.drewN_drewN, World.drewN_drewN]⟩
      · subst hxy
        go_wp2_with fail
        go_quiet (fail)
        go_wp2_with fail
        go_roundw
        case rel =>
          refine ⟨k - 1, _, by omega, by go_num, rfl, fun j h1 h2 => ?_⟩
          by_cases hj : j = k - 1
          · rw [hj, HX.out, HY.out]
          · exact he j (by omega) h2
        case measure => simp [intOf]; omega
      · have hne : ((x : Int) != (y : Int)) = true := by rw [bne_iff_ne]; omega
        have hnl : decide ((x : Int) < (y : Int)) = false := by simp; omega
        have hnl2 : decide (x < y) = false := by simp; omega
        have E := Lib.hid (cmpI_gt (lt_of_digit Y X sb (k - 1) (by rw [HM.out]; exact HL.out.symm) (by rw [← HL.out]; omega) (fun j h1 h2 => (he j (by omega) (by rw [← HL.out] at h2; exact h2)).symm) (by rw [HX.out, HY.out]; exact hxy)))
        go_wp2_with fail
        go_quiet (fail)
        go_wp2_with fail
        go_quiet ((first | (go_at_call 70; exact quiet_here (order_false _)) | (go_at_call 70; exact quiet_now (order_false _))))
        go_wp2_with fail
        go_ret
        exact ⟨ret_eq (show Value.int .i64 1 = _ by rw [E.out]), _, by rw [World.drewN_drewN, World.drewN_drewN]⟩

theorem cmp_c (w : World) (va vb : Value) (xs ys : List Nat) (ha : Num w va xs) (hb : Num w vb ys) :
    Calls Tryd.prog 52 #[va, vb] w fun e w' => e = .returned (.int .i64 (cmpI (val xs) (val ys))) ∧ ∃ N, w' = w.drewN N := by
  rcases Nat.lt_trichotomy (dg (val xs)).length (dg (val ys)).length with hl | hl | hl
  · rw [cmpI_lt (lt_of_dg_length hl)]
    exact (cmp_lt w va vb xs ys ha hb hl).mono fun e w' ⟨x, y⟩ => ⟨x, 0, y.symm⟩
  · exact cmp_same w va vb xs ys ha hb hl
  · rw [cmpI_gt (lt_of_dg_length hl)]
    exact (cmp_gt w va vb xs ys ha hb hl).mono fun e w' ⟨x, y⟩ => ⟨x, 0, y.symm⟩
end Go.Proofs.YtgjhgpfjeoeojaaDoor

/- Laws for the walk over slices of digits: append onto a number of the call's own, make, copy. -/
namespace Go.Proofs.YtgjhgpfjeoeojaaDoor
open Go.RowKit Dig

theorem info_digit : (Tryd.prog.info? 32).map (fun i => (i.zero, i.size, i.bytes)) = some (some (.int .u32 0), 1, 4) := by kernel_rfl
theorem size_digit : (Tryd.prog.info? 32).map (·.size) = some 1 := by kernel_rfl

section
variable {w : World} {ops : Array Oper} {rest : List Oper} {o : Oper} {a : Act} {Q : Exit → Act → World → Prop}

theorem wp_append (hgd : o.guard = none) (s x : Operand) (ho : o.op = .call { callee := .builtin .append, args := #[s, x], argTypes := #[23, 23] })
    (base : Nat) (v : Value) (xs : List Nat) (hs : a.eval s = v) (hown : Own base w v xs) (u : Value) (ys : List Nat) (hx : a.eval x = u) (hr : Num w u ys)
    (hb : xs.length + ys.length ≤ 17592186044416) (hbase : base ≤ w.heap.size)
    (h : ∀ v' w', Own base w' v' (xs ++ ys) → w.grownBy w' v.ownBlock → (v' = .slice none 0 0 ↔ v = .slice none 0 0 ∧ ys.length = 0) → wpList Tryd.prog ops Q rest (a.put o.dst v') w') :
    wpList Tryd.prog ops Q (o :: rest) a w := by
  obtain ⟨i0, hi, hz0, hz1, hz2⟩ := info_parts info_digit
  obtain ⟨A, c, e, ⟨hc, hn⟩, hm, hsm, hcell⟩ := hr
  have ho' := hown.ownsRow
  cases A with
  | none =>
    have hc0 := hn rfl
    subst hc0
    have hl : ys = [] := List.eq_nil_of_length_eq_zero (by omega)
    subst hl
    subst e
    refine wpList_plain hgd fun K hK => ?_
    have hrun := run_append_owned_none (P := Tryd.prog) (w := w) base 23 o.type 32 i0 1 Tryd.underlying23 hi v xs.length (U xs) ho'
    unfold Oper.wp
    simp only [List.length_nil] at hx
    simp [execOp, ho, resolve, invoke, builtin, hs, hx, hrun, Result.andThen]
    exact hK _ _ (h v w (by simpa using hown) (World.grownBy.refl w _) (by simp))
  | some ad =>
    subst e
    have hnews : ∀ j u, (U ys)[j]? = some u → w.cell? (ad.add j) = some u := by
      intro j u hu
      rcases Nat.lt_or_ge j ys.length with hj | hj
      · obtain ⟨b, off, e, _, hcc⟩ := hcell (by omega)
        cases e
        rw [U_get ys j hj] at hu
        have hu := Option.some.inj hu
        subst hu
        have : (⟨b, off, none⟩ : Addr).add j = ⟨b, off + j, none⟩ := by unfold Addr.add; split <;> simp_all
        rw [this]
        exact hcc j hj
      · rw [List.getElem?_eq_none (by rw [U_length]; exact hj)] at hu
        cases hu
    refine wpList_append_own w hgd s x 23 ho base 32 i0 (.int .u32 0) 1 4 Tryd.underlying23 hi hz0 hz1 hz2 rfl (by decide) v xs.length (U xs) hs ho' ad ys.length c (U ys) hx (by simp [U_length]) hnews (U_oneCell ys) (by unfold maxLen; omega) (by omega) hbase ?_
    intro v' w' h1 h2 h3
    refine h v' w' (Own.of_ownsRow ?_ (hown.small.append hsm)) h2 h3
    rw [U_append, List.length_append]
    exact h1

theorem wp_make (hg : o.guard = none) (l c : Operand) (hop : o.op = Op.makeSlice 23 l c) (L C : Int) (n : Nat)
    (hl : a.eval l = .int .i64 L) (hc : a.eval c = .int .i64 C) (hL : L = (n : Int)) (hC : C = (n : Int)) (hn : n ≤ 35184372088832)
    (hK : ∀ w', Seg w' w.heap.size [] (List.replicate n 0) [] → Below w.heap.size w w' → wpList Tryd.prog ops Q rest (a.put o.dst (.slice (some ⟨w.heap.size, 0, none⟩) n n)) w') :
    wpList Tryd.prog ops Q (o :: rest) a w := by
  obtain ⟨i0, hi, hz0, hz1, hz2⟩ := info_parts info_digit
  refine wpList_make_full w hg l c 23 hop w.heap.size 32 i0 (.int .u32 0) 1 Tryd.underlying23 hi hz0 hz1 .i64 .i64 L C n hl hc hL hC (by rw [hz2]; omega) (by unfold maxLen; omega) (Nat.le_refl _) ?_
  intro w' h1 h2
  refine hK w' ?_ ((Below.refl _ _).grown h2 (Nat.le_refl _) (fun k e => by cases e))
  rcases h1.2 with ⟨e, _⟩ | ⟨g, cap, cur, e, _, hh, _, _, hz, ht⟩
  · simp at e
  · simp only [Value.slice.injEq, Option.some.injEq, Addr.mk.injEq, and_true, true_and] at e
    obtain ⟨rfl, rfl⟩ := e
    unfold Seg
    rw [hh]
    have e1 : (madeCells (Value.int IntKind.u32 0).cells (n * 1)).toList = List.replicate n (.int .u32 0) := by
      rw [Nat.mul_one]; exact toList_madeCells_one _ _
    rw [e1, List.take_of_length_le (by simp; omega)] at ht
    have : cur = (List.replicate n (Value.int .u32 0)).toArray := by rw [← ht]
    rw [this, U_replicate]
    simp

/-- copy onto the first digits of a segment. -/
theorem wp_copy (hgd : o.guard = none) (d s : Operand) (ho : o.op = .call { callee := .builtin .copy, args := #[d, s], argTypes := #[23, 23] })
    (g off n c : Nat) (hd : a.eval d = .slice (some ⟨g, off, none⟩) n c) (u : Value) (ys : List Nat) (hs : a.eval s = u) (hr : Num w u ys)
    (pre post : List Value) (xs : List Nat) (hseg : Seg w g pre xs post) (hoff : pre.length = off) (hn : xs.length = n) (hle : ys.length ≤ xs.length)
    (h : ∀ w', Seg w' g pre (ys ++ xs.drop ys.length) post → w.grownBy w' (some g) → w'.heap.size = w.heap.size → wpList Tryd.prog ops Q rest (a.put o.dst (goInt ys.length)) w') :
    wpList Tryd.prog ops Q (o :: rest) a w := by
  obtain ⟨A, c', e, ⟨hc, hnn⟩, hm, hsm, hcell⟩ := hr
  subst e
  have hmin : Nat.min ys.length n = ys.length := Nat.min_eq_left (by omega)
  by_cases h0 : ys.length = 0
  · have e0 : ys = [] := List.eq_nil_of_length_eq_zero h0
    subst e0
    exact wpList_copy_nothing hgd d s _ _ ho 32 Tryd.underlying23 size_digit _ _ n c _ c' hd hs (by simp) (h w (by simpa using hseg) (World.grownBy.refl w _) rfl)
  · obtain ⟨b, so, rfl, hb, hcc⟩ := hcell (by omega)
    have hsrc : ∀ j v, (U ys)[j]? = some v → w.cell? ((⟨b, so, none⟩ : Addr).add j) = some v := by
      intro j v hu
      have hj : j < ys.length := by
        rcases Nat.lt_or_ge j ys.length with hj | hj
        · exact hj
        · rw [List.getElem?_eq_none (by rw [U_length]; exact hj)] at hu; cases hu
      rw [U_get ys j hj] at hu
      have hu := Option.some.inj hu
      subst hu
      have : (⟨b, so, none⟩ : Addr).add j = ⟨b, so + j, none⟩ := by unfold Addr.add; split <;> simp_all
      rw [this]
      exact hcc j hj
    refine wpList_copy_own hgd d s _ _ ho 32 Tryd.underlying23 size_digit g off n c ⟨b, so, none⟩ ys.length c' hd hs (pre ++ U xs ++ post).toArray 32 hseg (U ys) (by rw [U_length, hmin]) hsrc ?_ (U_oneCell ys) ?_
    · simp [U_length]; omega
    · have := h (w.setRow g ((pre ++ U xs ++ post).toArray.toList.take off ++ (U ys ++ (pre ++ U xs ++ post).toArray.toList.drop (off + (U ys).length))).toArray) ?_ ?_ ?_
      · simpa [U_length] using this
      · unfold Seg
        rw [setRow_heap w g _ _ _ _ hseg]
        congr 3
        have e1 : (pre ++ U xs ++ post).take off = pre := by rw [List.append_assoc, ← hoff]; exact List.take_left
        have e2 : (pre ++ U xs ++ post).drop (off + ys.length) = U (xs.drop ys.length) ++ post := by
          rw [List.append_assoc, ← hoff, List.drop_append, List.drop_of_length_le (by omega), Nat.add_sub_cancel_left, List.drop_append, U_length]
          have : (U xs).drop ys.length = U (xs.drop ys.length) := by simp [U, List.map_drop]
          rw [this, show ys.length - xs.length = 0 by omega]
          simp
        simp only [U_length]
        rw [e1, e2, U_append]
        simp
      · exact ⟨rfl, rfl, rfl, by simp [World.setRow], fun k _ hk => setRow_other w g k _ (fun e => hk (by rw [e]))⟩
      · simp [World.setRow]
end
end Go.Proofs.YtgjhgpfjeoeojaaDoor

/- The contracts of FromUint64 and Normalize: they make a new number. -/
namespace Go.Proofs.YtgjhgpfjeoeojaaDoor
open Go.RowKit Dig

theorem Own.fresh (w : World) (a b : Nat) (x y : Int) (ha : a < 4294967296) (hb : b < 4294967296) (hx : x = (a : Int)) (hy : y = (b : Int)) :
    Own w.heap.size (w.alloc (.cells #[.int .u32 x, .int .u32 y] 32)) (.slice (some ⟨w.heap.size, 0, none⟩) 2 2) [a, b] := by
  subst hx
  subst hy
  refine ⟨fun d hd => ?_, .inr ⟨w.heap.size, [], rfl, Nat.le_refl _, by unfold maxLen; simp, ?_⟩⟩
  · rcases List.mem_cons.1 hd with e | e
    · omega
    · simp at e; omega
  · unfold Seg
    rw [heap_alloc_new]
    simp [U]

set_option maxHeartbeats 400000 in
theorem from_c (w : World) (n : Nat) (hn : n < 18446744073709551616) :
    Calls Tryd.prog 11 #[.int .u64 (n : Int)] w (RNat w n) := by
  have H := Own.fresh w (n % 4294967296) (n / 4294967296) ((n : Int) % 4294967296) ((n : Int) / 4294967296) (Nat.mod_lt _ (by omega)) (by omega) (by omega) (by omega)
  have hv : val [n % 4294967296, n / 4294967296] = n := by simp [val]; omega
  have ht := H.trimmed
  rw [hv] at ht
  have HT := Lib.hid ht
  have TC := Lib.hid (trim_c _ _ _ _ _ H.num)
  have HV := Lib.hid hv
  clear H ht hv
  go_enter Tryd.func11, Tryd.ntmps11
  go_wp2_with fail
  refine (TC.out).mono ?_
  rintro e w' ⟨rfl, rfl⟩
  go_wp2_with fail
  go_ret
  refine ⟨_, rfl, ?_, ?_⟩
  · show Own _ _ (trimV _ _ (dg (val [n % 4294967296, n / 4294967296])).length) _
    rw [HV.out]
    exact HT.out
  · exact (Below.refl _ _).alloc (Nat.le_refl _) _

set_option maxHeartbeats 400000 in
theorem normalize_c (w : World) (v : Value) (xs : List Nat) (h : Num w v xs) (hz : xs.length ≤ 8796093022208) :
    Calls Tryd.prog 29 #[v] w (RNat w (val xs)) := by
  have T := Lib.hid (trim_n w v xs h)
  have hl := dg_length_val xs h.small
  go_enter Tryd.func29, Tryd.ntmps29
  go_wp2_with fail
  refine (T.out).mono ?_
  rintro e w' ⟨A, c, rfl, hA, rfl⟩
  have hd : (dg (val xs)).length ≤ 8796093022208 := by omega
  go_wp2_with (at_builtin; refine wp_append rfl _ _ rfl w.heap.size (.slice none 0 0) [] rfl (Own.nil _ _) _ (dg (val xs)) rfl hA (by simp; omega) (Nat.le_refl _) ?_; intro v' w' hv' hg' _)
  go_ret
  exact ⟨_, rfl, by simpa using hv', (Below.refl _ _).grown hg' (Nat.le_refl _) (fun k e => by cases e)⟩
end Go.Proofs.YtgjhgpfjeoeojaaDoor

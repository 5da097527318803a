/- The reference of stage 2, what stage 8 wants of it (laid by minchain.py out of: Rati Mem Trim Cmp Law Make AddTo Add Sub Long Divd Group Format DivOne Lawv SubMul Shift LDiv Lead Comb Gcd Lawg Frac Split RatA). -/
import Derived.WalkKit
import Derived.Deep.Draws
import Derived.Outline
import Derived.Lib.Hide
import Derived.Deep.QuietTactic
import Derived.BigQuiet
import Derived.Laws.CopyOwn
import Derived.Laws.IdiomStrings
import Derived.WalkSpells
import Derived.Deep.RegionHeld3
import Derived.Laws.ResultCell
import Derived.Deep.Cut
import Derived.Lib.IndexMore
import Derived.Lib.IndexBytes
import Derived.Lib.TrimByte
import Derived.Laws.Concat
import Derived.Test.YtpbkmkcfhkdjjaaDoorProg
import Derived.Test.YtpbkmkcfhkdjjaaDoorPlain
import Derived.Test.YtpbkmkcfhkdjjaaDoorGnd
import Derived.Test.YtpbkmkcfhkdjjaaDoorSched
namespace Go.Proofs.YtpbkmkcfhkdjjaaDoor
namespace Dig

/-- n with a sign. -/
def sg (neg : Bool) (n : Nat) : Int := if neg then -(n : Int) else n
/-- What a fraction denotes: 0 if the denominator is 0. -/
def fr (neg : Bool) (n d : Nat) : Rat := mkRat (sg neg n) d
theorem sg_natAbs (neg : Bool) (n : Nat) : (sg neg n).natAbs = n := by unfold sg; split <;> omega
theorem sg_zero (neg : Bool) : sg neg 0 = 0 := by unfold sg; split <;> rfl
theorem sg_mul (a b : Bool) (m n : Nat) : sg a m * sg b n = sg (a != b) (m * n) := by
  unfold sg
  cases a <;> cases b <;> simp [Int.neg_mul, Int.mul_neg]
theorem sg_nat (a : Bool) (m n : Nat) : sg a m * (n : Int) = sg a (m * n) := by
  have := sg_mul a false m n
  simpa [sg] using this
theorem fr_zero (a : Bool) (d : Nat) : fr a 0 d = 0 := by unfold fr; rw [sg_zero]; exact Rat.zero_mkRat d
theorem fr_den (a : Bool) (n : Nat) : fr a n 0 = 0 := by unfold fr; exact Rat.mkRat_zero _
theorem fr_eq_zero (a : Bool) (n d : Nat) : fr a n d = 0 ↔ n = 0 ∨ d = 0 := by
  constructor
  · intro h
    rcases Nat.eq_zero_or_pos d with h0 | h0
    · exact .inr h0
    · left
      unfold fr at h
      rw [Rat.mkRat_eq_zero (by omega)] at h
      have := sg_natAbs a n
      omega
  · rintro (rfl | rfl)
    · exact fr_zero a d
    · exact fr_den a n
theorem fr_num (a : Bool) {n d : Nat} (hd : d ≠ 0) : (fr a n d).num = sg a (n / Nat.gcd n d) ∧ (fr a n d).den = d / Nat.gcd n d := by
  have h : (fr a n d) = Rat.normalize (sg a n) d hd := by unfold fr mkRat; rw [dif_neg hd]
  rw [h, Rat.normalize_eq hd]
  show sg a n / ((sg a n).natAbs.gcd d : Int) = _ ∧ d / (sg a n).natAbs.gcd d = _
  rw [sg_natAbs]
  refine ⟨?_, rfl⟩
  have hg : 0 < Nat.gcd n d := Nat.gcd_pos_of_pos_right n (by omega)
  obtain ⟨c, hc⟩ := Nat.gcd_dvd_left n d
  have e1 : n / Nat.gcd n d = c := by
    conv => lhs; arg 1; rw [hc]
    exact Nat.mul_div_cancel_left c hg
  rw [e1]
  have e2 : sg a n = (Nat.gcd n d : Int) * sg a c := by
    rw [Int.mul_comm, sg_nat, Nat.mul_comm c, ← hc]
  rw [e2]
  exact Int.mul_ediv_cancel_left _ (by omega)
/-- The parts of the canonical form. -/
theorem fr_parts (a : Bool) {n d : Nat} (hn : n ≠ 0) (hd : d ≠ 0) :
    decide ((fr a n d).num < 0) = a ∧ (fr a n d).num.natAbs = n / Nat.gcd n d ∧ (fr a n d).den = d / Nat.gcd n d := by
  obtain ⟨h1, h2⟩ := fr_num a (n := n) hd
  refine ⟨?_, by rw [h1, sg_natAbs], h2⟩
  rw [h1]
  have hc : 0 < n / Nat.gcd n d := Nat.div_pos (Nat.gcd_le_left d (by omega)) (Nat.gcd_pos_of_pos_right n (by omega))
  generalize n / Nat.gcd n d = c at hc
  unfold sg
  cases a <;> simp <;> omega
end Dig
end Go.Proofs.YtpbkmkcfhkdjjaaDoor

namespace Go.Proofs.YtpbkmkcfhkdjjaaDoor
open Go.RowKit Dig

/-- Digits as values. -/
def U (xs : List Nat) : List Value := xs.map fun (d : Nat) => Value.int .u32 (d : Int)
theorem U_length (xs : List Nat) : (U xs).length = xs.length := by simp [U]
theorem U_append (xs ys : List Nat) : U (xs ++ ys) = U xs ++ U ys := by simp [U]
theorem U_get (xs : List Nat) (j : Nat) (h : j < xs.length) : (U xs)[j]? = some (.int .u32 ((xs.getD j 0 : Nat) : Int)) := by
  simp [U, List.getD_eq_getElem?_getD, List.getElem?_eq_getElem h]
theorem U_set (xs : List Nat) (j v : Nat) : (U xs).set j (.int .u32 (v : Int)) = U (xs.set j v) := by simp [U, List.map_set]
theorem U_replicate (n : Nat) : U (List.replicate n 0) = List.replicate n (.int .u32 0) := by simp [U]
theorem U_oneCell (xs : List Nat) : ∀ u ∈ U xs, u.oneCell' = true := by
  intro u hu
  simp only [U, List.mem_map] at hu
  obtain ⟨d, _, rfl⟩ := hu
  rfl
/-- Block g holds, between two lists of values, the digits xs; none of its cells is frozen. -/
def Seg (w : World) (g : Nat) (pre : List Value) (xs : List Nat) (post : List Value) : Prop := w.heap[g]? = some (.cells (pre ++ U xs ++ post).toArray 95 (0, 0))
section
variable {w w' : World} {g : Nat} {pre post : List Value} {xs : List Nat}
theorem Seg.lt (h : Seg w g pre xs post) : g < w.heap.size := by
  rcases Nat.lt_or_ge g w.heap.size with hlt | hge
  · exact hlt
  · unfold Seg at h; rw [Array.getElem?_eq_none hge] at h; cases h
theorem Seg.frozen (h : Seg w g pre xs post) (i : Nat) : w.frozen? ⟨g, i, none⟩ = false := by
  unfold Seg at h
  simp [World.frozen?, h]
theorem Seg.cell (h : Seg w g pre xs post) {j : Nat} (hj : j < xs.length) : w.cell? ⟨g, pre.length + j, none⟩ = some (.int .u32 ((xs.getD j 0 : Nat) : Int)) := by
  rw [cell_of_row w g _ _ _ (0, 0) h]
  rw [List.getElem?_toArray, List.append_assoc, List.getElem?_append_right (by omega), Nat.add_sub_cancel_left, List.getElem?_append_left (by rw [U_length]; exact hj)]
  exact U_get xs j hj
theorem Seg.set (h : Seg w g pre xs post) (j v : Nat) (hj : j < xs.length) : Seg (w.setCell ⟨g, pre.length + j, none⟩ (.int .u32 (v : Int))) g pre (xs.set j v) post := by
  unfold Seg at h ⊢
  simp only [World.setCell, Array.getElem?_modify, h]
  simp only [if_true, Option.map_some, Option.some.injEq, Obj.cells.injEq, and_true, List.setIfInBounds_toArray]
  rw [List.append_assoc, List.set_append_right _ _ (by omega), Nat.add_sub_cancel_left, List.set_append_left _ _ (by rw [U_length]; exact hj), U_set, ← List.append_assoc]
  simp
theorem Seg.of_block (h : Seg w g pre xs post) (e : w'.heap[g]? = w.heap[g]?) : Seg w' g pre xs post := by
  unfold Seg at h ⊢
  rw [e]
  exact h
theorem Seg.alloc (h : Seg w g pre xs post) (o : Obj) : Seg (w.alloc o) g pre xs post := h.of_block (Below.heap_alloc w o g h.lt)
theorem Seg.drewN (h : Seg w g pre xs post) (n : Nat) : Seg (w.drewN n) g pre xs post := h
theorem Seg.far (h : Seg w g pre xs post) {p : Addr} (hp : g ≠ p.block) (u : Value) : Seg (w.setCell p u) g pre xs post := h.of_block (Below.heap_setCell w p u g hp)
theorem Seg.below {B : Nat} (h : Seg w g pre xs post) (hb : Below B w w') (hg : g < B) : Seg w' g pre xs post := h.of_block (hb.block g hg)
theorem Seg.grown {row : Option Nat} (h : Seg w g pre xs post) (hb : w.grownBy w' row) (hg : some g ≠ row) : Seg w' g pre xs post := h.of_block (hb.block g h.lt hg)
/-- The first part of a segment is a segment. -/
theorem Seg.left {ys : List Nat} (h : Seg w g pre (xs ++ ys) post) : Seg w g pre xs (U ys ++ post) := by
  unfold Seg at h ⊢
  rw [h, U_append]
  simp
theorem Seg.right {ys : List Nat} (h : Seg w g pre (xs ++ ys) post) : Seg w g (pre ++ U xs) ys post := by
  unfold Seg at h ⊢
  rw [h, U_append]
  simp
theorem Seg.ofRight {ys : List Nat} (h : Seg w g (pre ++ U xs) ys post) : Seg w g pre (xs ++ ys) post := by
  unfold Seg at h ⊢
  rw [h, U_append]
  simp
end

/-- A slice whose elements are the digits xs, which can be read. -/
def Num (w : World) (v : Value) (xs : List Nat) : Prop :=
  ∃ A c, v = .slice A xs.length c ∧ (xs.length ≤ c ∧ (A = none → c = 0)) ∧ c ≤ maxLen ∧ Small xs ∧
    (0 < xs.length → ∃ b off, A = some ⟨b, off, none⟩ ∧ b < w.heap.size ∧ ∀ j, j < xs.length → w.cell? ⟨b, off + j, none⟩ = some (.int .u32 ((xs.getD j 0 : Nat) : Int)))
/-- A slice that owns its digits: nil, or the head of a block from 'base' on that nobody else holds. -/
def Own (base : Nat) (w : World) (v : Value) (xs : List Nat) : Prop :=
  Small xs ∧ ((v = .slice none 0 0 ∧ xs = []) ∨
    ∃ g rest, v = .slice (some ⟨g, 0, none⟩) xs.length (xs.length + rest.length) ∧ base ≤ g ∧ xs.length + rest.length ≤ maxLen ∧ Seg w g [] xs rest)
section
variable {w w' : World} {v : Value} {xs : List Nat} {base : Nat}
theorem Num.small (h : Num w v xs) : Small xs := by obtain ⟨_, _, _, _, _, h, _⟩ := h; exact h
theorem Num.nil (w : World) : Num w (.slice none 0 0) [] := ⟨none, 0, rfl, ⟨Nat.le_refl _, fun _ => rfl⟩, by unfold maxLen; omega, Small.nil, fun h => absurd h (by simp)⟩
theorem Num.keep (h : Num w v xs) (hs : w.heap.size ≤ w'.heap.size) (hk : ∀ b o, b < w.heap.size → w'.cell? ⟨b, o, none⟩ = w.cell? ⟨b, o, none⟩) : Num w' v xs := by
  obtain ⟨A, c, h1, h2, h3, h4, h5⟩ := h
  refine ⟨A, c, h1, h2, h3, h4, fun hp => ?_⟩
  obtain ⟨b, off, e, hb, hc⟩ := h5 hp
  exact ⟨b, off, e, by omega, fun j hj => (hk _ _ hb).trans (hc j hj)⟩
theorem Num.below (h : Num w v xs) (hb : Below w.heap.size w w') : Num w' v xs := h.keep hb.size fun b o hlt => hb.cell (p := ⟨b, o, none⟩) hlt
theorem Num.drewN (h : Num w v xs) (n : Nat) : Num (w.drewN n) v xs := h
theorem Num.alloc (h : Num w v xs) (o : Obj) : Num (w.alloc o) v xs := h.below ((Below.refl _ _).alloc (Nat.le_refl _) o)
theorem Own.small (h : Own base w v xs) : Small xs := h.1
theorem Own.nil (base : Nat) (w : World) : Own base w (.slice none 0 0) [] := ⟨Small.nil, .inl ⟨rfl, rfl⟩⟩
theorem Own.num (h : Own base w v xs) : Num w v xs := by
  obtain ⟨hs, h⟩ := h
  rcases h with ⟨rfl, rfl⟩ | ⟨g, rest, rfl, hb, hm, hg⟩
  · exact Num.nil w
  · exact ⟨_, _, rfl, ⟨by omega, fun e => by simp at e⟩, hm, hs, fun _ => ⟨g, 0, rfl, hg.lt, fun j hj => by have := hg.cell hj; simpa using this⟩⟩
theorem Own.mono {base' : Nat} (h : Own base w v xs) (hb : base' ≤ base) : Own base' w v xs := by
  obtain ⟨hs, h⟩ := h
  refine ⟨hs, ?_⟩
  rcases h with h | ⟨g, rest, e, hg, hm, hh⟩
  · exact .inl h
  · exact .inr ⟨g, rest, e, by omega, hm, hh⟩
/-- The first digits of what is owned are owned. -/
theorem Own.take {k : Nat} {c : Nat} {g : Nat} (h : Own base w (.slice (some ⟨g, 0, none⟩) xs.length c) xs) (hk : k ≤ xs.length) : Own base w (.slice (some ⟨g, 0, none⟩) k c) (xs.take k) := by
  obtain ⟨hs, h⟩ := h
  rcases h with ⟨h, _⟩ | ⟨g', rest, e, hg, hm, hh⟩
  · simp at h
  · simp only [Value.slice.injEq, Option.some.injEq, Addr.mk.injEq, and_true, true_and] at e
    obtain ⟨rfl, rfl⟩ := e
    refine ⟨hs.take k, .inr ⟨g, U (xs.drop k) ++ rest, ?_, hg, ?_, ?_⟩⟩
    · simp [U_length, Nat.min_eq_left hk]; omega
    · simp [U_length, Nat.min_eq_left hk]; omega
    · have : Seg w g [] (xs.take k ++ xs.drop k) rest := by rw [List.take_append_drop]; exact hh
      exact this.left
theorem Own.below {B : Nat} (h : Own base w v xs) (hb : Below B w w') (hB : w.heap.size ≤ B) : Own base w' v xs := by
  obtain ⟨hs, h⟩ := h
  refine ⟨hs, ?_⟩
  rcases h with h | ⟨g, rest, e, hg, hm, hh⟩
  · exact .inl h
  · exact .inr ⟨g, rest, e, hg, hm, hh.below hb (by have := hh.lt; omega)⟩
theorem Own.drewN (h : Own base w v xs) (n : Nat) : Own base (w.drewN n) v xs := h
theorem Own.ownsRow (h : Own base w v xs) : w.ownsRow base 95 1 v xs.length (U xs) := by
  obtain ⟨hs, h⟩ := h
  rcases h with ⟨rfl, rfl⟩ | ⟨g, rest, rfl, hg, hm, hh⟩
  · exact World.ownsRow_nil w base _ 1
  · exact ⟨by simp [U_length], .inr ⟨g, _, _, rfl, hg, hh, by omega, hm, by simp [U_length], by simp [U_length]⟩⟩
theorem Own.of_ownsRow (h : w.ownsRow base 95 1 v xs.length (U xs)) (hs : Small xs) : Own base w v xs := by
  refine ⟨hs, ?_⟩
  rcases h.2 with ⟨rfl, hl⟩ | ⟨g, cap, cur, rfl, hb, hh, hn, hm, hz, ht⟩
  · exact .inl ⟨rfl, List.eq_nil_of_length_eq_zero hl⟩
  · have hl : cur.toList.length = cap := by simpa using hz
    have e : cur.toList = U xs ++ cur.toList.drop xs.length := by
      conv => lhs; rw [← List.take_append_drop xs.length cur.toList]
      rw [Nat.mul_one] at ht
      rw [ht]
    refine .inr ⟨g, cur.toList.drop xs.length, ?_, hb, ?_, ?_⟩
    · rw [List.length_drop, hl, Nat.add_sub_cancel' hn]
    · rw [List.length_drop, hl, Nat.add_sub_cancel' hn]; exact hm
    · unfold Seg
      rw [hh, List.nil_append, ← e]
end

/-- A call that hands back a number of its own, and leaves what was there. -/
def RNat (w : World) (n : Nat) (e : Ending) (w' : World) : Prop := ∃ r, e = .returned r ∧ Own w.heap.size w' r (dg n) ∧ Below w.heap.size w w'
end Go.Proofs.YtpbkmkcfhkdjjaaDoor

namespace Go.Proofs.YtpbkmkcfhkdjjaaDoor
open Go.RowKit Dig

theorem ret_eq {a b : Value} (h : a = b) : Ending.returned a = .returned b := by rw [h]
theorem Num.bounds {w : World} {A : Option Addr} {n c : Nat} {xs : List Nat} (h : Num w (.slice A n c) xs) : n = xs.length ∧ n ≤ c ∧ c ≤ 9223372036854775807 := by
  obtain ⟨A', c', e, ⟨hc, hn⟩, hm, hs, hr⟩ := h
  simp only [Value.slice.injEq] at e
  obtain ⟨rfl, rfl, rfl⟩ := e
  exact ⟨rfl, hc, by unfold maxLen at hm; omega⟩
theorem Num.form {w : World} {v : Value} {xs : List Nat} (h : Num w v xs) : ∃ A c, v = .slice A xs.length c := by
  obtain ⟨A, c, e, _⟩ := h
  exact ⟨A, c, e⟩
end Go.Proofs.YtpbkmkcfhkdjjaaDoor

namespace Go.Proofs.YtpbkmkcfhkdjjaaDoor
open Go.RowKit Dig

/-- The cells of a slice of digits. -/
theorem Num.cells {w : World} {A : Option Addr} {n c : Nat} {xs : List Nat} (h : Num w (.slice A n c) xs) (h0 : 0 < n) :
    ∃ b off, A = some ⟨b, off, none⟩ ∧ b < w.heap.size ∧ ∀ j, j < n → w.cell? ⟨b, off + j, none⟩ = some (.int .u32 ((xs.getD j 0 : Nat) : Int)) := by
  obtain ⟨A', c', e, ⟨hc, hn⟩, hm, hs, hr⟩ := h
  simp only [Value.slice.injEq] at e
  obtain ⟨rfl, rfl, rfl⟩ := e
  exact hr h0
end Go.Proofs.YtpbkmkcfhkdjjaaDoor

namespace Go.Proofs.YtpbkmkcfhkdjjaaDoor
open Go.RowKit Dig

theorem info_digit : (Tryd.prog.info? 95).map (fun i => (i.zero, i.size, i.bytes)) = some (some (.int .u32 0), 1, 4) := by kernel_rfl
section
variable {w : World} {ops : Array Oper} {rest : List Oper} {o : Oper} {a : Act} {Q : Exit → Act → World → Prop}

theorem wp_append (hgd : o.guard = none) (s x : Operand) (ho : o.op = .call { callee := .builtin .append, args := #[s, x], argTypes := #[64, 64] })
    (base : Nat) (v : Value) (xs : List Nat) (hs : a.eval s = v) (hown : Own base w v xs) (u : Value) (ys : List Nat) (hx : a.eval x = u) (hr : Num w u ys)
    (hb : xs.length + ys.length ≤ 17592186044416) (hbase : base ≤ w.heap.size)
    (h : ∀ v' w', Own base w' v' (xs ++ ys) → w.grownBy w' v.ownBlock → (v' = .slice none 0 0 ↔ v = .slice none 0 0 ∧ ys.length = 0) → wpList Tryd.prog ops Q rest (a.put o.dst v') w') :
    wpList Tryd.prog ops Q (o :: rest) a w := by
  obtain ⟨i0, hi, hz0, hz1, hz2⟩ := info_parts info_digit
  obtain ⟨A, c, e, ⟨hc, hn⟩, hm, hsm, hcell⟩ := hr
  have ho' := hown.ownsRow
  cases A with
  | none =>
    have hc0 := hn rfl
    subst hc0
    have hl : ys = [] := List.eq_nil_of_length_eq_zero (by omega)
    subst hl
    subst e
    refine wpList_plain hgd fun K hK => ?_
    have hrun := run_append_owned_none (P := Tryd.prog) (w := w) base 64 o.type 95 i0 1 Tryd.underlying64 hi v xs.length (U xs) ho'
    unfold Oper.wp
    simp only [List.length_nil] at hx
    simp [execOp, ho, resolve, invoke, builtin, hs, hx, hrun, Result.andThen]
    exact hK _ _ (h v w (by simpa using hown) (World.grownBy.refl w _) (by simp))
  | some ad =>
    subst e
    have hnews : ∀ j u, (U ys)[j]? = some u → w.cell? (ad.add j) = some u := by
      intro j u hu
      rcases Nat.lt_or_ge j ys.length with hj | hj
      · obtain ⟨b, off, e, _, hcc⟩ := hcell (by omega)
        cases e
        rw [U_get ys j hj] at hu
        have hu := Option.some.inj hu
        subst hu
        have : (⟨b, off, none⟩ : Addr).add j = ⟨b, off + j, none⟩ := by unfold Addr.add; split <;> simp_all
        rw [this]
        exact hcc j hj
      · rw [List.getElem?_eq_none (by rw [U_length]; exact hj)] at hu
        cases hu
    refine wpList_append_own w hgd s x 64 ho base 95 i0 (.int .u32 0) 1 4 Tryd.underlying64 hi hz0 hz1 hz2 rfl (by decide) v xs.length (U xs) hs ho' ad ys.length c (U ys) hx (by simp [U_length]) hnews (U_oneCell ys) (by unfold maxLen; omega) (by omega) hbase ?_
    intro v' w' h1 h2 h3
    refine h v' w' (Own.of_ownsRow ?_ (hown.small.append hsm)) h2 h3
    rw [U_append, List.length_append]
    exact h1
theorem wp_make (hg : o.guard = none) (l c : Operand) (hop : o.op = Op.makeSlice 64 l c) (L C : Int) (n : Nat)
    (hl : a.eval l = .int .i64 L) (hc : a.eval c = .int .i64 C) (hL : L = (n : Int)) (hC : C = (n : Int)) (hn : n ≤ 35184372088832)
    (hK : ∀ w', Seg w' w.heap.size [] (List.replicate n 0) [] → Below w.heap.size w w' → wpList Tryd.prog ops Q rest (a.put o.dst (.slice (some ⟨w.heap.size, 0, none⟩) n n)) w') :
    wpList Tryd.prog ops Q (o :: rest) a w := by
  obtain ⟨i0, hi, hz0, hz1, hz2⟩ := info_parts info_digit
  refine wpList_make_full w hg l c 64 hop w.heap.size 95 i0 (.int .u32 0) 1 Tryd.underlying64 hi hz0 hz1 .i64 .i64 L C n hl hc hL hC (by rw [hz2]; omega) (by unfold maxLen; omega) (Nat.le_refl _) ?_
  intro w' h1 h2
  refine hK w' ?_ ((Below.refl _ _).grown h2 (Nat.le_refl _) (fun k e => by cases e))
  rcases h1.2 with ⟨e, _⟩ | ⟨g, cap, cur, e, _, hh, _, _, hz, ht⟩
  · simp at e
  · simp only [Value.slice.injEq, Option.some.injEq, Addr.mk.injEq, and_true, true_and] at e
    obtain ⟨rfl, rfl⟩ := e
    unfold Seg
    rw [hh]
    have e1 : (madeCells (Value.int IntKind.u32 0).cells (n * 1)).toList = List.replicate n (.int .u32 0) := by
      rw [Nat.mul_one]; exact toList_madeCells_one _ _
    rw [e1, List.take_of_length_le (by simp; omega)] at ht
    have : cur = (List.replicate n (Value.int .u32 0)).toArray := by rw [← ht]
    rw [this, U_replicate]
    simp
end
end Go.Proofs.YtpbkmkcfhkdjjaaDoor

namespace Go.Proofs.YtpbkmkcfhkdjjaaDoor
open Go.RowKit Dig

theorem Own.fresh (w : World) (a b : Nat) (x y : Int) (ha : a < 4294967296) (hb : b < 4294967296) (hx : x = (a : Int)) (hy : y = (b : Int)) :
    Own w.heap.size (w.alloc (.cells #[.int .u32 x, .int .u32 y] 95)) (.slice (some ⟨w.heap.size, 0, none⟩) 2 2) [a, b] := by
  subst hx
  subst hy
  refine ⟨fun d hd => ?_, .inr ⟨w.heap.size, [], rfl, Nat.le_refl _, by unfold maxLen; simp, ?_⟩⟩
  · rcases List.mem_cons.1 hd with e | e
    · omega
    · simp at e; omega
  · unfold Seg
    rw [heap_alloc_new]
    simp [U]
end Go.Proofs.YtpbkmkcfhkdjjaaDoor

namespace Go.Proofs.YtpbkmkcfhkdjjaaDoor
open Go.RowKit Dig

theorem Seg.put {w : World} {g : Nat} {pre post : List Value} {xs : List Nat} (h : Seg w g pre xs post) (j v : Nat) (q : Int) (hj : j < xs.length) (hq : q = (v : Int)) : Seg (w.setCell ⟨g, pre.length + j, none⟩ (.int .u32 q)) g pre (xs.set j v) post := by
  subst hq
  exact h.set j v hj
/-- A number can be read as long as its block is not written. -/
theorem Num.far {w w' : World} {v : Value} {xs : List Nat} {g : Nat} (h : Num w v xs) (hg : w.grownBy w' (some g)) (hne : 0 < xs.length → v.ownBlock ≠ some g) : Num w' v xs := by
  obtain ⟨A, c, rfl, hc, hm, hs, hr⟩ := h
  refine ⟨A, c, rfl, hc, hm, hs, fun hp => ?_⟩
  obtain ⟨b, off, rfl, hb, hcell⟩ := hr hp
  have hbg : b ≠ g := by
    intro e
    subst e
    exact hne hp rfl
  refine ⟨b, off, rfl, Nat.lt_of_lt_of_le hb hg.size, fun j hj => ?_⟩
  exact hg.cell (hcell j hj) (by simpa using hbg)
end Go.Proofs.YtpbkmkcfhkdjjaaDoor

namespace Go.Proofs.YtpbkmkcfhkdjjaaDoor
open Go.RowKit Dig

theorem Own.of_seg {w : World} {g n base : Nat} {zs : List Nat} {post : List Value} {c : Nat} (h : Seg w g [] zs post) (hs : Small zs) (hn : zs.length = n) (hb : base ≤ g) (hc : c = n + post.length) (hm : c ≤ 9223372036854775807) :
    Own base w (.slice (some ⟨g, 0, none⟩) n c) zs := by
  subst hn
  subst hc
  exact ⟨hs, .inr ⟨g, post, rfl, hb, by unfold maxLen; omega, h⟩⟩
theorem add_fit (a b n : Nat) (ha : a < 4294967296 ^ n) (hb : b < 4294967296 ^ n) : a + b < 4294967296 ^ (n + 1) := by
  rw [Nat.pow_succ]; omega
theorem below_grownQ {w w1 w' : World} {g : Nat} (h : Below w.heap.size w w1) (hg : w1.grownBy w' (some g)) (hb : w.heap.size ≤ g) : Below w.heap.size w w' :=
  h.grown hg h.size (fun k e => by injection e with e; omega)
end Go.Proofs.YtpbkmkcfhkdjjaaDoor

namespace Go.Proofs.YtpbkmkcfhkdjjaaDoor
open Go.RowKit Dig

theorem Own.block {base : Nat} {w : World} {v : Value} {xs : List Nat} (h : Own base w v xs) : ∀ g, v.ownBlock = some g → base ≤ g ∧ g < w.heap.size := by
  intro g hg
  obtain ⟨_, h⟩ := h
  rcases h with ⟨rfl, _⟩ | ⟨g', rest, rfl, hb, _, hseg⟩
  · simp [Value.ownBlock] at hg
  · simp [Value.ownBlock] at hg
    subst hg
    exact ⟨hb, hseg.lt⟩
theorem below_ownQ {w w1 w' : World} {v : Value} {base : Nat} {xs : List Nat} (h : Below w.heap.size w w1) (hg : w1.grownBy w' v.ownBlock) (hb : Own base w1 v xs) (hbase : w.heap.size ≤ base) : Below w.heap.size w w' :=
  h.grown hg h.size (fun k e => by have := (hb.block k e).1; omega)
theorem below_drewN {B : Nat} {a w : World} (h : Below B a w) (n : Nat) : Below B a (w.drewN n) := ⟨h.os, h.tape, h.output, h.size, h.block⟩
end Go.Proofs.YtpbkmkcfhkdjjaaDoor

namespace Go.Proofs.YtpbkmkcfhkdjjaaDoor
open Go.RowKit Dig

theorem Seg.cell0 {w : World} {g : Nat} {post : List Value} {xs : List Nat} (h : Seg w g [] xs post) {j : Nat} (hj : j < xs.length) : w.cell? ⟨g, j, none⟩ = some (.int .u32 ((xs.getD j 0 : Nat) : Int)) := by
  have := h.cell hj
  simpa using this
theorem Seg.put0 {w : World} {g : Nat} {post : List Value} {xs : List Nat} (h : Seg w g [] xs post) (j v : Nat) (q : Int) (hj : j < xs.length) (hq : q = (v : Int)) : Seg (w.setCell ⟨g, j, none⟩ (.int .u32 q)) g [] (xs.set j v) post := by
  have := h.put j v q hj hq
  simpa using this
end Go.Proofs.YtpbkmkcfhkdjjaaDoor

namespace Go.Proofs.YtpbkmkcfhkdjjaaDoor
open Go.RowKit Dig
set_option linter.unusedVariables false

namespace Dig
/-- Above place k the digits are those of the quotient; r is the remainder. -/
def DivRel (xs zs : List Nat) (k d r : Nat) : Prop :=
  zs.length = xs.length ∧ Small zs ∧ (∀ j, j < k → zs.getD j 0 = xs.getD j 0) ∧ val (xs.drop k) = val (zs.drop k) * d + r ∧ r < d
theorem drop_getD (zs : List Nat) (k : Nat) (h : k < zs.length) : val (zs.drop k) = zs.getD k 0 + 4294967296 * val (zs.drop (k + 1)) := by
  rw [List.drop_eq_getElem_cons h]
  simp [val, List.getD_eq_getElem?_getD, h]
theorem drop_set (zs : List Nat) (k v : Nat) (h : k < zs.length) : val ((zs.set k v).drop k) = v + 4294967296 * val (zs.drop (k + 1)) := by
  rw [drop_getD _ k (by simpa using h), getD_set_same _ _ _ h]
  congr 2
  rw [List.drop_set_of_lt (by omega)]
theorem DivRel.start (xs : List Nat) (hs : Small xs) (d : Nat) (hd : 0 < d) : DivRel xs xs xs.length d 0 := ⟨rfl, hs, fun _ _ => rfl, by simp [val], hd⟩
theorem DivRel.step {xs zs : List Nat} {k d r x : Nat} (h : DivRel xs zs (k + 1) d r) (hk : k < xs.length) (hx : zs.getD k 0 = x) (hd : d < 4294967296) :
    DivRel xs (zs.set k ((x + 4294967296 * r) / d)) k d ((x + 4294967296 * r) % d) ∧ (x + 4294967296 * r) / d < 4294967296 := by
  obtain ⟨hl, hs, ha, hv, hr⟩ := h
  have hxb := hs.get k
  rw [hx] at hxb
  have hq : (x + 4294967296 * r) / d < 4294967296 := by
    rw [Nat.div_lt_iff_lt_mul (by omega)]
    have : 4294967296 * (r + 1) ≤ 4294967296 * d := Nat.mul_le_mul_left _ hr
    omega
  refine ⟨⟨by simpa using hl, hs.set _ _ hq, fun j hj => ?_, ?_, Nat.mod_lt _ (by omega)⟩, hq⟩
  · rw [getD_set_ne _ _ _ _ (by omega)]
    exact ha j (by omega)
  · rw [drop_set _ _ _ (by omega), drop_getD xs k hk, hv, ← ha k (by omega), hx, Nat.add_mul, Nat.mul_add, Nat.mul_assoc]
    have := Nat.div_add_mod (x + 4294967296 * r) d
    rw [Nat.mul_comm] at this
    omega
theorem DivRel.done {xs zs : List Nat} {d r : Nat} (h : DivRel xs zs 0 d r) : val zs = val xs / d ∧ r = val xs % d := by
  obtain ⟨hl, hs, ha, hv, hr⟩ := h
  simp only [List.drop_zero] at hv
  rw [hv]
  constructor
  · rw [Nat.mul_comm, Nat.mul_add_div (by omega), Nat.div_eq_of_lt hr, Nat.add_zero]
  · rw [Nat.mul_comm, Nat.mul_add_mod, Nat.mod_eq_of_lt hr]
end Dig

end Go.Proofs.YtpbkmkcfhkdjjaaDoor

namespace Go.Proofs.YtpbkmkcfhkdjjaaDoor
open Go.RowKit Dig
set_option linter.unusedVariables false

namespace Dig
def GroupRel (xs zs : List Nat) (p k c : Nat) : Prop :=
  zs.length = xs.length ∧ Small zs ∧ (∀ j, k ≤ j → zs.getD j 0 = xs.getD j 0) ∧ val (zs.take k) + 4294967296 ^ k * c = val (xs.take k) * 1000000000 + p ∧ c < 1000000000
theorem GroupRel.start (xs : List Nat) (p : Nat) (hs : Small xs) (hp : p < 1000000000) : GroupRel xs xs p 0 p := ⟨rfl, hs, fun _ _ => rfl, by simp [val], hp⟩
theorem GroupRel.step {xs zs : List Nat} {p k c x : Nat} (h : GroupRel xs zs p k c) (hk : k < xs.length) (hx : zs.getD k 0 = x) (hxb : x < 4294967296) :
    GroupRel xs (zs.set k ((c + x * 1000000000) % 4294967296)) p (k + 1) ((c + x * 1000000000) / 4294967296) := by
  obtain ⟨hl, hs, ha, hv, hc⟩ := h
  refine ⟨by simpa using hl, hs.set _ _ (Nat.mod_lt _ (by omega)), fun j hj => ?_, ?_, by omega⟩
  · rw [getD_set_ne _ _ _ _ (by omega)]
    exact ha j (by omega)
  · rw [take_set_succ _ _ _ (by omega), val_take_succ xs k hk, ← ha k (Nat.le_refl _), hx, Nat.pow_succ, Nat.mul_assoc, Nat.add_assoc, ← Nat.mul_add, Nat.mod_add_div, Nat.mul_add, Nat.add_mul, Nat.mul_assoc]
    omega
theorem GroupRel.done {xs zs : List Nat} {p c : Nat} (h : GroupRel xs zs p xs.length c) : val zs + 4294967296 ^ xs.length * c = val xs * 1000000000 + p ∧ zs.length = xs.length ∧ Small zs ∧ c < 1000000000 := by
  obtain ⟨hl, hs, ha, hv, hc⟩ := h
  rw [List.take_of_length_le (by omega), List.take_of_length_le (Nat.le_refl _)] at hv
  exact ⟨hv, hl, hs, hc⟩
end Dig

theorem Num.one (w : World) (a : Nat) (x : Int) (ha : a < 4294967296) (hx : x = (a : Int)) : Num (w.alloc (.cells #[.int .u32 x] 95)) (.slice (some ⟨w.heap.size, 0, none⟩) 1 1) [a] := by
  subst hx
  have : Own w.heap.size (w.alloc (.cells #[.int .u32 (a : Int)] 95)) (.slice (some ⟨w.heap.size, 0, none⟩) 1 1) [a] := by
    refine ⟨fun d hd => ?_, .inr ⟨w.heap.size, [], rfl, Nat.le_refl _, by unfold maxLen; simp, ?_⟩⟩
    · simp at hd; omega
    · unfold Seg
      rw [heap_alloc_new]
      simp [U]
  exact this.num
theorem Own.alloc {base : Nat} {w : World} {v : Value} {xs : List Nat} (h : Own base w v xs) (o : Obj) : Own base (w.alloc o) v xs := h.below ((Below.refl w.heap.size _).alloc (Nat.le_refl _) o) (Nat.le_refl _)
end Go.Proofs.YtpbkmkcfhkdjjaaDoor

namespace Go.Proofs.YtpbkmkcfhkdjjaaDoor
open Go.RowKit Dig
set_option linter.unusedVariables false

/-- Letters as values. -/
def V (ts : List UInt8) : List Value := ts.map fun (c : UInt8) => Value.int .u8 (c.toNat : Int)
theorem V_get (ts : List UInt8) (j : Nat) (h : j < ts.length) : (V ts)[j]? = some (.int .u8 ((ts.getD j 0).toNat : Int)) := by
  simp [V, List.getD_eq_getElem?_getD, List.getElem?_eq_getElem h]
/-- Block g holds just these letters. -/
def Let (w : World) (g : Nat) (ts : List UInt8) : Prop := w.heap[g]? = some (.cells (V ts).toArray 5 (0, 0))
section
variable {w w' : World} {g : Nat} {ts : List UInt8}
theorem Let.lt (h : Let w g ts) : g < w.heap.size := by
  rcases Nat.lt_or_ge g w.heap.size with hlt | hge
  · exact hlt
  · unfold Let at h; rw [Array.getElem?_eq_none hge] at h; cases h
theorem Let.frozen (h : Let w g ts) (i : Nat) : w.frozen? ⟨g, i, none⟩ = false := by
  unfold Let at h
  simp [World.frozen?, h]
theorem Let.cell (h : Let w g ts) {j : Nat} (hj : j < ts.length) : w.cell? ⟨g, j, none⟩ = some (.int .u8 ((ts.getD j 0).toNat : Int)) := by
  rw [cell_of_row w g _ _ _ (0, 0) h, List.getElem?_toArray]
  exact V_get ts j hj
theorem Let.put (h : Let w g ts) (j : Nat) (c : UInt8) (q : Int) (hq : q = (c.toNat : Int)) : Let (w.setCell ⟨g, j, none⟩ (.int .u8 q)) g (ts.set j c) := by
  subst hq
  unfold Let at h ⊢
  simp only [World.setCell, Array.getElem?_modify, h]
  simp [V, List.map_set]
theorem Let.of_block (h : Let w g ts) (e : w'.heap[g]? = w.heap[g]?) : Let w' g ts := by
  unfold Let at h ⊢
  rw [e]
  exact h
theorem Let.grown {row : Option Nat} (h : Let w g ts) (hb : w.grownBy w' row) (hg : some g ≠ row) : Let w' g ts := h.of_block (hb.block g h.lt hg)
end

namespace Dig
/-- The letters from place st on are those of low, 9 a round. -/
def TextRel (ts : List UInt8) (st : Nat) (low : Nat) : Prop := (∀ c ∈ ts.drop st, isDig c = true) ∧ dec (ts.drop st) = low
theorem TextRel.step {ts : List UInt8} {st low m : Nat} (h : TextRel ts st low) (h0 : 0 < st) (hl : st ≤ ts.length) (hm : m < 10) : TextRel (ts.set (st - 1) (UInt8.ofNat (48 + m))) (st - 1) (m * 10 ^ (ts.length - st) + low) := by
  obtain ⟨h1, h2⟩ := h
  have e : (ts.set (st - 1) (UInt8.ofNat (48 + m))).drop (st - 1) = UInt8.ofNat (48 + m) :: ts.drop st := by
    rw [List.drop_eq_getElem_cons (by rw [List.length_set]; omega), List.getElem_set_self, show st - 1 + 1 = st by omega, List.drop_set_of_lt (by omega)]
  refine ⟨fun c hc => ?_, ?_⟩
  · rw [e] at hc
    rcases List.mem_cons.1 hc with hc | hc
    · rw [hc]; exact isDig_digit m hm
    · exact h1 c hc
  · rw [e, dec_cons, h2, ofNat_digit m hm, List.length_drop, Nat.add_sub_cancel_left]
theorem pow32_10 (n : Nat) : 4294967296 ^ n ≤ 10 ^ (10 * n) := by
  rw [Nat.pow_mul]
  exact Nat.pow_le_pow_left (by omega) n
theorem TextRel.lt {ts : List UInt8} {st n : Nat} (h : TextRel ts st n) (hl : st ≤ ts.length) (hn : 0 < n) : st < ts.length := by
  rcases Nat.lt_or_ge st ts.length with h1 | h1
  · exact h1
  · have := h.2
    rw [List.drop_of_length_le h1, dec_nil] at this
    omega
end Dig

theorem wp_string {w : World} {ops : Array Oper} {rest : List Oper} {o : Oper} {a : Act} {Q : Exit → Act → World → Prop} (hgd : o.guard = none) (x : Operand) (hop : o.op = .convert 33 9 x)
    (g off n c : Nat) (hx : a.eval x = .slice (some ⟨g, off, none⟩) n c) (ts : List UInt8) (ht : Let w g ts) (hn : off + n = ts.length)
    (h : wpList Tryd.prog ops Q rest (a.put o.dst (.string ⟨(ts.drop off).toArray⟩)) w) :
    wpList Tryd.prog ops Q (o :: rest) a w := by
  refine wpList_plain hgd fun K hK => ?_
  have hl : (ts.drop off).length = n := by rw [List.length_drop]; omega
  have hrun := run_convert_bytes_back (P := Tryd.prog) w 33 9 5 ⟨g, off, none⟩ c (ts.drop off) Tryd.underlying33 Tryd.underlying5 Tryd.underlying9 (fun j hj => by
    have e : (⟨g, off, none⟩ : Addr).add j = ⟨g, off + j, none⟩ := by unfold Addr.add; split <;> simp_all
    rw [e, ht.cell (by omega)]
    have hj2 : off + j < ts.length := by omega
    simp [List.getD_eq_getElem?_getD, List.getElem?_eq_getElem hj2])
  rw [hl] at hrun
  unfold Oper.wp
  simp only [execOp, hop, hx, hrun, Result.andThen, Sem.run_bind, Sem.run_pure]
  exact hK _ _ h
/-- A call that hands back the decimal letters of a number. -/
def RText (w : World) (n : Nat) (e : Ending) (w' : World) : Prop := e = .returned (.string ⟨(dtext n).toArray⟩) ∧ Below w.heap.size w w'
end Go.Proofs.YtpbkmkcfhkdjjaaDoor

namespace Go.Proofs.YtpbkmkcfhkdjjaaDoor
open Go.RowKit Dig
set_option linter.unusedVariables false

/-- DivMod hands back a quotient and a remainder of its own. -/
def RDiv (w : World) (a b : Nat) (e : Ending) (w' : World) : Prop :=
  ∃ q r, e = .returned (.tuple #[q, r, .bool true]) ∧ Own w.heap.size w' q (dg (a / b)) ∧ Own w.heap.size w' r (dg (a % b)) ∧ Below w.heap.size w w'
end Go.Proofs.YtpbkmkcfhkdjjaaDoor

namespace Go.Proofs.YtpbkmkcfhkdjjaaDoor
open Go.RowKit Dig
set_option linter.unusedVariables false

/-- v can be read as the number n, in at most k digits. -/
def NumV (w : World) (v : Value) (n k : Nat) : Prop := ∃ L, Num w v L ∧ val L = n ∧ L.length ≤ k
/-- v is the canonical form of n, which has at most k digits. -/
def Can (w : World) (v : Value) (n k : Nat) : Prop := Num w v (dg n) ∧ n < 4294967296 ^ k
/-- A call that hands back the canonical form of n in memory of its own. -/
def RCan (w : World) (n k : Nat) (e : Ending) (w' : World) : Prop := ∃ r, e = .returned r ∧ Can w' r n k ∧ Own w.heap.size w' r (dg n) ∧ Below w.heap.size w w'
section
variable {w w' : World} {v : Value} {n k : Nat}
theorem Can.numV (h : Can w v n k) : NumV w v n k := ⟨_, h.1, val_dg n, dg_length_le n k h.2⟩
theorem NumV.lt (h : NumV w v n k) : n < 4294967296 ^ k := by
  obtain ⟨L, h1, h2, h3⟩ := h
  have := val_lt L h1.small
  rw [h2] at this
  exact Nat.lt_of_lt_of_le this (pow_le h3)
theorem NumV.below (h : NumV w v n k) (hb : Below w.heap.size w w') : NumV w' v n k := by
  obtain ⟨L, h1, h2⟩ := h
  exact ⟨L, h1.below hb, h2⟩
theorem Can.below (h : Can w v n k) (hb : Below w.heap.size w w') : Can w' v n k := ⟨h.1.below hb, h.2⟩
theorem Can.le {l : Nat} (h : Can w v n k) (hl : k ≤ l) : Can w v n l := ⟨h.1, Nat.lt_of_lt_of_le h.2 (pow_le hl)⟩
theorem RCan.of {e : Ending} (h : RNat w n e w') (hk : n < 4294967296 ^ k) : RCan w n k e w' := by
  obtain ⟨r, a, b, c⟩ := h
  exact ⟨r, a, ⟨b.num, hk⟩, b, c⟩
end

section
variable {w : World} {va vb : Value} {a b k l : Nat}
end

end Go.Proofs.YtpbkmkcfhkdjjaaDoor

namespace Go.Proofs.YtpbkmkcfhkdjjaaDoor
open Go.RowKit Dig
set_option linter.unusedVariables false

namespace Dig
/-- After k digits of the multiple: cy is the carry and br the borrow. -/
def MulRel (xs ds zs : List Nat) (q k cy br : Nat) : Prop :=
  zs.length = xs.length ∧ Small zs ∧ (∀ j, k ≤ j → zs.getD j 0 = xs.getD j 0) ∧ val (zs.take k) + q * val (ds.take k) = val (xs.take k) + 4294967296 ^ k * (cy + br) ∧ cy < 4294967296 ∧ br ≤ 1
theorem MulRel.start (xs ds : List Nat) (q : Nat) (h : Small xs) : MulRel xs ds xs q 0 0 0 := ⟨rfl, h, fun _ _ => rfl, by simp [val], by omega, by omega⟩
theorem MulRel.step {xs ds zs : List Nat} {q k cy br x d z b : Nat} (h : MulRel xs ds zs q k cy br) (hk : k < xs.length) (hx : zs.getD k 0 = x) (hd : ds.getD k 0 = d) (hdb : d < 4294967296) (hq : q < 4294967296)
    (hz : z < 4294967296) (hb : b ≤ 1) (he : z + (cy + q * d) % 4294967296 + br = x + 4294967296 * b) :
    MulRel xs ds (zs.set k z) q (k + 1) ((cy + q * d) / 4294967296) b := by
  obtain ⟨hl, hs, ha, hv, hc, hbr⟩ := h
  have hm := mul_le_digits hq hdb
  refine ⟨by simpa using hl, hs.set _ _ hz, fun j hj => ?_, ?_, by omega, hb⟩
  · rw [getD_set_ne _ _ _ _ (by omega)]
    exact ha j (by omega)
  · rw [take_set_succ _ _ _ (by omega), take_all_getD ds, take_all_getD xs, ← ha k (Nat.le_refl _), hx, hd, Nat.pow_succ, Nat.mul_assoc]
    have e0 := Nat.mod_add_div (cy + q * d) 4294967296
    generalize (cy + q * d) % 4294967296 = lo at *
    generalize (cy + q * d) / 4294967296 = hi at *
    have e1 : 4294967296 ^ k * (z + lo + br) = 4294967296 ^ k * (x + 4294967296 * b) := by rw [he]
    have e2 : 4294967296 ^ k * (lo + 4294967296 * hi) = 4294967296 ^ k * (cy + q * d) := by rw [e0]
    have e3 : q * (4294967296 ^ k * d) = 4294967296 ^ k * (q * d) := Nat.mul_left_comm _ _ _
    rw [Nat.mul_add q, e3]
    simp only [Nat.mul_add] at e1 e2 hv ⊢
    omega
end Dig

end Go.Proofs.YtpbkmkcfhkdjjaaDoor

namespace Go.Proofs.YtpbkmkcfhkdjjaaDoor
open Go.RowKit Dig
set_option linter.unusedVariables false

namespace Dig
/-- After k digits, shifted left by s. -/
def ShlRel (xs zs : List Nat) (s k q : Nat) : Prop :=
  zs.length = xs.length + 1 ∧ Small zs ∧ (∀ j, k ≤ j → zs.getD j 0 = 0) ∧ val (zs.take k) + 4294967296 ^ k * q = val (xs.take k) * 2 ^ s ∧ q < 2 ^ s
theorem ShlRel.start (xs : List Nat) (s : Nat) : ShlRel xs (List.replicate (xs.length + 1) 0) s 0 0 := by
  refine ⟨by simp, Small.replicate _, fun j _ => ?_, by simp [val], Nat.pow_pos (by omega)⟩
  rw [List.getD_eq_getElem?_getD, List.getElem?_replicate]
  split <;> rfl
theorem ShlRel.step {xs zs : List Nat} {s k q x S : Nat} (h : ShlRel xs zs s k q) (hk : k < xs.length) (hx : xs.getD k 0 = x) (hxb : x < 4294967296) (hS : S = q + x * 2 ^ s) :
    ShlRel xs (zs.set k (S % 4294967296)) s (k + 1) (S / 4294967296) := by
  obtain ⟨hl, hs, ha, hv, hq⟩ := h
  refine ⟨by simpa using hl, hs.set _ _ (Nat.mod_lt _ (by omega)), fun j hj => ?_, ?_, ?_⟩
  · rw [getD_set_ne _ _ _ _ (by omega)]
    exact ha j (by omega)
  · rw [take_set_succ _ _ _ (by omega), val_take_succ xs k hk, hx, Nat.pow_succ, Nat.mul_assoc, Nat.add_assoc, ← Nat.mul_add, Nat.mod_add_div, hS, Nat.mul_add, Nat.add_mul, Nat.mul_assoc]
    omega
  · rw [hS, Nat.div_lt_iff_lt_mul (by omega)]
    have h1 : (x + 1) * 2 ^ s ≤ 4294967296 * 2 ^ s := Nat.mul_le_mul_right _ (by omega)
    rw [Nat.add_mul] at h1
    rw [Nat.mul_comm (2 ^ s) 4294967296]
    omega
theorem ShlRel.done {xs zs : List Nat} {s q : Nat} (h : ShlRel xs zs s xs.length q) (hq : q < 4294967296) : (zs.set xs.length q).length = xs.length + 1 ∧ Small (zs.set xs.length q) ∧ val (zs.set xs.length q) = val xs * 2 ^ s := by
  obtain ⟨hl, hs, ha, hv, _⟩ := h
  refine ⟨by simpa using hl, hs.set _ _ hq, ?_⟩
  have h1 := take_set_succ zs xs.length q (by omega)
  rw [List.take_of_length_le (by simp; omega), hv, List.take_of_length_le (Nat.le_refl _)] at h1
  exact h1
/-- Below place k nothing is done yet; the digits from k on are shifted right by s; hi holds the digit at k. -/
def ShrRel (xs zs : List Nat) (s k hi : Nat) : Prop :=
  zs.length = xs.length ∧ Small zs ∧ val (zs.drop k) = val (xs.drop k) / 2 ^ s ∧ hi % 4294967296 = xs.getD k 0
theorem ShrRel.start (xs : List Nat) (s : Nat) : ShrRel xs (List.replicate xs.length 0) s xs.length 0 := by
  refine ⟨by simp, Small.replicate _, ?_, ?_⟩
  · rw [List.drop_of_length_le (by simp), List.drop_of_length_le (Nat.le_refl _)]; simp [val]
  · rw [List.getD_eq_getElem?_getD, List.getElem?_eq_none (Nat.le_refl _)]; rfl
theorem drop_getD' (zs : List Nat) (k : Nat) (h : k < zs.length) : val (zs.drop k) = zs.getD k 0 + 4294967296 * val (zs.drop (k + 1)) := by
  rw [List.drop_eq_getElem_cons h]
  simp [val, List.getD_eq_getElem?_getD, h]
theorem shr_digit {y V T x t : Nat} (hT : 4294967296 = t * T) (hx : x < 4294967296) (hy : y = V % 4294967296) (hT0 : 0 < T) (ht0 : 0 < t) :
    (x + 4294967296 * V) / T = (x + 4294967296 * y) / T % 4294967296 + 4294967296 * (V / T) := by
  have e1 : (x + 4294967296 * V) / T = x / T + t * V := by
    rw [hT, show x + t * T * V = x + T * (t * V) by rw [Nat.mul_comm t T, Nat.mul_assoc], Nat.add_mul_div_left _ _ hT0]
  have e2 : (x + 4294967296 * y) / T = x / T + t * y := by
    rw [hT, show x + t * T * y = x + T * (t * y) by rw [Nat.mul_comm t T, Nat.mul_assoc], Nat.add_mul_div_left _ _ hT0]
  have e3 : x / T < t := by rw [Nat.div_lt_iff_lt_mul hT0, ← hT]; exact hx
  rw [e1, e2]
  -- t * V = t * (V mod T) + 2^32 * (V / T)
  have e4 : t * V = t * (V % T) + 4294967296 * (V / T) := by
    conv => lhs; rw [← Nat.mod_add_div V T]
    rw [Nat.mul_add, hT, Nat.mul_assoc]
  have e5 : y % T = V % T := by
    rw [hy, hT]
    exact Nat.mod_mul_left_mod V t T
  have e6 : t * y = t * (V % T) + 4294967296 * (y / T) := by
    conv => lhs; rw [← Nat.mod_add_div y T]
    rw [Nat.mul_add, e5, hT, Nat.mul_assoc]
  have e7 : x / T + t * (V % T) < 4294967296 := by
    have h1 := Nat.mod_lt V hT0
    have h2 : t * (V % T + 1) ≤ t * T := Nat.mul_le_mul_left _ h1
    rw [← hT, Nat.mul_add, Nat.mul_one] at h2
    omega
  rw [e4, e6, ← Nat.add_assoc, ← Nat.add_assoc, Nat.add_mul_mod_self_left, Nat.mod_eq_of_lt e7]
theorem ShrRel.step {xs zs : List Nat} {s k hi x S : Nat} (h : ShrRel xs zs s (k + 1) hi) (hs31 : s ≤ 31) (hxs : Small xs) (hk : k < xs.length) (hx : xs.getD k 0 = x) (hS : S = x + 4294967296 * (hi % 4294967296)) :
    ShrRel xs (zs.set k (S / 2 ^ s % 4294967296)) s k S := by
  obtain ⟨hl, hs, hv, hh⟩ := h
  have hxb := hxs.get k
  rw [hx] at hxb
  refine ⟨by simpa using hl, hs.set _ _ (Nat.mod_lt _ (by omega)), ?_, ?_⟩
  · rw [drop_getD' _ k (by rw [List.length_set]; omega), getD_set_same _ _ _ (by omega), List.drop_set_of_lt (by omega), hv, drop_getD' xs k hk, hx, hS]
    have hT : 4294967296 = 2 ^ (32 - s) * 2 ^ s := by rw [← Nat.pow_add, show 32 - s + s = 32 by omega]
    have hy : hi % 4294967296 = val (xs.drop (k + 1)) % 4294967296 := by
      rw [hh]
      rcases Nat.lt_or_ge (k + 1) xs.length with h1 | h1
      · rw [drop_getD' xs (k + 1) h1, Nat.add_mul_mod_self_left, Nat.mod_eq_of_lt (hxs.get _)]
      · rw [List.drop_of_length_le h1, List.getD_eq_getElem?_getD, List.getElem?_eq_none h1]; rfl
    exact (shr_digit hT hxb hy (Nat.pow_pos (by omega)) (Nat.pow_pos (by omega))).symm
  · rw [hS, Nat.add_mul_mod_self_left, Nat.mod_eq_of_lt hxb, hx]
end Dig

end Go.Proofs.YtpbkmkcfhkdjjaaDoor

namespace Go.Proofs.YtpbkmkcfhkdjjaaDoor
open Go.RowKit Dig
set_option linter.unusedVariables false

namespace Dig
/-- What is known in long division when the digits of the quotient from place k on are done: R the dividend, D the divisor. -/
def LongRel (R D : Nat) (rs qs : List Nat) (n m k : Nat) : Prop :=
  rs.length = m + 1 ∧ Small rs ∧ Small qs ∧ qs.length = m - n + 1 ∧ val ((rs.drop k).take n) < D ∧ R = val (rs.take k) + 4294967296 ^ k * (val ((rs.drop k).take n) + D * val (qs.drop k))
theorem part_val (rs : List Nat) (i n : Nat) (h : i < rs.length) : val ((rs.drop i).take (n + 1)) = rs.getD i 0 + 4294967296 * val ((rs.drop (i + 1)).take n) := by
  rw [List.drop_eq_getElem_cons h, List.take_succ_cons]
  simp [val, List.getD_eq_getElem?_getD, h]
theorem LongRel.step {R D : Nat} {rs rs' qs : List Nat} {n m i d : Nat} (h : LongRel R D rs qs n m (i + 1)) (hi : i < m - n + 1) (hnm : n ≤ m) (hl : rs'.length = rs.length) (hs : Small rs') (ht : rs'.take i = rs.take i) (hd : d < 4294967296)
    (hv : val ((rs'.drop i).take n) + d * D = val ((rs.drop i).take (n + 1))) (hlt : val ((rs'.drop i).take n) < D) : LongRel R D rs' (qs.set i d) n m i := by
  obtain ⟨h1, h2, h3, h4, h5, h6⟩ := h
  refine ⟨by omega, hs, h3.set _ _ hd, by simpa using h4, hlt, ?_⟩
  rw [part_val rs i n (by omega)] at hv
  rw [val_take_succ rs i (by omega)] at h6
  have e1 : val ((qs.set i d).drop i) = d + 4294967296 * val (qs.drop (i + 1)) := by
    rw [drop_set _ _ _ (by omega)]
  rw [ht, e1, h6, Nat.pow_succ, Nat.mul_assoc, Nat.add_assoc, ← Nat.mul_add]
  congr 2
  have e2 : D * (d + 4294967296 * val (qs.drop (i + 1))) = d * D + 4294967296 * (D * val (qs.drop (i + 1))) := by
    rw [Nat.mul_add, Nat.mul_comm D d, Nat.mul_left_comm]
  rw [e2]
  omega
theorem LongRel.done {R D : Nat} {rs qs : List Nat} {n m : Nat} (h : LongRel R D rs qs n m 0) : val (rs.take n) < D ∧ R = val (rs.take n) + D * val qs := by
  obtain ⟨h1, h2, h3, h4, h5, h6⟩ := h
  simp only [List.drop_zero, List.take_zero, val, Nat.pow_zero, Nat.one_mul, Nat.zero_add] at h5 h6
  exact ⟨h5, h6⟩
end Dig

theorem Seg.back {w : World} {g : Nat} {xs ys : List Nat} {post : List Value} (h : Seg w g (U xs) ys post) : Seg w g [] (xs ++ ys) post := by
  have h' : Seg w g ([] ++ U xs) ys post := by simpa using h
  exact h'.ofRight
end Go.Proofs.YtpbkmkcfhkdjjaaDoor

namespace Go.Proofs.YtpbkmkcfhkdjjaaDoor
open Go.RowKit Dig
set_option linter.unusedVariables false

namespace Dig
theorem drop_any (zs : List Nat) (k : Nat) : val (zs.drop k) = zs.getD k 0 + 4294967296 * val (zs.drop (k + 1)) := by
  rcases Nat.lt_or_ge k zs.length with h | h
  · exact drop_getD' zs k h
  · rw [List.drop_of_length_le h, List.drop_of_length_le (by omega), List.getD_eq_getElem?_getD, List.getElem?_eq_none h]
    simp [val]
end Dig

end Go.Proofs.YtpbkmkcfhkdjjaaDoor

namespace Go.Proofs.YtpbkmkcfhkdjjaaDoor
open Go.RowKit Dig
set_option linter.unusedVariables false

namespace Dig
/-- After k digits of u * xs - v * ys: pl and mi are the carries, br the borrow. -/
def CombRel (xs ys zs : List Nat) (u v n k pl mi br : Nat) : Prop :=
  zs.length = n ∧ Small zs ∧ u * val (xs.take k) + 4294967296 ^ k * (mi + br) = v * val (ys.take k) + val (zs.take k) + 4294967296 ^ k * pl ∧ pl < 4294967296 ∧ mi < 4294967296 ∧ br ≤ 1
theorem CombRel.start (xs ys : List Nat) (u v n : Nat) : CombRel xs ys (List.replicate n 0) u v n 0 0 0 0 := ⟨by simp, Small.replicate n, by simp [val], by omega, by omega, by omega⟩
theorem CombRel.step {xs ys zs : List Nat} {u v n k pl mi br x y z b : Nat} (h : CombRel xs ys zs u v n k pl mi br) (hk : k < n) (hx : xs.getD k 0 = x) (hy : ys.getD k 0 = y) (bx : x < 4294967296) (bb : y < 4294967296)
    (hu : u < 4294967296) (hv : v < 4294967296) (hz : z < 4294967296) (hb : b ≤ 1) (he : z + (mi + v * y) % 4294967296 + br = (pl + u * x) % 4294967296 + 4294967296 * b) :
    CombRel xs ys (zs.set k z) u v n (k + 1) ((pl + u * x) / 4294967296) ((mi + v * y) / 4294967296) b := by
  obtain ⟨hl, hs, ha, hp, hm, hbr⟩ := h
  have m1 := mul_le_digits hu bx
  have m2 := mul_le_digits hv bb
  refine ⟨by simpa using hl, hs.set _ _ hz, ?_, by omega, by omega, hb⟩
  rw [take_set_succ _ _ _ (by omega), take_all_getD xs, take_all_getD ys, hx, hy, Nat.pow_succ, Nat.mul_assoc, Nat.mul_assoc]
  have e0 := Nat.mod_add_div (pl + u * x) 4294967296
  have e1 := Nat.mod_add_div (mi + v * y) 4294967296
  generalize (pl + u * x) % 4294967296 = lo at *
  generalize (pl + u * x) / 4294967296 = hi at *
  generalize (mi + v * y) % 4294967296 = lo2 at *
  generalize (mi + v * y) / 4294967296 = hi2 at *
  generalize (4294967296 : Nat) ^ k = P at *
  generalize val (xs.take k) = X at *
  generalize val (ys.take k) = Y at *
  generalize val (zs.take k) = Z at *
  have f0 : P * (lo + 4294967296 * hi) = P * (pl + u * x) := by rw [e0]
  have f1 : P * (lo2 + 4294967296 * hi2) = P * (mi + v * y) := by rw [e1]
  have f2 : P * (z + lo2 + br) = P * (lo + 4294967296 * b) := by rw [he]
  have g1 : u * (P * x) = P * (u * x) := Nat.mul_left_comm _ _ _
  have g2 : v * (P * y) = P * (v * y) := Nat.mul_left_comm _ _ _
  rw [Nat.mul_add u, Nat.mul_add v, g1, g2]
  simp only [Nat.mul_add] at f0 f1 f2 ha ⊢
  omega
theorem CombRel.done {xs ys zs : List Nat} {u v n pl mi br r : Nat} (h : CombRel xs ys zs u v n n pl mi br) (hx : xs.length ≤ n) (hy : ys.length ≤ n) (hr : r < 4294967296 ^ n) (he : r + v * val ys = u * val xs) : val zs = r := by
  obtain ⟨hl, hs, ha, hp, hm, hbr⟩ := h
  rw [List.take_of_length_le hx, List.take_of_length_le hy, List.take_of_length_le (by omega)] at ha
  have hz := val_lt zs hs
  rw [hl] at hz
  generalize (4294967296 : Nat) ^ n = P at *
  have h1 : r + P * (mi + br) = val zs + P * pl := by omega
  rcases Nat.lt_trichotomy (mi + br) pl with h2 | h2 | h2
  · have := Nat.mul_le_mul_left P (show mi + br + 1 ≤ pl from h2)
    rw [Nat.mul_add, Nat.mul_one] at this
    omega
  · rw [h2] at h1; omega
  · have := Nat.mul_le_mul_left P (show pl + 1 ≤ mi + br from h2)
    rw [Nat.mul_add, Nat.mul_one] at this
    omega
end Dig

end Go.Proofs.YtpbkmkcfhkdjjaaDoor

namespace Go.Proofs.YtpbkmkcfhkdjjaaDoor
open Go.RowKit Dig
set_option linter.unusedVariables false

theorem Num.unique {w : World} {v : Value} {xs ys : List Nat} (h : Num w v xs) (k : Num w v ys) : xs = ys := by
  obtain ⟨A, c, e1⟩ := h.form
  obtain ⟨A', c', e2⟩ := k.form
  subst e1
  simp only [Value.slice.injEq] at e2
  obtain ⟨rfl, hl, rfl⟩ := e2
  refine ext_getD hl fun j hj => ?_
  obtain ⟨b, off, e, _, h1⟩ := h.cells (by omega)
  subst e
  rw [hl] at k
  rw [hl] at hj
  obtain ⟨b2, off2, e, _, h2⟩ := k.cells (by omega)
  simp only [Option.some.injEq, Addr.mk.injEq, and_true] at e
  obtain ⟨rfl, rfl⟩ := e
  have h3 := h1 j (by omega)
  rw [h2 j (by omega)] at h3
  simp only [Option.some.injEq, Value.int.injEq, true_and] at h3
  omega
open Classical in
/-- The number that v can be read as. -/
noncomputable def valIn (w : World) (v : Value) : Nat := if h : ∃ xs, Num w v xs then val (Classical.choose h) else 0
theorem valIn_eq {w : World} {v : Value} {xs : List Nat} (h : Num w v xs) : valIn w v = val xs := by
  have hx : ∃ xs, Num w v xs := ⟨xs, h⟩
  unfold valIn
  rw [dif_pos hx, (Classical.choose_spec hx).unique h]
theorem valIn_dg {w : World} {v : Value} {n : Nat} (h : Num w v (dg n)) : valIn w v = n := by rw [valIn_eq h, val_dg]
end Go.Proofs.YtpbkmkcfhkdjjaaDoor

namespace Go.Proofs.YtpbkmkcfhkdjjaaDoor
open Go.RowKit Dig
set_option linter.unusedVariables false

namespace Dig
theorem gcd_lt_pow {a b k l : Nat} (ha : a < 4294967296 ^ k) (hb : b < 4294967296 ^ l) : Nat.gcd a b < 4294967296 ^ (k + l) := by
  rcases Nat.eq_zero_or_pos a with h | h
  · rw [h, Nat.gcd_zero_left]; exact Nat.lt_of_lt_of_le hb (pow_le (by omega))
  · exact Nat.lt_of_le_of_lt (Nat.le_of_dvd h (Nat.gcd_dvd_left a b)) (Nat.lt_of_lt_of_le ha (pow_le (by omega)))
end Dig
section
variable {w : World} {va vb : Value} {a b k l : Nat}
end
end Go.Proofs.YtpbkmkcfhkdjjaaDoor

namespace Go.Proofs.YtpbkmkcfhkdjjaaDoor
open Go.RowKit Dig
set_option linter.unusedVariables false

/-- v can be read as the number q, with at most k digits in each part. -/
def FracV (w : World) (v : Value) (q : Rat) (k : Nat) : Prop := ∃ neg vn vd n d, v = .agg #[.bool neg, vn, vd] ∧ NumV w vn n k ∧ NumV w vd d k ∧ fr neg n d = q
/-- v is the canonical form of q. -/
def CanF (w : World) (v : Value) (q : Rat) (k : Nat) : Prop := ∃ vn vd, v = .agg #[.bool (decide (q.num < 0)), vn, vd] ∧ Can w vn q.num.natAbs k ∧ Can w vd q.den k
/-- A call that hands back the canonical form of q, and leaves what was there. -/
def RCanF (w : World) (q : Rat) (k : Nat) (e : Ending) (w' : World) : Prop := ∃ v, e = .returned v ∧ CanF w' v q k ∧ Below w.heap.size w w'
section
variable {w w' : World} {v vn vd : Value} {q : Rat} {n d k l : Nat} {neg : Bool}
theorem NumV.le (h : NumV w v n k) (hl : k ≤ l) : NumV w v n l := by
  obtain ⟨L, h1, h2, h3⟩ := h
  exact ⟨L, h1, h2, by omega⟩
theorem FracV.of (hn : NumV w vn n k) (hd : NumV w vd d k) : FracV w (.agg #[.bool neg, vn, vd]) (fr neg n d) k := ⟨_, _, _, _, _, rfl, hn, hd, rfl⟩
theorem FracV.le (h : FracV w v q k) (hl : k ≤ l) : FracV w v q l := by
  obtain ⟨neg, vn, vd, n, d, e, hn, hd, hq⟩ := h
  exact ⟨neg, vn, vd, n, d, e, hn.le hl, hd.le hl, hq⟩
theorem FracV.below (h : FracV w v q k) (hb : Below w.heap.size w w') : FracV w' v q k := by
  obtain ⟨neg, vn, vd, n, d, e, hn, hd, hq⟩ := h
  exact ⟨neg, vn, vd, n, d, e, hn.below hb, hd.below hb, hq⟩
theorem CanF.below (h : CanF w v q k) (hb : Below w.heap.size w w') : CanF w' v q k := by
  obtain ⟨vn, vd, e, hn, hd⟩ := h
  exact ⟨vn, vd, e, hn.below hb, hd.below hb⟩
theorem CanF.le (h : CanF w v q k) (hl : k ≤ l) : CanF w v q l := by
  obtain ⟨vn, vd, e, hn, hd⟩ := h
  exact ⟨vn, vd, e, hn.le hl, hd.le hl⟩
theorem RCanF.le {e : Ending} (h : RCanF w q k e w') (hl : k ≤ l) : RCanF w q l e w' := by
  obtain ⟨v, h1, h2, h3⟩ := h
  exact ⟨v, h1, h2.le hl, h3⟩
/-- The canonical form of a fraction that is not 0. -/
theorem CanF.of_parts (hn : n ≠ 0) (hd : d ≠ 0) (h1 : Can w vn (n / Nat.gcd n d) k) (h2 : Can w vd (d / Nat.gcd n d) k) : CanF w (.agg #[.bool neg, vn, vd]) (fr neg n d) k := by
  obtain ⟨e1, e2, e3⟩ := fr_parts neg hn hd
  refine ⟨vn, vd, by rw [e1], ?_, ?_⟩
  · rw [e2]; exact h1
  · rw [e3]; exact h2
theorem CanF.zero (h1 : Can w vn 0 k) (h2 : Can w vd 1 k) : CanF w (.agg #[.bool false, vn, vd]) 0 k := ⟨vn, vd, rfl, h1, h2⟩
end
end Go.Proofs.YtpbkmkcfhkdjjaaDoor

namespace Go.Proofs.YtpbkmkcfhkdjjaaDoor
open Go.RowKit Dig
set_option linter.unusedVariables false

namespace Dig
end Dig
/-- A part of a slice of digits. -/
theorem Num.part {w : World} {b off n c : Nat} {X : List Nat} (h : Num w (.slice (some ⟨b, off, none⟩) n c) X) (i m c' : Nat) (hi : i + m ≤ n) (hc : m ≤ c') (hm : c' ≤ 9223372036854775807) :
    Num w (.slice (some ⟨b, off + i, none⟩) m c') ((X.drop i).take m) := by
  obtain ⟨A, c0, e, _, _, hs, hr⟩ := h
  simp only [Value.slice.injEq] at e
  obtain ⟨rfl, rfl, rfl⟩ := e
  have hl : ((X.drop i).take m).length = m := by rw [List.length_take, List.length_drop]; omega
  refine ⟨some ⟨b, off + i, none⟩, c', by rw [hl], ⟨by omega, fun e => by cases e⟩, by unfold maxLen; omega, (hs.drop i).take m, fun hp => ?_⟩
  rw [hl] at hp
  obtain ⟨b', off', e, hb, hcell⟩ := hr (by omega)
  simp only [Option.some.injEq, Addr.mk.injEq, and_true] at e
  obtain ⟨rfl, rfl⟩ := e
  refine ⟨b, off + i, rfl, hb, fun j hj => ?_⟩
  rw [hl] at hj
  rw [Nat.add_assoc, hcell (i + j) (by omega), getD_take _ _ _ hj, getD_drop]
end Go.Proofs.YtpbkmkcfhkdjjaaDoor

namespace Go.Proofs.YtpbkmkcfhkdjjaaDoor
open Go.RowKit Dig
set_option linter.unusedVariables false
theorem results_oneQ {fn : Func} {p : Tmp} {ty : TypeId} (h : fn.results = #[.cell p ty]) (tmps : Array Value) (P : Program) (w : World) :
    (results fn tmps).run P w = ((asAddr (tmps.getD p undef)).run P w).andThen fun a w₁ => (loadVar ty a).run P w₁ := by
  simp only [results, h]
  simp [Sem.run_bind, Result.andThen]
namespace Dig
theorem gcd_div_pos {n d : Nat} (hn : n ≠ 0) (hd : d ≠ 0) : 0 < Nat.gcd n d := Nat.gcd_pos_of_pos_left d (by omega)
end Dig

section
variable {w : World} {va vb : Value} {a b k l : Nat}
end

/-- Block g holds the three parts of a fraction. -/
def Fcl (w : World) (g : Nat) (b : Bool) (x y : Value) : Prop := w.heap[g]? = some (.cells #[.bool b, x, y] 66 (0, 0))
section
variable {w w' : World} {g : Nat} {b : Bool} {x y : Value}
theorem Fcl.cells (h : Fcl w g b x y) : w.cell? ⟨g, 0, none⟩ = some (.bool b) ∧ w.cell? ⟨g, 1, none⟩ = some x ∧ w.cell? ⟨g, 2, none⟩ = some y := by
  unfold Fcl at h
  refine ⟨?_, ?_, ?_⟩ <;> rw [cell_of_row w g _ _ _ (0, 0) h] <;> rfl
theorem Fcl.frozen (h : Fcl w g b x y) : w.frozen? ⟨g, 0, none⟩ = false ∧ w.frozen? ⟨g, 1, none⟩ = false ∧ w.frozen? ⟨g, 2, none⟩ = false := by
  unfold Fcl at h
  refine ⟨?_, ?_, ?_⟩ <;> simp [World.frozen?, h]
theorem Fcl.lt (h : Fcl w g b x y) : g < w.heap.size := by
  rcases Nat.lt_or_ge g w.heap.size with hlt | hge
  · exact hlt
  · unfold Fcl at h; rw [Array.getElem?_eq_none hge] at h; cases h
theorem Fcl.of_block (h : Fcl w g b x y) (e : w'.heap[g]? = w.heap[g]?) : Fcl w' g b x y := by
  unfold Fcl at h ⊢
  rw [e]
  exact h
theorem Fcl.below (h : Fcl w g b x y) (hb : Below w.heap.size w w') : Fcl w' g b x y := h.of_block (hb.block g h.lt)
theorem Fcl.drewN (h : Fcl w g b x y) (n : Nat) : Fcl (w.drewN n) g b x y := h
theorem Fcl.alloc (h : Fcl w g b x y) (o : Obj) : Fcl (w.alloc o) g b x y := h.of_block (Below.heap_alloc _ _ _ h.lt)
theorem Fcl.new (w : World) (b : Bool) (x y : Value) : Fcl (w.alloc (.cells #[.bool b, x, y] 66)) w.heap.size b x y := by
  unfold Fcl
  rw [heap_alloc_new]
end
section
variable {w : World} {v : Value} {n k : Nat}
theorem Can.form (h : Can w v n k) : ∃ A m c, v = .slice A m c := by
  obtain ⟨A, c, e⟩ := h.1.form
  exact ⟨A, _, c, e⟩
theorem NumV.form (h : NumV w v n k) : ∃ A m c, v = .slice A m c := by
  obtain ⟨L, h1, _⟩ := h
  obtain ⟨A, c, e⟩ := h1.form
  exact ⟨A, _, c, e⟩
end

/-- The world behind the storing of a fraction in block g. -/
def stor3 (w : World) (g : Nat) (a b c : Value) : World := ((w.setCell ⟨g, 0, none⟩ a).setCell ⟨g, 1, none⟩ b).setCell ⟨g, 2, none⟩ c
section
variable {w w' w2 : World} {g : Nat} {v x y a b c : Value} {p : Bool} {xs : List Nat} {A A' : Option Addr} {m m' e e' n k : Nat}
theorem Num.keepBut (h : Num w v xs) (hF : Fcl w g p (.slice A m e) (.slice A' m' e')) (hs : w.heap.size ≤ w'.heap.size) (hk : ∀ j, j ≠ g → w'.heap[j]? = w.heap[j]?) : Num w' v xs := by
  obtain ⟨B, c, h1, h2, h3, h4, h5⟩ := h
  refine ⟨B, c, h1, h2, h3, h4, fun hp => ?_⟩
  obtain ⟨b, off, e1, hb, hc⟩ := h5 hp
  have hne : b ≠ g := by
    rintro rfl
    have h0 := hc 0 hp
    unfold Fcl at hF
    rw [cell_of_row w b _ _ _ (0, 0) hF] at h0
    rcases hoff : off + 0 with _ | _ | _ | q <;> rw [hoff] at h0 <;> simp at h0
  refine ⟨b, off, e1, by omega, fun j hj => ?_⟩
  rw [← hc j hj]
  simp only [World.cell?, hk b hne]
theorem put3_heap (w : World) (g : Nat) (a b c : Value) : ∀ j, j ≠ g → (stor3 w g a b c).heap[j]? = w.heap[j]? := by
  intro j hj
  unfold stor3
  rw [Below.heap_setCell _ ⟨g, 2, none⟩ _ j hj, Below.heap_setCell _ ⟨g, 1, none⟩ _ j hj, Below.heap_setCell _ ⟨g, 0, none⟩ _ j hj]
theorem put3_size (w : World) (g : Nat) (a b c : Value) : (stor3 w g a b c).heap.size = w.heap.size := by
  unfold stor3
  simp [World.setCell]
theorem Can.put3 (h : Can w v n k) (hF : Fcl w g p (.slice A m e) (.slice A' m' e')) (a b c : Value) : Can (stor3 w g a b c) v n k :=
  ⟨h.1.keepBut hF (by rw [put3_size]; exact Nat.le_refl _) (put3_heap w g a b c), h.2⟩
theorem NumV.put3 (h : NumV w v n k) (hF : Fcl w g p (.slice A m e) (.slice A' m' e')) (a b c : Value) : NumV (stor3 w g a b c) v n k := by
  obtain ⟨L, h1, h2⟩ := h
  exact ⟨L, h1.keepBut hF (by rw [put3_size]; exact Nat.le_refl _) (put3_heap w g a b c), h2⟩
theorem below_put3 (hB : Below w.heap.size w w2) (hg : w.heap.size ≤ g) (a b c : Value) : Below w.heap.size w (stor3 w2 g a b c) := by
  unfold stor3
  exact ((hB.setCell (p := ⟨g, 0, none⟩) hg a).setCell (p := ⟨g, 1, none⟩) hg b).setCell (p := ⟨g, 2, none⟩) hg c
theorem Fcl.put3 (hF : Fcl w g p x y) (q : Bool) (b c : Value) : Fcl (stor3 w g (.bool q) b c) g q b c := by
  unfold Fcl at hF ⊢
  unfold Go.Proofs.YtpbkmkcfhkdjjaaDoor.stor3
  simp [World.setCell, Array.getElem?_modify, hF]
end

/-- The canonical form of a whole number. -/
theorem CanF.int {w : World} {vn vd : Value} {n k : Nat} (h1 : Can w vn n k) (h2 : Can w vd 1 k) : CanF w (.agg #[.bool false, vn, vd]) (fr false n 1) k := by
  rcases Nat.eq_zero_or_pos n with h | h
  · subst h
    rw [fr_zero]
    exact CanF.zero h1 h2
  · refine CanF.of_parts (by omega) (by omega) ?_ ?_
    · rw [Nat.gcd_one_right, Nat.div_one]; exact h1
    · rw [Nat.gcd_one_right, Nat.div_one]; exact h2
section
variable {w w1 w2 : World} {v va : Value} {q : Rat} {a k g : Nat}
/-- A canonical fraction by its parts. -/
theorem CanF.parts (h : CanF w v q k) : ∃ b A m c A' m' c', v = .agg #[.bool b, .slice A m c, .slice A' m' c'] ∧ decide (q.num < 0) = b ∧ Can w (.slice A m c) q.num.natAbs k ∧ Can w (.slice A' m' c') q.den k := by
  obtain ⟨vn, vd, rfl, h1, h2⟩ := h
  obtain ⟨A, m, c, rfl⟩ := h1.form
  obtain ⟨A', m', c', rfl⟩ := h2.form
  exact ⟨_, A, m, c, A', m', c', rfl, rfl, h1, h2⟩
theorem CanF.ofParts {b : Bool} {x y : Value} (hb : decide (q.num < 0) = b) (h1 : Can w x q.num.natAbs k) (h2 : Can w y q.den k) : CanF w (.agg #[.bool b, x, y]) q k := ⟨x, y, by rw [hb], h1, h2⟩
/-- A canonical fraction that is stored as the result. -/
theorem RCanF.stored {b : Bool} {x y : Value} {p : Bool} {A A' : Option Addr} {m m' e e' : Nat} (hb : decide (q.num < 0) = b) (h1 : Can w2 x q.num.natAbs k) (h2 : Can w2 y q.den k)
    (hF : Fcl w2 g p (.slice A m e) (.slice A' m' e')) (hB : Below w.heap.size w w2) (hg : w.heap.size ≤ g) (z : Value) : RCanF w q k (.returned (.agg #[.bool b, x, y])) (stor3 w2 g z x y) :=
  ⟨_, rfl, CanF.ofParts hb (h1.put3 hF _ _ _) (h2.put3 hF _ _ _), below_put3 hB hg _ _ _⟩
end

section
variable {w : World} {vn vd : Value} {n d k : Nat}
end
end Go.Proofs.YtpbkmkcfhkdjjaaDoor

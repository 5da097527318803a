/- Digits in memory: a segment of a block that holds digits, a slice that owns its digits, a slice whose digits can be read; how these facts go on when the world changes. -/
import Derived.WalkKit
import Derived.Deep.Draws
import Derived.Test.YticakmcjiofhoaaDig
namespace Go.Proofs.Yticakmcjiofhoaa
open Go.RowKit Dig

/-- Digits as values. -/
def U (xs : List Nat) : List Value := xs.map fun (d : Nat) => Value.int .u32 (d : Int)
theorem U_length (xs : List Nat) : (U xs).length = xs.length := by simp [U]
theorem U_append (xs ys : List Nat) : U (xs ++ ys) = U xs ++ U ys := by simp [U]
theorem U_get (xs : List Nat) (j : Nat) (h : j < xs.length) : (U xs)[j]? = some (.int .u32 ((xs.getD j 0 : Nat) : Int)) := by
  simp [U, List.getD_eq_getElem?_getD, List.getElem?_eq_getElem h]
theorem U_set (xs : List Nat) (j v : Nat) : (U xs).set j (.int .u32 (v : Int)) = U (xs.set j v) := by simp [U, List.map_set]
theorem U_replicate (n : Nat) : U (List.replicate n 0) = List.replicate n (.int .u32 0) := by simp [U]
theorem U_take (xs : List Nat) (k : Nat) : (U xs).take k = U (xs.take k) := by simp [U, List.map_take]
theorem U_oneCell (xs : List Nat) : ∀ u ∈ U xs, u.oneCell' = true := by
  intro u hu
  simp only [U, List.mem_map] at hu
  obtain ⟨d, _, rfl⟩ := hu
  rfl

/-- Block g holds, between two lists of values, the digits xs; none of its cells is frozen. -/
def Seg (w : World) (g : Nat) (pre : List Value) (xs : List Nat) (post : List Value) : Prop := w.heap[g]? = some (.cells (pre ++ U xs ++ post).toArray 50 (0, 0))

section
variable {w w' : World} {g : Nat} {pre post : List Value} {xs : List Nat}
theorem Seg.lt (h : Seg w g pre xs post) : g < w.heap.size := by
  rcases Nat.lt_or_ge g w.heap.size with hlt | hge
  · exact hlt
  · unfold Seg at h; rw [Array.getElem?_eq_none hge] at h; cases h
theorem Seg.frozen (h : Seg w g pre xs post) (i : Nat) : w.frozen? ⟨g, i, none⟩ = false := by
  unfold Seg at h
  simp [World.frozen?, h]
theorem Seg.cell (h : Seg w g pre xs post) {j : Nat} (hj : j < xs.length) : w.cell? ⟨g, pre.length + j, none⟩ = some (.int .u32 ((xs.getD j 0 : Nat) : Int)) := by
  rw [cell_of_row w g _ _ _ (0, 0) h]
  rw [List.getElem?_toArray, List.append_assoc, List.getElem?_append_right (by omega), Nat.add_sub_cancel_left, List.getElem?_append_left (by rw [U_length]; exact hj)]
  exact U_get xs j hj
theorem Seg.set (h : Seg w g pre xs post) (j v : Nat) (hj : j < xs.length) : Seg (w.setCell ⟨g, pre.length + j, none⟩ (.int .u32 (v : Int))) g pre (xs.set j v) post := by
  unfold Seg at h ⊢
  simp only [World.setCell, Array.getElem?_modify, h]
  simp only [if_true, Option.map_some, Option.some.injEq, Obj.cells.injEq, and_true, List.setIfInBounds_toArray]
  rw [List.append_assoc, List.set_append_right _ _ (by omega), Nat.add_sub_cancel_left, List.set_append_left _ _ (by rw [U_length]; exact hj), U_set, ← List.append_assoc]
  simp
theorem Seg.of_block (h : Seg w g pre xs post) (e : w'.heap[g]? = w.heap[g]?) : Seg w' g pre xs post := by
  unfold Seg at h ⊢
  rw [e]
  exact h
theorem Seg.alloc (h : Seg w g pre xs post) (o : Obj) : Seg (w.alloc o) g pre xs post := h.of_block (Below.heap_alloc w o g h.lt)
theorem Seg.drewN (h : Seg w g pre xs post) (n : Nat) : Seg (w.drewN n) g pre xs post := h
theorem Seg.far (h : Seg w g pre xs post) {p : Addr} (hp : g ≠ p.block) (u : Value) : Seg (w.setCell p u) g pre xs post := h.of_block (Below.heap_setCell w p u g hp)
theorem Seg.below {B : Nat} (h : Seg w g pre xs post) (hb : Below B w w') (hg : g < B) : Seg w' g pre xs post := h.of_block (hb.block g hg)
theorem Seg.grown {row : Option Nat} (h : Seg w g pre xs post) (hb : w.grownBy w' row) (hg : some g ≠ row) : Seg w' g pre xs post := h.of_block (hb.block g h.lt hg)
/-- The first part of a segment is a segment. -/
theorem Seg.left {ys : List Nat} (h : Seg w g pre (xs ++ ys) post) : Seg w g pre xs (U ys ++ post) := by
  unfold Seg at h ⊢
  rw [h, U_append]
  simp
theorem Seg.right {ys : List Nat} (h : Seg w g pre (xs ++ ys) post) : Seg w g (pre ++ U xs) ys post := by
  unfold Seg at h ⊢
  rw [h, U_append]
  simp
theorem Seg.ofLeft {ys : List Nat} (h : Seg w g pre xs (U ys ++ post)) : Seg w g pre (xs ++ ys) post := by
  unfold Seg at h ⊢
  rw [h, U_append]
  simp
theorem Seg.ofRight {ys : List Nat} (h : Seg w g (pre ++ U xs) ys post) : Seg w g pre (xs ++ ys) post := by
  unfold Seg at h ⊢
  rw [h, U_append]
  simp
end

/-- A slice whose elements are the digits xs, which can be read. -/
def Num (w : World) (v : Value) (xs : List Nat) : Prop :=
  ∃ A c, v = .slice A xs.length c ∧ (xs.length ≤ c ∧ (A = none → c = 0)) ∧ c ≤ maxLen ∧ Small xs ∧
    (0 < xs.length → ∃ b off, A = some ⟨b, off, none⟩ ∧ b < w.heap.size ∧ ∀ j, j < xs.length → w.cell? ⟨b, off + j, none⟩ = some (.int .u32 ((xs.getD j 0 : Nat) : Int)))

/-- A slice that owns its digits: nil, or the head of a block from 'base' on that nobody else holds. -/
def Own (base : Nat) (w : World) (v : Value) (xs : List Nat) : Prop :=
  Small xs ∧ ((v = .slice none 0 0 ∧ xs = []) ∨
    ∃ g rest, v = .slice (some ⟨g, 0, none⟩) xs.length (xs.length + rest.length) ∧ base ≤ g ∧ xs.length + rest.length ≤ maxLen ∧ Seg w g [] xs rest)

section
variable {w w' : World} {v : Value} {xs : List Nat} {base : Nat}
theorem Num.small (h : Num w v xs) : Small xs := by obtain ⟨_, _, _, _, _, h, _⟩ := h; exact h
theorem Num.nil (w : World) : Num w (.slice none 0 0) [] := ⟨none, 0, rfl, ⟨Nat.le_refl _, fun _ => rfl⟩, by unfold maxLen; omega, Small.nil, fun h => absurd h (by simp)⟩
theorem Num.keep (h : Num w v xs) (hs : w.heap.size ≤ w'.heap.size) (hk : ∀ b o, b < w.heap.size → w'.cell? ⟨b, o, none⟩ = w.cell? ⟨b, o, none⟩) : Num w' v xs := by
  obtain ⟨A, c, h1, h2, h3, h4, h5⟩ := h
  refine ⟨A, c, h1, h2, h3, h4, fun hp => ?_⟩
  obtain ⟨b, off, e, hb, hc⟩ := h5 hp
  exact ⟨b, off, e, by omega, fun j hj => (hk _ _ hb).trans (hc j hj)⟩
theorem Num.below (h : Num w v xs) (hb : Below w.heap.size w w') : Num w' v xs := h.keep hb.size fun b o hlt => hb.cell (p := ⟨b, o, none⟩) hlt
theorem Num.drewN (h : Num w v xs) (n : Nat) : Num (w.drewN n) v xs := h
theorem Num.alloc (h : Num w v xs) (o : Obj) : Num (w.alloc o) v xs := h.below ((Below.refl _ _).alloc (Nat.le_refl _) o)
theorem Own.small (h : Own base w v xs) : Small xs := h.1
theorem Own.nil (base : Nat) (w : World) : Own base w (.slice none 0 0) [] := ⟨Small.nil, .inl ⟨rfl, rfl⟩⟩
theorem Own.num (h : Own base w v xs) : Num w v xs := by
  obtain ⟨hs, h⟩ := h
  rcases h with ⟨rfl, rfl⟩ | ⟨g, rest, rfl, hb, hm, hg⟩
  · exact Num.nil w
  · exact ⟨_, _, rfl, ⟨by omega, fun e => by simp at e⟩, hm, hs, fun _ => ⟨g, 0, rfl, hg.lt, fun j hj => by have := hg.cell hj; simpa using this⟩⟩
theorem Own.mono {base' : Nat} (h : Own base w v xs) (hb : base' ≤ base) : Own base' w v xs := by
  obtain ⟨hs, h⟩ := h
  refine ⟨hs, ?_⟩
  rcases h with h | ⟨g, rest, e, hg, hm, hh⟩
  · exact .inl h
  · exact .inr ⟨g, rest, e, by omega, hm, hh⟩
/-- The first digits of what is owned are owned. -/
theorem Own.take {k : Nat} {c : Nat} {g : Nat} (h : Own base w (.slice (some ⟨g, 0, none⟩) xs.length c) xs) (hk : k ≤ xs.length) : Own base w (.slice (some ⟨g, 0, none⟩) k c) (xs.take k) := by
  obtain ⟨hs, h⟩ := h
  rcases h with ⟨h, _⟩ | ⟨g', rest, e, hg, hm, hh⟩
  · simp at h
  · simp only [Value.slice.injEq, Option.some.injEq, Addr.mk.injEq, and_true, true_and] at e
    obtain ⟨rfl, rfl⟩ := e
    refine ⟨hs.take k, .inr ⟨g, U (xs.drop k) ++ rest, ?_, hg, ?_, ?_⟩⟩
    · simp [U_length, Nat.min_eq_left hk]; omega
    · simp [U_length, Nat.min_eq_left hk]; omega
    · have : Seg w g [] (xs.take k ++ xs.drop k) rest := by rw [List.take_append_drop]; exact hh
      exact this.left
theorem Own.below {B : Nat} (h : Own base w v xs) (hb : Below B w w') (hB : w.heap.size ≤ B) : Own base w' v xs := by
  obtain ⟨hs, h⟩ := h
  refine ⟨hs, ?_⟩
  rcases h with h | ⟨g, rest, e, hg, hm, hh⟩
  · exact .inl h
  · exact .inr ⟨g, rest, e, hg, hm, hh.below hb (by have := hh.lt; omega)⟩
theorem Own.drewN (h : Own base w v xs) (n : Nat) : Own base (w.drewN n) v xs := h
theorem Own.ownsRow (h : Own base w v xs) : w.ownsRow base 50 1 v xs.length (U xs) := by
  obtain ⟨hs, h⟩ := h
  rcases h with ⟨rfl, rfl⟩ | ⟨g, rest, rfl, hg, hm, hh⟩
  · exact World.ownsRow_nil w base _ 1
  · exact ⟨by simp [U_length], .inr ⟨g, _, _, rfl, hg, hh, by omega, hm, by simp [U_length], by simp [U_length]⟩⟩
theorem Own.of_ownsRow (h : w.ownsRow base 50 1 v xs.length (U xs)) (hs : Small xs) : Own base w v xs := by
  refine ⟨hs, ?_⟩
  rcases h.2 with ⟨rfl, hl⟩ | ⟨g, cap, cur, rfl, hb, hh, hn, hm, hz, ht⟩
  · exact .inl ⟨rfl, List.eq_nil_of_length_eq_zero hl⟩
  · have hl : cur.toList.length = cap := by simpa using hz
    have e : cur.toList = U xs ++ cur.toList.drop xs.length := by
      conv => lhs; rw [← List.take_append_drop xs.length cur.toList]
      rw [Nat.mul_one] at ht
      rw [ht]
    refine .inr ⟨g, cur.toList.drop xs.length, ?_, hb, ?_, ?_⟩
    · rw [List.length_drop, hl, Nat.add_sub_cancel' hn]
    · rw [List.length_drop, hl, Nat.add_sub_cancel' hn]; exact hm
    · unfold Seg
      rw [hh, List.nil_append, ← e]
end

/-- A call that hands back a number of its own, and leaves what was there. -/
def RNat (w : World) (n : Nat) (e : Ending) (w' : World) : Prop := ∃ r, e = .returned r ∧ Own w.heap.size w' r (dg n) ∧ Below w.heap.size w w'
end Go.Proofs.Yticakmcjiofhoaa

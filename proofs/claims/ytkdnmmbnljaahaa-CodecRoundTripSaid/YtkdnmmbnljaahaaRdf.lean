/- A reader beside fractions in memory; what a reader hands back as a fraction. -/
import Derived.Test.YtkdnmmbnljaahaaRdn
import Derived.Test.YtkdnmmbnljaahaaRatF
import Derived.Test.YtkdnmmbnljaahaaRefI
namespace Go.Proofs.Ytkdnmmbnljaahaa
open Go.RowKit Dig
set_option linter.unusedVariables false

/-- Is this the canonical form? -/
def canonN (neg : Bool) (n d : Nat) : Bool := canon neg (dg n) (dg d)
/-- A fraction that was read, or the zero value. -/
def FxO (w : World) (v : Value) : Option (Bool × Nat × Nat) → Prop
  | none => Fx w v false [] []
  | some (b, n, d) => Fx w v b (dg n) (dg d)
/-- A reader's method that hands back a fraction. -/
def RRF (T : TypeId) (g : Nat) (w : World) (p : Option (Bool × Nat × Nat) × RS) (e : Ending) (w' : World) : Prop := ∃ r, e = .returned r ∧ FxO w' r p.1 ∧ Rdr T w' g p.2 ∧ w.grownBy w' (some g)
section
variable {w w' W W2 : World} {g g' gR ga i : Nat} {v u : Value} {ts : List UInt8} {xs : List Nat} {p b : Bool} {A A' : Option Addr} {m m' e e' : Nat} {T : TypeId} {s s2 : RS}
theorem Byt.keepF (h : Byt w v ts) (hF : Fcl w g p (.slice A m e) (.slice A' m' e')) (hs : w.heap.size ≤ w'.heap.size) (hk : ∀ j, j ≠ g → w'.heap[j]? = w.heap[j]?) : Byt w' v ts := by
  obtain ⟨B, c, h1, h2, h3, h5⟩ := h
  refine ⟨B, c, h1, h2, h3, fun hp => ?_⟩
  obtain ⟨b, off, e1, hb, hc⟩ := h5 hp
  have hne : b ≠ g := by
    rintro rfl
    have h0 := hc 0 hp
    unfold Fcl at hF
    rw [cell_of_row w b _ _ _ (0, 0) hF] at h0
    rcases hoff : off + 0 with _ | _ | _ | q <;> rw [hoff] at h0 <;> simp at h0
  refine ⟨b, off, e1, by omega, fun j hj => ?_⟩
  rw [← hc j hj]
  simp only [World.cell?, hk b hne]
theorem Rdr.keepF (h : Rdr T w g' s) (hF : Fcl w g p (.slice A m e) (.slice A' m' e')) (hs : w.heap.size ≤ w'.heap.size) (hk : ∀ j, j ≠ g → w'.heap[j]? = w.heap[j]?) : Rdr T w' g' s := by
  obtain ⟨⟨B, n, c, h1, h2⟩, h3⟩ := h
  have hne : g' ≠ g := by
    rintro rfl
    unfold Fcl at hF
    rw [h1] at hF
    have := congrArg (fun o => match o with | some (Obj.cells cs _ _) => cs.size | _ => 0) hF
    simp at this
  exact ⟨⟨B, n, c, by rw [hk g' hne]; exact h1, h2.keepF hF hs hk⟩, h3⟩
theorem set_heap (w : World) (g i : Nat) (u : Value) : ∀ j, j ≠ g → (w.setCell ⟨g, i, none⟩ u).heap[j]? = w.heap[j]? := fun j hj => Below.heap_setCell w ⟨g, i, none⟩ u j hj
theorem set_size (w : World) (g i : Nat) (u : Value) : (w.setCell ⟨g, i, none⟩ u).heap.size = w.heap.size := by simp [World.setCell]
theorem Fcl.put1 {x y : Value} (hF : Fcl w g p x y) (u : Value) : Fcl (w.setCell ⟨g, 1, none⟩ u) g p u y := by
  unfold Fcl at hF ⊢
  simp [World.setCell, Array.getElem?_modify, hF]
theorem Fcl.put2 {x y : Value} (hF : Fcl w g p x y) (u : Value) : Fcl (w.setCell ⟨g, 2, none⟩ u) g p x u := by
  unfold Fcl at hF ⊢
  simp [World.setCell, Array.getElem?_modify, hF]
theorem grown_new {row : Option Nat} (h : w.grownBy w' row) (hg : w.heap.size ≤ ga) (i : Nat) (u : Value) : w.grownBy (w'.setCell ⟨ga, i, none⟩ u) row :=
  ⟨h.os, h.tape, h.output, by rw [set_size]; exact h.size, fun k hk hne => (set_heap w' ga i u k (by omega)).trans (h.block k hk hne)⟩
theorem grown_stor3 {row : Option Nat} (h : w.grownBy w' row) (hg : w.heap.size ≤ ga) (a b c : Value) : w.grownBy (stor3 w' ga a b c) row := grown_new (grown_new (grown_new h hg 0 a) hg 1 b) hg 2 c
theorem Fcl.grow1 {x y : Value} {o : Option Nat} (h : Fcl w g b x y) (hg : w.grownBy w' o) (hne : o ≠ Option.some g) : Fcl w' g b x y := h.of_block (hg.block g h.lt (Ne.symm hne))
/-- The state of a reading function: the reader, the result's block, nothing else turned. -/
def FSt (T : TypeId) (w : World) (g gR : Nat) (s : RS) (W : World) : Prop := Rdr T W g s ∧ Fcl W gR false (.slice none 0 0) (.slice none 0 0) ∧ w.grownBy W (some g) ∧ g < gR ∧ w.heap.size ≤ gR
theorem FSt.call (h : FSt T w g gR s W) (hR : Rdr T W2 g s2) (hG : W.grownBy W2 (some g)) : FSt T w g gR s2 W2 :=
  ⟨hR, h.2.1.grow1 hG (by have := h.2.2.2.1; simp; omega), grown_then h.2.2.1 hG, h.2.2.2⟩
theorem FSt.below (h : FSt T w g gR s W) (hB : Below W.heap.size W W2) : FSt T w g gR s W2 :=
  ⟨h.1.below hB, h.2.1.below hB, grown_then h.2.2.1 (grown_of_below hB), h.2.2.2⟩
theorem FSt.set (h : FSt T w g gR s W) (hF : Fcl W ga p (.slice A m e) (.slice A' m' e')) (hne : gR ≠ ga) (hg : w.heap.size ≤ ga) (i : Nat) (u : Value) : FSt T w g gR s (W.setCell ⟨ga, i, none⟩ u) :=
  ⟨h.1.keepF hF (by rw [set_size]; exact Nat.le_refl _) (set_heap W ga i u), h.2.1.of_block (set_heap W ga i u gR hne), grown_new h.2.2.1 hg i u, h.2.2.2⟩
theorem FSt.new (h : Rdr T w g s) : FSt T w g w.heap.size s (w.alloc (.cells #[.bool false, .slice none 0 0, .slice none 0 0] 28)) :=
  have hB : Below w.heap.size w (w.alloc (.cells #[.bool false, .slice none 0 0, .slice none 0 0] 28)) := (Below.refl _ _).alloc (Nat.le_refl _) _
  ⟨h.below hB, Fcl.new w _ _ _, grown_of_below hB, h.lt, Nat.le_refl _⟩
/-- The zero value is handed back. -/
theorem FSt.zero (h : FSt T w g gR s W) : RRF T g w (none, s) (.returned (.agg #[.bool false, .slice none 0 0, .slice none 0 0])) (stor3 W gR (.bool false) (.slice none 0 0) (.slice none 0 0)) :=
  ⟨_, rfl, Fx.zero _, h.1.keepF h.2.1 (by rw [put3_size]; exact Nat.le_refl _) (put3_heap W gR _ _ _), grown_stor3 h.2.2.1 h.2.2.2.2 _ _ _⟩
/-- A fraction is handed back. -/
theorem FSt.some {n d : Nat} (h : FSt T w g gR s W) (hx : Num W (.slice A m e) (dg n)) (hy : Num W (.slice A' m' e') (dg d)) : RRF T g w (some (b, n, d), s) (.returned (.agg #[.bool b, .slice A m e, .slice A' m' e'])) (stor3 W gR (.bool b) (.slice A m e) (.slice A' m' e')) :=
  ⟨_, rfl, ⟨_, _, rfl, hx.keepBut h.2.1 (by rw [put3_size]; exact Nat.le_refl _) (put3_heap W gR _ _ _), hy.keepBut h.2.1 (by rw [put3_size]; exact Nat.le_refl _) (put3_heap W gR _ _ _)⟩, h.1.keepF h.2.1 (by rw [put3_size]; exact Nat.le_refl _) (put3_heap W gR _ _ _), grown_stor3 h.2.2.1 h.2.2.2.2 _ _ _⟩
end
end Go.Proofs.Ytkdnmmbnljaahaa

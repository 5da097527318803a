/- The contract of evalPair of package poly. -/
import Derived.Test.YtpmjhkpjhfpfpaaRatD
import Derived.Test.YtpmjhkpjhfpfpaaPlyA
namespace Go.Proofs.Ytpmjhkpjhfpfpaa
open Go.RowKit Dig
set_option linter.unusedVariables false

theorem Fcl.new4 (w : World) (o o2 o3 : Obj) (b : Bool) (x y : Value) : Fcl ((((w.alloc o).alloc o2).alloc o3).alloc (.cells #[.bool b, x, y] 29)) (w.heap.size + 1 + 1 + 1) b x y := by
  have := Fcl.new (((w.alloc o).alloc o2).alloc o3) b x y
  rwa [show (((w.alloc o).alloc o2).alloc o3).heap.size = w.heap.size + 1 + 1 + 1 by show (Array.push (Array.push (Array.push _ _) _) _).size = _; simp] at this
theorem below_alloc4 (w : World) (o o2 o3 o4 : Obj) : Below w.heap.size w ((((w.alloc o).alloc o2).alloc o3).alloc o4) := (below_alloc3 w o o2 o3).alloc (by show w.heap.size ≤ (Array.push (Array.push (Array.push _ _) _) _).size; simp; omega) o4
theorem conj_rrr {w : World} {g0 g1 g2 : Nat} {b0 b1 b2 : Bool} {x0 x1 x2 y0 y1 y2 : Value} (h0 : Fcl w g0 b0 x0 y0) (h1 : Fcl w g1 b1 x1 y1) (h2 : Fcl w g2 b2 x2 y2) :
    w.cell? ⟨g0, 0, none⟩ = some (.bool b0) ∧ w.cell? ⟨g0, 1, none⟩ = some x0 ∧ w.cell? ⟨g0, 2, none⟩ = some y0 ∧
    w.cell? ⟨g1, 0, none⟩ = some (.bool b1) ∧ w.cell? ⟨g1, 1, none⟩ = some x1 ∧ w.cell? ⟨g1, 2, none⟩ = some y1 ∧
    w.cell? ⟨g2, 0, none⟩ = some (.bool b2) ∧ w.cell? ⟨g2, 1, none⟩ = some x2 ∧ w.cell? ⟨g2, 2, none⟩ = some y2 :=
  ⟨h0.cells.1, h0.cells.2.1, h0.cells.2.2, h1.cells.1, h1.cells.2.1, h1.cells.2.2, h2.cells.1, h2.cells.2.1, h2.cells.2.2⟩
theorem four_boxes (w : World) (b0 b1 b2 : Bool) (x0 y0 x1 y1 x2 y2 : Value) :
    ∃ w2 g0 g1 g2 g3, (((w.alloc (.cells #[.bool b0, x0, y0] 29)).alloc (.cells #[.bool b1, x1, y1] 29)).alloc (.cells #[.bool b2, x2, y2] 29)).alloc (.cells #[.bool false, .slice none 0 0, .slice none 0 0] 29) = w2 ∧
      w.heap.size = g0 ∧ g0 + 1 = g1 ∧ g1 + 1 = g2 ∧ g2 + 1 = g3 ∧ Below w.heap.size w w2 ∧ Fcl w2 g0 b0 x0 y0 ∧ Fcl w2 g1 b1 x1 y1 ∧ Fcl w2 g2 b2 x2 y2 ∧ Fcl w2 g3 false (.slice none 0 0) (.slice none 0 0) :=
  ⟨_, _, _, _, _, rfl, rfl, rfl, rfl, rfl, below_alloc4 w _ _ _ _, (((Fcl.new w b0 x0 y0).alloc _).alloc _).alloc _, ((Fcl.new2 w _ b1 x1 y1).alloc _).alloc _, (Fcl.new3 w _ _ b2 x2 y2).alloc _, Fcl.new4 w _ _ _ false _ _⟩

section
variable {w : World} {va vb vx : Value} {p q x : Rat} {k l m : Nat}
set_option maxHeartbeats 8000000 in
theorem evalPair_p (ha : FracV w va p k) (hb : FracV w vb q l) (hx : FracV w vx x m) (hk : k ≤ 100000) (hl : l + m ≤ 100000) (h1 : 2 ≤ k) (h2 : 2 ≤ l) : Calls Try.prog 60 #[va, vb, vx] w (RCanF w (p + q * x) (k + (l + m) + 1)) := by
  have MU := Lib.hid (fun w1 hB => mulf_v (w := w1) (hb.below hB) (hx.below hB) (by omega) (by omega) h2)
  have AD := Lib.hid (fun w1 y hB (hy : CanF w1 y (q * x) (l + m)) => addf_v (w := w1) (ha.below hB) hy.fracV hk hl h1 (by omega))
  obtain ⟨na, A, ma, ca, A', ma', ca', n, d, rfl, hn, hd, hp⟩ := ha.parts
  obtain ⟨nb, B, i, j, B', i', j', s, t, rfl, hs, ht, hq⟩ := hb.parts
  obtain ⟨nc, C, r, u, C', r', u', y, z, rfl, hy, hz, hx'⟩ := hx.parts
  obtain ⟨w2, g0, g1, g2, g3, ew, eg0, eg1, eg2, eg3, hB0, hF0, hF1, hF2, hF3⟩ := four_boxes w na nb nc (.slice A ma ca) (.slice A' ma' ca') (.slice B i j) (.slice B' i' j') (.slice C r u) (.slice C' r' u')
  have HG := Lib.hid (show w.heap.size ≤ g3 by omega)
  clear hn hd hs ht hp hq hy hz hx' ha hb hx hk hl h1 h2
  go_enter Try.func60, Try.ntmps60
  go_wp2_with fail
  have hK : Below w2.heap.size w2 w2 := Below.refl _ _
  have hS0 := conj_rrr hF0 hF1 hF2
  have hne0 : g0 ≠ g3 := by omega
  have hne1 : g1 ≠ g3 := by omega
  have hne2 : g2 ≠ g3 := by omega
  go_region_held3 (fun w' => w'.cell? ⟨g0, 0, none⟩ = some (.bool na) ∧ w'.cell? ⟨g0, 1, none⟩ = some (.slice A ma ca) ∧ w'.cell? ⟨g0, 2, none⟩ = some (.slice A' ma' ca') ∧ w'.cell? ⟨g1, 0, none⟩ = some (.bool nb) ∧ w'.cell? ⟨g1, 1, none⟩ = some (.slice B i j) ∧ w'.cell? ⟨g1, 2, none⟩ = some (.slice B' i' j') ∧ w'.cell? ⟨g2, 0, none⟩ = some (.bool nc) ∧ w'.cell? ⟨g2, 1, none⟩ = some (.slice C r u) ∧ w'.cell? ⟨g2, 2, none⟩ = some (.slice C' r' u')) (first | with_reducible exact conj_rrr hF0 hF1 hF2 | with_reducible exact conj_rrr (hF0.below hK) (hF1.below hK) (hF2.below hK) | exact hS0 | exact conj_rrr ((hF0.below hK).far hne0 _ _ _) ((hF1.below hK).far hne1 _ _ _) ((hF2.below hK).far hne2 _ _ _)) (first | (go_at_call 39; refine (MU.out _ hB0.drew).mono ?_; rintro e w3 ⟨x, rfl, hx, hB3⟩; have hK := below_undrew hB3) | (go_at_call 40; refine (AD.out _ _ (below_then hB0 hK) hx).mono ?_; rintro e w5 ⟨v, rfl, hv, hB5⟩; obtain ⟨b, D, o, f, D', o', f', rfl, hb, hvx, hvy⟩ := hv.parts; have hK := below_then hK hB5; obtain ⟨c0, c1, c2⟩ := (hF3.below hK).cells; obtain ⟨f0, f1, f2⟩ := (hF3.below hK).frozen))
  go_wp2_with fail
  refine bodyPost_ret (v := .agg #[.bool b, .slice D o f, .slice D' o' f']) (by rw [results_one rfl]; go_simp) rfl ?_
  exact RCanF.stored hb hvx hvy (hF3.below hK) (below_then hB0 hK) HG.out _
end
end Go.Proofs.Ytpmjhkpjhfpfpaa

/- The contracts of Normalize, Neg, Mul of package rational. -/
import Derived.Deep.RegionHeld3
import Derived.Test.YtgjhgpfjeoeojaaDoorRatA
namespace Go.Proofs.YtgjhgpfjeoeojaaDoor
open Go.RowKit Dig
set_option linter.unusedVariables false

section
variable {w w' : World} {v : Value} {q : Rat} {k : Nat}
theorem FracV.parts (h : FracV w v q k) : ∃ neg A m c A' m' c' n d, v = .agg #[.bool neg, .slice A m c, .slice A' m' c'] ∧ NumV w (.slice A m c) n k ∧ NumV w (.slice A' m' c') d k ∧ fr neg n d = q := by
  obtain ⟨neg, vn, vd, n, d, rfl, hn, hd, hq⟩ := h
  obtain ⟨A, m, c, rfl⟩ := hn.form
  obtain ⟨A', m', c', rfl⟩ := hd.form
  exact ⟨neg, A, m, c, A', m', c', n, d, rfl, hn, hd, hq⟩
theorem Fcl.new2 (w : World) (o : Obj) (b : Bool) (x y : Value) : Fcl ((w.alloc o).alloc (.cells #[.bool b, x, y] 25)) (w.heap.size + 1) b x y := by
  have := Fcl.new (w.alloc o) b x y
  rwa [show (w.alloc o).heap.size = w.heap.size + 1 by show (Array.push _ _).size = _; simp] at this
theorem Fcl.new3 (w : World) (o o2 : Obj) (b : Bool) (x y : Value) : Fcl (((w.alloc o).alloc o2).alloc (.cells #[.bool b, x, y] 25)) (w.heap.size + 1 + 1) b x y := by
  have := Fcl.new2 (w.alloc o) o2 b x y
  rwa [show (w.alloc o).heap.size = w.heap.size + 1 by show (Array.push _ _).size = _; simp] at this
theorem below_alloc2 (w : World) (o o2 : Obj) : Below w.heap.size w ((w.alloc o).alloc o2) := ((Below.refl _ _).alloc (Nat.le_refl _) o).alloc (by show w.heap.size ≤ (Array.push _ _).size; simp) o2
theorem below_alloc3 (w : World) (o o2 o3 : Obj) : Below w.heap.size w (((w.alloc o).alloc o2).alloc o3) := (below_alloc2 w o o2).alloc (by show w.heap.size ≤ (Array.push (Array.push _ _) _).size; simp; omega) o3

set_option maxHeartbeats 1000000 in
theorem normf_v (h : FracV w v q k) (hk : k ≤ 400000) (h1 : 2 ≤ k) : Calls Tryd.prog 17 #[v] w (RCanF w q k) := by
  obtain ⟨neg, A, m, c, A', m', c', n, d, rfl, hn, hd, hq⟩ := h.parts
  have R0 := Lib.hid (Fcl.new2 w (.cells #[.bool neg, .slice A m c, .slice A' m' c'] 25) false (.slice none 0 0) (.slice none 0 0))
  have hB0 := below_alloc2 w (.cells #[.bool neg, .slice A m c, .slice A' m' c'] 25) (.cells #[.bool false, .slice none 0 0, .slice none 0 0] 25)
  have RD := fun w1 hB => reduce_v (w := w1) neg (hn.below hB) (hd.below hB) hk h1
  rw [hq] at RD
  have RR := Lib.hid RD
  clear RD hn hd hq h
  go_enter Tryd.func17, Tryd.ntmps17
  go_wp2_with fail
  refine (RR.out _ hB0).mono ?_
  rintro e w1 ⟨v, rfl, hv, hB1⟩
  have R1 := R0.out.below hB1
  have hB1 := below_then hB0 hB1
  obtain ⟨b, B, i, j, B', i', j', rfl, hb, hx, hy⟩ := hv.parts
  obtain ⟨c0, c1, c2⟩ := R1.cells
  obtain ⟨f0, f1, f2⟩ := R1.frozen
  have HR := Lib.hid R1
  have HX := Lib.hid hx
  have HY := Lib.hid hy
  have HBB := Lib.hid hb
  clear R1 hx hy hv hb
  go_wp2_with fail
  refine bodyPost_ret (v := .agg #[.bool b, .slice B i j, .slice B' i' j']) (by rw [results_one rfl]; go_simp) rfl ?_
  exact RCanF.stored HBB.out HX.out HY.out HR.out hB1 (by omega) _

set_option maxHeartbeats 1000000 in
theorem negf_v (h : FracV w v q k) (hk : k ≤ 400000) (h1 : 2 ≤ k) : Calls Tryd.prog 14 #[v] w (RCanF w (-q) k) := by
  obtain ⟨neg, A, m, c, A', m', c', n, d, rfl, hn, hd, hq⟩ := h.parts
  have R0 := Lib.hid (Fcl.new2 w (.cells #[.bool neg, .slice A m c, .slice A' m' c'] 25) false (.slice none 0 0) (.slice none 0 0))
  have hB0 := below_alloc2 w (.cells #[.bool neg, .slice A m c, .slice A' m' c'] 25) (.cells #[.bool false, .slice none 0 0, .slice none 0 0] 25)
  have RD := fun w1 hB => reduce_v (w := w1) (!neg) (hn.below hB) (hd.below hB) hk h1
  rw [← fr_neg, hq] at RD
  have RR := Lib.hid RD
  clear RD hn hd hq h
  go_enter Tryd.func14, Tryd.ntmps14
  go_wp2_with fail
  refine (RR.out _ hB0).mono ?_
  rintro e w1 ⟨v, rfl, hv, hB1⟩
  have R1 := R0.out.below hB1
  have hB1 := below_then hB0 hB1
  obtain ⟨b, B, i, j, B', i', j', rfl, hb, hx, hy⟩ := hv.parts
  obtain ⟨c0, c1, c2⟩ := R1.cells
  obtain ⟨f0, f1, f2⟩ := R1.frozen
  have HR := Lib.hid R1
  have HX := Lib.hid hx
  have HY := Lib.hid hy
  have HBB := Lib.hid hb
  clear R1 hx hy hv hb
  go_wp2_with fail
  refine bodyPost_ret (v := .agg #[.bool b, .slice B i j, .slice B' i' j']) (by rw [results_one rfl]; go_simp) rfl ?_
  exact RCanF.stored HBB.out HX.out HY.out HR.out hB1 (by omega) _
end

/-- The cells of two fractions that are read, as the walk asks for them. -/
theorem conj_rr {w : World} {g0 g1 : Nat} {b0 b1 : Bool} {x0 x1 y0 y1 : Value} (h0 : Fcl w g0 b0 x0 y0) (h1 : Fcl w g1 b1 x1 y1) :
    w.cell? ⟨g0, 0, none⟩ = some (.bool b0) ∧ w.cell? ⟨g0, 1, none⟩ = some x0 ∧ w.cell? ⟨g0, 2, none⟩ = some y0 ∧
    w.cell? ⟨g1, 0, none⟩ = some (.bool b1) ∧ w.cell? ⟨g1, 1, none⟩ = some x1 ∧ w.cell? ⟨g1, 2, none⟩ = some y1 :=
  ⟨h0.cells.1, h0.cells.2.1, h0.cells.2.2, h1.cells.1, h1.cells.2.1, h1.cells.2.2⟩
theorem Fcl.far {w : World} {g g2 : Nat} {b : Bool} {x y : Value} (h : Fcl w g b x y) (hne : g ≠ g2) (z u v : Value) : Fcl (stor3 w g2 z u v) g b x y := h.of_block (put3_heap w g2 z u v g hne)
/-- The boxes of two arguments and of the result. -/
theorem three_boxes (w : World) (b0 b1 : Bool) (x0 y0 x1 y1 : Value) :
    ∃ w2 g0 g1 g2, ((w.alloc (.cells #[.bool b0, x0, y0] 25)).alloc (.cells #[.bool b1, x1, y1] 25)).alloc (.cells #[.bool false, .slice none 0 0, .slice none 0 0] 25) = w2 ∧
      w.heap.size = g0 ∧ g0 + 1 = g1 ∧ g1 + 1 = g2 ∧ Below w.heap.size w w2 ∧ Fcl w2 g0 b0 x0 y0 ∧ Fcl w2 g1 b1 x1 y1 ∧ Fcl w2 g2 false (.slice none 0 0) (.slice none 0 0) :=
  ⟨_, _, _, _, rfl, rfl, rfl, rfl, below_alloc3 w _ _ _, ((Fcl.new w b0 x0 y0).alloc _).alloc _, (Fcl.new2 w _ b1 x1 y1).alloc _, Fcl.new3 w _ _ false _ _⟩

section
variable {w : World} {va vb : Value} {p q : Rat} {k l : Nat}
set_option maxHeartbeats 4000000 in
theorem mulf_v (ha : FracV w va p k) (hb : FracV w vb q l) (hk : k ≤ 100000) (hl : l ≤ 100000) (h1 : 2 ≤ k) : Calls Tryd.prog 19 #[va, vb] w (RCanF w (p * q) (k + l)) := by
  obtain ⟨na, A, m, c, A', m', c', n, d, rfl, hn, hd, hp⟩ := ha.parts
  obtain ⟨nb, B, i, j, B', i', j', s, t, rfl, hs, ht, hq⟩ := hb.parts
  obtain ⟨w2, g0, g1, g2, ew, eg0, eg1, eg2, hB0, hF0, hF1, hF2⟩ := three_boxes w na nb (.slice A m c) (.slice A' m' c') (.slice B i j) (.slice B' i' j')
  have M1 := Lib.hid (fun w1 hB => mul_w (w := w1) (hn.below hB) (hs.below hB) (by omega) (by omega))
  have M2 := Lib.hid (fun w1 hB => mul_w (w := w1) (hd.below hB) (ht.below hB) (by omega) (by omega))
  have RD := fun w1 x y (hx : Can w1 x (n * s) (k + l)) (hy : Can w1 y (d * t) (k + l)) => reduce_v (w := w1) (na != nb) hx.numV hy.numV (by omega) (by omega)
  rw [← fr_mul, hp, hq] at RD
  have RR := Lib.hid RD
  have HG := Lib.hid (show w.heap.size ≤ g2 by omega)
  clear RD hn hd hs ht hp hq ha hb
  go_enter Tryd.func19, Tryd.ntmps19
  go_wp2_with fail

  have hK : Below w2.heap.size w2 w2 := Below.refl _ _
  have hS0 := conj_rr hF0 hF1
  have hne0 : g0 ≠ g2 := by omega
  have hne1 : g1 ≠ g2 := by omega
  go_region_held3 (fun w' => w'.cell? ⟨g0, 0, none⟩ = some (.bool na) ∧ w'.cell? ⟨g0, 1, none⟩ = some (.slice A m c) ∧ w'.cell? ⟨g0, 2, none⟩ = some (.slice A' m' c') ∧ w'.cell? ⟨g1, 0, none⟩ = some (.bool nb) ∧ w'.cell? ⟨g1, 1, none⟩ = some (.slice B i j) ∧ w'.cell? ⟨g1, 2, none⟩ = some (.slice B' i' j')) (first | with_reducible exact conj_rr hF0 hF1 | with_reducible exact conj_rr (hF0.below hK) (hF1.below hK) | exact hS0 | exact conj_rr ((hF0.below hK).far hne0 _ _ _) ((hF1.below hK).far hne1 _ _ _)) (first | (go_at_call_of 16 (Value.slice A m c); refine (M1.out _ hB0.drew).mono ?_; rintro e w3 ⟨x, rfl, hx, _, hB3⟩; have hK := below_undrew hB3) | (go_at_call_of 16 (Value.slice A' m' c'); refine (M2.out _ (below_then hB0 hK)).mono ?_; rintro e w4 ⟨y, rfl, hy, _, hB4⟩; have hK := below_then hK hB4) | (go_at_call 22; refine (RR.out _ _ _ (hx.below hB4) hy).mono ?_; rintro e w5 ⟨v, rfl, hv, hB5⟩; obtain ⟨b, C, u, r, C', u', r', rfl, hb, hvx, hvy⟩ := hv.parts; have hK := below_then hK hB5; obtain ⟨c0, c1, c2⟩ := (hF2.below hK).cells; obtain ⟨f0, f1, f2⟩ := (hF2.below hK).frozen))
  go_wp2_with fail
  refine bodyPost_ret (v := .agg #[.bool b, .slice C u r, .slice C' u' r']) (by rw [results_one rfl]; go_simp) rfl ?_
  exact RCanF.stored hb hvx hvy (hF2.below hK) (below_then hB0 hK) HG.out _
end
end Go.Proofs.YtgjhgpfjeoeojaaDoor

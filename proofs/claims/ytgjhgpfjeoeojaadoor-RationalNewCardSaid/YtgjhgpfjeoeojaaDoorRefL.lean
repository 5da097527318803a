/- The contracts of size, FracNew, FracSign of the reference; of credencebase.Frac; of raw and same of the laws. -/
import Derived.Test.YtgjhgpfjeoeojaaDoorRefJ
namespace Go.Proofs.YtgjhgpfjeoeojaaDoor
open Go.RowKit Dig
set_option linter.unusedVariables false

theorem size_v (w : World) (z : Int) (hz : Fits64 z) : Calls Tryd.prog 25 #[.int .i64 z] w (RCan w z.natAbs 2) := by
  unfold Fits64 at hz
  by_cases h : z < 0
  · have e : -(z + 1) + 1 = ((z.natAbs : Nat) : Int) := by omega
    have F := natOf_v (w := w) z.natAbs (by omega)
    rw [← e] at F
    have FF := Lib.hid F
    clear F e
    go_enter Tryd.func25, Tryd.ntmps25
    go_wp2_with fail
    refine (FF.out).mono ?_
    rintro e w1 ⟨x, rfl, hx⟩
    go_wp2_with fail
    go_ret
    exact ⟨_, rfl, hx⟩
  · have e : ((z.natAbs : Nat) : Int) = z := by omega
    have F := natOf_v (w := w) z.natAbs (by omega)
    rw [e] at F
    have FF := Lib.hid F
    clear F e
    go_enter Tryd.func25, Tryd.ntmps25
    go_wp2_with fail
    refine (FF.out).mono ?_
    rintro e w1 ⟨x, rfl, hx⟩
    go_wp2_with fail
    go_ret
    exact ⟨_, rfl, hx⟩
theorem fracNew0_v (w : World) (x : Int) : Calls Tryd.prog 7 #[.int .i64 x, .int .i64 0] w (RErr w 20) := by
  have R0 := Lib.hid (Fcl.new w false (.slice none 0 0) (.slice none 0 0))
  have hB0 : Below w.heap.size w (w.alloc (.cells #[.bool false, .slice none 0 0, .slice none 0 0] 25)) := (Below.refl _ _).alloc (Nat.le_refl _) _
  go_enter Tryd.func7, Tryd.ntmps7
  go_wp2_with fail
  refine bodyPost_ret (v := .tuple #[.agg #[.bool false, .slice none 0 0, .slice none 0 0], .int .i64 20]) (by rw [results_cell_tmp rfl]; go_simp) rfl ?_
  exact ⟨rfl, hB0⟩
theorem fracNew_v (w : World) (x y : Int) (hx : Fits64 x) (hy : Fits64 y) (h0 : y ≠ 0) : Calls Tryd.prog 7 #[.int .i64 x, .int .i64 y] w (RCanE w (frz x y) 2) := by
  have R0 := Lib.hid (Fcl.new w false (.slice none 0 0) (.slice none 0 0))
  have hB0 : Below w.heap.size w (w.alloc (.cells #[.bool false, .slice none 0 0, .slice none 0 0] 25)) := (Below.refl _ _).alloc (Nat.le_refl _) _
  have Mx := Lib.hid (fun w1 => size_v w1 x hx)
  have My := Lib.hid (fun w1 => size_v w1 y hy)
  have hy0 : ((y : Int) == 0) = false := by rw [beq_eq_false_iff_ne]; exact h0
  have RR := Lib.hid (fun w1 u v (hu : Can w1 u x.natAbs 2) (hv : Can w1 v y.natAbs 2) => frac_v (w := w1) (decide (x < 0) != decide (y < 0)) hu.numV hv.numV (by omega) (by omega))
  rw [show fr (decide (x < 0) != decide (y < 0)) x.natAbs y.natAbs = frz x y from rfl] at RR
  clear h0
  go_enter Tryd.func7, Tryd.ntmps7
  go_wp2_with fail
  refine (Mx.out _).mono ?_
  rintro e w1 ⟨u, rfl, hu, _, hB1⟩
  have R1 := R0.out.below hB1
  have hB1 := below_then hB0 hB1
  go_wp2_with fail
  refine (My.out _).mono ?_
  rintro e w2 ⟨v, rfl, hv, _, hB2⟩
  have R2 := R1.below hB2
  have hu := hu.below hB2
  have hB2 := below_then hB1 hB2
  go_wp2_with fail
  refine (RR.out _ _ _ hu hv).mono ?_
  rintro e w3 ⟨z, rfl, hz, hB3⟩
  have R3 := R2.below hB3
  have hB3 := below_then hB2 hB3
  obtain ⟨b, C, o, r, C', o', r', rfl, hb, hvx, hvy⟩ := hz.parts
  obtain ⟨k0, k1, k2⟩ := R3.cells
  obtain ⟨f0, f1, f2⟩ := R3.frozen
  go_wp2_with fail
  refine bodyPost_ret (v := .tuple #[.agg #[.bool b, .slice C o r, .slice C' o' r'], .int .i64 0]) (by rw [results_cell_tmp rfl]; go_simp) rfl ?_
  exact RCanE.stored hb hvx hvy R3 hB3 (Nat.le_refl _) (.bool b)

theorem raw_v (w : World) (neg : Bool) (va vb : Value) (ls ms : List Nat) (ha : Num w va ls) (hb : Num w vb ms) :
    Calls Tryd.prog 15 #[.bool neg, va, vb] w fun e w' => ∃ vn vd, e = .returned (.agg #[.bool neg, vn, vd]) ∧ Num w' vn (mkn ls) ∧ Num w' vd (mkn ms) ∧ Below w.heap.size w w' := by
  have R0 := Lib.hid (Fcl.new w false (.slice none 0 0) (.slice none 0 0))
  have hB0 : Below w.heap.size w (w.alloc (.cells #[.bool false, .slice none 0 0, .slice none 0 0] 25)) := (Below.refl _ _).alloc (Nat.le_refl _) _
  have B1 := Lib.hid (fun w1 hB => baseNum_v (w := w1) (ha.below hB))
  have B2 := Lib.hid (fun w1 hB => baseNum_v (w := w1) (hb.below hB))
  clear ha hb
  go_enter Tryd.func15, Tryd.ntmps15
  go_wp2_with fail
  refine (B1.out _ hB0).mono ?_
  rintro e w1 ⟨x, rfl, hx, hB1⟩
  have R1 := R0.out.below hB1
  have hB1 := below_then hB0 hB1
  go_wp2_with fail
  refine (B2.out _ hB1).mono ?_
  rintro e w2 ⟨y, rfl, hy, hB2⟩
  have R2 := R1.below hB2
  have hx := hx.below hB2
  have hB2 := below_then hB1 hB2
  obtain ⟨A, c, rfl⟩ := hx.form
  obtain ⟨A', c', rfl⟩ := hy.form
  obtain ⟨k0, k1, k2⟩ := R2.cells
  obtain ⟨f0, f1, f2⟩ := R2.frozen
  have HX := Lib.hid hx
  have HY := Lib.hid hy
  clear hx hy
  generalize hm : (mkn ls).length = m at *
  generalize hn : (mkn ms).length = n at *
  go_wp2_with fail
  refine bodyPost_ret (v := .agg #[.bool neg, .slice A m c, .slice A' n c']) (by rw [results_one rfl]; go_simp) rfl ?_
  exact ⟨_, _, rfl, HX.out.keepBut (w' := stor3 w2 w.heap.size (.bool neg) (.slice A m c) (.slice A' n c')) R2 (by rw [put3_size]; exact Nat.le_refl _) (put3_heap _ _ _ _ _), HY.out.keepBut (w' := stor3 w2 w.heap.size (.bool neg) (.slice A m c) (.slice A' n c')) R2 (by rw [put3_size]; exact Nat.le_refl _) (put3_heap _ _ _ _ _), below_put3 hB2 (Nat.le_refl _) _ _ _⟩
section
variable {w : World} {va vb : Value} {na nb : Bool} {xs ys us vs : List Nat} {p q : Rat} {k l : Nat}
theorem same_x (ha : Fx w va na xs ys) (hb : Fx w vb nb us vs) : Calls Tryd.prog 8 #[va, vb] w (RVal w (.bool (decide (na = nb ∧ xs = us ∧ ys = vs)))) := by
  have S := Lib.hid (fun w1 hB => fracSame_v (w := w1) (ha.below hB) (hb.below hB))
  obtain ⟨vn, vd, rfl, hx, hy⟩ := ha
  obtain ⟨vn', vd', rfl, hu, hv⟩ := hb
  clear hx hy hu hv
  generalize decide (na = nb ∧ xs = us ∧ ys = vs) = b at *
  go_enter Tryd.func8, Tryd.ntmps8
  go_wp2_with fail
  refine (S.out _ (below_alloc2 _ _ _)).mono ?_
  rintro e w1 ⟨rfl, hB⟩
  go_wp2_with fail
  go_ret
  exact ⟨rfl, below_then (below_alloc2 _ _ _) hB⟩
theorem same_f (ha : CanF w va p k) (hb : CanF w vb q l) : Calls Tryd.prog 8 #[va, vb] w (RVal w (.bool (decide (p = q)))) := by
  have := same_x ha.fx hb.fx
  rwa [show decide (decide (p.num < 0) = decide (q.num < 0) ∧ dg p.num.natAbs = dg q.num.natAbs ∧ dg p.den = dg q.den) = decide (p = q) from decide_eq_decide.2 ⟨fun h => rat_ext_parts.2 ⟨h.1, dg_inj h.2.1, dg_inj h.2.2⟩, fun h => by rw [h]; exact ⟨rfl, rfl, rfl⟩⟩] at this
theorem same_ft (ha : CanF w va p k) (hb : CanF w vb q l) (h : p = q) : Calls Tryd.prog 8 #[va, vb] w (RVal w (.bool true)) := by
  have := same_f ha hb
  rwa [show decide (p = q) = true from decide_eq_true h] at this
theorem same_zero (w : World) : Calls Tryd.prog 8 #[.agg #[.bool false, .slice none 0 0, .slice none 0 0], .agg #[.bool false, .slice none 0 0, .slice none 0 0]] w (RVal w (.bool true)) := same_x (Fx.zero w) (Fx.zero w)
end
end Go.Proofs.YtgjhgpfjeoeojaaDoor

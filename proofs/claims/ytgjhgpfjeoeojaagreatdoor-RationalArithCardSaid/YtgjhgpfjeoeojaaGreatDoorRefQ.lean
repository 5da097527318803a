/- The contracts of the reference functions FracComplement and FracIsCanonical. -/
import Derived.Test.YtgjhgpfjeoeojaaGreatDoorRefO
namespace Go.Proofs.YtgjhgpfjeoeojaaGreatDoor
set_option linter.unusedSimpArgs false
open Go.RowKit Dig
set_option linter.unusedVariables false

section
variable {w : World} {va vb : Value} {p q : Rat} {k l : Nat}
set_option maxHeartbeats 4000000 in
theorem fracInt1_v (w : World) : Calls Tryz.prog 58 #[.int .i64 1] w (RCanF w 1 2) := by
  have N1 := Lib.hid (fun w1 => natOf_v (w := w1) 1 (by omega))
  have RD := fun w1 x y (hx : Can w1 x 1 2) (hy : Can w1 y 1 2) => frac_v (w := w1) false hx.numV hy.numV (by omega) (by omega)
  rw [show fr false 1 1 = (1 : Rat) from rfl] at RD
  have RR := Lib.hid RD
  have R0 := Lib.hid (Fcl.new w false (.slice none 0 0) (.slice none 0 0))
  have hB0 : Below w.heap.size w (w.alloc (.cells #[.bool false, .slice none 0 0, .slice none 0 0] 25)) := (Below.refl _ _).alloc (Nat.le_refl _) _
  clear RD
  go_enter Tryz.func58, Tryz.ntmps58
  go_wp2_with fail
  refine (N1.out _).mono ?_
  rintro e w1 ⟨u, rfl, hu, _, hB1⟩
  go_wp2_with fail
  refine (N1.out _).mono ?_
  rintro e w2 ⟨v, rfl, hv, _, hB2⟩
  have hu := hu.below hB2
  go_wp2_with fail
  refine (RR.out _ _ _ hu hv).mono ?_
  rintro e w3 ⟨z, rfl, hz, hB3⟩
  have hB := below_then (below_then (below_then hB0 hB1) hB2) hB3
  have R3 := ((R0.out.below hB1).below hB2).below hB3
  obtain ⟨b, C, o, r, C', o', r', rfl, hb, hvx, hvy⟩ := hz.parts
  obtain ⟨k0, k1, k2⟩ := R3.cells
  obtain ⟨f0, f1, f2⟩ := R3.frozen
  have H1 := Lib.hid R3
  clear R3
  go_wp2_with fail
  refine bodyPost_ret (v := .agg #[.bool b, .slice C o r, .slice C' o' r']) (by rw [results_one rfl]; go_simp) rfl ?_
  exact RCanF.stored hb hvx hvy H1.out hB (Nat.le_refl _) (.bool b)
set_option maxRecDepth 20000 in
set_option maxHeartbeats 16000000 in
theorem fracCompl_v (ha : FracV w va p k) (hk : k ≤ 100000) (h1 : 2 ≤ k) : Calls Tryz.prog 29 #[va] w (RCanF w (1 - p) (2 + k + 1)) := by
  obtain ⟨na, A, m, c, A', m', c', n, d, rfl, hn, hd, hp⟩ := ha.parts
  obtain ⟨w2, g0, g2, ew, eg0, eg2, hB0, hF0, hFg2⟩ := two_boxes w na (.slice A m c) (.slice A' m' c')
  have HG := Lib.hid (show w.heap.size ≤ g2 by omega)
  have hA := Lib.hid ha
  clear hn hd hp ha
  go_enter Tryz.func29, Tryz.ntmps29
  go_wp2_with fail
  have ha := hA.out
  refine hk_begin (S := fun w' => Below w.heap.size w w' ∧ Fcl w' g0 na (.slice A m c) (.slice A' m' c')) 4 (by kernel_rfl) (by kernel_rfl) ?_
  have hK : Below w.heap.size w w2.drew := hB0.drew
  have hF0 := hF0.below (Below.refl _ _).drew
  have hFg2 := hFg2.below (Below.refl _ _).drew
  refine hk_take (i := 1) (some 4) (.agg #[.bool na, .slice A m c, .slice A' m' c']) (by kernel_rfl) (by kernel_rfl) (by kernel_rfl) (by kernel_rfl) (by kernel_rfl) (by kernel_rfl) (fun w hS => exec_load3 1 (hS.2) (by kernel_rfl) (by kernel_rfl)) (fun _ _ d _ _ h => by cases d <;> exact h) ⟨hK, hF0⟩ ?_
  simp only [put_lit, put_non, List.set_cons_zero, List.set_cons_succ]
  refine hk_one (i := 0) (by kernel_rfl) ?_
  refine op_call (some 3) 58 #[.int .i64 1] (by kernel_rfl) (by kernel_rfl) (by kernel_rfl) (fun w => by kernel_rfl) ?_
  refine (fracInt1_v w2.drew).mono ?_
  rintro e wz1 ⟨u1, rfl, hu1, hB⟩
  refine ⟨_, rfl, ⟨below_then hK hB, hF0.below hB⟩, ?_⟩
  have hK := below_then hK hB
  have hF0 := hF0.below hB
  have hFg2 := hFg2.below hB
  clear hB
  simp only [put_lit, put_non, List.set_cons_zero, List.set_cons_succ]
  refine hk_one (i := 2) (by kernel_rfl) ?_
  refine op_call (some 5) 23 #[u1, .agg #[.bool na, .slice A m c, .slice A' m' c']] (by kernel_rfl) (by kernel_rfl) (by kernel_rfl) (fun w => by kernel_rfl) ?_
  refine (fracSub_v hu1.fracV (ha.below hK) (by omega) hk (by omega) h1).mono ?_
  rintro e wz2 ⟨u3, rfl, hu3, hB⟩
  refine ⟨_, rfl, ⟨below_then hK hB, hF0.below hB⟩, ?_⟩
  have hK := below_then hK hB
  have hF0 := hF0.below hB
  have hFg2 := hFg2.below hB
  have hu1 := hu1.below hB
  clear hB
  obtain ⟨b, C, o, r, C', o', r', rfl, hb, hvx, hvy⟩ := hu3.parts
  simp only [put_lit, put_non, List.set_cons_zero, List.set_cons_succ]
  refine hk_one (i := 3) (by kernel_rfl) ?_
  refine op_skip none (stor3 wz2 g2 (.bool b) (.slice C o r) (.slice C' o' r')) (by kernel_rfl) (by kernel_rfl) (by kernel_rfl) (exec_store3 2 5 hFg2 (by kernel_rfl) (by kernel_rfl) (by kernel_rfl)) ?_
  have hKo := hK
  have hFo := hFg2
  have hB := below_put3 (g := g2) hK HG.out (.bool b) (.slice C o r) (.slice C' o' r')
  have hF0 := hF0.far (g2 := g2) (by omega) (.bool b) (.slice C o r) (.slice C' o' r')
  refine ⟨⟨hB, hF0⟩, ?_⟩
  have hK := hB
  have hFg2 := hFg2.put3 b (.slice C o r) (.slice C' o' r')
  simp only [put_lit, put_non, List.set_cons_zero, List.set_cons_succ]
  refine hk_done (by kernel_rfl) ?_
  obtain ⟨k0, k1, k2⟩ := hFg2.cells
  go_wp2_with fail
  refine bodyPost_ret (v := .agg #[.bool b, .slice C o r, .slice C' o' r']) (by rw [results_one rfl]; go_simp) rfl ?_
  exact RCanF.stored hb hvx hvy hFo hKo HG.out _
set_option maxRecDepth 20000 in
set_option maxHeartbeats 16000000 in
theorem fracIsCanon_v (w : World) (na : Bool) (vn vd : Value) (xs ys : List Nat) (hx : Num w vn xs) (hy : Num w vd ys) (hk : k ≤ 400000) (h1 : 2 ≤ k) (hzx : xs.length ≤ k) (hzy : ys.length ≤ k) :
    Calls Tryz.prog 15 #[.agg #[.bool na, vn, vd]] w (RVal w (.bool (canon na xs ys))) := by
  have ha : FracV w (.agg #[.bool na, vn, vd]) (fr na (val xs) (val ys)) k := FracV.of ⟨_, hx, rfl, hzx⟩ ⟨_, hy, rfl, hzy⟩
  obtain ⟨A, c, rfl⟩ := hx.form
  obtain ⟨A', c', rfl⟩ := hy.form
  generalize hm : xs.length = m at *
  generalize hm' : ys.length = m' at *
  obtain ⟨w2, g0, ew, eg0, hB0, hF0⟩ := var1 w na (.slice A m c) (.slice A' m' c')
  have hX := Lib.hid (hx.below hB0)
  have hY := Lib.hid (hy.below hB0)
  have hA := Lib.hid ha
  have hM := Lib.hid hm
  have hM' := Lib.hid hm'
  clear hx hy ha hm hm' hzx hzy
  go_enter Tryz.func15, Tryz.ntmps15
  go_wp2_with fail
  have ha := hA.out
  have hx := hX.out
  have hy := hY.out
  refine hk_begin (S := fun w' => Below w.heap.size w w' ∧ Fcl w' g0 na (.slice A m c) (.slice A' m' c')) 5 (by kernel_rfl) (by kernel_rfl) ?_
  have hK : Below w.heap.size w w2.drew := hB0.drew
  have hF0 := hF0.below (Below.refl _ _).drew
  have hx := hx.below (Below.refl _ _).drew
  have hy := hy.below (Below.refl _ _).drew
  refine hk_take (i := 0) (some 3) (.agg #[.bool na, .slice A m c, .slice A' m' c']) (by kernel_rfl) (by kernel_rfl) (by kernel_rfl) (by kernel_rfl) (by kernel_rfl) (by kernel_rfl) (fun w hS => exec_load3 1 (hS.2) (by kernel_rfl) (by kernel_rfl)) (fun _ _ d _ _ h => by cases d <;> exact h) ⟨hK, hF0⟩ ?_
  simp only [put_lit, put_non, List.set_cons_zero, List.set_cons_succ]
  refine hk_take (i := 1) (some 4) (.agg #[.bool na, .slice A m c, .slice A' m' c']) (by kernel_rfl) (by kernel_rfl) (by kernel_rfl) (by kernel_rfl) (by kernel_rfl) (by kernel_rfl) (fun w hS => exec_load3 1 (hS.2) (by kernel_rfl) (by kernel_rfl)) (fun _ _ d _ _ h => by cases d <;> exact h) ⟨hK, hF0⟩ ?_
  simp only [put_lit, put_non, List.set_cons_zero, List.set_cons_succ]
  refine hk_one (i := 2) (by kernel_rfl) ?_
  refine op_call (some 5) 13 #[.agg #[.bool na, .slice A m c, .slice A' m' c']] (by kernel_rfl) (by kernel_rfl) (by kernel_rfl) (fun w => by kernel_rfl) ?_
  refine (fracNorm_v (ha.below hK) hk h1).mono ?_
  rintro e wz1 ⟨u1, rfl, hu1, hB⟩
  refine ⟨_, rfl, ⟨below_then hK hB, hF0.below hB⟩, ?_⟩
  have hK := below_then hK hB
  have hF0 := hF0.below hB
  have hx := hx.below hB
  have hy := hy.below hB
  clear hB
  simp only [put_lit, put_non, List.set_cons_zero, List.set_cons_succ]
  refine hk_one (i := 3) (by kernel_rfl) ?_
  refine op_call (some 6) 42 #[.agg #[.bool na, .slice A m c, .slice A' m' c'], u1] (by kernel_rfl) (by kernel_rfl) (by kernel_rfl) (fun w => by kernel_rfl) ?_
  refine (fracSame_v (show Fx _ _ na xs ys from ⟨_, _, rfl, hx, hy⟩) hu1.fx).mono ?_
  rintro e wz2 ⟨rfl, hB⟩
  refine ⟨_, rfl, ⟨below_then hK hB, hF0.below hB⟩, ?_⟩
  have hK := below_then hK hB
  have hF0 := hF0.below hB
  have hx := hx.below hB
  have hy := hy.below hB
  have hu1 := hu1.below hB
  clear hB
  simp only [put_lit, put_non, List.set_cons_zero, List.set_cons_succ]
  refine hk_take (i := 4) (some 2) (.bool (canon na xs ys)) (by kernel_rfl) (by kernel_rfl) (by kernel_rfl) (by kernel_rfl) (by kernel_rfl) (by kernel_rfl) (fun w hS => by kernel_rfl) (fun _ _ d _ _ h => by cases d <;> exact h) ⟨hK, hF0⟩ ?_
  simp only [put_lit, put_non, List.set_cons_zero, List.set_cons_succ]
  refine hk_done (by kernel_rfl) ?_
  go_wp2_with fail
  go_ret
  exact ⟨rfl, hK⟩
end
end Go.Proofs.YtgjhgpfjeoeojaaGreatDoor

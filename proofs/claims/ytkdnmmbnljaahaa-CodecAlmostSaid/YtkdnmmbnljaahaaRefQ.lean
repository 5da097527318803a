/- The contracts of the reference functions FracComplement and FracIsCanonical. -/
import Derived.Test.YtkdnmmbnljaahaaRefO
namespace Go.Proofs.Ytkdnmmbnljaahaa
set_option linter.unusedSimpArgs false
open Go.RowKit Dig
set_option linter.unusedVariables false

section
variable {w : World} {va vb : Value} {p q : Rat} {k l : Nat}
set_option maxRecDepth 20000 in
set_option maxHeartbeats 16000000 in
theorem fracIsCanon_v (w : World) (na : Bool) (vn vd : Value) (xs ys : List Nat) (hx : Num w vn xs) (hy : Num w vd ys) (hk : k ≤ 400000) (h1 : 2 ≤ k) (hzx : xs.length ≤ k) (hzy : ys.length ≤ k) :
    Calls Try.prog 51 #[.agg #[.bool na, vn, vd]] w (RVal w (.bool (canon na xs ys))) := by
  have ha : FracV w (.agg #[.bool na, vn, vd]) (fr na (val xs) (val ys)) k := FracV.of ⟨_, hx, rfl, hzx⟩ ⟨_, hy, rfl, hzy⟩
  obtain ⟨A, c, rfl⟩ := hx.form
  obtain ⟨A', c', rfl⟩ := hy.form
  generalize hm : xs.length = m at *
  generalize hm' : ys.length = m' at *
  obtain ⟨w2, g0, ew, eg0, hB0, hF0⟩ := var1 w na (.slice A m c) (.slice A' m' c')
  have hX := Lib.hid (hx.below hB0)
  have hY := Lib.hid (hy.below hB0)
  have hA := Lib.hid ha
  have hM := Lib.hid hm
  have hM' := Lib.hid hm'
  clear hx hy ha hm hm' hzx hzy
  go_enter Try.func51, Try.ntmps51
  go_wp2_with fail
  have ha := hA.out
  have hx := hX.out
  have hy := hY.out
  refine hk_begin (S := fun w' => Below w.heap.size w w' ∧ Fcl w' g0 na (.slice A m c) (.slice A' m' c')) 5 (by kernel_rfl) (by kernel_rfl) ?_
  have hK : Below w.heap.size w w2.drew := hB0.drew
  have hF0 := hF0.below (Below.refl _ _).drew
  have hx := hx.below (Below.refl _ _).drew
  have hy := hy.below (Below.refl _ _).drew
  refine hk_take (i := 0) (some 3) (.agg #[.bool na, .slice A m c, .slice A' m' c']) (by kernel_rfl) (by kernel_rfl) (by kernel_rfl) (by kernel_rfl) (by kernel_rfl) (by kernel_rfl) (fun w hS => exec_load3 1 (hS.2) (by kernel_rfl) (by kernel_rfl)) (fun _ _ d _ _ h => by cases d <;> exact h) ⟨hK, hF0⟩ ?_
  simp only [put_lit, put_non, List.set_cons_zero, List.set_cons_succ]
  refine hk_take (i := 1) (some 4) (.agg #[.bool na, .slice A m c, .slice A' m' c']) (by kernel_rfl) (by kernel_rfl) (by kernel_rfl) (by kernel_rfl) (by kernel_rfl) (by kernel_rfl) (fun w hS => exec_load3 1 (hS.2) (by kernel_rfl) (by kernel_rfl)) (fun _ _ d _ _ h => by cases d <;> exact h) ⟨hK, hF0⟩ ?_
  simp only [put_lit, put_non, List.set_cons_zero, List.set_cons_succ]
  refine hk_one (i := 2) (by kernel_rfl) ?_
  refine op_call (some 5) 31 #[.agg #[.bool na, .slice A m c, .slice A' m' c']] (by kernel_rfl) (by kernel_rfl) (by kernel_rfl) (fun w => by kernel_rfl) ?_
  refine (fracNorm_v (ha.below hK) hk h1).mono ?_
  rintro e wz1 ⟨u1, rfl, hu1, hB⟩
  refine ⟨_, rfl, ⟨below_then hK hB, hF0.below hB⟩, ?_⟩
  have hK := below_then hK hB
  have hF0 := hF0.below hB
  have hx := hx.below hB
  have hy := hy.below hB
  clear hB
  simp only [put_lit, put_non, List.set_cons_zero, List.set_cons_succ]
  refine hk_one (i := 3) (by kernel_rfl) ?_
  refine op_call (some 6) 30 #[.agg #[.bool na, .slice A m c, .slice A' m' c'], u1] (by kernel_rfl) (by kernel_rfl) (by kernel_rfl) (fun w => by kernel_rfl) ?_
  refine (fracSame_v (show Fx _ _ na xs ys from ⟨_, _, rfl, hx, hy⟩) hu1.fx).mono ?_
  rintro e wz2 ⟨rfl, hB⟩
  refine ⟨_, rfl, ⟨below_then hK hB, hF0.below hB⟩, ?_⟩
  have hK := below_then hK hB
  have hF0 := hF0.below hB
  have hx := hx.below hB
  have hy := hy.below hB
  have hu1 := hu1.below hB
  clear hB
  simp only [put_lit, put_non, List.set_cons_zero, List.set_cons_succ]
  refine hk_take (i := 4) (some 2) (.bool (canon na xs ys)) (by kernel_rfl) (by kernel_rfl) (by kernel_rfl) (by kernel_rfl) (by kernel_rfl) (by kernel_rfl) (fun w hS => by kernel_rfl) (fun _ _ d _ _ h => by cases d <;> exact h) ⟨hK, hF0⟩ ?_
  simp only [put_lit, put_non, List.set_cons_zero, List.set_cons_succ]
  refine hk_done (by kernel_rfl) ?_
  go_wp2_with fail
  go_ret
  exact ⟨rfl, hK⟩
end
end Go.Proofs.Ytkdnmmbnljaahaa

/- The walk of the law BignatRing: it returns true and leaves what was there. -/
import Derived.Test.YticakmcjiofhoaaLawv
namespace Go.Proofs.Yticakmcjiofhoaa
open Go.RowKit Dig
set_option linter.unusedVariables false

set_option maxHeartbeats 2000000 in
theorem ring_walk (w : World) (v0 v1 v2 : Value) (l0 l1 l2 : List Nat) (n0 : Num w v0 l0) (n1 : Num w v1 l1) (n2 : Num w v2 l2) :
    Calls Try.prog 7 #[v0, v1, v2] w fun e w' => e = .returned (.bool true) ∧ Below w.heap.size w w' := by
  go_enter Try.func7, Try.ntmps7
  go_wp2_with fail
  refine (base_v (w := w) n0).mono ?_
  rintro e w1 ⟨a, rfl, ha0, _, hB⟩
  have n0 := n0.below hB
  have n1 := n1.below hB
  have n2 := n2.below hB
  have HB := hB
  have ha := ha0
  clear hB ha0
  go_wp2_with fail
  refine (base_v (w := w1) n1).mono ?_
  rintro e w2 ⟨b, rfl, hb0, _, hB⟩
  have n0 := n0.below hB
  have n1 := n1.below hB
  have n2 := n2.below hB
  have ha := ha.below hB
  have HB := below_step HB hB
  have hb := hb0
  clear hB hb0
  go_wp2_with fail
  refine (base_v (w := w2) n2).mono ?_
  rintro e w3 ⟨c, rfl, hc0, _, hB⟩
  have n0 := n0.below hB
  have n1 := n1.below hB
  have n2 := n2.below hB
  have ha := ha.below hB
  have hb := hb.below hB
  have HB := below_step HB hB
  have hc := hc0
  clear hB hc0
  generalize val (mkn l0) = x at *
  generalize val (mkn l1) = y at *
  generalize val (mkn l2) = z at *
  go_wp2_with fail
  refine (add_v (w := w3) ha hb (by omega) (by omega)).mono ?_
  rintro e w4 ⟨r1, rfl, hr10, _, hB⟩
  have ha := ha.below hB
  have hb := hb.below hB
  have hc := hc.below hB
  have HB := below_step HB hB
  clear hB
  have hr1 := hr10
  clear hr10
  go_wp2_with fail
  refine (add_v (w := w4) hb ha (by omega) (by omega)).mono ?_
  rintro e w5 ⟨r2, rfl, hr20, _, hB⟩
  have ha := ha.below hB
  have hb := hb.below hB
  have hc := hc.below hB
  have hr1 := hr1.below hB
  have HB := below_step HB hB
  clear hB
  have hr2 := hr20
  clear hr20
  go_wp2_with fail
  refine (same_v (w := w5) hr1 hr2 (Nat.add_comm _ _)).mono ?_
  rintro e w6 ⟨rfl, hB⟩
  have ha := ha.below hB
  have hb := hb.below hB
  have hc := hc.below hB
  have hr1 := hr1.below hB
  have hr2 := hr2.below hB
  have HB := below_step HB hB
  clear hB
  clear hr1
  clear hr2
  go_wp2_with fail
  refine (mul_v (w := w6) ha hb (by omega) (by omega) (by omega)).mono ?_
  rintro e w7 ⟨r1, rfl, hr10, _, hB⟩
  have ha := ha.below hB
  have hb := hb.below hB
  have hc := hc.below hB
  have HB := below_step HB hB
  clear hB
  have hr1 := hr10
  clear hr10
  go_wp2_with fail
  refine (mul_v (w := w7) hb ha (by omega) (by omega) (by omega)).mono ?_
  rintro e w8 ⟨r2, rfl, hr20, _, hB⟩
  have ha := ha.below hB
  have hb := hb.below hB
  have hc := hc.below hB
  have hr1 := hr1.below hB
  have HB := below_step HB hB
  clear hB
  have hr2 := hr20
  clear hr20
  go_wp2_with fail
  refine (same_v (w := w8) hr1 hr2 (Nat.mul_comm _ _)).mono ?_
  rintro e w9 ⟨rfl, hB⟩
  have ha := ha.below hB
  have hb := hb.below hB
  have hc := hc.below hB
  have hr1 := hr1.below hB
  have hr2 := hr2.below hB
  have HB := below_step HB hB
  clear hB
  clear hr1
  clear hr2
  go_wp2_with fail
  refine (add_v (w := w9) ha hb (by omega) (by omega)).mono ?_
  rintro e w10 ⟨r1, rfl, hr10, _, hB⟩
  have ha := ha.below hB
  have hb := hb.below hB
  have hc := hc.below hB
  have HB := below_step HB hB
  clear hB
  have hr1 := hr10
  clear hr10
  go_wp2_with fail
  refine (add_v (w := w10) hr1.numV hc (by omega) (by omega)).mono ?_
  rintro e w11 ⟨r2, rfl, hr20, _, hB⟩
  have ha := ha.below hB
  have hb := hb.below hB
  have hc := hc.below hB
  have hr1 := hr1.below hB
  have HB := below_step HB hB
  clear hB
  have hr2 := hr20
  clear hr20
  go_wp2_with fail
  refine (add_v (w := w11) hb hc (by omega) (by omega)).mono ?_
  rintro e w12 ⟨r3, rfl, hr30, _, hB⟩
  have ha := ha.below hB
  have hb := hb.below hB
  have hc := hc.below hB
  have hr1 := hr1.below hB
  have hr2 := hr2.below hB
  have HB := below_step HB hB
  clear hB
  have hr3 := hr30
  clear hr30
  go_wp2_with fail
  refine (add_v (w := w12) ha hr3.numV (by omega) (by omega)).mono ?_
  rintro e w13 ⟨r4, rfl, hr40, _, hB⟩
  have ha := ha.below hB
  have hb := hb.below hB
  have hc := hc.below hB
  have hr1 := hr1.below hB
  have hr2 := hr2.below hB
  have hr3 := hr3.below hB
  have HB := below_step HB hB
  clear hB
  have hr4 := hr40
  clear hr40
  go_wp2_with fail
  refine (same_v (w := w13) hr2 hr4 (Nat.add_assoc _ _ _)).mono ?_
  rintro e w14 ⟨rfl, hB⟩
  have ha := ha.below hB
  have hb := hb.below hB
  have hc := hc.below hB
  have hr1 := hr1.below hB
  have hr2 := hr2.below hB
  have hr3 := hr3.below hB
  have hr4 := hr4.below hB
  have HB := below_step HB hB
  clear hB
  clear hr1
  clear hr2
  clear hr3
  clear hr4
  go_wp2_with fail
  refine (mul_v (w := w14) ha hb (by omega) (by omega) (by omega)).mono ?_
  rintro e w15 ⟨r1, rfl, hr10, _, hB⟩
  have ha := ha.below hB
  have hb := hb.below hB
  have hc := hc.below hB
  have HB := below_step HB hB
  clear hB
  have hr1 := hr10
  clear hr10
  go_wp2_with fail
  refine (mul_v (w := w15) hr1.numV hc (by omega) (by omega) (by omega)).mono ?_
  rintro e w16 ⟨r2, rfl, hr20, _, hB⟩
  have ha := ha.below hB
  have hb := hb.below hB
  have hc := hc.below hB
  have hr1 := hr1.below hB
  have HB := below_step HB hB
  clear hB
  have hr2 := hr20
  clear hr20
  go_wp2_with fail
  refine (mul_v (w := w16) hb hc (by omega) (by omega) (by omega)).mono ?_
  rintro e w17 ⟨r3, rfl, hr30, _, hB⟩
  have ha := ha.below hB
  have hb := hb.below hB
  have hc := hc.below hB
  have hr1 := hr1.below hB
  have hr2 := hr2.below hB
  have HB := below_step HB hB
  clear hB
  have hr3 := hr30
  clear hr30
  go_wp2_with fail
  refine (mul_v (w := w17) ha hr3.numV (by omega) (by omega) (by omega)).mono ?_
  rintro e w18 ⟨r4, rfl, hr40, _, hB⟩
  have ha := ha.below hB
  have hb := hb.below hB
  have hc := hc.below hB
  have hr1 := hr1.below hB
  have hr2 := hr2.below hB
  have hr3 := hr3.below hB
  have HB := below_step HB hB
  clear hB
  have hr4 := hr40
  clear hr40
  go_wp2_with fail
  refine (same_v (w := w18) hr2 hr4 (Nat.mul_assoc _ _ _)).mono ?_
  rintro e w19 ⟨rfl, hB⟩
  have ha := ha.below hB
  have hb := hb.below hB
  have hc := hc.below hB
  have hr1 := hr1.below hB
  have hr2 := hr2.below hB
  have hr3 := hr3.below hB
  have hr4 := hr4.below hB
  have HB := below_step HB hB
  clear hB
  clear hr1
  clear hr2
  clear hr3
  clear hr4
  go_wp2_with fail
  refine (add_v (w := w19) hb hc (by omega) (by omega)).mono ?_
  rintro e w20 ⟨r1, rfl, hr10, _, hB⟩
  have ha := ha.below hB
  have hb := hb.below hB
  have hc := hc.below hB
  have HB := below_step HB hB
  clear hB
  have hr1 := hr10
  clear hr10
  go_wp2_with fail
  refine (mul_v (w := w20) ha hr1.numV (by omega) (by omega) (by omega)).mono ?_
  rintro e w21 ⟨r2, rfl, hr20, _, hB⟩
  have ha := ha.below hB
  have hb := hb.below hB
  have hc := hc.below hB
  have hr1 := hr1.below hB
  have HB := below_step HB hB
  clear hB
  have hr2 := hr20
  clear hr20
  go_wp2_with fail
  refine (mul_v (w := w21) ha hb (by omega) (by omega) (by omega)).mono ?_
  rintro e w22 ⟨r3, rfl, hr30, _, hB⟩
  have ha := ha.below hB
  have hb := hb.below hB
  have hc := hc.below hB
  have hr1 := hr1.below hB
  have hr2 := hr2.below hB
  have HB := below_step HB hB
  clear hB
  have hr3 := hr30
  clear hr30
  go_wp2_with fail
  refine (mul_v (w := w22) ha hc (by omega) (by omega) (by omega)).mono ?_
  rintro e w23 ⟨r4, rfl, hr40, _, hB⟩
  have ha := ha.below hB
  have hb := hb.below hB
  have hc := hc.below hB
  have hr1 := hr1.below hB
  have hr2 := hr2.below hB
  have hr3 := hr3.below hB
  have HB := below_step HB hB
  clear hB
  have hr4 := hr40
  clear hr40
  go_wp2_with fail
  refine (add_v (w := w23) hr3.numV hr4.numV (by omega) (by omega)).mono ?_
  rintro e w24 ⟨r5, rfl, hr50, _, hB⟩
  have ha := ha.below hB
  have hb := hb.below hB
  have hc := hc.below hB
  have hr1 := hr1.below hB
  have hr2 := hr2.below hB
  have hr3 := hr3.below hB
  have hr4 := hr4.below hB
  have HB := below_step HB hB
  clear hB
  have hr5 := hr50
  clear hr50
  go_wp2_with fail
  refine (same_v (w := w24) hr2 hr5 (Nat.mul_add _ _ _)).mono ?_
  rintro e w25 ⟨rfl, hB⟩
  have ha := ha.below hB
  have hb := hb.below hB
  have hc := hc.below hB
  have hr1 := hr1.below hB
  have hr2 := hr2.below hB
  have hr3 := hr3.below hB
  have hr4 := hr4.below hB
  have hr5 := hr5.below hB
  have HB := below_step HB hB
  clear hB
  clear hr1
  clear hr2
  clear hr3
  clear hr4
  clear hr5
  go_wp2_with fail
  refine (known_v w25).mono ?_
  rintro e w26 ⟨rfl, hB⟩
  have ha := ha.below hB
  have hb := hb.below hB
  have hc := hc.below hB
  have HB := below_step HB hB
  clear hB
  go_wp2_with fail
  go_ret
  exact ⟨rfl, HB⟩
end Go.Proofs.Yticakmcjiofhoaa

/- The walk of the law BignatPow: it returns true and leaves what was there. -/
import Derived.Test.YticakmcjiofhoaaLawp
import Derived.Test.YticakmcjiofhoaaLawr
namespace Go.Proofs.Yticakmcjiofhoaa
open Go.RowKit Dig
set_option linter.unusedVariables false

set_option maxHeartbeats 2000000 in
theorem pow_walk (w : World) (v0 : Value) (l0 : List Nat) (n0 : Num w v0 l0) {z1 : Int} (n1 : (Lit.int .i64 z1).wf = true) :
    Calls Try.prog 4 #[v0, .int .i64 z1] w fun e w' => e = .returned (.bool true) ∧ Below w.heap.size w w' := by
  go_enter Try.func4, Try.ntmps4
  obtain ⟨k, hk, hand⟩ := and31 z1
  go_wp2_with fail
  refine (base_v (w := w) n0).mono ?_
  rintro e w1 ⟨a, rfl, ha0, _, hB⟩
  have n0 := n0.below hB
  have HB := hB
  have ha := ha0
  clear hB ha0
  generalize val (mkn l0) = x at *
  have hpb := pow_bits (n := k) ha.lt (by omega)
  go_wp2_with fail
  refine (pow_v (w := w1) (n := k) ha (by omega) (by omega) hpb).mono ?_
  rintro e w2 ⟨p, rfl, hp0, hB⟩
  have ha := ha.below hB
  have HB := below_step HB hB
  clear hB
  have hp := hp0
  clear hp0
  go_wp2_with fail
  refine (natPow_v (w := w2) (n := k) ha (by omega) (by omega) hpb).mono ?_
  rintro e w3 ⟨q, rfl, hq0, hB⟩
  have ha := ha.below hB
  have hp := hp.below hB
  have HB := below_step HB hB
  clear hB
  have hq := hq0
  clear hq0
  go_wp2_with fail
  refine (pow_neg_v w3 a (-1 - (k : Int)) (by omega)).mono ?_
  rintro e w4 ⟨rfl, hB⟩
  have ha := ha.below hB
  have hp := hp.below hB
  have hq := hq.below hB
  have HB := below_step HB hB
  clear hB
  go_wp2_with fail
  refine (same_v (w := w4) hp hq (rfl)).mono ?_
  rintro e w5 ⟨rfl, hB⟩
  have ha := ha.below hB
  have hp := hp.below hB
  have hq := hq.below hB
  have HB := below_step HB hB
  clear hB
  go_wp2_with fail
  refine (known_v w5).mono ?_
  rintro e w6 ⟨rfl, hB⟩
  have ha := ha.below hB
  have hp := hp.below hB
  have hq := hq.below hB
  have HB := below_step HB hB
  clear hB
  go_wp2_with fail
  go_ret
  exact ⟨rfl, HB⟩

end Go.Proofs.Yticakmcjiofhoaa

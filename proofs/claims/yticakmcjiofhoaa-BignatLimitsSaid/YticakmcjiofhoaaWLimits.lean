/- The walk of the law BignatLimits: it returns true and leaves what was there. -/
import Derived.Test.YticakmcjiofhoaaLawp
namespace Go.Proofs.Yticakmcjiofhoaa
open Go.RowKit Dig
set_option linter.unusedVariables false

set_option maxHeartbeats 2000000 in
theorem limits_walk (w : World)    :
    Calls Try.prog 5 #[] w fun e w' => e = .returned (.bool true) ∧ Below w.heap.size w w' := by
  go_enter Try.func5, Try.ntmps5
  go_wp2_with fail
  refine (from_v (w := w) 2 (by omega)).mono ?_
  rintro e w1 ⟨t, rfl, ht0, _, hB⟩
  have HB := hB
  clear hB
  have ht := ht0
  clear ht0
  go_wp2_with fail
  refine (pow2_max (w := w1) ht.numV (by omega)).mono ?_
  rintro e w2 ⟨a, P, rfl, ha0, hP, hB⟩
  have ht := ht.below hB
  have HB := below_step HB hB
  clear hB
  have ha := ha0
  clear ha0
  go_wp2_with fail
  refine (pow2_over (w := w2) ht.numV (by omega)).mono ?_
  rintro e w3 ⟨rfl, hB⟩
  have ht := ht.below hB
  have ha := ha.below hB
  have HB := below_step HB hB
  clear hB
  go_wp2_with fail
  refine (from_v (w := w3) 1 (by omega)).mono ?_
  rintro e w4 ⟨u, rfl, hu0, _, hB⟩
  have ht := ht.below hB
  have ha := ha.below hB
  have HB := below_step HB hB
  clear hB
  have hu := hu0
  clear hu0
  go_wp2_with fail
  refine (pow_one_v (w := w4) (n := 1099511627776) hu.numV (by omega) (by omega)).mono ?_
  rintro e w5 ⟨b, rfl, hb0, hB⟩
  have ht := ht.below hB
  have ha := ha.below hB
  have hu := hu.below hB
  have HB := below_step HB hB
  clear hB
  have hb := hb0
  clear hb0
  go_wp2_with fail
  refine (pow_nil_v (w := w5) (n := 1099511627776) (k := 0) ⟨[], Num.nil _, rfl, Nat.le_refl _⟩ (by omega) (by omega) (by omega)).mono ?_
  rintro e w6 ⟨A, c, rfl, hB⟩
  have ht := ht.below hB
  have ha := ha.below hB
  have hu := hu.below hB
  have hb := hb.below hB
  have HB := below_step HB hB
  clear hB
  go_wp2_with fail
  refine (pow_v (w := w6) (a := 0) (n := 0) (k := 0) ⟨[], Num.nil _, rfl, Nat.le_refl _⟩ (by omega) (by omega) (by decide)).mono ?_
  rintro e w7 ⟨d, rfl, hd0, hB⟩
  have ht := ht.below hB
  have ha := ha.below hB
  have hu := hu.below hB
  have hb := hb.below hB
  have HB := below_step HB hB
  clear hB
  have hd := hd0
  clear hd0
  go_wp2_with fail
  refine (bitLen_n (w := w7) ha.numV (by omega)).mono ?_
  rintro e w8 ⟨rfl, hB⟩
  have ht := ht.below hB
  have ha := ha.below hB
  have hu := hu.below hB
  have hb := hb.below hB
  have hd := hd.below hB
  have HB := below_step HB hB
  clear hB
  rw [hP]
  go_wp2_with fail
  refine (from_v (w := w8) 1 (by omega)).mono ?_
  rintro e w9 ⟨s1, rfl, hs10, _, hB⟩
  have ht := ht.below hB
  have ha := ha.below hB
  have hu := hu.below hB
  have hb := hb.below hB
  have hd := hd.below hB
  have HB := below_step HB hB
  clear hB
  have hs1 := hs10
  clear hs10
  go_wp2_with fail
  refine (same_v (w := w9) hb hs1 (rfl)).mono ?_
  rintro e w10 ⟨rfl, hB⟩
  have ht := ht.below hB
  have ha := ha.below hB
  have hu := hu.below hB
  have hb := hb.below hB
  have hd := hd.below hB
  have hs1 := hs1.below hB
  have HB := below_step HB hB
  clear hB
  go_wp2_with fail
  refine (from_v (w := w10) 1 (by omega)).mono ?_
  rintro e w11 ⟨s2, rfl, hs20, _, hB⟩
  have ht := ht.below hB
  have ha := ha.below hB
  have hu := hu.below hB
  have hb := hb.below hB
  have hd := hd.below hB
  have hs1 := hs1.below hB
  have HB := below_step HB hB
  clear hB
  have hs2 := hs20
  clear hs20
  go_wp2_with fail
  refine (same_v (w := w11) hd hs2 (rfl)).mono ?_
  rintro e w12 ⟨rfl, hB⟩
  have ht := ht.below hB
  have ha := ha.below hB
  have hu := hu.below hB
  have hb := hb.below hB
  have hd := hd.below hB
  have hs1 := hs1.below hB
  have hs2 := hs2.below hB
  have HB := below_step HB hB
  clear hB
  go_wp2_with fail
  refine (known_v w12).mono ?_
  rintro e w13 ⟨rfl, hB⟩
  have ht := ht.below hB
  have ha := ha.below hB
  have hu := hu.below hB
  have hb := hb.below hB
  have hd := hd.below hB
  have hs1 := hs1.below hB
  have hs2 := hs2.below hB
  have HB := below_step HB hB
  clear hB
  go_wp2_with fail
  go_ret
  exact ⟨rfl, HB⟩

end Go.Proofs.Yticakmcjiofhoaa

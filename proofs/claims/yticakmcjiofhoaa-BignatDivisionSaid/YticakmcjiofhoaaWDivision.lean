/- The walk of the law BignatDivision: it returns true and leaves what was there. -/
import Derived.Test.YticakmcjiofhoaaLawd
namespace Go.Proofs.Yticakmcjiofhoaa
open Go.RowKit Dig
set_option linter.unusedVariables false

set_option maxHeartbeats 2000000 in
theorem division_zero (w : World) (v0 v1 : Value) (l0 l1 : List Nat) (n0 : Num w v0 l0) (n1 : Num w v1 l1) (h0 : val (mkn l1) = 0) :
    Calls Try.prog 8 #[v0, v1] w fun e w' => e = .returned (.bool true) ∧ Below w.heap.size w w' := by
  go_enter Try.func8, Try.ntmps8
  go_wp2_with fail
  refine (base_v (w := w) n0).mono ?_
  rintro e w1 ⟨a, rfl, ha0, _, hB⟩
  have n0 := n0.below hB
  have n1 := n1.below hB
  have HB := hB
  have ha := ha0
  clear hB ha0
  go_wp2_with fail
  refine (base_v (w := w1) n1).mono ?_
  rintro e w2 ⟨b, rfl, hb0, _, hB⟩
  have n0 := n0.below hB
  have n1 := n1.below hB
  have ha := ha.below hB
  have HB := below_step HB hB
  have hb := hb0
  clear hB hb0
  rw [h0] at hb
  generalize val (mkn l0) = x at *
  go_wp2_with fail
  refine (div0_v (w := w2) ha hb).mono ?_
  rintro e w3 ⟨rfl, hB⟩
  have ha := ha.below hB
  have hb := hb.below hB
  have HB := below_step HB hB
  clear hB
  go_wp2_with fail
  refine (bitLen_n (w := w3) hb (by omega)).mono ?_
  rintro e w4 ⟨rfl, hB⟩
  have ha := ha.below hB
  have hb := hb.below hB
  have HB := below_step HB hB
  clear hB
  rw [nbits_zero]
  go_wp2_with fail
  refine (known_v w4).mono ?_
  rintro e w5 ⟨rfl, hB⟩
  have ha := ha.below hB
  have hb := hb.below hB
  have HB := below_step HB hB
  clear hB
  go_wp2_with fail
  go_ret
  exact ⟨rfl, HB⟩

set_option maxHeartbeats 2000000 in
theorem division_pos (w : World) (v0 v1 : Value) (l0 l1 : List Nat) (n0 : Num w v0 l0) (n1 : Num w v1 l1) (h0 : 0 < val (mkn l1)) :
    Calls Try.prog 8 #[v0, v1] w fun e w' => e = .returned (.bool true) ∧ Below w.heap.size w w' := by
  go_enter Try.func8, Try.ntmps8
  go_wp2_with fail
  refine (base_v (w := w) n0).mono ?_
  rintro e w1 ⟨a, rfl, ha0, _, hB⟩
  have n0 := n0.below hB
  have n1 := n1.below hB
  have HB := hB
  have ha := ha0
  clear hB ha0
  go_wp2_with fail
  refine (base_v (w := w1) n1).mono ?_
  rintro e w2 ⟨b, rfl, hb0, _, hB⟩
  have n0 := n0.below hB
  have n1 := n1.below hB
  have ha := ha.below hB
  have HB := below_step HB hB
  have hb := hb0
  clear hB hb0
  generalize val (mkn l0) = x at *
  generalize val (mkn l1) = y at *
  go_wp2_with fail
  refine (div_v (w := w2) ha hb (by omega) h0).mono ?_
  rintro e w3 ⟨q, r, rfl, hq0, hr0, _, _, hB⟩
  have ha := ha.below hB
  have hb := hb.below hB
  have HB := below_step HB hB
  clear hB
  have hq := hq0
  clear hq0
  have hr := hr0
  clear hr0
  go_wp2_with fail
  refine (bitLen_n (w := w3) hb (by omega)).mono ?_
  rintro e w4 ⟨rfl, hB⟩
  have ha := ha.below hB
  have hb := hb.below hB
  have hq := hq.below hB
  have hr := hr.below hB
  have HB := below_step HB hB
  clear hB
  have hnb := (nbits_le y h0).1
  have hnz : ((nbits y : Int) == 0) = false := by rw [beq_eq_false_iff_ne]; omega
  go_wp2_with fail
  refine (mul_v (w := w4) ha hb (by omega) (by omega) (by omega)).mono ?_
  rintro e w5 ⟨m, rfl, hm0, _, hB⟩
  have ha := ha.below hB
  have hb := hb.below hB
  have hq := hq.below hB
  have hr := hr.below hB
  have HB := below_step HB hB
  clear hB
  have hm := hm0
  clear hm0
  go_wp2_with fail
  refine (div_v (w := w5) hm.numV hb (by omega) h0).mono ?_
  rintro e w6 ⟨s, t, rfl, hs0, ht0, _, _, hB⟩
  have ha := ha.below hB
  have hb := hb.below hB
  have hq := hq.below hB
  have hr := hr.below hB
  have hm := hm.below hB
  have HB := below_step HB hB
  clear hB
  have hs := hs0
  clear hs0
  have ht := ht0
  clear ht0
  rw [Nat.mul_div_cancel _ h0] at hs
  rw [Nat.mul_mod_left] at ht
  obtain ⟨At, ct, et⟩ := ht.1.form
  rw [show (dg 0).length = 0 from rfl] at et
  subst et
  go_wp2_with fail
  refine (cmp_v (w := w6) hr.numV hb).mono ?_
  rintro e w7 ⟨rfl, hB⟩
  have ha := ha.below hB
  have hb := hb.below hB
  have hq := hq.below hB
  have hr := hr.below hB
  have hm := hm.below hB
  have hs := hs.below hB
  have ht := ht.below hB
  have HB := below_step HB hB
  clear hB
  rw [cmpI_lt (Nat.mod_lt x h0)]
  go_wp2_with fail
  refine (mul_v (w := w7) hq.numV hb (by omega) (by omega) (by omega)).mono ?_
  rintro e w8 ⟨m1, rfl, hm10, _, hB⟩
  have ha := ha.below hB
  have hb := hb.below hB
  have hq := hq.below hB
  have hr := hr.below hB
  have hm := hm.below hB
  have hs := hs.below hB
  have ht := ht.below hB
  have HB := below_step HB hB
  clear hB
  have hm1 := hm10
  clear hm10
  go_wp2_with fail
  refine (add_v (w := w8) hm1.numV hr.numV (by omega) (by omega)).mono ?_
  rintro e w9 ⟨m2, rfl, hm20, _, hB⟩
  have ha := ha.below hB
  have hb := hb.below hB
  have hq := hq.below hB
  have hr := hr.below hB
  have hm := hm.below hB
  have hs := hs.below hB
  have ht := ht.below hB
  have hm1 := hm1.below hB
  have HB := below_step HB hB
  clear hB
  have hm2 := hm20
  clear hm20
  go_wp2_with fail
  refine (norm_v (w := w9) ha (by omega)).mono ?_
  rintro e w10 ⟨n1, rfl, hn10, _, hB⟩
  have ha := ha.below hB
  have hb := hb.below hB
  have hq := hq.below hB
  have hr := hr.below hB
  have hm := hm.below hB
  have hs := hs.below hB
  have ht := ht.below hB
  have hm1 := hm1.below hB
  have hm2 := hm2.below hB
  have HB := below_step HB hB
  clear hB
  have hn1 := hn10
  clear hn10
  go_wp2_with fail
  refine (same_v (w := w10) hm2 hn1 (by rw [Nat.mul_comm]; exact Nat.div_add_mod x y)).mono ?_
  rintro e w11 ⟨rfl, hB⟩
  have ha := ha.below hB
  have hb := hb.below hB
  have hq := hq.below hB
  have hr := hr.below hB
  have hm := hm.below hB
  have hs := hs.below hB
  have ht := ht.below hB
  have hm1 := hm1.below hB
  have hm2 := hm2.below hB
  have hn1 := hn1.below hB
  have HB := below_step HB hB
  clear hB
  go_wp2_with fail
  refine (norm_v (w := w11) ha (by omega)).mono ?_
  rintro e w12 ⟨n2, rfl, hn20, _, hB⟩
  have ha := ha.below hB
  have hb := hb.below hB
  have hq := hq.below hB
  have hr := hr.below hB
  have hm := hm.below hB
  have hs := hs.below hB
  have ht := ht.below hB
  have hm1 := hm1.below hB
  have hm2 := hm2.below hB
  have hn1 := hn1.below hB
  have HB := below_step HB hB
  clear hB
  have hn2 := hn20
  clear hn20
  go_wp2_with fail
  refine (same_v (w := w12) hs hn2 (rfl)).mono ?_
  rintro e w13 ⟨rfl, hB⟩
  have ha := ha.below hB
  have hb := hb.below hB
  have hq := hq.below hB
  have hr := hr.below hB
  have hm := hm.below hB
  have hs := hs.below hB
  have ht := ht.below hB
  have hm1 := hm1.below hB
  have hm2 := hm2.below hB
  have hn1 := hn1.below hB
  have hn2 := hn2.below hB
  have HB := below_step HB hB
  clear hB
  go_wp2_with fail
  refine (known_v w13).mono ?_
  rintro e w14 ⟨rfl, hB⟩
  have ha := ha.below hB
  have hb := hb.below hB
  have hq := hq.below hB
  have hr := hr.below hB
  have hm := hm.below hB
  have hs := hs.below hB
  have ht := ht.below hB
  have hm1 := hm1.below hB
  have hm2 := hm2.below hB
  have hn1 := hn1.below hB
  have hn2 := hn2.below hB
  have HB := below_step HB hB
  clear hB
  go_wp2_with fail
  go_ret
  exact ⟨rfl, HB⟩

theorem division_walk (w : World) (v0 v1 : Value) (l0 l1 : List Nat) (n0 : Num w v0 l0) (n1 : Num w v1 l1) :
    Calls Try.prog 8 #[v0, v1] w fun e w' => e = .returned (.bool true) ∧ Below w.heap.size w w' := by
  rcases Nat.eq_zero_or_pos (val (mkn l1)) with h | h
  · exact division_zero w v0 v1 l0 l1 n0 n1 h
  · exact division_pos w v0 v1 l0 l1 n0 n1 h
end Go.Proofs.Yticakmcjiofhoaa

/- The walk of the law PolyDerivative: it returns true and leaves what was there. -/
import Derived.Test.YtjemnankgjjgcaaOf
import Derived.Test.YtjemnankgjjgcaaSzp
import Derived.Test.YtjemnankgjjgcaaPsam
import Derived.Test.YtjemnankgjjgcaaPlans
namespace Go.Proofs.Ytjemnankgjjgcaa
set_option linter.unusedSimpArgs false
open Go.RowKit Dig
set_option linter.unusedVariables false

set_option maxHeartbeats 16000000 in
theorem deriv_walk (w : World) (v1 v2 : Value) (l1 l2 : List Int) (n1 : Ints w v1 l1) (n2 : Ints w v2 l2) {z : Int} (_ : (Lit.int .i64 z).wf = true) :
    Calls Try.prog 8 #[v1, v2, .int .i64 z] w (RVal w (.bool true)) := by
  have O1 := Lib.hid (of_v w v1 l1 n1)
  have O2 := Lib.hid (fun w1 hB => of_v w1 v2 l2 (n2.below hB))
  have BA := Lib.hid (fun w1 => baseFrac_v w1 z)
  obtain ⟨A1, c1, rfl⟩ := n1.form
  obtain ⟨A2, c2, rfl⟩ := n2.form
  clear n1 n2
  go_enter Try.func8, Try.ntmps8
  go_wp2_with fail
  refine (O1.out).mono ?_
  rintro e w1 ⟨p, rfl, hp, hB1⟩
  have hp := hp.fls
  go_wp2_with fail
  refine (O2.out _ hB1).mono ?_
  rintro e w2 ⟨q, rfl, hq, hB2⟩
  have hq := hq.fls
  have hp := hp.keepF hB2
  have HB := below_then hB1 hB2
  go_wp2_with fail
  refine (BA.out _).mono ?_
  rintro e w4 ⟨va, rfl, ha, hB4⟩
  have hp := hp.keepF hB4
  have hq := hq.keepF hB4
  have HB := below_then HB hB4
  obtain ⟨b, C, m, d, C', m', d', rfl, hb, hvx, hvy⟩ := ha.parts
  obtain ⟨W, g, ew, eg, hB, hF⟩ := var1 w4 b (.slice C m d) (.slice C' m' d')
  clear hb hvx hvy hB1 hB2 hB4 O1 O2 BA
  have hp := hp.keepF hB
  have hq := hq.keepF hB
  have ha := CanF.below ha hB
  have HB := below_then HB hB
  obtain ⟨hF0, hF1, hF2⟩ := hF.cells
  clear hB
  go_wp2_with fail
  refine (mul_p hp hq (by omega) (by omega) (by omega) (by omega) (by omega) (by omega) ((dby_ofl l1).tr.szd (K := 2) (M := 4) (by decide +kernel) (by decide +kernel)) ((dby_ofl l2).tr.szd (K := 2) (M := 4) (by decide +kernel) (by decide +kernel)) (by omega) (by omega) (by omega) (Nat.le_trans (ofl_len l1) (by omega)) (Nat.le_trans (ofl_len l2) (by omega))).mono ?_
  rintro e y1 ⟨r1, rfl, hr1, hB⟩
  have hr1 := hr1.fls
  have hp := hp.keepF hB
  have hq := hq.keepF hB
  have ha := CanF.below ha hB
  clear hF0 hF1 hF2
  have hF := hF.below hB
  obtain ⟨hF0, hF1, hF2⟩ := hF.cells
  have HB := below_then HB hB
  clear hB
  go_wp2_with fail
  refine (derivative_p hr1.fv (by omega) (by omega) (Nat.le_trans (pmul_len (ofl_len l1) (ofl_len l2)) (by omega))).mono ?_
  rintro e y2 ⟨lft, rfl, hlft, hB⟩
  have hlft := hlft.fls
  have hp := hp.keepF hB
  have hq := hq.keepF hB
  have ha := CanF.below ha hB
  have hr1 := hr1.keepC hB
  clear hF0 hF1 hF2
  have hF := hF.below hB
  obtain ⟨hF0, hF1, hF2⟩ := hF.cells
  have HB := below_then HB hB
  clear hB
  clear hr1
  go_wp2_with fail
  refine (derivative_p hp (by omega) (by omega) (Nat.le_trans (ofl_len l1) (by omega))).mono ?_
  rintro e y3 ⟨r2, rfl, hr2, hB⟩
  have hr2 := hr2.fls
  have hp := hp.keepF hB
  have hq := hq.keepF hB
  have ha := CanF.below ha hB
  have hlft := hlft.keepC hB
  clear hF0 hF1 hF2
  have hF := hF.below hB
  obtain ⟨hF0, hF1, hF2⟩ := hF.cells
  have HB := below_then HB hB
  clear hB
  go_wp2_with fail
  refine (mul_p hr2.fv hq (by omega) (by omega) (by omega) (by omega) (by omega) (by omega) ((Dby.der (dby_ofl l1) (ofl_len l1)).tr.szd (K := 2) (M := 4) (by decide +kernel) (by decide +kernel)) ((dby_ofl l2).tr.szd (K := 2) (M := 4) (by decide +kernel) (by decide +kernel)) (by omega) (by omega) (by omega) (Nat.le_trans (pder_len (ofl_len l1)) (by omega)) (Nat.le_trans (ofl_len l2) (by omega))).mono ?_
  rintro e y4 ⟨r3, rfl, hr3, hB⟩
  have hr3 := hr3.fls
  have hp := hp.keepF hB
  have hq := hq.keepF hB
  have ha := CanF.below ha hB
  have hlft := hlft.keepC hB
  have hr2 := hr2.keepC hB
  clear hF0 hF1 hF2
  have hF := hF.below hB
  obtain ⟨hF0, hF1, hF2⟩ := hF.cells
  have HB := below_then HB hB
  clear hB
  clear hr2
  go_wp2_with fail
  refine (derivative_p hq (by omega) (by omega) (Nat.le_trans (ofl_len l2) (by omega))).mono ?_
  rintro e y5 ⟨r4, rfl, hr4, hB⟩
  have hr4 := hr4.fls
  have hp := hp.keepF hB
  have hq := hq.keepF hB
  have ha := CanF.below ha hB
  have hlft := hlft.keepC hB
  have hr3 := hr3.keepC hB
  clear hF0 hF1 hF2
  have hF := hF.below hB
  obtain ⟨hF0, hF1, hF2⟩ := hF.cells
  have HB := below_then HB hB
  clear hB
  go_wp2_with fail
  refine (mul_p hp hr4.fv (by omega) (by omega) (by omega) (by omega) (by omega) (by omega) ((dby_ofl l1).tr.szd (K := 2) (M := 4) (by decide +kernel) (by decide +kernel)) ((Dby.der (dby_ofl l2) (ofl_len l2)).tr.szd (K := 2) (M := 4) (by decide +kernel) (by decide +kernel)) (by omega) (by omega) (by omega) (Nat.le_trans (ofl_len l1) (by omega)) (Nat.le_trans (pder_len (ofl_len l2)) (by omega))).mono ?_
  rintro e y6 ⟨r5, rfl, hr5, hB⟩
  have hr5 := hr5.fls
  have hp := hp.keepF hB
  have hq := hq.keepF hB
  have ha := CanF.below ha hB
  have hlft := hlft.keepC hB
  have hr3 := hr3.keepC hB
  have hr4 := hr4.keepC hB
  clear hF0 hF1 hF2
  have hF := hF.below hB
  obtain ⟨hF0, hF1, hF2⟩ := hF.cells
  have HB := below_then HB hB
  clear hB
  clear hr4
  go_wp2_with fail
  refine (add_p hr3.fv hr5.fv (by omega) (by omega) (by omega) (by omega) (Nat.le_trans (pmul_len (pder_len (ofl_len l1)) (ofl_len l2)) (by omega)) (Nat.le_trans (pmul_len (ofl_len l1) (pder_len (ofl_len l2))) (by omega))).mono ?_
  rintro e y7 ⟨rgt, rfl, hrgt, hB⟩
  have hrgt := hrgt.fls
  have hp := hp.keepF hB
  have hq := hq.keepF hB
  have ha := CanF.below ha hB
  have hlft := hlft.keepC hB
  have hr3 := hr3.keepC hB
  have hr5 := hr5.keepC hB
  clear hF0 hF1 hF2
  have hF := hF.below hB
  obtain ⟨hF0, hF1, hF2⟩ := hF.cells
  have HB := below_then HB hB
  clear hB
  clear hr3 hr5
  clear hF0 hF1 hF2
  go_wp2_with fail
  refine wp_region_plan (S := fun w' => Below y7.heap.size y7 w') [(0, true), (1, true), (2, false), (3, true), (4, true), (5, true), (6, true), (10, true), (12, true), (14, true), (7, false), (8, false), (9, false), (11, false), (13, false), (15, false), (16, false), (17, false), (18, true), (19, true), (20, false), (21, true), (22, true)] (by kernel_rfl) (by kernel_rfl) (by kernel_rfl) (by kernel_rfl) (fun _ _ d _ _ h => by cases d <;> exact h) (Below.refl _ _).drew ?_
  have hK : Below y7.heap.size y7 y7.drew := (Below.refl _ _).drew
  have hp := hp.keepF hK
  have hq := hq.keepF hK
  have ha := CanF.below ha hK
  have hlft := hlft.keepC hK
  have hrgt := hrgt.keepC hK
  refine wkS_take (some 31) (lft) (by kernel_rfl) (by kernel_rfl) (by kernel_rfl) (fun w hS => by kernel_rfl) ?_
  simp only [put_lit, put_non, List.set_cons_zero, List.set_cons_succ]
  refine wkS_take (some 32) (rgt) (by kernel_rfl) (by kernel_rfl) (by kernel_rfl) (fun w hS => by kernel_rfl) ?_
  simp only [put_lit, put_non, List.set_cons_zero, List.set_cons_succ]
  refine wkS_call (some 33) 12 #[lft, rgt] (by kernel_rfl) (by kernel_rfl) (by kernel_rfl) (fun w => by kernel_rfl) ?_
  refine (same3_t hlft hrgt (pder_pmul _ _) (Nat.le_trans (pder_len (pmul_len (ofl_len l1) (ofl_len l2))) (by omega))).mono ?_
  rintro e u1 ⟨rfl, hB⟩
  refine ⟨_, rfl, below_then hK hB, ?_⟩
  have hK := below_then hK hB
  have hp := hp.keepF hB
  have hq := hq.keepF hB
  have ha := CanF.below ha hB
  have hlft := hlft.keepC hB
  have hrgt := hrgt.keepC hB
  clear hB
  simp only [put_lit, put_non, List.set_cons_zero, List.set_cons_succ]
  refine wkS_take (some 34) (.bool true) (by kernel_rfl) (by kernel_rfl) (by kernel_rfl) (fun w hS => by kernel_rfl) ?_
  simp only [put_lit, put_non, List.set_cons_zero, List.set_cons_succ]
  refine wkS_take (some 35) (p) (by kernel_rfl) (by kernel_rfl) (by kernel_rfl) (fun w hS => by kernel_rfl) ?_
  simp only [put_lit, put_non, List.set_cons_zero, List.set_cons_succ]
  refine wkS_take (some 36) (q) (by kernel_rfl) (by kernel_rfl) (by kernel_rfl) (fun w hS => by kernel_rfl) ?_
  simp only [put_lit, put_non, List.set_cons_zero, List.set_cons_succ]
  refine wkS_take (some 37) (.agg #[.bool b, (.slice C m d), (.slice C' m' d')]) (by kernel_rfl) (by kernel_rfl) (by kernel_rfl) (fun w hS => exec_load3 9 (hF.below hS) (by kernel_rfl) (by kernel_rfl)) ?_
  simp only [put_lit, put_non, List.set_cons_zero, List.set_cons_succ]
  refine wkS_take (some 41) (p) (by kernel_rfl) (by kernel_rfl) (by kernel_rfl) (fun w hS => by kernel_rfl) ?_
  simp only [put_lit, put_non, List.set_cons_zero, List.set_cons_succ]
  refine wkS_take (some 43) (q) (by kernel_rfl) (by kernel_rfl) (by kernel_rfl) (fun w hS => by kernel_rfl) ?_
  simp only [put_lit, put_non, List.set_cons_zero, List.set_cons_succ]
  refine wkS_take (some 45) (.agg #[.bool b, (.slice C m d), (.slice C' m' d')]) (by kernel_rfl) (by kernel_rfl) (by kernel_rfl) (fun w hS => exec_load3 9 (hF.below hS) (by kernel_rfl) (by kernel_rfl)) ?_
  simp only [put_lit, put_non, List.set_cons_zero, List.set_cons_succ]
  clear hlft hrgt
  refine wkS_call (some 38) 19 #[q, .agg #[.bool b, (.slice C m d), (.slice C' m' d')]] (by kernel_rfl) (by kernel_rfl) (by kernel_rfl) (fun w => by kernel_rfl) ?_
  refine (scale_p hq ha.fracV (by omega) (by omega) (by omega) (Nat.le_trans (ofl_len l2) (by omega))).mono ?_
  rintro e u2 ⟨r6, rfl, hr6, hB⟩
  refine ⟨r6, rfl, below_then hK hB, ?_⟩
  have hK := below_then hK hB
  have hr6 := hr6.fls
  have hp := hp.keepF hB
  have hq := hq.keepF hB
  have ha := CanF.below ha hB
  clear hB
  simp only [put_lit, put_non, List.set_cons_zero, List.set_cons_succ]
  refine wkS_call (some 39) 15 #[p, r6] (by kernel_rfl) (by kernel_rfl) (by kernel_rfl) (fun w => by kernel_rfl) ?_
  refine (add_p hp hr6.fv (by omega) (by omega) (by omega) (by omega) (Nat.le_trans (ofl_len l1) (by omega)) (Nat.le_trans (pscale_len (bq z) (ofl_len l2)) (by omega))).mono ?_
  rintro e u3 ⟨r7, rfl, hr7, hB⟩
  refine ⟨r7, rfl, below_then hK hB, ?_⟩
  have hK := below_then hK hB
  have hr7 := hr7.fls
  have hp := hp.keepF hB
  have hq := hq.keepF hB
  have ha := CanF.below ha hB
  have hr6 := hr6.keepC hB
  clear hB
  simp only [put_lit, put_non, List.set_cons_zero, List.set_cons_succ]
  clear hr6
  refine wkS_call (some 40) 21 #[r7] (by kernel_rfl) (by kernel_rfl) (by kernel_rfl) (fun w => by kernel_rfl) ?_
  refine (derivative_p hr7.fv (by omega) (by omega) (Nat.le_trans (padd_len (ofl_len l1) (pscale_len (bq z) (ofl_len l2))) (by omega))).mono ?_
  rintro e u4 ⟨r8, rfl, hr8, hB⟩
  refine ⟨r8, rfl, below_then hK hB, ?_⟩
  have hK := below_then hK hB
  have hr8 := hr8.fls
  have hp := hp.keepF hB
  have hq := hq.keepF hB
  have ha := CanF.below ha hB
  have hr7 := hr7.keepC hB
  clear hB
  simp only [put_lit, put_non, List.set_cons_zero, List.set_cons_succ]
  clear hr7
  refine wkS_call (some 42) 21 #[p] (by kernel_rfl) (by kernel_rfl) (by kernel_rfl) (fun w => by kernel_rfl) ?_
  refine (derivative_p hp (by omega) (by omega) (Nat.le_trans (ofl_len l1) (by omega))).mono ?_
  rintro e u5 ⟨r9, rfl, hr9, hB⟩
  refine ⟨r9, rfl, below_then hK hB, ?_⟩
  have hK := below_then hK hB
  have hr9 := hr9.fls
  have hp := hp.keepF hB
  have hq := hq.keepF hB
  have ha := CanF.below ha hB
  have hr8 := hr8.keepC hB
  clear hB
  simp only [put_lit, put_non, List.set_cons_zero, List.set_cons_succ]
  refine wkS_call (some 44) 21 #[q] (by kernel_rfl) (by kernel_rfl) (by kernel_rfl) (fun w => by kernel_rfl) ?_
  refine (derivative_p hq (by omega) (by omega) (Nat.le_trans (ofl_len l2) (by omega))).mono ?_
  rintro e u6 ⟨r10, rfl, hr10, hB⟩
  refine ⟨r10, rfl, below_then hK hB, ?_⟩
  have hK := below_then hK hB
  have hr10 := hr10.fls
  have hp := hp.keepF hB
  have hq := hq.keepF hB
  have ha := CanF.below ha hB
  have hr8 := hr8.keepC hB
  have hr9 := hr9.keepC hB
  clear hB
  simp only [put_lit, put_non, List.set_cons_zero, List.set_cons_succ]
  refine wkS_call (some 46) 19 #[r10, .agg #[.bool b, (.slice C m d), (.slice C' m' d')]] (by kernel_rfl) (by kernel_rfl) (by kernel_rfl) (fun w => by kernel_rfl) ?_
  refine (scale_p hr10.fv ha.fracV (by omega) (by omega) (by omega) (Nat.le_trans (pder_len (ofl_len l2)) (by omega))).mono ?_
  rintro e u7 ⟨r11, rfl, hr11, hB⟩
  refine ⟨r11, rfl, below_then hK hB, ?_⟩
  have hK := below_then hK hB
  have hr11 := hr11.fls
  have hp := hp.keepF hB
  have hq := hq.keepF hB
  have ha := CanF.below ha hB
  have hr8 := hr8.keepC hB
  have hr9 := hr9.keepC hB
  have hr10 := hr10.keepC hB
  clear hB
  simp only [put_lit, put_non, List.set_cons_zero, List.set_cons_succ]
  clear hr10
  refine wkS_call (some 47) 15 #[r9, r11] (by kernel_rfl) (by kernel_rfl) (by kernel_rfl) (fun w => by kernel_rfl) ?_
  refine (add_p hr9.fv hr11.fv (by omega) (by omega) (by omega) (by omega) (Nat.le_trans (pder_len (ofl_len l1)) (by omega)) (Nat.le_trans (pscale_len (bq z) (pder_len (ofl_len l2))) (by omega))).mono ?_
  rintro e u8 ⟨r12, rfl, hr12, hB⟩
  refine ⟨r12, rfl, below_then hK hB, ?_⟩
  have hK := below_then hK hB
  have hr12 := hr12.fls
  have hp := hp.keepF hB
  have hq := hq.keepF hB
  have ha := CanF.below ha hB
  have hr8 := hr8.keepC hB
  have hr9 := hr9.keepC hB
  have hr11 := hr11.keepC hB
  clear hB
  simp only [put_lit, put_non, List.set_cons_zero, List.set_cons_succ]
  clear hr9 hr11
  refine wkS_call (some 48) 12 #[r8, r12] (by kernel_rfl) (by kernel_rfl) (by kernel_rfl) (fun w => by kernel_rfl) ?_
  refine (same3_t hr8 hr12 (pder_linear _ _ _) (Nat.le_trans (pder_len (padd_len (ofl_len l1) (pscale_len (bq z) (ofl_len l2)))) (by omega))).mono ?_
  rintro e u9 ⟨rfl, hB⟩
  refine ⟨_, rfl, below_then hK hB, ?_⟩
  have hK := below_then hK hB
  have hp := hp.keepF hB
  have hq := hq.keepF hB
  have ha := CanF.below ha hB
  have hr8 := hr8.keepC hB
  have hr12 := hr12.keepC hB
  clear hB
  simp only [put_lit, put_non, List.set_cons_zero, List.set_cons_succ]
  refine wkS_take (some 49) (.bool true) (by kernel_rfl) (by kernel_rfl) (by kernel_rfl) (fun w hS => by kernel_rfl) ?_
  simp only [put_lit, put_non, List.set_cons_zero, List.set_cons_succ]
  refine wkS_take (some 50) (.bool true) (by kernel_rfl) (by kernel_rfl) (by kernel_rfl) (fun w hS => by kernel_rfl) ?_
  simp only [put_lit, put_non, List.set_cons_zero, List.set_cons_succ]
  clear hr8 hr12
  refine wkS_call (some 51) 30 #[] (by kernel_rfl) (by kernel_rfl) (by kernel_rfl) (fun w => by kernel_rfl) ?_
  refine (known3_v _).mono ?_
  rintro e u10 ⟨rfl, hB⟩
  refine ⟨_, rfl, below_then hK hB, ?_⟩
  have hK := below_then hK hB
  have hp := hp.keepF hB
  have hq := hq.keepF hB
  have ha := CanF.below ha hB
  clear hB
  simp only [put_lit, put_non, List.set_cons_zero, List.set_cons_succ]
  refine wkS_take (some 52) (.bool true) (by kernel_rfl) (by kernel_rfl) (by kernel_rfl) (fun w hS => by kernel_rfl) ?_
  simp only [put_lit, put_non, List.set_cons_zero, List.set_cons_succ]
  refine wkS_take (some 6) (.bool true) (by kernel_rfl) (by kernel_rfl) (by kernel_rfl) (fun w hS => by kernel_rfl) ?_
  simp only [put_lit, put_non, List.set_cons_zero, List.set_cons_succ]
  refine wkS_done ?_
  go_wp2_with fail
  go_ret
  exact ⟨rfl, below_then HB hK⟩
end Go.Proofs.Ytjemnankgjjgcaa

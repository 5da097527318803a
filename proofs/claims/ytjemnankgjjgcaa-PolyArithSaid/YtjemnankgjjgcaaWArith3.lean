/- The walk of the law PolyArith: it returns true and leaves what was there. -/
import Derived.Test.YtjemnankgjjgcaaOf
import Derived.Test.YtjemnankgjjgcaaSzp
import Derived.Test.YtjemnankgjjgcaaPrfd
import Derived.Test.YtjemnankgjjgcaaPsam
import Derived.Test.YtjemnankgjjgcaaPlans
namespace Go.Proofs.Ytjemnankgjjgcaa
set_option linter.unusedSimpArgs false
open Go.RowKit Dig
set_option linter.unusedVariables false

set_option maxHeartbeats 16000000 in
theorem arith3_walk (w : World) (v1 v2 : Value) (l1 l2 : List Int) (n1 : Ints w v1 l1) (n2 : Ints w v2 l2) {z : Int} (_ : (Lit.int .i64 z).wf = true) :
    Calls Try.prog 3 #[v1, v2, .int .i64 z] w (RVal w (.bool true)) := by
  have O1 := Lib.hid (of_v w v1 l1 n1)
  have O2 := Lib.hid (fun w1 hB => of_v w1 v2 l2 (n2.below hB))
  have BA := Lib.hid (fun w1 => baseFrac_v w1 z)
  obtain ⟨A1, c1, rfl⟩ := n1.form
  obtain ⟨A2, c2, rfl⟩ := n2.form
  clear n1 n2
  go_enter Try.func3, Try.ntmps3
  go_wp2_with fail
  refine (O1.out).mono ?_
  rintro e w1 ⟨p, rfl, hp, hB1⟩
  have hp := hp.fls
  go_wp2_with fail
  refine (O2.out _ hB1).mono ?_
  rintro e w2 ⟨q, rfl, hq, hB2⟩
  have hq := hq.fls
  have hp := hp.keepF hB2
  have HB := below_then hB1 hB2
  go_wp2_with fail
  refine (BA.out _).mono ?_
  rintro e w4 ⟨va, rfl, ha, hB4⟩
  have hp := hp.keepF hB4
  have hq := hq.keepF hB4
  have HB := below_then HB hB4
  obtain ⟨b, C, m, d, C', m', d', rfl, hb, hvx, hvy⟩ := ha.parts
  obtain ⟨W, g, ew, eg, hB, hF⟩ := var1 w4 b (.slice C m d) (.slice C' m' d')
  clear hb hvx hvy hB1 hB2 hB4 O1 O2 BA
  have hp := hp.keepF hB
  have hq := hq.keepF hB
  have ha := CanF.below ha hB
  have HB := below_then HB hB
  clear hB
  go_wp2_with fail
  refine wp_region_plan (S := fun w' => Below W.heap.size W w') [(0, true), (2, true), (1, false), (3, false), (4, false), (5, true), (6, true), (7, true), (9, true), (10, true), (8, false), (11, false), (12, false), (13, true), (14, true), (15, true), (16, true), (18, true), (19, true), (17, false), (20, false), (21, false), (22, true), (23, true), (24, true), (25, true), (27, true), (28, true), (26, false), (29, false), (30, false), (31, true), (32, true), (33, true), (35, true), (34, false), (36, false), (37, false), (38, true), (39, true), (40, true), (41, true), (43, true), (44, true), (42, false), (45, false), (46, false), (47, true), (48, true), (49, true), (51, true), (50, false), (52, false), (53, false), (54, true), (55, true), (56, true), (58, true), (57, false), (59, false), (60, false), (61, true), (62, true), (63, false), (64, true), (65, true)] (by kernel_rfl) (by kernel_rfl) (by kernel_rfl) (by kernel_rfl) (fun _ _ d _ _ h => by cases d <;> exact h) (Below.refl _ _).drew ?_
  have hK : Below W.heap.size W W.drew := (Below.refl _ _).drew
  have hp := hp.keepF hK
  have hq := hq.keepF hK
  have ha := CanF.below ha hK
  refine wkS_take (some 16) (p) (by kernel_rfl) (by kernel_rfl) (by kernel_rfl) (fun w hS => by kernel_rfl) ?_
  simp only [put_lit, put_non, List.set_cons_zero, List.set_cons_succ]
  refine wkS_take (some 18) (p) (by kernel_rfl) (by kernel_rfl) (by kernel_rfl) (fun w hS => by kernel_rfl) ?_
  simp only [put_lit, put_non, List.set_cons_zero, List.set_cons_succ]
  refine wkS_call (some 17) 13 #[p] (by kernel_rfl) (by kernel_rfl) (by kernel_rfl) (fun w => by kernel_rfl) ?_
  refine (normalize_p hp (by omega) (by omega) (Nat.le_trans (ofl_len l1) (by omega))).mono ?_
  rintro e u1 ⟨r1, rfl, hr1, hB⟩
  refine ⟨r1, rfl, below_then hK hB, ?_⟩
  have hK := below_then hK hB
  have hr1 := hr1.fls
  have hp := hp.keepF hB
  have hq := hq.keepF hB
  have ha := CanF.below ha hB
  clear hB
  simp only [put_lit, put_non, List.set_cons_zero, List.set_cons_succ]
  refine wkS_call (some 19) 14 #[p] (by kernel_rfl) (by kernel_rfl) (by kernel_rfl) (fun w => by kernel_rfl) ?_
  refine (polyNorm_r hp (by omega) (by omega) (Nat.le_trans (ofl_len l1) (by omega))).mono ?_
  rintro e u2 ⟨r2, rfl, hr2, hB⟩
  refine ⟨r2, rfl, below_then hK hB, ?_⟩
  have hK := below_then hK hB
  have hp := hp.keepF hB
  have hq := hq.keepF hB
  have ha := CanF.below ha hB
  have hr1 := hr1.keepC hB
  clear hB
  simp only [put_lit, put_non, List.set_cons_zero, List.set_cons_succ]
  refine wkS_call (some 20) 12 #[r1, r2] (by kernel_rfl) (by kernel_rfl) (by kernel_rfl) (fun w => by kernel_rfl) ?_
  refine (same3_t hr1 hr2 (rfl) (Nat.le_trans (tr_len (ofl_len l1)) (by omega))).mono ?_
  rintro e u3 ⟨rfl, hB⟩
  refine ⟨_, rfl, below_then hK hB, ?_⟩
  have hK := below_then hK hB
  have hp := hp.keepF hB
  have hq := hq.keepF hB
  have ha := CanF.below ha hB
  have hr1 := hr1.keepC hB
  have hr2 := hr2.keepC hB
  clear hB
  simp only [put_lit, put_non, List.set_cons_zero, List.set_cons_succ]
  refine wkS_take (some 21) (.bool true) (by kernel_rfl) (by kernel_rfl) (by kernel_rfl) (fun w hS => by kernel_rfl) ?_
  simp only [put_lit, put_non, List.set_cons_zero, List.set_cons_succ]
  refine wkS_take (some 22) (p) (by kernel_rfl) (by kernel_rfl) (by kernel_rfl) (fun w hS => by kernel_rfl) ?_
  simp only [put_lit, put_non, List.set_cons_zero, List.set_cons_succ]
  refine wkS_take (some 23) (q) (by kernel_rfl) (by kernel_rfl) (by kernel_rfl) (fun w hS => by kernel_rfl) ?_
  simp only [put_lit, put_non, List.set_cons_zero, List.set_cons_succ]
  refine wkS_take (some 25) (p) (by kernel_rfl) (by kernel_rfl) (by kernel_rfl) (fun w hS => by kernel_rfl) ?_
  simp only [put_lit, put_non, List.set_cons_zero, List.set_cons_succ]
  refine wkS_take (some 26) (q) (by kernel_rfl) (by kernel_rfl) (by kernel_rfl) (fun w hS => by kernel_rfl) ?_
  simp only [put_lit, put_non, List.set_cons_zero, List.set_cons_succ]
  clear hr1 hr2
  refine wkS_call (some 24) 15 #[p, q] (by kernel_rfl) (by kernel_rfl) (by kernel_rfl) (fun w => by kernel_rfl) ?_
  refine (add_p hp hq (by omega) (by omega) (by omega) (by omega) (Nat.le_trans (ofl_len l1) (by omega)) (Nat.le_trans (ofl_len l2) (by omega))).mono ?_
  rintro e u4 ⟨r3, rfl, hr3, hB⟩
  refine ⟨r3, rfl, below_then hK hB, ?_⟩
  have hK := below_then hK hB
  have hr3 := hr3.fls
  have hp := hp.keepF hB
  have hq := hq.keepF hB
  have ha := CanF.below ha hB
  clear hB
  simp only [put_lit, put_non, List.set_cons_zero, List.set_cons_succ]
  refine wkS_call (some 27) 16 #[p, q] (by kernel_rfl) (by kernel_rfl) (by kernel_rfl) (fun w => by kernel_rfl) ?_
  refine (polyAdd_r hp hq (by omega) (by omega) (by omega) (by omega) (Nat.le_trans (ofl_len l1) (by omega)) (Nat.le_trans (ofl_len l2) (by omega))).mono ?_
  rintro e u5 ⟨r4, rfl, hr4, hB⟩
  refine ⟨r4, rfl, below_then hK hB, ?_⟩
  have hK := below_then hK hB
  have hp := hp.keepF hB
  have hq := hq.keepF hB
  have ha := CanF.below ha hB
  have hr3 := hr3.keepC hB
  clear hB
  simp only [put_lit, put_non, List.set_cons_zero, List.set_cons_succ]
  refine wkS_call (some 28) 12 #[r3, r4] (by kernel_rfl) (by kernel_rfl) (by kernel_rfl) (fun w => by kernel_rfl) ?_
  refine (same3_t hr3 hr4 (rfl) (Nat.le_trans (padd_len (ofl_len l1) (ofl_len l2)) (by omega))).mono ?_
  rintro e u6 ⟨rfl, hB⟩
  refine ⟨_, rfl, below_then hK hB, ?_⟩
  have hK := below_then hK hB
  have hp := hp.keepF hB
  have hq := hq.keepF hB
  have ha := CanF.below ha hB
  have hr3 := hr3.keepC hB
  have hr4 := hr4.keepC hB
  clear hB
  simp only [put_lit, put_non, List.set_cons_zero, List.set_cons_succ]
  refine wkS_take (some 29) (.bool true) (by kernel_rfl) (by kernel_rfl) (by kernel_rfl) (fun w hS => by kernel_rfl) ?_
  simp only [put_lit, put_non, List.set_cons_zero, List.set_cons_succ]
  refine wkS_take (some 30) (.bool true) (by kernel_rfl) (by kernel_rfl) (by kernel_rfl) (fun w hS => by kernel_rfl) ?_
  simp only [put_lit, put_non, List.set_cons_zero, List.set_cons_succ]
  refine wkS_take (some 31) (p) (by kernel_rfl) (by kernel_rfl) (by kernel_rfl) (fun w hS => by kernel_rfl) ?_
  simp only [put_lit, put_non, List.set_cons_zero, List.set_cons_succ]
  refine wkS_take (some 32) (q) (by kernel_rfl) (by kernel_rfl) (by kernel_rfl) (fun w hS => by kernel_rfl) ?_
  simp only [put_lit, put_non, List.set_cons_zero, List.set_cons_succ]
  refine wkS_take (some 34) (p) (by kernel_rfl) (by kernel_rfl) (by kernel_rfl) (fun w hS => by kernel_rfl) ?_
  simp only [put_lit, put_non, List.set_cons_zero, List.set_cons_succ]
  refine wkS_take (some 35) (q) (by kernel_rfl) (by kernel_rfl) (by kernel_rfl) (fun w hS => by kernel_rfl) ?_
  simp only [put_lit, put_non, List.set_cons_zero, List.set_cons_succ]
  clear hr3 hr4
  refine wkS_call (some 33) 17 #[p, q] (by kernel_rfl) (by kernel_rfl) (by kernel_rfl) (fun w => by kernel_rfl) ?_
  refine (mul_p hp hq (by omega) (by omega) (by omega) (by omega) (by omega) (by omega) ((dby_ofl l1).tr.szd (K := 2) (M := 4) (by decide +kernel) (by decide +kernel)) ((dby_ofl l2).tr.szd (K := 2) (M := 4) (by decide +kernel) (by decide +kernel)) (by omega) (by omega) (by omega) (Nat.le_trans (ofl_len l1) (by omega)) (Nat.le_trans (ofl_len l2) (by omega))).mono ?_
  rintro e u7 ⟨r5, rfl, hr5, hB⟩
  refine ⟨r5, rfl, below_then hK hB, ?_⟩
  have hK := below_then hK hB
  have hr5 := hr5.fls
  have hp := hp.keepF hB
  have hq := hq.keepF hB
  have ha := CanF.below ha hB
  clear hB
  simp only [put_lit, put_non, List.set_cons_zero, List.set_cons_succ]
  refine wkS_call (some 36) 18 #[p, q] (by kernel_rfl) (by kernel_rfl) (by kernel_rfl) (fun w => by kernel_rfl) ?_
  refine (polyMul_r (N := 7) hp hq (by omega) (by omega) (ofl_len l1) (by omega) (Nat.le_trans (ofl_len l2) (by omega))).mono ?_
  rintro e u8 ⟨r6, rfl, hr6, hB⟩
  refine ⟨r6, rfl, below_then hK hB, ?_⟩
  have hK := below_then hK hB
  have hp := hp.keepF hB
  have hq := hq.keepF hB
  have ha := CanF.below ha hB
  have hr5 := hr5.keepC hB
  clear hB
  simp only [put_lit, put_non, List.set_cons_zero, List.set_cons_succ]
  refine wkS_call (some 37) 12 #[r5, r6] (by kernel_rfl) (by kernel_rfl) (by kernel_rfl) (fun w => by kernel_rfl) ?_
  refine (same3_t hr5 hr6 (rfl) (Nat.le_trans (pmul_len (ofl_len l1) (ofl_len l2)) (by omega))).mono ?_
  rintro e u9 ⟨rfl, hB⟩
  refine ⟨_, rfl, below_then hK hB, ?_⟩
  have hK := below_then hK hB
  have hp := hp.keepF hB
  have hq := hq.keepF hB
  have ha := CanF.below ha hB
  have hr5 := hr5.keepC hB
  have hr6 := hr6.keepC hB
  clear hB
  simp only [put_lit, put_non, List.set_cons_zero, List.set_cons_succ]
  refine wkS_take (some 38) (.bool true) (by kernel_rfl) (by kernel_rfl) (by kernel_rfl) (fun w hS => by kernel_rfl) ?_
  simp only [put_lit, put_non, List.set_cons_zero, List.set_cons_succ]
  refine wkS_take (some 39) (.bool true) (by kernel_rfl) (by kernel_rfl) (by kernel_rfl) (fun w hS => by kernel_rfl) ?_
  simp only [put_lit, put_non, List.set_cons_zero, List.set_cons_succ]
  refine wkS_take (some 40) (p) (by kernel_rfl) (by kernel_rfl) (by kernel_rfl) (fun w hS => by kernel_rfl) ?_
  simp only [put_lit, put_non, List.set_cons_zero, List.set_cons_succ]
  refine wkS_take (some 41) (.agg #[.bool b, (.slice C m d), (.slice C' m' d')]) (by kernel_rfl) (by kernel_rfl) (by kernel_rfl) (fun w hS => exec_load3 9 (hF.below hS) (by kernel_rfl) (by kernel_rfl)) ?_
  simp only [put_lit, put_non, List.set_cons_zero, List.set_cons_succ]
  refine wkS_take (some 43) (p) (by kernel_rfl) (by kernel_rfl) (by kernel_rfl) (fun w hS => by kernel_rfl) ?_
  simp only [put_lit, put_non, List.set_cons_zero, List.set_cons_succ]
  refine wkS_take (some 44) (.agg #[.bool b, (.slice C m d), (.slice C' m' d')]) (by kernel_rfl) (by kernel_rfl) (by kernel_rfl) (fun w hS => exec_load3 9 (hF.below hS) (by kernel_rfl) (by kernel_rfl)) ?_
  simp only [put_lit, put_non, List.set_cons_zero, List.set_cons_succ]
  clear hr5 hr6
  refine wkS_call (some 42) 19 #[p, .agg #[.bool b, (.slice C m d), (.slice C' m' d')]] (by kernel_rfl) (by kernel_rfl) (by kernel_rfl) (fun w => by kernel_rfl) ?_
  refine (scale_p hp ha.fracV (by omega) (by omega) (by omega) (Nat.le_trans (ofl_len l1) (by omega))).mono ?_
  rintro e u10 ⟨r7, rfl, hr7, hB⟩
  refine ⟨r7, rfl, below_then hK hB, ?_⟩
  have hK := below_then hK hB
  have hr7 := hr7.fls
  have hp := hp.keepF hB
  have hq := hq.keepF hB
  have ha := CanF.below ha hB
  clear hB
  simp only [put_lit, put_non, List.set_cons_zero, List.set_cons_succ]
  refine wkS_call (some 45) 20 #[p, .agg #[.bool b, (.slice C m d), (.slice C' m' d')]] (by kernel_rfl) (by kernel_rfl) (by kernel_rfl) (fun w => by kernel_rfl) ?_
  refine (polyScale_r (N := 7) hp ha.fracV (by omega) (by omega) (ofl_len l1) (by omega)).mono ?_
  rintro e u11 ⟨r8, rfl, hr8, hB⟩
  refine ⟨r8, rfl, below_then hK hB, ?_⟩
  have hK := below_then hK hB
  have hp := hp.keepF hB
  have hq := hq.keepF hB
  have ha := CanF.below ha hB
  have hr7 := hr7.keepC hB
  clear hB
  simp only [put_lit, put_non, List.set_cons_zero, List.set_cons_succ]
  refine wkS_call (some 46) 12 #[r7, r8] (by kernel_rfl) (by kernel_rfl) (by kernel_rfl) (fun w => by kernel_rfl) ?_
  refine (same3_t hr7 hr8 (rfl) (Nat.le_trans (pscale_len (bq z) (ofl_len l1)) (by omega))).mono ?_
  rintro e u12 ⟨rfl, hB⟩
  refine ⟨_, rfl, below_then hK hB, ?_⟩
  have hK := below_then hK hB
  have hp := hp.keepF hB
  have hq := hq.keepF hB
  have ha := CanF.below ha hB
  have hr7 := hr7.keepC hB
  have hr8 := hr8.keepC hB
  clear hB
  simp only [put_lit, put_non, List.set_cons_zero, List.set_cons_succ]
  refine wkS_take (some 47) (.bool true) (by kernel_rfl) (by kernel_rfl) (by kernel_rfl) (fun w hS => by kernel_rfl) ?_
  simp only [put_lit, put_non, List.set_cons_zero, List.set_cons_succ]
  refine wkS_take (some 48) (.bool true) (by kernel_rfl) (by kernel_rfl) (by kernel_rfl) (fun w hS => by kernel_rfl) ?_
  simp only [put_lit, put_non, List.set_cons_zero, List.set_cons_succ]
  refine wkS_take (some 49) (p) (by kernel_rfl) (by kernel_rfl) (by kernel_rfl) (fun w hS => by kernel_rfl) ?_
  simp only [put_lit, put_non, List.set_cons_zero, List.set_cons_succ]
  refine wkS_take (some 51) (p) (by kernel_rfl) (by kernel_rfl) (by kernel_rfl) (fun w hS => by kernel_rfl) ?_
  simp only [put_lit, put_non, List.set_cons_zero, List.set_cons_succ]
  clear hr7 hr8
  refine wkS_call (some 50) 21 #[p] (by kernel_rfl) (by kernel_rfl) (by kernel_rfl) (fun w => by kernel_rfl) ?_
  refine (derivative_p hp (by omega) (by omega) (Nat.le_trans (ofl_len l1) (by omega))).mono ?_
  rintro e u13 ⟨r9, rfl, hr9, hB⟩
  refine ⟨r9, rfl, below_then hK hB, ?_⟩
  have hK := below_then hK hB
  have hr9 := hr9.fls
  have hp := hp.keepF hB
  have hq := hq.keepF hB
  have ha := CanF.below ha hB
  clear hB
  simp only [put_lit, put_non, List.set_cons_zero, List.set_cons_succ]
  refine wkS_call (some 52) 22 #[p] (by kernel_rfl) (by kernel_rfl) (by kernel_rfl) (fun w => by kernel_rfl) ?_
  refine (polyDer_r hp (by omega) (by omega) (Nat.le_trans (ofl_len l1) (by omega))).mono ?_
  rintro e u14 ⟨r10, rfl, hr10, hB⟩
  refine ⟨r10, rfl, below_then hK hB, ?_⟩
  have hK := below_then hK hB
  have hp := hp.keepF hB
  have hq := hq.keepF hB
  have ha := CanF.below ha hB
  have hr9 := hr9.keepC hB
  clear hB
  simp only [put_lit, put_non, List.set_cons_zero, List.set_cons_succ]
  refine wkS_call (some 53) 12 #[r9, r10] (by kernel_rfl) (by kernel_rfl) (by kernel_rfl) (fun w => by kernel_rfl) ?_
  refine (same3_t hr9 hr10 (rfl) (Nat.le_trans (pder_len (ofl_len l1)) (by omega))).mono ?_
  rintro e u15 ⟨rfl, hB⟩
  refine ⟨_, rfl, below_then hK hB, ?_⟩
  have hK := below_then hK hB
  have hp := hp.keepF hB
  have hq := hq.keepF hB
  have ha := CanF.below ha hB
  have hr9 := hr9.keepC hB
  have hr10 := hr10.keepC hB
  clear hB
  simp only [put_lit, put_non, List.set_cons_zero, List.set_cons_succ]
  refine wkS_take (some 54) (.bool true) (by kernel_rfl) (by kernel_rfl) (by kernel_rfl) (fun w hS => by kernel_rfl) ?_
  simp only [put_lit, put_non, List.set_cons_zero, List.set_cons_succ]
  refine wkS_take (some 55) (.bool true) (by kernel_rfl) (by kernel_rfl) (by kernel_rfl) (fun w hS => by kernel_rfl) ?_
  simp only [put_lit, put_non, List.set_cons_zero, List.set_cons_succ]
  refine wkS_take (some 56) (p) (by kernel_rfl) (by kernel_rfl) (by kernel_rfl) (fun w hS => by kernel_rfl) ?_
  simp only [put_lit, put_non, List.set_cons_zero, List.set_cons_succ]
  refine wkS_take (some 57) (.agg #[.bool b, (.slice C m d), (.slice C' m' d')]) (by kernel_rfl) (by kernel_rfl) (by kernel_rfl) (fun w hS => exec_load3 9 (hF.below hS) (by kernel_rfl) (by kernel_rfl)) ?_
  simp only [put_lit, put_non, List.set_cons_zero, List.set_cons_succ]
  refine wkS_take (some 59) (p) (by kernel_rfl) (by kernel_rfl) (by kernel_rfl) (fun w hS => by kernel_rfl) ?_
  simp only [put_lit, put_non, List.set_cons_zero, List.set_cons_succ]
  refine wkS_take (some 60) (.agg #[.bool b, (.slice C m d), (.slice C' m' d')]) (by kernel_rfl) (by kernel_rfl) (by kernel_rfl) (fun w hS => exec_load3 9 (hF.below hS) (by kernel_rfl) (by kernel_rfl)) ?_
  simp only [put_lit, put_non, List.set_cons_zero, List.set_cons_succ]
  clear hr9 hr10
  refine wkS_call (some 58) 24 #[p, .agg #[.bool b, (.slice C m d), (.slice C' m' d')]] (by kernel_rfl) (by kernel_rfl) (by kernel_rfl) (fun w => by kernel_rfl) ?_
  refine (eval_p (M := 54) hp ha.fracV (by omega) (by omega) (ev_bound 2 (tr_len (Nat.le_trans (ofl_len l1) (by omega))) (by omega)) (by omega) (Nat.le_trans (ofl_len l1) (by omega))).mono ?_
  rintro e u16 ⟨r11, rfl, hr11, hB⟩
  refine ⟨r11, rfl, below_then hK hB, ?_⟩
  have hK := below_then hK hB
  have hp := hp.keepF hB
  have hq := hq.keepF hB
  have ha := CanF.below ha hB
  clear hB
  simp only [put_lit, put_non, List.set_cons_zero, List.set_cons_succ]
  refine wkS_call (some 61) 25 #[p, .agg #[.bool b, (.slice C m d), (.slice C' m' d')]] (by kernel_rfl) (by kernel_rfl) (by kernel_rfl) (fun w => by kernel_rfl) ?_
  refine (polyEval_r (N := 7) hp ha.fracV (by omega) (by omega) (ofl_len l1) (by omega)).mono ?_
  rintro e u17 ⟨r12, rfl, hr12, hB⟩
  refine ⟨r12, rfl, below_then hK hB, ?_⟩
  have hK := below_then hK hB
  have hp := hp.keepF hB
  have hq := hq.keepF hB
  have ha := CanF.below ha hB
  have hr11 := CanF.below hr11 hB
  clear hB
  simp only [put_lit, put_non, List.set_cons_zero, List.set_cons_succ]
  refine wkS_call (some 62) 23 #[r11, r12] (by kernel_rfl) (by kernel_rfl) (by kernel_rfl) (fun w => by kernel_rfl) ?_
  refine (frac3_t hr11 hr12 (rfl)).mono ?_
  rintro e u18 ⟨rfl, hB⟩
  refine ⟨_, rfl, below_then hK hB, ?_⟩
  have hK := below_then hK hB
  have hp := hp.keepF hB
  have hq := hq.keepF hB
  have ha := CanF.below ha hB
  have hr11 := CanF.below hr11 hB
  have hr12 := CanF.below hr12 hB
  clear hB
  simp only [put_lit, put_non, List.set_cons_zero, List.set_cons_succ]
  refine wkS_take (some 63) (.bool true) (by kernel_rfl) (by kernel_rfl) (by kernel_rfl) (fun w hS => by kernel_rfl) ?_
  simp only [put_lit, put_non, List.set_cons_zero, List.set_cons_succ]
  refine wkS_take (some 64) (.bool true) (by kernel_rfl) (by kernel_rfl) (by kernel_rfl) (fun w hS => by kernel_rfl) ?_
  simp only [put_lit, put_non, List.set_cons_zero, List.set_cons_succ]
  refine wkS_take (some 65) (p) (by kernel_rfl) (by kernel_rfl) (by kernel_rfl) (fun w hS => by kernel_rfl) ?_
  simp only [put_lit, put_non, List.set_cons_zero, List.set_cons_succ]
  refine wkS_take (some 67) (p) (by kernel_rfl) (by kernel_rfl) (by kernel_rfl) (fun w hS => by kernel_rfl) ?_
  simp only [put_lit, put_non, List.set_cons_zero, List.set_cons_succ]
  clear hr11 hr12
  refine wkS_call (some 66) 26 #[p] (by kernel_rfl) (by kernel_rfl) (by kernel_rfl) (fun w => by kernel_rfl) ?_
  refine (total_p (by omega) hp (Nat.le_trans (fbd_mono (ofl_len l1) (by omega)) (by decide)) (Nat.le_trans (ofl_len l1) (by omega))).mono ?_
  rintro e u19 ⟨r13, rfl, hr13, hB⟩
  refine ⟨r13, rfl, below_then hK hB, ?_⟩
  have hK := below_then hK hB
  have hp := hp.keepF hB
  have hq := hq.keepF hB
  have ha := CanF.below ha hB
  clear hB
  simp only [put_lit, put_non, List.set_cons_zero, List.set_cons_succ]
  refine wkS_call (some 68) 27 #[p] (by kernel_rfl) (by kernel_rfl) (by kernel_rfl) (fun w => by kernel_rfl) ?_
  refine (polyTotal_r (N := 7) hp (by omega) (ofl_len l1) (by omega)).mono ?_
  rintro e u20 ⟨r14, rfl, hr14, hB⟩
  refine ⟨r14, rfl, below_then hK hB, ?_⟩
  have hK := below_then hK hB
  have hp := hp.keepF hB
  have hq := hq.keepF hB
  have ha := CanF.below ha hB
  have hr13 := CanF.below hr13 hB
  clear hB
  simp only [put_lit, put_non, List.set_cons_zero, List.set_cons_succ]
  refine wkS_call (some 69) 23 #[r13, r14] (by kernel_rfl) (by kernel_rfl) (by kernel_rfl) (fun w => by kernel_rfl) ?_
  refine (frac3_t hr13 hr14 (rfl)).mono ?_
  rintro e u21 ⟨rfl, hB⟩
  refine ⟨_, rfl, below_then hK hB, ?_⟩
  have hK := below_then hK hB
  have hp := hp.keepF hB
  have hq := hq.keepF hB
  have ha := CanF.below ha hB
  have hr13 := CanF.below hr13 hB
  have hr14 := CanF.below hr14 hB
  clear hB
  simp only [put_lit, put_non, List.set_cons_zero, List.set_cons_succ]
  refine wkS_take (some 70) (.bool true) (by kernel_rfl) (by kernel_rfl) (by kernel_rfl) (fun w hS => by kernel_rfl) ?_
  simp only [put_lit, put_non, List.set_cons_zero, List.set_cons_succ]
  refine wkS_take (some 71) (.bool true) (by kernel_rfl) (by kernel_rfl) (by kernel_rfl) (fun w hS => by kernel_rfl) ?_
  simp only [put_lit, put_non, List.set_cons_zero, List.set_cons_succ]
  refine wkS_take (some 72) (p) (by kernel_rfl) (by kernel_rfl) (by kernel_rfl) (fun w hS => by kernel_rfl) ?_
  simp only [put_lit, put_non, List.set_cons_zero, List.set_cons_succ]
  refine wkS_take (some 74) (p) (by kernel_rfl) (by kernel_rfl) (by kernel_rfl) (fun w hS => by kernel_rfl) ?_
  simp only [put_lit, put_non, List.set_cons_zero, List.set_cons_succ]
  clear hr13 hr14
  refine wkS_call (some 73) 28 #[p] (by kernel_rfl) (by kernel_rfl) (by kernel_rfl) (fun w => by kernel_rfl) ?_
  refine (mean_p (by omega) hp (by omega) (Nat.le_trans (fbd_mono (pder_len (ofl_len l1)) (by omega)) (by decide)) (Nat.le_trans (ofl_len l1) (by omega))).mono ?_
  rintro e u22 ⟨r15, rfl, hr15, hB⟩
  refine ⟨r15, rfl, below_then hK hB, ?_⟩
  have hK := below_then hK hB
  have hp := hp.keepF hB
  have hq := hq.keepF hB
  have ha := CanF.below ha hB
  clear hB
  simp only [put_lit, put_non, List.set_cons_zero, List.set_cons_succ]
  refine wkS_call (some 75) 29 #[p] (by kernel_rfl) (by kernel_rfl) (by kernel_rfl) (fun w => by kernel_rfl) ?_
  refine (polyMean_r (N := 7) hp (by omega) (ofl_len l1) (by omega) (by omega) (Nat.le_trans (ofl_len l1) (by omega))).mono ?_
  rintro e u23 ⟨r16, rfl, hr16, hB⟩
  refine ⟨r16, rfl, below_then hK hB, ?_⟩
  have hK := below_then hK hB
  have hp := hp.keepF hB
  have hq := hq.keepF hB
  have ha := CanF.below ha hB
  have hr15 := CanF.below hr15 hB
  clear hB
  simp only [put_lit, put_non, List.set_cons_zero, List.set_cons_succ]
  refine wkS_call (some 76) 23 #[r15, r16] (by kernel_rfl) (by kernel_rfl) (by kernel_rfl) (fun w => by kernel_rfl) ?_
  refine (frac3_t hr15 hr16 (rfl)).mono ?_
  rintro e u24 ⟨rfl, hB⟩
  refine ⟨_, rfl, below_then hK hB, ?_⟩
  have hK := below_then hK hB
  have hp := hp.keepF hB
  have hq := hq.keepF hB
  have ha := CanF.below ha hB
  have hr15 := CanF.below hr15 hB
  have hr16 := CanF.below hr16 hB
  clear hB
  simp only [put_lit, put_non, List.set_cons_zero, List.set_cons_succ]
  refine wkS_take (some 77) (.bool true) (by kernel_rfl) (by kernel_rfl) (by kernel_rfl) (fun w hS => by kernel_rfl) ?_
  simp only [put_lit, put_non, List.set_cons_zero, List.set_cons_succ]
  refine wkS_take (some 78) (.bool true) (by kernel_rfl) (by kernel_rfl) (by kernel_rfl) (fun w hS => by kernel_rfl) ?_
  simp only [put_lit, put_non, List.set_cons_zero, List.set_cons_succ]
  clear hr15 hr16
  refine wkS_call (some 79) 30 #[] (by kernel_rfl) (by kernel_rfl) (by kernel_rfl) (fun w => by kernel_rfl) ?_
  refine (known3_v _).mono ?_
  rintro e u25 ⟨rfl, hB⟩
  refine ⟨_, rfl, below_then hK hB, ?_⟩
  have hK := below_then hK hB
  have hp := hp.keepF hB
  have hq := hq.keepF hB
  have ha := CanF.below ha hB
  clear hB
  simp only [put_lit, put_non, List.set_cons_zero, List.set_cons_succ]
  refine wkS_take (some 80) (.bool true) (by kernel_rfl) (by kernel_rfl) (by kernel_rfl) (fun w hS => by kernel_rfl) ?_
  simp only [put_lit, put_non, List.set_cons_zero, List.set_cons_succ]
  refine wkS_take (some 6) (.bool true) (by kernel_rfl) (by kernel_rfl) (by kernel_rfl) (fun w hS => by kernel_rfl) ?_
  simp only [put_lit, put_non, List.set_cons_zero, List.set_cons_succ]
  refine wkS_done ?_
  go_wp2_with fail
  go_ret
  exact ⟨rfl, below_then HB hK⟩
end Go.Proofs.Ytjemnankgjjgcaa

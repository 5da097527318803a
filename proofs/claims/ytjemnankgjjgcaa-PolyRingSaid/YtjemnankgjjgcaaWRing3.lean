/- The walk of the law PolyRing: it returns true and leaves what was there. -/
import Derived.Test.YtjemnankgjjgcaaOf
import Derived.Test.YtjemnankgjjgcaaSzp
import Derived.Test.YtjemnankgjjgcaaPsam
import Derived.Test.YtjemnankgjjgcaaPlans
namespace Go.Proofs.Ytjemnankgjjgcaa
set_option linter.unusedSimpArgs false
open Go.RowKit Dig
set_option linter.unusedVariables false

set_option maxHeartbeats 16000000 in
theorem ring3_go (w : World) (v1 v2 v3 : Value) (l1 l2 l3 : List Int) (n1 : Ints w v1 l1) (n2 : Ints w v2 l2) (n3 : Ints w v3 l3) (z : Int) (h1 : l1.length ≤ 5) (h2 : l2.length ≤ 5) (h3 : l3.length ≤ 5) :
    Calls Try.prog 7 #[v1, v2, v3, .int .i64 z] w (RVal w (.bool true)) := by
  have O1 := Lib.hid (of_v w v1 l1 n1)
  have O2 := Lib.hid (fun w1 hB => of_v w1 v2 l2 (n2.below hB))
  have O3 := Lib.hid (fun w1 hB => of_v w1 v3 l3 (n3.below hB))
  have BA := Lib.hid (fun w1 => baseFrac_v w1 z)
  obtain ⟨A1, c1, rfl⟩ := n1.form
  obtain ⟨A2, c2, rfl⟩ := n2.form
  obtain ⟨A3, c3, rfl⟩ := n3.form
  have e1 : ((5 : Int) < l1.length) = False := by simp; omega
  have e2 : ((5 : Int) < l2.length) = False := by simp; omega
  have e3 : ((5 : Int) < l3.length) = False := by simp; omega
  clear n1 n2 n3 h1 h2 h3
  go_enter Try.func7, Try.ntmps7
  go_wp2_with fail
  refine (O1.out).mono ?_
  rintro e w1 ⟨p, rfl, hp, hB1⟩
  have hp := hp.fls
  go_wp2_with fail
  refine (O2.out _ hB1).mono ?_
  rintro e w2 ⟨q, rfl, hq, hB2⟩
  have hq := hq.fls
  have hp := hp.keepF hB2
  have HB := below_then hB1 hB2
  go_wp2_with fail
  refine (O3.out _ HB).mono ?_
  rintro e w3 ⟨r, rfl, hr, hB3⟩
  have hr := hr.fls
  have hp := hp.keepF hB3
  have hq := hq.keepF hB3
  have HB := below_then HB hB3
  go_wp2_with fail
  refine (BA.out _).mono ?_
  rintro e w4 ⟨va, rfl, ha, hB4⟩
  have hp := hp.keepF hB4
  have hq := hq.keepF hB4
  have hr := hr.keepF hB4
  have HB := below_then HB hB4
  obtain ⟨b, C, m, d, C', m', d', rfl, hb, hvx, hvy⟩ := ha.parts
  obtain ⟨W, g, ew, eg, hB, hF⟩ := var1 w4 b (.slice C m d) (.slice C' m' d')
  clear hb hvx hvy hB1 hB2 hB3 hB4 e1 e2 e3 O1 O2 O3 BA
  have hp := hp.keepF hB
  have hq := hq.keepF hB
  have hr := hr.keepF hB
  have ha := CanF.below ha hB
  have HB := below_then HB hB
  clear hB
  go_wp2_with fail
  refine wp_region_plan (S := fun w' => Below W.heap.size W w') [(0, true), (1, true), (3, true), (4, true), (2, false), (5, false), (6, false), (7, true), (8, true), (9, true), (11, true), (12, true), (10, false), (13, false), (14, false), (15, true), (16, true), (17, true), (18, true), (20, true), (22, true), (23, true), (24, true), (19, false), (21, false), (25, false), (26, false), (27, false), (28, true), (29, true), (30, true), (31, true), (32, true), (35, true), (36, true), (38, true), (39, true), (33, false), (34, false), (37, false), (40, false), (41, false), (42, false), (43, true), (44, true), (45, true), (46, true), (48, true), (50, true), (51, true), (53, true), (54, true), (47, false), (49, false), (52, false), (55, false), (56, false), (57, false), (58, true), (59, true), (60, true), (61, true), (63, true), (65, true), (66, true), (68, true), (69, true), (62, false), (64, false), (67, false), (70, false), (71, false), (72, false), (73, true), (74, true), (75, false), (76, true), (77, true)] (by kernel_rfl) (by kernel_rfl) (by kernel_rfl) (by kernel_rfl) (fun _ _ d _ _ h => by cases d <;> exact h) (Below.refl _ _).drew ?_
  have hK : Below W.heap.size W W.drew := (Below.refl _ _).drew
  have hp := hp.keepF hK
  have hq := hq.keepF hK
  have hr := hr.keepF hK
  have ha := CanF.below ha hK
  refine wkS_take (some 34) (p) (by kernel_rfl) (by kernel_rfl) (by kernel_rfl) (fun w hS => by kernel_rfl) ?_
  simp only [put_lit, put_non, List.set_cons_zero, List.set_cons_succ]
  refine wkS_take (some 35) (q) (by kernel_rfl) (by kernel_rfl) (by kernel_rfl) (fun w hS => by kernel_rfl) ?_
  simp only [put_lit, put_non, List.set_cons_zero, List.set_cons_succ]
  refine wkS_take (some 37) (q) (by kernel_rfl) (by kernel_rfl) (by kernel_rfl) (fun w hS => by kernel_rfl) ?_
  simp only [put_lit, put_non, List.set_cons_zero, List.set_cons_succ]
  refine wkS_take (some 38) (p) (by kernel_rfl) (by kernel_rfl) (by kernel_rfl) (fun w hS => by kernel_rfl) ?_
  simp only [put_lit, put_non, List.set_cons_zero, List.set_cons_succ]
  refine wkS_call (some 36) 15 #[p, q] (by kernel_rfl) (by kernel_rfl) (by kernel_rfl) (fun w => by kernel_rfl) ?_
  refine (add_p hp hq (by omega) (by omega) (by omega) (by omega) (Nat.le_trans (ofl_len l1) (by omega)) (Nat.le_trans (ofl_len l2) (by omega))).mono ?_
  rintro e u1 ⟨r1, rfl, hr1, hB⟩
  refine ⟨r1, rfl, below_then hK hB, ?_⟩
  have hK := below_then hK hB
  have hr1 := hr1.fls
  have hp := hp.keepF hB
  have hq := hq.keepF hB
  have hr := hr.keepF hB
  have ha := CanF.below ha hB
  clear hB
  simp only [put_lit, put_non, List.set_cons_zero, List.set_cons_succ]
  refine wkS_call (some 39) 15 #[q, p] (by kernel_rfl) (by kernel_rfl) (by kernel_rfl) (fun w => by kernel_rfl) ?_
  refine (add_p hq hp (by omega) (by omega) (by omega) (by omega) (Nat.le_trans (ofl_len l2) (by omega)) (Nat.le_trans (ofl_len l1) (by omega))).mono ?_
  rintro e u2 ⟨r2, rfl, hr2, hB⟩
  refine ⟨r2, rfl, below_then hK hB, ?_⟩
  have hK := below_then hK hB
  have hr2 := hr2.fls
  have hp := hp.keepF hB
  have hq := hq.keepF hB
  have hr := hr.keepF hB
  have ha := CanF.below ha hB
  have hr1 := hr1.keepC hB
  clear hB
  simp only [put_lit, put_non, List.set_cons_zero, List.set_cons_succ]
  refine wkS_call (some 40) 12 #[r1, r2] (by kernel_rfl) (by kernel_rfl) (by kernel_rfl) (fun w => by kernel_rfl) ?_
  refine (same3_t hr1 hr2 (padd_comm _ _) (Nat.le_trans (padd_len (ofl_len l1) (ofl_len l2)) (by omega))).mono ?_
  rintro e u3 ⟨rfl, hB⟩
  refine ⟨_, rfl, below_then hK hB, ?_⟩
  have hK := below_then hK hB
  have hp := hp.keepF hB
  have hq := hq.keepF hB
  have hr := hr.keepF hB
  have ha := CanF.below ha hB
  have hr1 := hr1.keepC hB
  have hr2 := hr2.keepC hB
  clear hB
  simp only [put_lit, put_non, List.set_cons_zero, List.set_cons_succ]
  refine wkS_take (some 41) (.bool true) (by kernel_rfl) (by kernel_rfl) (by kernel_rfl) (fun w hS => by kernel_rfl) ?_
  simp only [put_lit, put_non, List.set_cons_zero, List.set_cons_succ]
  refine wkS_take (some 42) (p) (by kernel_rfl) (by kernel_rfl) (by kernel_rfl) (fun w hS => by kernel_rfl) ?_
  simp only [put_lit, put_non, List.set_cons_zero, List.set_cons_succ]
  refine wkS_take (some 43) (q) (by kernel_rfl) (by kernel_rfl) (by kernel_rfl) (fun w hS => by kernel_rfl) ?_
  simp only [put_lit, put_non, List.set_cons_zero, List.set_cons_succ]
  refine wkS_take (some 45) (q) (by kernel_rfl) (by kernel_rfl) (by kernel_rfl) (fun w hS => by kernel_rfl) ?_
  simp only [put_lit, put_non, List.set_cons_zero, List.set_cons_succ]
  refine wkS_take (some 46) (p) (by kernel_rfl) (by kernel_rfl) (by kernel_rfl) (fun w hS => by kernel_rfl) ?_
  simp only [put_lit, put_non, List.set_cons_zero, List.set_cons_succ]
  clear hr1 hr2
  refine wkS_call (some 44) 17 #[p, q] (by kernel_rfl) (by kernel_rfl) (by kernel_rfl) (fun w => by kernel_rfl) ?_
  refine (mul_p hp hq (by omega) (by omega) (by omega) (by omega) (by omega) (by omega) ((dby_ofl l1).tr.szd (K := 2) (M := 4) (by decide +kernel) (by decide +kernel)) ((dby_ofl l2).tr.szd (K := 2) (M := 4) (by decide +kernel) (by decide +kernel)) (by omega) (by omega) (by omega) (Nat.le_trans (ofl_len l1) (by omega)) (Nat.le_trans (ofl_len l2) (by omega))).mono ?_
  rintro e u4 ⟨r3, rfl, hr3, hB⟩
  refine ⟨r3, rfl, below_then hK hB, ?_⟩
  have hK := below_then hK hB
  have hr3 := hr3.fls
  have hp := hp.keepF hB
  have hq := hq.keepF hB
  have hr := hr.keepF hB
  have ha := CanF.below ha hB
  clear hB
  simp only [put_lit, put_non, List.set_cons_zero, List.set_cons_succ]
  refine wkS_call (some 47) 17 #[q, p] (by kernel_rfl) (by kernel_rfl) (by kernel_rfl) (fun w => by kernel_rfl) ?_
  refine (mul_p hq hp (by omega) (by omega) (by omega) (by omega) (by omega) (by omega) ((dby_ofl l2).tr.szd (K := 2) (M := 4) (by decide +kernel) (by decide +kernel)) ((dby_ofl l1).tr.szd (K := 2) (M := 4) (by decide +kernel) (by decide +kernel)) (by omega) (by omega) (by omega) (Nat.le_trans (ofl_len l2) (by omega)) (Nat.le_trans (ofl_len l1) (by omega))).mono ?_
  rintro e u5 ⟨r4, rfl, hr4, hB⟩
  refine ⟨r4, rfl, below_then hK hB, ?_⟩
  have hK := below_then hK hB
  have hr4 := hr4.fls
  have hp := hp.keepF hB
  have hq := hq.keepF hB
  have hr := hr.keepF hB
  have ha := CanF.below ha hB
  have hr3 := hr3.keepC hB
  clear hB
  simp only [put_lit, put_non, List.set_cons_zero, List.set_cons_succ]
  refine wkS_call (some 48) 12 #[r3, r4] (by kernel_rfl) (by kernel_rfl) (by kernel_rfl) (fun w => by kernel_rfl) ?_
  refine (same3_t hr3 hr4 (pmul_comm _ _) (Nat.le_trans (pmul_len (ofl_len l1) (ofl_len l2)) (by omega))).mono ?_
  rintro e u6 ⟨rfl, hB⟩
  refine ⟨_, rfl, below_then hK hB, ?_⟩
  have hK := below_then hK hB
  have hp := hp.keepF hB
  have hq := hq.keepF hB
  have hr := hr.keepF hB
  have ha := CanF.below ha hB
  have hr3 := hr3.keepC hB
  have hr4 := hr4.keepC hB
  clear hB
  simp only [put_lit, put_non, List.set_cons_zero, List.set_cons_succ]
  refine wkS_take (some 49) (.bool true) (by kernel_rfl) (by kernel_rfl) (by kernel_rfl) (fun w hS => by kernel_rfl) ?_
  simp only [put_lit, put_non, List.set_cons_zero, List.set_cons_succ]
  refine wkS_take (some 50) (.bool true) (by kernel_rfl) (by kernel_rfl) (by kernel_rfl) (fun w hS => by kernel_rfl) ?_
  simp only [put_lit, put_non, List.set_cons_zero, List.set_cons_succ]
  refine wkS_take (some 51) (p) (by kernel_rfl) (by kernel_rfl) (by kernel_rfl) (fun w hS => by kernel_rfl) ?_
  simp only [put_lit, put_non, List.set_cons_zero, List.set_cons_succ]
  refine wkS_take (some 52) (q) (by kernel_rfl) (by kernel_rfl) (by kernel_rfl) (fun w hS => by kernel_rfl) ?_
  simp only [put_lit, put_non, List.set_cons_zero, List.set_cons_succ]
  refine wkS_take (some 54) (r) (by kernel_rfl) (by kernel_rfl) (by kernel_rfl) (fun w hS => by kernel_rfl) ?_
  simp only [put_lit, put_non, List.set_cons_zero, List.set_cons_succ]
  refine wkS_take (some 56) (p) (by kernel_rfl) (by kernel_rfl) (by kernel_rfl) (fun w hS => by kernel_rfl) ?_
  simp only [put_lit, put_non, List.set_cons_zero, List.set_cons_succ]
  refine wkS_take (some 57) (q) (by kernel_rfl) (by kernel_rfl) (by kernel_rfl) (fun w hS => by kernel_rfl) ?_
  simp only [put_lit, put_non, List.set_cons_zero, List.set_cons_succ]
  refine wkS_take (some 58) (r) (by kernel_rfl) (by kernel_rfl) (by kernel_rfl) (fun w hS => by kernel_rfl) ?_
  simp only [put_lit, put_non, List.set_cons_zero, List.set_cons_succ]
  clear hr3 hr4
  refine wkS_call (some 53) 17 #[p, q] (by kernel_rfl) (by kernel_rfl) (by kernel_rfl) (fun w => by kernel_rfl) ?_
  refine (mul_p hp hq (by omega) (by omega) (by omega) (by omega) (by omega) (by omega) ((dby_ofl l1).tr.szd (K := 2) (M := 4) (by decide +kernel) (by decide +kernel)) ((dby_ofl l2).tr.szd (K := 2) (M := 4) (by decide +kernel) (by decide +kernel)) (by omega) (by omega) (by omega) (Nat.le_trans (ofl_len l1) (by omega)) (Nat.le_trans (ofl_len l2) (by omega))).mono ?_
  rintro e u7 ⟨r5, rfl, hr5, hB⟩
  refine ⟨r5, rfl, below_then hK hB, ?_⟩
  have hK := below_then hK hB
  have hr5 := hr5.fls
  have hp := hp.keepF hB
  have hq := hq.keepF hB
  have hr := hr.keepF hB
  have ha := CanF.below ha hB
  clear hB
  simp only [put_lit, put_non, List.set_cons_zero, List.set_cons_succ]
  refine wkS_call (some 55) 17 #[r5, r] (by kernel_rfl) (by kernel_rfl) (by kernel_rfl) (fun w => by kernel_rfl) ?_
  refine (mul_p hr5.fv hr (by omega) (by omega) (by omega) (by omega) (by omega) (by omega) ((Dby.mul (dby_ofl l1) (dby_ofl l2) (ofl_len l1)).tr.szd (K := 3) (M := 7) (by decide +kernel) (by decide +kernel)) ((dby_ofl l3).tr.szd (K := 2) (M := 4) (by decide +kernel) (by decide +kernel)) (by omega) (by omega) (by omega) (Nat.le_trans (pmul_len (ofl_len l1) (ofl_len l2)) (by omega)) (Nat.le_trans (ofl_len l3) (by omega))).mono ?_
  rintro e u8 ⟨r6, rfl, hr6, hB⟩
  refine ⟨r6, rfl, below_then hK hB, ?_⟩
  have hK := below_then hK hB
  have hr6 := hr6.fls
  have hp := hp.keepF hB
  have hq := hq.keepF hB
  have hr := hr.keepF hB
  have ha := CanF.below ha hB
  have hr5 := hr5.keepC hB
  clear hB
  simp only [put_lit, put_non, List.set_cons_zero, List.set_cons_succ]
  clear hr5
  refine wkS_call (some 59) 17 #[q, r] (by kernel_rfl) (by kernel_rfl) (by kernel_rfl) (fun w => by kernel_rfl) ?_
  refine (mul_p hq hr (by omega) (by omega) (by omega) (by omega) (by omega) (by omega) ((dby_ofl l2).tr.szd (K := 2) (M := 4) (by decide +kernel) (by decide +kernel)) ((dby_ofl l3).tr.szd (K := 2) (M := 4) (by decide +kernel) (by decide +kernel)) (by omega) (by omega) (by omega) (Nat.le_trans (ofl_len l2) (by omega)) (Nat.le_trans (ofl_len l3) (by omega))).mono ?_
  rintro e u9 ⟨r7, rfl, hr7, hB⟩
  refine ⟨r7, rfl, below_then hK hB, ?_⟩
  have hK := below_then hK hB
  have hr7 := hr7.fls
  have hp := hp.keepF hB
  have hq := hq.keepF hB
  have hr := hr.keepF hB
  have ha := CanF.below ha hB
  have hr6 := hr6.keepC hB
  clear hB
  simp only [put_lit, put_non, List.set_cons_zero, List.set_cons_succ]
  refine wkS_call (some 60) 17 #[p, r7] (by kernel_rfl) (by kernel_rfl) (by kernel_rfl) (fun w => by kernel_rfl) ?_
  refine (mul_p hp hr7.fv (by omega) (by omega) (by omega) (by omega) (by omega) (by omega) ((dby_ofl l1).tr.szd (K := 2) (M := 4) (by decide +kernel) (by decide +kernel)) ((Dby.mul (dby_ofl l2) (dby_ofl l3) (ofl_len l2)).tr.szd (K := 3) (M := 7) (by decide +kernel) (by decide +kernel)) (by omega) (by omega) (by omega) (Nat.le_trans (ofl_len l1) (by omega)) (Nat.le_trans (pmul_len (ofl_len l2) (ofl_len l3)) (by omega))).mono ?_
  rintro e u10 ⟨r8, rfl, hr8, hB⟩
  refine ⟨r8, rfl, below_then hK hB, ?_⟩
  have hK := below_then hK hB
  have hr8 := hr8.fls
  have hp := hp.keepF hB
  have hq := hq.keepF hB
  have hr := hr.keepF hB
  have ha := CanF.below ha hB
  have hr6 := hr6.keepC hB
  have hr7 := hr7.keepC hB
  clear hB
  simp only [put_lit, put_non, List.set_cons_zero, List.set_cons_succ]
  clear hr7
  refine wkS_call (some 61) 12 #[r6, r8] (by kernel_rfl) (by kernel_rfl) (by kernel_rfl) (fun w => by kernel_rfl) ?_
  refine (same3_t hr6 hr8 (pmul_assoc _ _ _) (Nat.le_trans (pmul_len (pmul_len (ofl_len l1) (ofl_len l2)) (ofl_len l3)) (by omega))).mono ?_
  rintro e u11 ⟨rfl, hB⟩
  refine ⟨_, rfl, below_then hK hB, ?_⟩
  have hK := below_then hK hB
  have hp := hp.keepF hB
  have hq := hq.keepF hB
  have hr := hr.keepF hB
  have ha := CanF.below ha hB
  have hr6 := hr6.keepC hB
  have hr8 := hr8.keepC hB
  clear hB
  simp only [put_lit, put_non, List.set_cons_zero, List.set_cons_succ]
  refine wkS_take (some 62) (.bool true) (by kernel_rfl) (by kernel_rfl) (by kernel_rfl) (fun w hS => by kernel_rfl) ?_
  simp only [put_lit, put_non, List.set_cons_zero, List.set_cons_succ]
  refine wkS_take (some 63) (.bool true) (by kernel_rfl) (by kernel_rfl) (by kernel_rfl) (fun w hS => by kernel_rfl) ?_
  simp only [put_lit, put_non, List.set_cons_zero, List.set_cons_succ]
  refine wkS_take (some 64) (p) (by kernel_rfl) (by kernel_rfl) (by kernel_rfl) (fun w hS => by kernel_rfl) ?_
  simp only [put_lit, put_non, List.set_cons_zero, List.set_cons_succ]
  refine wkS_take (some 65) (q) (by kernel_rfl) (by kernel_rfl) (by kernel_rfl) (fun w hS => by kernel_rfl) ?_
  simp only [put_lit, put_non, List.set_cons_zero, List.set_cons_succ]
  refine wkS_take (some 66) (r) (by kernel_rfl) (by kernel_rfl) (by kernel_rfl) (fun w hS => by kernel_rfl) ?_
  simp only [put_lit, put_non, List.set_cons_zero, List.set_cons_succ]
  refine wkS_take (some 69) (p) (by kernel_rfl) (by kernel_rfl) (by kernel_rfl) (fun w hS => by kernel_rfl) ?_
  simp only [put_lit, put_non, List.set_cons_zero, List.set_cons_succ]
  refine wkS_take (some 70) (q) (by kernel_rfl) (by kernel_rfl) (by kernel_rfl) (fun w hS => by kernel_rfl) ?_
  simp only [put_lit, put_non, List.set_cons_zero, List.set_cons_succ]
  refine wkS_take (some 72) (p) (by kernel_rfl) (by kernel_rfl) (by kernel_rfl) (fun w hS => by kernel_rfl) ?_
  simp only [put_lit, put_non, List.set_cons_zero, List.set_cons_succ]
  refine wkS_take (some 73) (r) (by kernel_rfl) (by kernel_rfl) (by kernel_rfl) (fun w hS => by kernel_rfl) ?_
  simp only [put_lit, put_non, List.set_cons_zero, List.set_cons_succ]
  clear hr6 hr8
  refine wkS_call (some 67) 15 #[q, r] (by kernel_rfl) (by kernel_rfl) (by kernel_rfl) (fun w => by kernel_rfl) ?_
  refine (add_p hq hr (by omega) (by omega) (by omega) (by omega) (Nat.le_trans (ofl_len l2) (by omega)) (Nat.le_trans (ofl_len l3) (by omega))).mono ?_
  rintro e u12 ⟨r9, rfl, hr9, hB⟩
  refine ⟨r9, rfl, below_then hK hB, ?_⟩
  have hK := below_then hK hB
  have hr9 := hr9.fls
  have hp := hp.keepF hB
  have hq := hq.keepF hB
  have hr := hr.keepF hB
  have ha := CanF.below ha hB
  clear hB
  simp only [put_lit, put_non, List.set_cons_zero, List.set_cons_succ]
  refine wkS_call (some 68) 17 #[p, r9] (by kernel_rfl) (by kernel_rfl) (by kernel_rfl) (fun w => by kernel_rfl) ?_
  refine (mul_p hp hr9.fv (by omega) (by omega) (by omega) (by omega) (by omega) (by omega) ((dby_ofl l1).tr.szd (K := 2) (M := 4) (by decide +kernel) (by decide +kernel)) ((Dby.add (dby_ofl l2) (dby_ofl l3)).tr.szd (K := 2) (M := 4) (by decide +kernel) (by decide +kernel)) (by omega) (by omega) (by omega) (Nat.le_trans (ofl_len l1) (by omega)) (Nat.le_trans (padd_len (ofl_len l2) (ofl_len l3)) (by omega))).mono ?_
  rintro e u13 ⟨r10, rfl, hr10, hB⟩
  refine ⟨r10, rfl, below_then hK hB, ?_⟩
  have hK := below_then hK hB
  have hr10 := hr10.fls
  have hp := hp.keepF hB
  have hq := hq.keepF hB
  have hr := hr.keepF hB
  have ha := CanF.below ha hB
  have hr9 := hr9.keepC hB
  clear hB
  simp only [put_lit, put_non, List.set_cons_zero, List.set_cons_succ]
  clear hr9
  refine wkS_call (some 71) 17 #[p, q] (by kernel_rfl) (by kernel_rfl) (by kernel_rfl) (fun w => by kernel_rfl) ?_
  refine (mul_p hp hq (by omega) (by omega) (by omega) (by omega) (by omega) (by omega) ((dby_ofl l1).tr.szd (K := 2) (M := 4) (by decide +kernel) (by decide +kernel)) ((dby_ofl l2).tr.szd (K := 2) (M := 4) (by decide +kernel) (by decide +kernel)) (by omega) (by omega) (by omega) (Nat.le_trans (ofl_len l1) (by omega)) (Nat.le_trans (ofl_len l2) (by omega))).mono ?_
  rintro e u14 ⟨r11, rfl, hr11, hB⟩
  refine ⟨r11, rfl, below_then hK hB, ?_⟩
  have hK := below_then hK hB
  have hr11 := hr11.fls
  have hp := hp.keepF hB
  have hq := hq.keepF hB
  have hr := hr.keepF hB
  have ha := CanF.below ha hB
  have hr10 := hr10.keepC hB
  clear hB
  simp only [put_lit, put_non, List.set_cons_zero, List.set_cons_succ]
  refine wkS_call (some 74) 17 #[p, r] (by kernel_rfl) (by kernel_rfl) (by kernel_rfl) (fun w => by kernel_rfl) ?_
  refine (mul_p hp hr (by omega) (by omega) (by omega) (by omega) (by omega) (by omega) ((dby_ofl l1).tr.szd (K := 2) (M := 4) (by decide +kernel) (by decide +kernel)) ((dby_ofl l3).tr.szd (K := 2) (M := 4) (by decide +kernel) (by decide +kernel)) (by omega) (by omega) (by omega) (Nat.le_trans (ofl_len l1) (by omega)) (Nat.le_trans (ofl_len l3) (by omega))).mono ?_
  rintro e u15 ⟨r12, rfl, hr12, hB⟩
  refine ⟨r12, rfl, below_then hK hB, ?_⟩
  have hK := below_then hK hB
  have hr12 := hr12.fls
  have hp := hp.keepF hB
  have hq := hq.keepF hB
  have hr := hr.keepF hB
  have ha := CanF.below ha hB
  have hr10 := hr10.keepC hB
  have hr11 := hr11.keepC hB
  clear hB
  simp only [put_lit, put_non, List.set_cons_zero, List.set_cons_succ]
  refine wkS_call (some 75) 15 #[r11, r12] (by kernel_rfl) (by kernel_rfl) (by kernel_rfl) (fun w => by kernel_rfl) ?_
  refine (add_p hr11.fv hr12.fv (by omega) (by omega) (by omega) (by omega) (Nat.le_trans (pmul_len (ofl_len l1) (ofl_len l2)) (by omega)) (Nat.le_trans (pmul_len (ofl_len l1) (ofl_len l3)) (by omega))).mono ?_
  rintro e u16 ⟨r13, rfl, hr13, hB⟩
  refine ⟨r13, rfl, below_then hK hB, ?_⟩
  have hK := below_then hK hB
  have hr13 := hr13.fls
  have hp := hp.keepF hB
  have hq := hq.keepF hB
  have hr := hr.keepF hB
  have ha := CanF.below ha hB
  have hr10 := hr10.keepC hB
  have hr11 := hr11.keepC hB
  have hr12 := hr12.keepC hB
  clear hB
  simp only [put_lit, put_non, List.set_cons_zero, List.set_cons_succ]
  clear hr11 hr12
  refine wkS_call (some 76) 12 #[r10, r13] (by kernel_rfl) (by kernel_rfl) (by kernel_rfl) (fun w => by kernel_rfl) ?_
  refine (same3_t hr10 hr13 (pmul_padd _ _ _) (Nat.le_trans (pmul_len (ofl_len l1) (padd_len (ofl_len l2) (ofl_len l3))) (by omega))).mono ?_
  rintro e u17 ⟨rfl, hB⟩
  refine ⟨_, rfl, below_then hK hB, ?_⟩
  have hK := below_then hK hB
  have hp := hp.keepF hB
  have hq := hq.keepF hB
  have hr := hr.keepF hB
  have ha := CanF.below ha hB
  have hr10 := hr10.keepC hB
  have hr13 := hr13.keepC hB
  clear hB
  simp only [put_lit, put_non, List.set_cons_zero, List.set_cons_succ]
  refine wkS_take (some 77) (.bool true) (by kernel_rfl) (by kernel_rfl) (by kernel_rfl) (fun w hS => by kernel_rfl) ?_
  simp only [put_lit, put_non, List.set_cons_zero, List.set_cons_succ]
  refine wkS_take (some 78) (.bool true) (by kernel_rfl) (by kernel_rfl) (by kernel_rfl) (fun w hS => by kernel_rfl) ?_
  simp only [put_lit, put_non, List.set_cons_zero, List.set_cons_succ]
  refine wkS_take (some 79) (p) (by kernel_rfl) (by kernel_rfl) (by kernel_rfl) (fun w hS => by kernel_rfl) ?_
  simp only [put_lit, put_non, List.set_cons_zero, List.set_cons_succ]
  refine wkS_take (some 80) (q) (by kernel_rfl) (by kernel_rfl) (by kernel_rfl) (fun w hS => by kernel_rfl) ?_
  simp only [put_lit, put_non, List.set_cons_zero, List.set_cons_succ]
  refine wkS_take (some 82) (.agg #[.bool b, (.slice C m d), (.slice C' m' d')]) (by kernel_rfl) (by kernel_rfl) (by kernel_rfl) (fun w hS => exec_load3 12 (hF.below hS) (by kernel_rfl) (by kernel_rfl)) ?_
  simp only [put_lit, put_non, List.set_cons_zero, List.set_cons_succ]
  refine wkS_take (some 84) (p) (by kernel_rfl) (by kernel_rfl) (by kernel_rfl) (fun w hS => by kernel_rfl) ?_
  simp only [put_lit, put_non, List.set_cons_zero, List.set_cons_succ]
  refine wkS_take (some 85) (.agg #[.bool b, (.slice C m d), (.slice C' m' d')]) (by kernel_rfl) (by kernel_rfl) (by kernel_rfl) (fun w hS => exec_load3 12 (hF.below hS) (by kernel_rfl) (by kernel_rfl)) ?_
  simp only [put_lit, put_non, List.set_cons_zero, List.set_cons_succ]
  refine wkS_take (some 87) (q) (by kernel_rfl) (by kernel_rfl) (by kernel_rfl) (fun w hS => by kernel_rfl) ?_
  simp only [put_lit, put_non, List.set_cons_zero, List.set_cons_succ]
  refine wkS_take (some 88) (.agg #[.bool b, (.slice C m d), (.slice C' m' d')]) (by kernel_rfl) (by kernel_rfl) (by kernel_rfl) (fun w hS => exec_load3 12 (hF.below hS) (by kernel_rfl) (by kernel_rfl)) ?_
  simp only [put_lit, put_non, List.set_cons_zero, List.set_cons_succ]
  clear hr10 hr13
  refine wkS_call (some 81) 17 #[p, q] (by kernel_rfl) (by kernel_rfl) (by kernel_rfl) (fun w => by kernel_rfl) ?_
  refine (mul_p hp hq (by omega) (by omega) (by omega) (by omega) (by omega) (by omega) ((dby_ofl l1).tr.szd (K := 2) (M := 4) (by decide +kernel) (by decide +kernel)) ((dby_ofl l2).tr.szd (K := 2) (M := 4) (by decide +kernel) (by decide +kernel)) (by omega) (by omega) (by omega) (Nat.le_trans (ofl_len l1) (by omega)) (Nat.le_trans (ofl_len l2) (by omega))).mono ?_
  rintro e u18 ⟨r14, rfl, hr14, hB⟩
  refine ⟨r14, rfl, below_then hK hB, ?_⟩
  have hK := below_then hK hB
  have hr14 := hr14.fls
  have hp := hp.keepF hB
  have hq := hq.keepF hB
  have hr := hr.keepF hB
  have ha := CanF.below ha hB
  clear hB
  simp only [put_lit, put_non, List.set_cons_zero, List.set_cons_succ]
  refine wkS_call (some 83) 24 #[r14, .agg #[.bool b, (.slice C m d), (.slice C' m' d')]] (by kernel_rfl) (by kernel_rfl) (by kernel_rfl) (fun w => by kernel_rfl) ?_
  refine (eval_p (M := 324) hr14.fv ha.fracV (by omega) (by omega) (ev_bound 3 (tr_len (Nat.le_trans (pmul_len (ofl_len l1) (ofl_len l2)) (by omega))) (by omega)) (by omega) (Nat.le_trans (pmul_len (ofl_len l1) (ofl_len l2)) (by omega))).mono ?_
  rintro e u19 ⟨r15, rfl, hr15, hB⟩
  refine ⟨r15, rfl, below_then hK hB, ?_⟩
  have hK := below_then hK hB
  have hp := hp.keepF hB
  have hq := hq.keepF hB
  have hr := hr.keepF hB
  have ha := CanF.below ha hB
  have hr14 := hr14.keepC hB
  clear hB
  simp only [put_lit, put_non, List.set_cons_zero, List.set_cons_succ]
  clear hr14
  refine wkS_call (some 86) 24 #[p, .agg #[.bool b, (.slice C m d), (.slice C' m' d')]] (by kernel_rfl) (by kernel_rfl) (by kernel_rfl) (fun w => by kernel_rfl) ?_
  refine (eval_p (M := 54) hp ha.fracV (by omega) (by omega) (ev_bound 2 (tr_len (Nat.le_trans (ofl_len l1) (by omega))) (by omega)) (by omega) (Nat.le_trans (ofl_len l1) (by omega))).mono ?_
  rintro e u20 ⟨r16, rfl, hr16, hB⟩
  refine ⟨r16, rfl, below_then hK hB, ?_⟩
  have hK := below_then hK hB
  have hp := hp.keepF hB
  have hq := hq.keepF hB
  have hr := hr.keepF hB
  have ha := CanF.below ha hB
  have hr15 := CanF.below hr15 hB
  clear hB
  simp only [put_lit, put_non, List.set_cons_zero, List.set_cons_succ]
  refine wkS_call (some 89) 24 #[q, .agg #[.bool b, (.slice C m d), (.slice C' m' d')]] (by kernel_rfl) (by kernel_rfl) (by kernel_rfl) (fun w => by kernel_rfl) ?_
  refine (eval_p (M := 54) hq ha.fracV (by omega) (by omega) (ev_bound 2 (tr_len (Nat.le_trans (ofl_len l2) (by omega))) (by omega)) (by omega) (Nat.le_trans (ofl_len l2) (by omega))).mono ?_
  rintro e u21 ⟨r17, rfl, hr17, hB⟩
  refine ⟨r17, rfl, below_then hK hB, ?_⟩
  have hK := below_then hK hB
  have hp := hp.keepF hB
  have hq := hq.keepF hB
  have hr := hr.keepF hB
  have ha := CanF.below ha hB
  have hr15 := CanF.below hr15 hB
  have hr16 := CanF.below hr16 hB
  clear hB
  simp only [put_lit, put_non, List.set_cons_zero, List.set_cons_succ]
  refine wkS_call (some 90) 39 #[r16, r17] (by kernel_rfl) (by kernel_rfl) (by kernel_rfl) (fun w => by kernel_rfl) ?_
  refine (mulf_v hr16.fracV hr17.fracV (by omega) (by omega) (by omega)).mono ?_
  rintro e u22 ⟨r18, rfl, hr18, hB⟩
  refine ⟨r18, rfl, below_then hK hB, ?_⟩
  have hK := below_then hK hB
  have hp := hp.keepF hB
  have hq := hq.keepF hB
  have hr := hr.keepF hB
  have ha := CanF.below ha hB
  have hr15 := CanF.below hr15 hB
  have hr16 := CanF.below hr16 hB
  have hr17 := CanF.below hr17 hB
  clear hB
  simp only [put_lit, put_non, List.set_cons_zero, List.set_cons_succ]
  clear hr16 hr17
  refine wkS_call (some 91) 23 #[r15, r18] (by kernel_rfl) (by kernel_rfl) (by kernel_rfl) (fun w => by kernel_rfl) ?_
  refine (frac3_t hr15 hr18 (ev_pmul _ _ _)).mono ?_
  rintro e u23 ⟨rfl, hB⟩
  refine ⟨_, rfl, below_then hK hB, ?_⟩
  have hK := below_then hK hB
  have hp := hp.keepF hB
  have hq := hq.keepF hB
  have hr := hr.keepF hB
  have ha := CanF.below ha hB
  have hr15 := CanF.below hr15 hB
  have hr18 := CanF.below hr18 hB
  clear hB
  simp only [put_lit, put_non, List.set_cons_zero, List.set_cons_succ]
  refine wkS_take (some 92) (.bool true) (by kernel_rfl) (by kernel_rfl) (by kernel_rfl) (fun w hS => by kernel_rfl) ?_
  simp only [put_lit, put_non, List.set_cons_zero, List.set_cons_succ]
  refine wkS_take (some 93) (.bool true) (by kernel_rfl) (by kernel_rfl) (by kernel_rfl) (fun w hS => by kernel_rfl) ?_
  simp only [put_lit, put_non, List.set_cons_zero, List.set_cons_succ]
  refine wkS_take (some 94) (p) (by kernel_rfl) (by kernel_rfl) (by kernel_rfl) (fun w hS => by kernel_rfl) ?_
  simp only [put_lit, put_non, List.set_cons_zero, List.set_cons_succ]
  refine wkS_take (some 95) (q) (by kernel_rfl) (by kernel_rfl) (by kernel_rfl) (fun w hS => by kernel_rfl) ?_
  simp only [put_lit, put_non, List.set_cons_zero, List.set_cons_succ]
  refine wkS_take (some 97) (.agg #[.bool b, (.slice C m d), (.slice C' m' d')]) (by kernel_rfl) (by kernel_rfl) (by kernel_rfl) (fun w hS => exec_load3 12 (hF.below hS) (by kernel_rfl) (by kernel_rfl)) ?_
  simp only [put_lit, put_non, List.set_cons_zero, List.set_cons_succ]
  refine wkS_take (some 99) (p) (by kernel_rfl) (by kernel_rfl) (by kernel_rfl) (fun w hS => by kernel_rfl) ?_
  simp only [put_lit, put_non, List.set_cons_zero, List.set_cons_succ]
  refine wkS_take (some 100) (.agg #[.bool b, (.slice C m d), (.slice C' m' d')]) (by kernel_rfl) (by kernel_rfl) (by kernel_rfl) (fun w hS => exec_load3 12 (hF.below hS) (by kernel_rfl) (by kernel_rfl)) ?_
  simp only [put_lit, put_non, List.set_cons_zero, List.set_cons_succ]
  refine wkS_take (some 102) (q) (by kernel_rfl) (by kernel_rfl) (by kernel_rfl) (fun w hS => by kernel_rfl) ?_
  simp only [put_lit, put_non, List.set_cons_zero, List.set_cons_succ]
  refine wkS_take (some 103) (.agg #[.bool b, (.slice C m d), (.slice C' m' d')]) (by kernel_rfl) (by kernel_rfl) (by kernel_rfl) (fun w hS => exec_load3 12 (hF.below hS) (by kernel_rfl) (by kernel_rfl)) ?_
  simp only [put_lit, put_non, List.set_cons_zero, List.set_cons_succ]
  clear hr15 hr18
  refine wkS_call (some 96) 15 #[p, q] (by kernel_rfl) (by kernel_rfl) (by kernel_rfl) (fun w => by kernel_rfl) ?_
  refine (add_p hp hq (by omega) (by omega) (by omega) (by omega) (Nat.le_trans (ofl_len l1) (by omega)) (Nat.le_trans (ofl_len l2) (by omega))).mono ?_
  rintro e u24 ⟨r19, rfl, hr19, hB⟩
  refine ⟨r19, rfl, below_then hK hB, ?_⟩
  have hK := below_then hK hB
  have hr19 := hr19.fls
  have hp := hp.keepF hB
  have hq := hq.keepF hB
  have hr := hr.keepF hB
  have ha := CanF.below ha hB
  clear hB
  simp only [put_lit, put_non, List.set_cons_zero, List.set_cons_succ]
  refine wkS_call (some 98) 24 #[r19, .agg #[.bool b, (.slice C m d), (.slice C' m' d')]] (by kernel_rfl) (by kernel_rfl) (by kernel_rfl) (fun w => by kernel_rfl) ?_
  refine (eval_p (M := 90) hr19.fv ha.fracV (by omega) (by omega) (ev_bound 2 (tr_len (Nat.le_trans (padd_len (ofl_len l1) (ofl_len l2)) (by omega))) (by omega)) (by omega) (Nat.le_trans (padd_len (ofl_len l1) (ofl_len l2)) (by omega))).mono ?_
  rintro e u25 ⟨r20, rfl, hr20, hB⟩
  refine ⟨r20, rfl, below_then hK hB, ?_⟩
  have hK := below_then hK hB
  have hp := hp.keepF hB
  have hq := hq.keepF hB
  have hr := hr.keepF hB
  have ha := CanF.below ha hB
  have hr19 := hr19.keepC hB
  clear hB
  simp only [put_lit, put_non, List.set_cons_zero, List.set_cons_succ]
  clear hr19
  refine wkS_call (some 101) 24 #[p, .agg #[.bool b, (.slice C m d), (.slice C' m' d')]] (by kernel_rfl) (by kernel_rfl) (by kernel_rfl) (fun w => by kernel_rfl) ?_
  refine (eval_p (M := 54) hp ha.fracV (by omega) (by omega) (ev_bound 2 (tr_len (Nat.le_trans (ofl_len l1) (by omega))) (by omega)) (by omega) (Nat.le_trans (ofl_len l1) (by omega))).mono ?_
  rintro e u26 ⟨r21, rfl, hr21, hB⟩
  refine ⟨r21, rfl, below_then hK hB, ?_⟩
  have hK := below_then hK hB
  have hp := hp.keepF hB
  have hq := hq.keepF hB
  have hr := hr.keepF hB
  have ha := CanF.below ha hB
  have hr20 := CanF.below hr20 hB
  clear hB
  simp only [put_lit, put_non, List.set_cons_zero, List.set_cons_succ]
  refine wkS_call (some 104) 24 #[q, .agg #[.bool b, (.slice C m d), (.slice C' m' d')]] (by kernel_rfl) (by kernel_rfl) (by kernel_rfl) (fun w => by kernel_rfl) ?_
  refine (eval_p (M := 54) hq ha.fracV (by omega) (by omega) (ev_bound 2 (tr_len (Nat.le_trans (ofl_len l2) (by omega))) (by omega)) (by omega) (Nat.le_trans (ofl_len l2) (by omega))).mono ?_
  rintro e u27 ⟨r22, rfl, hr22, hB⟩
  refine ⟨r22, rfl, below_then hK hB, ?_⟩
  have hK := below_then hK hB
  have hp := hp.keepF hB
  have hq := hq.keepF hB
  have hr := hr.keepF hB
  have ha := CanF.below ha hB
  have hr20 := CanF.below hr20 hB
  have hr21 := CanF.below hr21 hB
  clear hB
  simp only [put_lit, put_non, List.set_cons_zero, List.set_cons_succ]
  refine wkS_call (some 105) 40 #[r21, r22] (by kernel_rfl) (by kernel_rfl) (by kernel_rfl) (fun w => by kernel_rfl) ?_
  refine (addf_v hr21.fracV hr22.fracV (by omega) (by omega) (by omega) (by omega)).mono ?_
  rintro e u28 ⟨r23, rfl, hr23, hB⟩
  refine ⟨r23, rfl, below_then hK hB, ?_⟩
  have hK := below_then hK hB
  have hp := hp.keepF hB
  have hq := hq.keepF hB
  have hr := hr.keepF hB
  have ha := CanF.below ha hB
  have hr20 := CanF.below hr20 hB
  have hr21 := CanF.below hr21 hB
  have hr22 := CanF.below hr22 hB
  clear hB
  simp only [put_lit, put_non, List.set_cons_zero, List.set_cons_succ]
  clear hr21 hr22
  refine wkS_call (some 106) 23 #[r20, r23] (by kernel_rfl) (by kernel_rfl) (by kernel_rfl) (fun w => by kernel_rfl) ?_
  refine (frac3_t hr20 hr23 (ev_padd _ _ _)).mono ?_
  rintro e u29 ⟨rfl, hB⟩
  refine ⟨_, rfl, below_then hK hB, ?_⟩
  have hK := below_then hK hB
  have hp := hp.keepF hB
  have hq := hq.keepF hB
  have hr := hr.keepF hB
  have ha := CanF.below ha hB
  have hr20 := CanF.below hr20 hB
  have hr23 := CanF.below hr23 hB
  clear hB
  simp only [put_lit, put_non, List.set_cons_zero, List.set_cons_succ]
  refine wkS_take (some 107) (.bool true) (by kernel_rfl) (by kernel_rfl) (by kernel_rfl) (fun w hS => by kernel_rfl) ?_
  simp only [put_lit, put_non, List.set_cons_zero, List.set_cons_succ]
  refine wkS_take (some 108) (.bool true) (by kernel_rfl) (by kernel_rfl) (by kernel_rfl) (fun w hS => by kernel_rfl) ?_
  simp only [put_lit, put_non, List.set_cons_zero, List.set_cons_succ]
  clear hr20 hr23
  refine wkS_call (some 109) 30 #[] (by kernel_rfl) (by kernel_rfl) (by kernel_rfl) (fun w => by kernel_rfl) ?_
  refine (known3_v _).mono ?_
  rintro e u30 ⟨rfl, hB⟩
  refine ⟨_, rfl, below_then hK hB, ?_⟩
  have hK := below_then hK hB
  have hp := hp.keepF hB
  have hq := hq.keepF hB
  have hr := hr.keepF hB
  have ha := CanF.below ha hB
  clear hB
  simp only [put_lit, put_non, List.set_cons_zero, List.set_cons_succ]
  refine wkS_take (some 110) (.bool true) (by kernel_rfl) (by kernel_rfl) (by kernel_rfl) (fun w hS => by kernel_rfl) ?_
  simp only [put_lit, put_non, List.set_cons_zero, List.set_cons_succ]
  refine wkS_take (some 8) (.bool true) (by kernel_rfl) (by kernel_rfl) (by kernel_rfl) (fun w hS => by kernel_rfl) ?_
  simp only [put_lit, put_non, List.set_cons_zero, List.set_cons_succ]
  refine wkS_done ?_
  go_wp2_with fail
  go_ret
  exact ⟨rfl, below_then HB hK⟩
set_option maxHeartbeats 4000000 in
theorem ring3_walk (w : World) (v1 v2 v3 : Value) (l1 l2 l3 : List Int) (n1 : Ints w v1 l1) (n2 : Ints w v2 l2) (n3 : Ints w v3 l3) {z : Int} (_ : (Lit.int .i64 z).wf = true) :
    Calls Try.prog 7 #[v1, v2, v3, .int .i64 z] w (RVal w (.bool true)) := by
  by_cases h : l1.length ≤ 5 ∧ l2.length ≤ 5 ∧ l3.length ≤ 5
  · exact ring3_go w v1 v2 v3 l1 l2 l3 n1 n2 n3 z h.1 h.2.1 h.2.2
  · obtain ⟨A1, c1, rfl⟩ := n1.form
    obtain ⟨A2, c2, rfl⟩ := n2.form
    obtain ⟨A3, c3, rfl⟩ := n3.form
    generalize l1.length = i1 at *
    generalize l2.length = i2 at *
    generalize l3.length = i3 at *
    clear n1 n2 n3
    by_cases h1 : (5 : Int) < i1
    · clear h
      go_enter Try.func7, Try.ntmps7
      go_wp2_with fail
      go_ret
      exact ⟨rfl, Below.refl _ _⟩
    · by_cases h2 : (5 : Int) < i2
      · clear h
        go_enter Try.func7, Try.ntmps7
        go_wp2_with fail
        go_ret
        exact ⟨rfl, Below.refl _ _⟩
      · have h3 : (5 : Int) < i3 := by omega
        clear h
        go_enter Try.func7, Try.ntmps7
        go_wp2_with fail
        go_ret
        exact ⟨rfl, Below.refl _ _⟩
end Go.Proofs.Ytjemnankgjjgcaa

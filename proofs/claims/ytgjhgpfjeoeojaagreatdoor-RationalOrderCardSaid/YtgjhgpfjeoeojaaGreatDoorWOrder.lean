/- The walk of the law RationalOrder: it returns true and leaves what was there. -/
import Derived.Test.YtgjhgpfjeoeojaaGreatDoorBown
import Derived.Test.YtgjhgpfjeoeojaaGreatDoorKnow2
import Derived.Test.YtgjhgpfjeoeojaaGreatDoorRefL
import Derived.Test.YtgjhgpfjeoeojaaGreatDoorPlans
namespace Go.Proofs.YtgjhgpfjeoeojaaGreatDoor
set_option linter.unusedSimpArgs false
open Go.RowKit Dig
set_option linter.unusedVariables false

theorem rcmp_three (p q : Rat) : rcmp p q = -1 ∨ rcmp p q = 0 ∨ rcmp p q = 1 := by
  unfold rcmp
  rcases rsgn_cases (p - q) with ⟨_, e⟩ | ⟨_, e⟩ | ⟨_, e⟩ <;> rw [e] <;> decide
theorem rsgn_three (p : Rat) : rsgn p = -1 ∨ rsgn p = 0 ∨ rsgn p = 1 := by
  rcases rsgn_cases p with ⟨_, e⟩ | ⟨_, e⟩ | ⟨_, e⟩ <;> rw [e] <;> decide
theorem mul_three {s t : Int} (hs : s = -1 ∨ s = 0 ∨ s = 1) (ht : t = -1 ∨ t = 0 ∨ t = 1) : s * t = -1 ∨ s * t = 0 ∨ s * t = 1 := by
  rcases hs with rfl | rfl | rfl <;> rcases ht with rfl | rfl | rfl <;> decide
set_option maxRecDepth 20000 in
set_option maxHeartbeats 32000000 in
theorem order_walk0 (w : World) (x y z : Int) (hM : MaxL w) : Calls Tryz.prog 6 #[.int .i64 x, .int .i64 y, .int .i64 z] w (RVal w (.bool true)) := by
  have A := Lib.hid (fun w1 => baseFrac_v w1 x)
  have B := Lib.hid (fun w1 => baseFrac_v w1 y)
  have C := Lib.hid (fun w1 => baseFrac_v w1 z)
  generalize bq x = qa at *
  generalize bq y = qb at *
  generalize bq z = qc at *
  go_enter Tryz.func6, Tryz.ntmps6
  go_wp2_with fail
  refine (A.out _).mono ?_
  rintro e w1 ⟨va, rfl, ha, hB1⟩
  go_wp2_with fail
  refine (B.out _).mono ?_
  rintro e w2 ⟨vb, rfl, hb, hB2⟩
  have ha := ha.below hB2
  have HB := below_then hB1 hB2
  go_wp2_with fail
  refine (C.out _).mono ?_
  rintro e w3 ⟨vc, rfl, hc, hB3⟩
  have ha := ha.below hB3
  have hb := hb.below hB3
  have HB := below_then HB hB3
  obtain ⟨b0, A0, m0, c0, A0', m0', c0', rfl, _, _, _⟩ := ha.parts
  obtain ⟨b1, A1, m1, c1, A1', m1', c1', rfl, _, _, _⟩ := hb.parts
  obtain ⟨b2, A2, m2, c2, A2', m2', c2', rfl, _, _, _⟩ := hc.parts
  obtain ⟨W, ew, hBW, hF0, hF1, hF2⟩ := var3 w3 b0 b1 b2 (.slice A0 m0 c0) (.slice A0' m0' c0') (.slice A1 m1 c1) (.slice A1' m1' c1') (.slice A2 m2 c2) (.slice A2' m2' c2')
  have ha := ha.below hBW
  have hb := hb.below hBW
  have hc := hc.below hBW
  have HB := below_then HB hBW
  clear hB1 hB2 hB3
  have hba : rcmp qb qa = -rcmp qa qb := rcmp_swap _ _
  have hsame : decide (qa = qb) = decide (rcmp qa qb = 0) := by rw [decide_eq_decide]; exact rcmp_eq.symm
  have hadd := rcmp_add qa qb qc
  have hmul := rcmp_mul qa qb qc
  have htr := @rcmp_trans qa qb qc
  have hsg : rsgn (qa - qb) = rcmp qa qb := rfl
  have hs3 := rcmp_three qa qb
  have hm3 := mul_three hs3 (rsgn_three qc)
  have ht3 := rsgn_three qc
  generalize hsv : rcmp qa qb = s at *
  generalize htv : rsgn qc = t at *
  obtain ⟨d0, d1, d2⟩ := hF0.cells
  obtain ⟨e0, e1, e2⟩ := hF1.cells
  have T := Lib.hid (cmp_is ha.fracV hb.fracV (by omega) (by omega) hsv)
  have ht3 := Lib.hid ht3
  have hsv := Lib.hid hsv
  have htv := Lib.hid htv
  have hfacts := Lib.hid (And.intro hba (And.intro hsame (And.intro hadd (And.intro hmul (And.intro htr (And.intro hsg (And.intro hs3 hm3)))))))
  clear hba hsame hadd hmul htr hsg hs3 hm3
  go_wp2_with fail
  generalize hg1 : w3.heap.size + 1 = g1 at *
  generalize hg2 : g1 + 1 = g2 at *
  generalize hg0 : w3.heap.size = g0 at *
  clear hg0 hg1 hg2
  refine (T.out).mono ?_
  rintro e w4 ⟨rfl, hB4⟩
  have ha := ha.below hB4
  have hb := hb.below hB4
  have hc := hc.below hB4
  have hF0 := hF0.below hB4
  have hF1 := hF1.below hB4
  have hF2 := hF2.below hB4
  have HB := below_then HB hB4
  clear d0 d1 d2 e0 e1 e2 hBW ew
  obtain ⟨d0, d1, d2⟩ := hF2.cells
  have S := Lib.hid (sign_is hc.fracV (by omega) htv.out)
  go_wp2_with fail
  refine (S.out).mono ?_
  rintro e w5 ⟨rfl, hB5⟩
  have ha := ha.below hB5
  have hb := hb.below hB5
  have hc := hc.below hB5
  have hF0 := hF0.below hB5
  have hF1 := hF1.below hB5
  have hF2 := hF2.below hB5
  have HB := below_then HB hB5
  clear d0 d1 d2 hB4 hB5 S T
  go_wp2_with fail
  have hwm : wrap64 (s * t) = s * t := by rcases hfacts.out.2.2.2.2.2.2.1 with rfl | rfl | rfl <;> rcases ht3.out with rfl | rfl | rfl <;> kernel_rfl
  obtain ⟨hba, hsame, hadd, hmul, htr, hsg, hs3, hm3⟩ := hfacts.out
  have ht3' := ht3.out
  rw [← hwm] at hmul hm3
  clear hwm hfacts ht3
  generalize hmv : wrap64 (s * t) = m at *
  clear hmv
  dsimp only [List.append]
  by_cases h1 : s = 1
  · have hs1 : s = 1 := h1
    refine wp_region_plan (S := fun w' => Below w5.heap.size w5 w') [(0, true), (1, true), (2, true), (3, false), (4, false), (5, true), (6, true), (7, true), (8, true), (9, true), (10, false), (11, true), (12, true), (13, true), (14, true), (15, true), (16, true), (17, true), (19, true), (18, false), (20, false), (21, false), (22, true), (23, true), (24, true), (25, true), (26, true), (28, true), (29, true), (32, true), (27, false), (30, false), (31, false), (33, true), (34, true), (35, true), (36, true), (37, true), (39, true), (40, true), (43, true), (38, false), (41, false), (42, false), (44, true), (45, true), (46, true), (47, true), (48, true), (49, true), (50, true), (51, true), (52, false), (53, true), (54, true), (55, true), (56, true), (57, true), (58, false), (59, true), (60, true), (61, true), (62, true), (63, false), (64, true), (65, true)] (by kernel_rfl) (by kernel_rfl) (by kernel_rfl) (by kernel_rfl) (fun _ _ d _ _ h => by cases d <;> exact h) (Below.refl _ _).drew ?_
    have hK : Below w5.heap.size w5 w5.drew := (Below.refl _ _).drew
    refine wkS_take (some 25) (.int .i64 s) (by kernel_rfl) (by kernel_rfl) (by kernel_rfl) (fun w hS => by kernel_rfl) ?_
    simp only [put_lit, put_non, List.set_cons_zero, List.set_cons_succ]
    refine wkS_take (some 26) (.agg #[.bool b0, .slice A0 m0 c0, .slice A0' m0' c0']) (by kernel_rfl) (by kernel_rfl) (by kernel_rfl) (fun w hS => exec_load3 7 (hF0.below hS) (by kernel_rfl) (by kernel_rfl)) ?_
    simp only [put_lit, put_non, List.set_cons_zero, List.set_cons_succ]
    refine wkS_take (some 27) (.agg #[.bool b1, .slice A1 m1 c1, .slice A1' m1' c1']) (by kernel_rfl) (by kernel_rfl) (by kernel_rfl) (fun w hS => exec_load3 8 (hF1.below hS) (by kernel_rfl) (by kernel_rfl)) ?_
    simp only [put_lit, put_non, List.set_cons_zero, List.set_cons_succ]
    refine wkS_call (some 28) 22 #[.agg #[.bool b0, .slice A0 m0 c0, .slice A0' m0' c0'], .agg #[.bool b1, .slice A1 m1 c1, .slice A1' m1' c1']] (by kernel_rfl) (by kernel_rfl) (by kernel_rfl) (fun w => by kernel_rfl) ?_
    refine (subf_v (ha.below hK).fracV (hb.below hK).fracV (by omega) (by omega) (by omega) (by omega)).mono ?_
    rintro e u1 ⟨r1, rfl, hr1, hB⟩
    refine ⟨r1, rfl, below_then hK hB, ?_⟩
    have hK := below_then hK hB
    clear hB
    simp only [put_lit, put_non, List.set_cons_zero, List.set_cons_succ]
    refine wkS_call (some 29) 18 #[r1] (by kernel_rfl) (by kernel_rfl) (by kernel_rfl) (fun w => by kernel_rfl) ?_
    refine (sign_is hr1.fracV (by omega) (hsg)).mono ?_
    rintro e u2 ⟨rfl, hB⟩
    refine ⟨_, rfl, below_then hK hB, ?_⟩
    have hK := below_then hK hB
    have hr1 := hr1.below hB
    clear hB
    simp only [put_lit, put_non, List.set_cons_zero, List.set_cons_succ]
    refine wkS_take (some 30) (.bool true) (by kernel_rfl) (by kernel_rfl) (by kernel_rfl) (fun w hS => by rcases hs3 with rfl | rfl | rfl <;> kernel_rfl) ?_
    simp only [put_lit, put_non, List.set_cons_zero, List.set_cons_succ]
    refine wkS_take (some 31) (.bool true) (by kernel_rfl) (by kernel_rfl) (by kernel_rfl) (fun w hS => by kernel_rfl) ?_
    simp only [put_lit, put_non, List.set_cons_zero, List.set_cons_succ]
    refine wkS_take (some 32) (.int .i64 s) (by kernel_rfl) (by kernel_rfl) (by kernel_rfl) (fun w hS => by kernel_rfl) ?_
    simp only [put_lit, put_non, List.set_cons_zero, List.set_cons_succ]
    refine wkS_take (some 33) (.agg #[.bool b1, .slice A1 m1 c1, .slice A1' m1' c1']) (by kernel_rfl) (by kernel_rfl) (by kernel_rfl) (fun w hS => exec_load3 8 (hF1.below hS) (by kernel_rfl) (by kernel_rfl)) ?_
    simp only [put_lit, put_non, List.set_cons_zero, List.set_cons_succ]
    refine wkS_take (some 34) (.agg #[.bool b0, .slice A0 m0 c0, .slice A0' m0' c0']) (by kernel_rfl) (by kernel_rfl) (by kernel_rfl) (fun w hS => exec_load3 7 (hF0.below hS) (by kernel_rfl) (by kernel_rfl)) ?_
    simp only [put_lit, put_non, List.set_cons_zero, List.set_cons_succ]
    clear hr1
    refine wkS_call (some 35) 16 #[.agg #[.bool b1, .slice A1 m1 c1, .slice A1' m1' c1'], .agg #[.bool b0, .slice A0 m0 c0, .slice A0' m0' c0']] (by kernel_rfl) (by kernel_rfl) (by kernel_rfl) (fun w => by kernel_rfl) ?_
    refine (cmp_is (hb.below hK).fracV (ha.below hK).fracV (by omega) (by omega) (hba)).mono ?_
    rintro e u3 ⟨rfl, hB⟩
    refine ⟨_, rfl, below_then hK hB, ?_⟩
    have hK := below_then hK hB
    clear hB
    simp only [put_lit, put_non, List.set_cons_zero, List.set_cons_succ]
    refine wkS_take (some 36) (.int .i64 s) (by kernel_rfl) (by kernel_rfl) (by kernel_rfl) (fun w hS => by rcases hs3 with rfl | rfl | rfl <;> kernel_rfl) ?_
    simp only [put_lit, put_non, List.set_cons_zero, List.set_cons_succ]
    refine wkS_take (some 37) (.bool true) (by kernel_rfl) (by kernel_rfl) (by kernel_rfl) (fun w hS => by rcases hs3 with rfl | rfl | rfl <;> kernel_rfl) ?_
    simp only [put_lit, put_non, List.set_cons_zero, List.set_cons_succ]
    refine wkS_take (some 38) (.bool true) (by kernel_rfl) (by kernel_rfl) (by kernel_rfl) (fun w hS => by kernel_rfl) ?_
    simp only [put_lit, put_non, List.set_cons_zero, List.set_cons_succ]
    refine wkS_take (some 39) (.bool true) (by kernel_rfl) (by kernel_rfl) (by kernel_rfl) (fun w hS => by kernel_rfl) ?_
    simp only [put_lit, put_non, List.set_cons_zero, List.set_cons_succ]
    refine wkS_take (some 40) (.int .i64 s) (by kernel_rfl) (by kernel_rfl) (by kernel_rfl) (fun w hS => by kernel_rfl) ?_
    simp only [put_lit, put_non, List.set_cons_zero, List.set_cons_succ]
    refine wkS_take (some 41) (.bool (decide (s = 0))) (by kernel_rfl) (by kernel_rfl) (by kernel_rfl) (fun w hS => by rcases hs3 with rfl | rfl | rfl <;> kernel_rfl) ?_
    simp only [put_lit, put_non, List.set_cons_zero, List.set_cons_succ]
    refine wkS_take (some 42) (.agg #[.bool b0, .slice A0 m0 c0, .slice A0' m0' c0']) (by kernel_rfl) (by kernel_rfl) (by kernel_rfl) (fun w hS => exec_load3 7 (hF0.below hS) (by kernel_rfl) (by kernel_rfl)) ?_
    simp only [put_lit, put_non, List.set_cons_zero, List.set_cons_succ]
    refine wkS_take (some 44) (.agg #[.bool b1, .slice A1 m1 c1, .slice A1' m1' c1']) (by kernel_rfl) (by kernel_rfl) (by kernel_rfl) (fun w hS => exec_load3 8 (hF1.below hS) (by kernel_rfl) (by kernel_rfl)) ?_
    simp only [put_lit, put_non, List.set_cons_zero, List.set_cons_succ]
    refine wkS_call (some 43) 12 #[.agg #[.bool b0, .slice A0 m0 c0, .slice A0' m0' c0']] (by kernel_rfl) (by kernel_rfl) (by kernel_rfl) (fun w => by kernel_rfl) ?_
    refine (normf_v (ha.below hK).fracV (by omega) (by omega)).mono ?_
    rintro e u4 ⟨r1, rfl, hr1, hB⟩
    refine ⟨r1, rfl, below_then hK hB, ?_⟩
    have hK := below_then hK hB
    clear hB
    simp only [put_lit, put_non, List.set_cons_zero, List.set_cons_succ]
    refine wkS_call (some 45) 12 #[.agg #[.bool b1, .slice A1 m1 c1, .slice A1' m1' c1']] (by kernel_rfl) (by kernel_rfl) (by kernel_rfl) (fun w => by kernel_rfl) ?_
    refine (normf_v (hb.below hK).fracV (by omega) (by omega)).mono ?_
    rintro e u5 ⟨r2, rfl, hr2, hB⟩
    refine ⟨r2, rfl, below_then hK hB, ?_⟩
    have hK := below_then hK hB
    have hr1 := hr1.below hB
    clear hB
    simp only [put_lit, put_non, List.set_cons_zero, List.set_cons_succ]
    refine wkS_call (some 46) 11 #[r1, r2] (by kernel_rfl) (by kernel_rfl) (by kernel_rfl) (fun w => by kernel_rfl) ?_
    refine (same_is hr1 hr2 hsame).mono ?_
    rintro e u6 ⟨rfl, hB⟩
    refine ⟨_, rfl, below_then hK hB, ?_⟩
    have hK := below_then hK hB
    have hr1 := hr1.below hB
    have hr2 := hr2.below hB
    clear hB
    simp only [put_lit, put_non, List.set_cons_zero, List.set_cons_succ]
    refine wkS_take (some 47) (.bool true) (by kernel_rfl) (by kernel_rfl) (by kernel_rfl) (fun w hS => by rcases hs3 with rfl | rfl | rfl <;> kernel_rfl) ?_
    simp only [put_lit, put_non, List.set_cons_zero, List.set_cons_succ]
    refine wkS_take (some 48) (.bool true) (by kernel_rfl) (by kernel_rfl) (by kernel_rfl) (fun w hS => by kernel_rfl) ?_
    simp only [put_lit, put_non, List.set_cons_zero, List.set_cons_succ]
    refine wkS_take (some 49) (.bool true) (by kernel_rfl) (by kernel_rfl) (by kernel_rfl) (fun w hS => by kernel_rfl) ?_
    simp only [put_lit, put_non, List.set_cons_zero, List.set_cons_succ]
    refine wkS_take (some 50) (.agg #[.bool b0, .slice A0 m0 c0, .slice A0' m0' c0']) (by kernel_rfl) (by kernel_rfl) (by kernel_rfl) (fun w hS => exec_load3 7 (hF0.below hS) (by kernel_rfl) (by kernel_rfl)) ?_
    simp only [put_lit, put_non, List.set_cons_zero, List.set_cons_succ]
    refine wkS_take (some 51) (.agg #[.bool b2, .slice A2 m2 c2, .slice A2' m2' c2']) (by kernel_rfl) (by kernel_rfl) (by kernel_rfl) (fun w hS => exec_load3 9 (hF2.below hS) (by kernel_rfl) (by kernel_rfl)) ?_
    simp only [put_lit, put_non, List.set_cons_zero, List.set_cons_succ]
    refine wkS_take (some 53) (.agg #[.bool b1, .slice A1 m1 c1, .slice A1' m1' c1']) (by kernel_rfl) (by kernel_rfl) (by kernel_rfl) (fun w hS => exec_load3 8 (hF1.below hS) (by kernel_rfl) (by kernel_rfl)) ?_
    simp only [put_lit, put_non, List.set_cons_zero, List.set_cons_succ]
    refine wkS_take (some 54) (.agg #[.bool b2, .slice A2 m2 c2, .slice A2' m2' c2']) (by kernel_rfl) (by kernel_rfl) (by kernel_rfl) (fun w hS => exec_load3 9 (hF2.below hS) (by kernel_rfl) (by kernel_rfl)) ?_
    simp only [put_lit, put_non, List.set_cons_zero, List.set_cons_succ]
    refine wkS_take (some 57) (.int .i64 s) (by kernel_rfl) (by kernel_rfl) (by kernel_rfl) (fun w hS => by kernel_rfl) ?_
    simp only [put_lit, put_non, List.set_cons_zero, List.set_cons_succ]
    clear hr1 hr2
    refine wkS_call (some 52) 20 #[.agg #[.bool b0, .slice A0 m0 c0, .slice A0' m0' c0'], .agg #[.bool b2, .slice A2 m2 c2, .slice A2' m2' c2']] (by kernel_rfl) (by kernel_rfl) (by kernel_rfl) (fun w => by kernel_rfl) ?_
    refine (addf_v (ha.below hK).fracV (hc.below hK).fracV (by omega) (by omega) (by omega) (by omega)).mono ?_
    rintro e u7 ⟨r1, rfl, hr1, hB⟩
    refine ⟨r1, rfl, below_then hK hB, ?_⟩
    have hK := below_then hK hB
    clear hB
    simp only [put_lit, put_non, List.set_cons_zero, List.set_cons_succ]
    refine wkS_call (some 55) 20 #[.agg #[.bool b1, .slice A1 m1 c1, .slice A1' m1' c1'], .agg #[.bool b2, .slice A2 m2 c2, .slice A2' m2' c2']] (by kernel_rfl) (by kernel_rfl) (by kernel_rfl) (fun w => by kernel_rfl) ?_
    refine (addf_v (hb.below hK).fracV (hc.below hK).fracV (by omega) (by omega) (by omega) (by omega)).mono ?_
    rintro e u8 ⟨r2, rfl, hr2, hB⟩
    refine ⟨r2, rfl, below_then hK hB, ?_⟩
    have hK := below_then hK hB
    have hr1 := hr1.below hB
    clear hB
    simp only [put_lit, put_non, List.set_cons_zero, List.set_cons_succ]
    refine wkS_call (some 56) 16 #[r1, r2] (by kernel_rfl) (by kernel_rfl) (by kernel_rfl) (fun w => by kernel_rfl) ?_
    refine (cmp_is hr1.fracV hr2.fracV (by omega) (by omega) (hadd)).mono ?_
    rintro e u9 ⟨rfl, hB⟩
    refine ⟨_, rfl, below_then hK hB, ?_⟩
    have hK := below_then hK hB
    have hr1 := hr1.below hB
    have hr2 := hr2.below hB
    clear hB
    simp only [put_lit, put_non, List.set_cons_zero, List.set_cons_succ]
    refine wkS_take (some 58) (.bool true) (by kernel_rfl) (by kernel_rfl) (by kernel_rfl) (fun w hS => by rcases hs3 with rfl | rfl | rfl <;> kernel_rfl) ?_
    simp only [put_lit, put_non, List.set_cons_zero, List.set_cons_succ]
    refine wkS_take (some 59) (.bool true) (by kernel_rfl) (by kernel_rfl) (by kernel_rfl) (fun w hS => by kernel_rfl) ?_
    simp only [put_lit, put_non, List.set_cons_zero, List.set_cons_succ]
    refine wkS_take (some 60) (.bool true) (by kernel_rfl) (by kernel_rfl) (by kernel_rfl) (fun w hS => by kernel_rfl) ?_
    simp only [put_lit, put_non, List.set_cons_zero, List.set_cons_succ]
    refine wkS_take (some 61) (.agg #[.bool b0, .slice A0 m0 c0, .slice A0' m0' c0']) (by kernel_rfl) (by kernel_rfl) (by kernel_rfl) (fun w hS => exec_load3 7 (hF0.below hS) (by kernel_rfl) (by kernel_rfl)) ?_
    simp only [put_lit, put_non, List.set_cons_zero, List.set_cons_succ]
    refine wkS_take (some 62) (.agg #[.bool b2, .slice A2 m2 c2, .slice A2' m2' c2']) (by kernel_rfl) (by kernel_rfl) (by kernel_rfl) (fun w hS => exec_load3 9 (hF2.below hS) (by kernel_rfl) (by kernel_rfl)) ?_
    simp only [put_lit, put_non, List.set_cons_zero, List.set_cons_succ]
    refine wkS_take (some 64) (.agg #[.bool b1, .slice A1 m1 c1, .slice A1' m1' c1']) (by kernel_rfl) (by kernel_rfl) (by kernel_rfl) (fun w hS => exec_load3 8 (hF1.below hS) (by kernel_rfl) (by kernel_rfl)) ?_
    simp only [put_lit, put_non, List.set_cons_zero, List.set_cons_succ]
    refine wkS_take (some 65) (.agg #[.bool b2, .slice A2 m2 c2, .slice A2' m2' c2']) (by kernel_rfl) (by kernel_rfl) (by kernel_rfl) (fun w hS => exec_load3 9 (hF2.below hS) (by kernel_rfl) (by kernel_rfl)) ?_
    simp only [put_lit, put_non, List.set_cons_zero, List.set_cons_succ]
    refine wkS_take (some 68) (.int .i64 m) (by kernel_rfl) (by kernel_rfl) (by kernel_rfl) (fun w hS => by kernel_rfl) ?_
    simp only [put_lit, put_non, List.set_cons_zero, List.set_cons_succ]
    clear hr1 hr2
    refine wkS_call (some 63) 24 #[.agg #[.bool b0, .slice A0 m0 c0, .slice A0' m0' c0'], .agg #[.bool b2, .slice A2 m2 c2, .slice A2' m2' c2']] (by kernel_rfl) (by kernel_rfl) (by kernel_rfl) (fun w => by kernel_rfl) ?_
    refine (mulf_v (ha.below hK).fracV (hc.below hK).fracV (by omega) (by omega) (by omega)).mono ?_
    rintro e u10 ⟨r1, rfl, hr1, hB⟩
    refine ⟨r1, rfl, below_then hK hB, ?_⟩
    have hK := below_then hK hB
    clear hB
    simp only [put_lit, put_non, List.set_cons_zero, List.set_cons_succ]
    refine wkS_call (some 66) 24 #[.agg #[.bool b1, .slice A1 m1 c1, .slice A1' m1' c1'], .agg #[.bool b2, .slice A2 m2 c2, .slice A2' m2' c2']] (by kernel_rfl) (by kernel_rfl) (by kernel_rfl) (fun w => by kernel_rfl) ?_
    refine (mulf_v (hb.below hK).fracV (hc.below hK).fracV (by omega) (by omega) (by omega)).mono ?_
    rintro e u11 ⟨r2, rfl, hr2, hB⟩
    refine ⟨r2, rfl, below_then hK hB, ?_⟩
    have hK := below_then hK hB
    have hr1 := hr1.below hB
    clear hB
    simp only [put_lit, put_non, List.set_cons_zero, List.set_cons_succ]
    refine wkS_call (some 67) 16 #[r1, r2] (by kernel_rfl) (by kernel_rfl) (by kernel_rfl) (fun w => by kernel_rfl) ?_
    refine (cmp_is hr1.fracV hr2.fracV (by omega) (by omega) (hmul)).mono ?_
    rintro e u12 ⟨rfl, hB⟩
    refine ⟨_, rfl, below_then hK hB, ?_⟩
    have hK := below_then hK hB
    have hr1 := hr1.below hB
    have hr2 := hr2.below hB
    clear hB
    simp only [put_lit, put_non, List.set_cons_zero, List.set_cons_succ]
    refine wkS_take (some 69) (.bool true) (by kernel_rfl) (by kernel_rfl) (by kernel_rfl) (fun w hS => by rcases hm3 with rfl | rfl | rfl <;> kernel_rfl) ?_
    simp only [put_lit, put_non, List.set_cons_zero, List.set_cons_succ]
    refine wkS_take (some 70) (.bool true) (by kernel_rfl) (by kernel_rfl) (by kernel_rfl) (fun w hS => by kernel_rfl) ?_
    simp only [put_lit, put_non, List.set_cons_zero, List.set_cons_succ]
    refine wkS_take (some 71) (.bool true) (by kernel_rfl) (by kernel_rfl) (by kernel_rfl) (fun w hS => by kernel_rfl) ?_
    simp only [put_lit, put_non, List.set_cons_zero, List.set_cons_succ]
    refine wkS_take (some 72) (.int .i64 s) (by kernel_rfl) (by kernel_rfl) (by kernel_rfl) (fun w hS => by kernel_rfl) ?_
    simp only [put_lit, put_non, List.set_cons_zero, List.set_cons_succ]
    refine wkS_take (some 73) (.bool true) (by kernel_rfl) (by kernel_rfl) (by kernel_rfl) (fun w hS => by rcases hs1 with rfl <;> kernel_rfl) ?_
    simp only [put_lit, put_non, List.set_cons_zero, List.set_cons_succ]
    refine wkS_take (some 74) (.bool true) (by kernel_rfl) (by kernel_rfl) (by kernel_rfl) (fun w hS => by kernel_rfl) ?_
    simp only [put_lit, put_non, List.set_cons_zero, List.set_cons_succ]
    refine wkS_skip (some 75) (by kernel_rfl) (by kernel_rfl) (by kernel_rfl) ?_
    simp only [put_lit, put_non, List.set_cons_zero, List.set_cons_succ]
    refine wkS_skip (some 76) (by kernel_rfl) (by kernel_rfl) (by kernel_rfl) ?_
    simp only [put_lit, put_non, List.set_cons_zero, List.set_cons_succ]
    refine wkS_skipC (some 77) (by kernel_rfl) (by kernel_rfl) (by kernel_rfl) hK ?_
    simp only [put_lit, put_non, List.set_cons_zero, List.set_cons_succ]
    refine wkS_skip (some 78) (by kernel_rfl) (by kernel_rfl) (by kernel_rfl) ?_
    simp only [put_lit, put_non, List.set_cons_zero, List.set_cons_succ]
    refine wkS_take (some 79) (.bool true) (by kernel_rfl) (by kernel_rfl) (by kernel_rfl) (fun w hS => by kernel_rfl) ?_
    simp only [put_lit, put_non, List.set_cons_zero, List.set_cons_succ]
    refine wkS_take (some 80) (.bool true) (by kernel_rfl) (by kernel_rfl) (by kernel_rfl) (fun w hS => by kernel_rfl) ?_
    simp only [put_lit, put_non, List.set_cons_zero, List.set_cons_succ]
    refine wkS_skip (some 81) (by kernel_rfl) (by kernel_rfl) (by kernel_rfl) ?_
    simp only [put_lit, put_non, List.set_cons_zero, List.set_cons_succ]
    refine wkS_skip (some 82) (by kernel_rfl) (by kernel_rfl) (by kernel_rfl) ?_
    simp only [put_lit, put_non, List.set_cons_zero, List.set_cons_succ]
    refine wkS_skipC (some 83) (by kernel_rfl) (by kernel_rfl) (by kernel_rfl) hK ?_
    simp only [put_lit, put_non, List.set_cons_zero, List.set_cons_succ]
    refine wkS_skip (some 84) (by kernel_rfl) (by kernel_rfl) (by kernel_rfl) ?_
    simp only [put_lit, put_non, List.set_cons_zero, List.set_cons_succ]
    refine wkS_take (some 85) (.bool true) (by kernel_rfl) (by kernel_rfl) (by kernel_rfl) (fun w hS => by kernel_rfl) ?_
    simp only [put_lit, put_non, List.set_cons_zero, List.set_cons_succ]
    refine wkS_take (some 86) (.bool true) (by kernel_rfl) (by kernel_rfl) (by kernel_rfl) (fun w hS => by kernel_rfl) ?_
    simp only [put_lit, put_non, List.set_cons_zero, List.set_cons_succ]
    refine wkS_take (some 87) (.bool true) (by kernel_rfl) (by kernel_rfl) (by kernel_rfl) (fun w hS => by kernel_rfl) ?_
    simp only [put_lit, put_non, List.set_cons_zero, List.set_cons_succ]
    clear hr1 hr2
    refine wkS_call (some 88) 30 #[] (by kernel_rfl) (by kernel_rfl) (by kernel_rfl) (fun w => by kernel_rfl) ?_
    refine (known2_v _ (hM.below (below_then HB hK))).mono ?_
    rintro e u13 ⟨rfl, hB⟩
    refine ⟨_, rfl, below_then hK hB, ?_⟩
    have hK := below_then hK hB
    clear hB
    simp only [put_lit, put_non, List.set_cons_zero, List.set_cons_succ]
    refine wkS_take (some 89) (.bool true) (by kernel_rfl) (by kernel_rfl) (by kernel_rfl) (fun w hS => by kernel_rfl) ?_
    simp only [put_lit, put_non, List.set_cons_zero, List.set_cons_succ]
    refine wkS_take (some 6) (.bool true) (by kernel_rfl) (by kernel_rfl) (by kernel_rfl) (fun w hS => by kernel_rfl) ?_
    simp only [put_lit, put_non, List.set_cons_zero, List.set_cons_succ]
    refine wkS_done ?_
    go_wp2_with fail
    go_ret
    exact ⟨rfl, below_then HB hK⟩
  · have hs1 : s = -1 ∨ s = 0 := by omega
    obtain ⟨sb, hbc⟩ : ∃ k, rcmp qb qc = k := ⟨_, rfl⟩
    by_cases h2 : sb = 1
    · have hb1 : sb = 1 := h2
      refine wp_region_plan (S := fun w' => Below w5.heap.size w5 w') [(0, true), (1, true), (2, true), (3, false), (4, false), (5, true), (6, true), (7, true), (8, true), (9, true), (10, false), (11, true), (12, true), (13, true), (14, true), (15, true), (16, true), (17, true), (19, true), (18, false), (20, false), (21, false), (22, true), (23, true), (24, true), (25, true), (26, true), (28, true), (29, true), (32, true), (27, false), (30, false), (31, false), (33, true), (34, true), (35, true), (36, true), (37, true), (39, true), (40, true), (43, true), (38, false), (41, false), (42, false), (44, true), (45, true), (46, true), (47, true), (48, true), (49, true), (50, true), (51, true), (52, false), (53, true), (54, true), (55, true), (56, true), (57, true), (58, false), (59, true), (60, true), (61, true), (62, true), (63, false), (64, true), (65, true)] (by kernel_rfl) (by kernel_rfl) (by kernel_rfl) (by kernel_rfl) (fun _ _ d _ _ h => by cases d <;> exact h) (Below.refl _ _).drew ?_
      have hK : Below w5.heap.size w5 w5.drew := (Below.refl _ _).drew
      refine wkS_take (some 25) (.int .i64 s) (by kernel_rfl) (by kernel_rfl) (by kernel_rfl) (fun w hS => by kernel_rfl) ?_
      simp only [put_lit, put_non, List.set_cons_zero, List.set_cons_succ]
      refine wkS_take (some 26) (.agg #[.bool b0, .slice A0 m0 c0, .slice A0' m0' c0']) (by kernel_rfl) (by kernel_rfl) (by kernel_rfl) (fun w hS => exec_load3 7 (hF0.below hS) (by kernel_rfl) (by kernel_rfl)) ?_
      simp only [put_lit, put_non, List.set_cons_zero, List.set_cons_succ]
      refine wkS_take (some 27) (.agg #[.bool b1, .slice A1 m1 c1, .slice A1' m1' c1']) (by kernel_rfl) (by kernel_rfl) (by kernel_rfl) (fun w hS => exec_load3 8 (hF1.below hS) (by kernel_rfl) (by kernel_rfl)) ?_
      simp only [put_lit, put_non, List.set_cons_zero, List.set_cons_succ]
      refine wkS_call (some 28) 22 #[.agg #[.bool b0, .slice A0 m0 c0, .slice A0' m0' c0'], .agg #[.bool b1, .slice A1 m1 c1, .slice A1' m1' c1']] (by kernel_rfl) (by kernel_rfl) (by kernel_rfl) (fun w => by kernel_rfl) ?_
      refine (subf_v (ha.below hK).fracV (hb.below hK).fracV (by omega) (by omega) (by omega) (by omega)).mono ?_
      rintro e u1 ⟨r1, rfl, hr1, hB⟩
      refine ⟨r1, rfl, below_then hK hB, ?_⟩
      have hK := below_then hK hB
      clear hB
      simp only [put_lit, put_non, List.set_cons_zero, List.set_cons_succ]
      refine wkS_call (some 29) 18 #[r1] (by kernel_rfl) (by kernel_rfl) (by kernel_rfl) (fun w => by kernel_rfl) ?_
      refine (sign_is hr1.fracV (by omega) (hsg)).mono ?_
      rintro e u2 ⟨rfl, hB⟩
      refine ⟨_, rfl, below_then hK hB, ?_⟩
      have hK := below_then hK hB
      have hr1 := hr1.below hB
      clear hB
      simp only [put_lit, put_non, List.set_cons_zero, List.set_cons_succ]
      refine wkS_take (some 30) (.bool true) (by kernel_rfl) (by kernel_rfl) (by kernel_rfl) (fun w hS => by rcases hs3 with rfl | rfl | rfl <;> kernel_rfl) ?_
      simp only [put_lit, put_non, List.set_cons_zero, List.set_cons_succ]
      refine wkS_take (some 31) (.bool true) (by kernel_rfl) (by kernel_rfl) (by kernel_rfl) (fun w hS => by kernel_rfl) ?_
      simp only [put_lit, put_non, List.set_cons_zero, List.set_cons_succ]
      refine wkS_take (some 32) (.int .i64 s) (by kernel_rfl) (by kernel_rfl) (by kernel_rfl) (fun w hS => by kernel_rfl) ?_
      simp only [put_lit, put_non, List.set_cons_zero, List.set_cons_succ]
      refine wkS_take (some 33) (.agg #[.bool b1, .slice A1 m1 c1, .slice A1' m1' c1']) (by kernel_rfl) (by kernel_rfl) (by kernel_rfl) (fun w hS => exec_load3 8 (hF1.below hS) (by kernel_rfl) (by kernel_rfl)) ?_
      simp only [put_lit, put_non, List.set_cons_zero, List.set_cons_succ]
      refine wkS_take (some 34) (.agg #[.bool b0, .slice A0 m0 c0, .slice A0' m0' c0']) (by kernel_rfl) (by kernel_rfl) (by kernel_rfl) (fun w hS => exec_load3 7 (hF0.below hS) (by kernel_rfl) (by kernel_rfl)) ?_
      simp only [put_lit, put_non, List.set_cons_zero, List.set_cons_succ]
      clear hr1
      refine wkS_call (some 35) 16 #[.agg #[.bool b1, .slice A1 m1 c1, .slice A1' m1' c1'], .agg #[.bool b0, .slice A0 m0 c0, .slice A0' m0' c0']] (by kernel_rfl) (by kernel_rfl) (by kernel_rfl) (fun w => by kernel_rfl) ?_
      refine (cmp_is (hb.below hK).fracV (ha.below hK).fracV (by omega) (by omega) (hba)).mono ?_
      rintro e u3 ⟨rfl, hB⟩
      refine ⟨_, rfl, below_then hK hB, ?_⟩
      have hK := below_then hK hB
      clear hB
      simp only [put_lit, put_non, List.set_cons_zero, List.set_cons_succ]
      refine wkS_take (some 36) (.int .i64 s) (by kernel_rfl) (by kernel_rfl) (by kernel_rfl) (fun w hS => by rcases hs3 with rfl | rfl | rfl <;> kernel_rfl) ?_
      simp only [put_lit, put_non, List.set_cons_zero, List.set_cons_succ]
      refine wkS_take (some 37) (.bool true) (by kernel_rfl) (by kernel_rfl) (by kernel_rfl) (fun w hS => by rcases hs3 with rfl | rfl | rfl <;> kernel_rfl) ?_
      simp only [put_lit, put_non, List.set_cons_zero, List.set_cons_succ]
      refine wkS_take (some 38) (.bool true) (by kernel_rfl) (by kernel_rfl) (by kernel_rfl) (fun w hS => by kernel_rfl) ?_
      simp only [put_lit, put_non, List.set_cons_zero, List.set_cons_succ]
      refine wkS_take (some 39) (.bool true) (by kernel_rfl) (by kernel_rfl) (by kernel_rfl) (fun w hS => by kernel_rfl) ?_
      simp only [put_lit, put_non, List.set_cons_zero, List.set_cons_succ]
      refine wkS_take (some 40) (.int .i64 s) (by kernel_rfl) (by kernel_rfl) (by kernel_rfl) (fun w hS => by kernel_rfl) ?_
      simp only [put_lit, put_non, List.set_cons_zero, List.set_cons_succ]
      refine wkS_take (some 41) (.bool (decide (s = 0))) (by kernel_rfl) (by kernel_rfl) (by kernel_rfl) (fun w hS => by rcases hs3 with rfl | rfl | rfl <;> kernel_rfl) ?_
      simp only [put_lit, put_non, List.set_cons_zero, List.set_cons_succ]
      refine wkS_take (some 42) (.agg #[.bool b0, .slice A0 m0 c0, .slice A0' m0' c0']) (by kernel_rfl) (by kernel_rfl) (by kernel_rfl) (fun w hS => exec_load3 7 (hF0.below hS) (by kernel_rfl) (by kernel_rfl)) ?_
      simp only [put_lit, put_non, List.set_cons_zero, List.set_cons_succ]
      refine wkS_take (some 44) (.agg #[.bool b1, .slice A1 m1 c1, .slice A1' m1' c1']) (by kernel_rfl) (by kernel_rfl) (by kernel_rfl) (fun w hS => exec_load3 8 (hF1.below hS) (by kernel_rfl) (by kernel_rfl)) ?_
      simp only [put_lit, put_non, List.set_cons_zero, List.set_cons_succ]
      refine wkS_call (some 43) 12 #[.agg #[.bool b0, .slice A0 m0 c0, .slice A0' m0' c0']] (by kernel_rfl) (by kernel_rfl) (by kernel_rfl) (fun w => by kernel_rfl) ?_
      refine (normf_v (ha.below hK).fracV (by omega) (by omega)).mono ?_
      rintro e u4 ⟨r1, rfl, hr1, hB⟩
      refine ⟨r1, rfl, below_then hK hB, ?_⟩
      have hK := below_then hK hB
      clear hB
      simp only [put_lit, put_non, List.set_cons_zero, List.set_cons_succ]
      refine wkS_call (some 45) 12 #[.agg #[.bool b1, .slice A1 m1 c1, .slice A1' m1' c1']] (by kernel_rfl) (by kernel_rfl) (by kernel_rfl) (fun w => by kernel_rfl) ?_
      refine (normf_v (hb.below hK).fracV (by omega) (by omega)).mono ?_
      rintro e u5 ⟨r2, rfl, hr2, hB⟩
      refine ⟨r2, rfl, below_then hK hB, ?_⟩
      have hK := below_then hK hB
      have hr1 := hr1.below hB
      clear hB
      simp only [put_lit, put_non, List.set_cons_zero, List.set_cons_succ]
      refine wkS_call (some 46) 11 #[r1, r2] (by kernel_rfl) (by kernel_rfl) (by kernel_rfl) (fun w => by kernel_rfl) ?_
      refine (same_is hr1 hr2 hsame).mono ?_
      rintro e u6 ⟨rfl, hB⟩
      refine ⟨_, rfl, below_then hK hB, ?_⟩
      have hK := below_then hK hB
      have hr1 := hr1.below hB
      have hr2 := hr2.below hB
      clear hB
      simp only [put_lit, put_non, List.set_cons_zero, List.set_cons_succ]
      refine wkS_take (some 47) (.bool true) (by kernel_rfl) (by kernel_rfl) (by kernel_rfl) (fun w hS => by rcases hs3 with rfl | rfl | rfl <;> kernel_rfl) ?_
      simp only [put_lit, put_non, List.set_cons_zero, List.set_cons_succ]
      refine wkS_take (some 48) (.bool true) (by kernel_rfl) (by kernel_rfl) (by kernel_rfl) (fun w hS => by kernel_rfl) ?_
      simp only [put_lit, put_non, List.set_cons_zero, List.set_cons_succ]
      refine wkS_take (some 49) (.bool true) (by kernel_rfl) (by kernel_rfl) (by kernel_rfl) (fun w hS => by kernel_rfl) ?_
      simp only [put_lit, put_non, List.set_cons_zero, List.set_cons_succ]
      refine wkS_take (some 50) (.agg #[.bool b0, .slice A0 m0 c0, .slice A0' m0' c0']) (by kernel_rfl) (by kernel_rfl) (by kernel_rfl) (fun w hS => exec_load3 7 (hF0.below hS) (by kernel_rfl) (by kernel_rfl)) ?_
      simp only [put_lit, put_non, List.set_cons_zero, List.set_cons_succ]
      refine wkS_take (some 51) (.agg #[.bool b2, .slice A2 m2 c2, .slice A2' m2' c2']) (by kernel_rfl) (by kernel_rfl) (by kernel_rfl) (fun w hS => exec_load3 9 (hF2.below hS) (by kernel_rfl) (by kernel_rfl)) ?_
      simp only [put_lit, put_non, List.set_cons_zero, List.set_cons_succ]
      refine wkS_take (some 53) (.agg #[.bool b1, .slice A1 m1 c1, .slice A1' m1' c1']) (by kernel_rfl) (by kernel_rfl) (by kernel_rfl) (fun w hS => exec_load3 8 (hF1.below hS) (by kernel_rfl) (by kernel_rfl)) ?_
      simp only [put_lit, put_non, List.set_cons_zero, List.set_cons_succ]
      refine wkS_take (some 54) (.agg #[.bool b2, .slice A2 m2 c2, .slice A2' m2' c2']) (by kernel_rfl) (by kernel_rfl) (by kernel_rfl) (fun w hS => exec_load3 9 (hF2.below hS) (by kernel_rfl) (by kernel_rfl)) ?_
      simp only [put_lit, put_non, List.set_cons_zero, List.set_cons_succ]
      refine wkS_take (some 57) (.int .i64 s) (by kernel_rfl) (by kernel_rfl) (by kernel_rfl) (fun w hS => by kernel_rfl) ?_
      simp only [put_lit, put_non, List.set_cons_zero, List.set_cons_succ]
      clear hr1 hr2
      refine wkS_call (some 52) 20 #[.agg #[.bool b0, .slice A0 m0 c0, .slice A0' m0' c0'], .agg #[.bool b2, .slice A2 m2 c2, .slice A2' m2' c2']] (by kernel_rfl) (by kernel_rfl) (by kernel_rfl) (fun w => by kernel_rfl) ?_
      refine (addf_v (ha.below hK).fracV (hc.below hK).fracV (by omega) (by omega) (by omega) (by omega)).mono ?_
      rintro e u7 ⟨r1, rfl, hr1, hB⟩
      refine ⟨r1, rfl, below_then hK hB, ?_⟩
      have hK := below_then hK hB
      clear hB
      simp only [put_lit, put_non, List.set_cons_zero, List.set_cons_succ]
      refine wkS_call (some 55) 20 #[.agg #[.bool b1, .slice A1 m1 c1, .slice A1' m1' c1'], .agg #[.bool b2, .slice A2 m2 c2, .slice A2' m2' c2']] (by kernel_rfl) (by kernel_rfl) (by kernel_rfl) (fun w => by kernel_rfl) ?_
      refine (addf_v (hb.below hK).fracV (hc.below hK).fracV (by omega) (by omega) (by omega) (by omega)).mono ?_
      rintro e u8 ⟨r2, rfl, hr2, hB⟩
      refine ⟨r2, rfl, below_then hK hB, ?_⟩
      have hK := below_then hK hB
      have hr1 := hr1.below hB
      clear hB
      simp only [put_lit, put_non, List.set_cons_zero, List.set_cons_succ]
      refine wkS_call (some 56) 16 #[r1, r2] (by kernel_rfl) (by kernel_rfl) (by kernel_rfl) (fun w => by kernel_rfl) ?_
      refine (cmp_is hr1.fracV hr2.fracV (by omega) (by omega) (hadd)).mono ?_
      rintro e u9 ⟨rfl, hB⟩
      refine ⟨_, rfl, below_then hK hB, ?_⟩
      have hK := below_then hK hB
      have hr1 := hr1.below hB
      have hr2 := hr2.below hB
      clear hB
      simp only [put_lit, put_non, List.set_cons_zero, List.set_cons_succ]
      refine wkS_take (some 58) (.bool true) (by kernel_rfl) (by kernel_rfl) (by kernel_rfl) (fun w hS => by rcases hs3 with rfl | rfl | rfl <;> kernel_rfl) ?_
      simp only [put_lit, put_non, List.set_cons_zero, List.set_cons_succ]
      refine wkS_take (some 59) (.bool true) (by kernel_rfl) (by kernel_rfl) (by kernel_rfl) (fun w hS => by kernel_rfl) ?_
      simp only [put_lit, put_non, List.set_cons_zero, List.set_cons_succ]
      refine wkS_take (some 60) (.bool true) (by kernel_rfl) (by kernel_rfl) (by kernel_rfl) (fun w hS => by kernel_rfl) ?_
      simp only [put_lit, put_non, List.set_cons_zero, List.set_cons_succ]
      refine wkS_take (some 61) (.agg #[.bool b0, .slice A0 m0 c0, .slice A0' m0' c0']) (by kernel_rfl) (by kernel_rfl) (by kernel_rfl) (fun w hS => exec_load3 7 (hF0.below hS) (by kernel_rfl) (by kernel_rfl)) ?_
      simp only [put_lit, put_non, List.set_cons_zero, List.set_cons_succ]
      refine wkS_take (some 62) (.agg #[.bool b2, .slice A2 m2 c2, .slice A2' m2' c2']) (by kernel_rfl) (by kernel_rfl) (by kernel_rfl) (fun w hS => exec_load3 9 (hF2.below hS) (by kernel_rfl) (by kernel_rfl)) ?_
      simp only [put_lit, put_non, List.set_cons_zero, List.set_cons_succ]
      refine wkS_take (some 64) (.agg #[.bool b1, .slice A1 m1 c1, .slice A1' m1' c1']) (by kernel_rfl) (by kernel_rfl) (by kernel_rfl) (fun w hS => exec_load3 8 (hF1.below hS) (by kernel_rfl) (by kernel_rfl)) ?_
      simp only [put_lit, put_non, List.set_cons_zero, List.set_cons_succ]
      refine wkS_take (some 65) (.agg #[.bool b2, .slice A2 m2 c2, .slice A2' m2' c2']) (by kernel_rfl) (by kernel_rfl) (by kernel_rfl) (fun w hS => exec_load3 9 (hF2.below hS) (by kernel_rfl) (by kernel_rfl)) ?_
      simp only [put_lit, put_non, List.set_cons_zero, List.set_cons_succ]
      refine wkS_take (some 68) (.int .i64 m) (by kernel_rfl) (by kernel_rfl) (by kernel_rfl) (fun w hS => by kernel_rfl) ?_
      simp only [put_lit, put_non, List.set_cons_zero, List.set_cons_succ]
      clear hr1 hr2
      refine wkS_call (some 63) 24 #[.agg #[.bool b0, .slice A0 m0 c0, .slice A0' m0' c0'], .agg #[.bool b2, .slice A2 m2 c2, .slice A2' m2' c2']] (by kernel_rfl) (by kernel_rfl) (by kernel_rfl) (fun w => by kernel_rfl) ?_
      refine (mulf_v (ha.below hK).fracV (hc.below hK).fracV (by omega) (by omega) (by omega)).mono ?_
      rintro e u10 ⟨r1, rfl, hr1, hB⟩
      refine ⟨r1, rfl, below_then hK hB, ?_⟩
      have hK := below_then hK hB
      clear hB
      simp only [put_lit, put_non, List.set_cons_zero, List.set_cons_succ]
      refine wkS_call (some 66) 24 #[.agg #[.bool b1, .slice A1 m1 c1, .slice A1' m1' c1'], .agg #[.bool b2, .slice A2 m2 c2, .slice A2' m2' c2']] (by kernel_rfl) (by kernel_rfl) (by kernel_rfl) (fun w => by kernel_rfl) ?_
      refine (mulf_v (hb.below hK).fracV (hc.below hK).fracV (by omega) (by omega) (by omega)).mono ?_
      rintro e u11 ⟨r2, rfl, hr2, hB⟩
      refine ⟨r2, rfl, below_then hK hB, ?_⟩
      have hK := below_then hK hB
      have hr1 := hr1.below hB
      clear hB
      simp only [put_lit, put_non, List.set_cons_zero, List.set_cons_succ]
      refine wkS_call (some 67) 16 #[r1, r2] (by kernel_rfl) (by kernel_rfl) (by kernel_rfl) (fun w => by kernel_rfl) ?_
      refine (cmp_is hr1.fracV hr2.fracV (by omega) (by omega) (hmul)).mono ?_
      rintro e u12 ⟨rfl, hB⟩
      refine ⟨_, rfl, below_then hK hB, ?_⟩
      have hK := below_then hK hB
      have hr1 := hr1.below hB
      have hr2 := hr2.below hB
      clear hB
      simp only [put_lit, put_non, List.set_cons_zero, List.set_cons_succ]
      refine wkS_take (some 69) (.bool true) (by kernel_rfl) (by kernel_rfl) (by kernel_rfl) (fun w hS => by rcases hm3 with rfl | rfl | rfl <;> kernel_rfl) ?_
      simp only [put_lit, put_non, List.set_cons_zero, List.set_cons_succ]
      refine wkS_take (some 70) (.bool true) (by kernel_rfl) (by kernel_rfl) (by kernel_rfl) (fun w hS => by kernel_rfl) ?_
      simp only [put_lit, put_non, List.set_cons_zero, List.set_cons_succ]
      refine wkS_take (some 71) (.bool true) (by kernel_rfl) (by kernel_rfl) (by kernel_rfl) (fun w hS => by kernel_rfl) ?_
      simp only [put_lit, put_non, List.set_cons_zero, List.set_cons_succ]
      refine wkS_take (some 72) (.int .i64 s) (by kernel_rfl) (by kernel_rfl) (by kernel_rfl) (fun w hS => by kernel_rfl) ?_
      simp only [put_lit, put_non, List.set_cons_zero, List.set_cons_succ]
      refine wkS_take (some 73) (.bool false) (by kernel_rfl) (by kernel_rfl) (by kernel_rfl) (fun w hS => by rcases hs1 with rfl | rfl <;> kernel_rfl) ?_
      simp only [put_lit, put_non, List.set_cons_zero, List.set_cons_succ]
      refine wkS_take (some 74) (.bool false) (by kernel_rfl) (by kernel_rfl) (by kernel_rfl) (fun w hS => by kernel_rfl) ?_
      simp only [put_lit, put_non, List.set_cons_zero, List.set_cons_succ]
      refine wkS_take (some 75) (.agg #[.bool b1, .slice A1 m1 c1, .slice A1' m1' c1']) (by kernel_rfl) (by kernel_rfl) (by kernel_rfl) (fun w hS => exec_load3 8 (hF1.below hS) (by kernel_rfl) (by kernel_rfl)) ?_
      simp only [put_lit, put_non, List.set_cons_zero, List.set_cons_succ]
      refine wkS_take (some 76) (.agg #[.bool b2, .slice A2 m2 c2, .slice A2' m2' c2']) (by kernel_rfl) (by kernel_rfl) (by kernel_rfl) (fun w hS => exec_load3 9 (hF2.below hS) (by kernel_rfl) (by kernel_rfl)) ?_
      simp only [put_lit, put_non, List.set_cons_zero, List.set_cons_succ]
      clear hr1 hr2
      refine wkS_call (some 77) 16 #[.agg #[.bool b1, .slice A1 m1 c1, .slice A1' m1' c1'], .agg #[.bool b2, .slice A2 m2 c2, .slice A2' m2' c2']] (by kernel_rfl) (by kernel_rfl) (by kernel_rfl) (fun w => by kernel_rfl) ?_
      refine (cmp_is (hb.below hK).fracV (hc.below hK).fracV (by omega) (by omega) (hbc)).mono ?_
      rintro e u13 ⟨rfl, hB⟩
      refine ⟨_, rfl, below_then hK hB, ?_⟩
      have hK := below_then hK hB
      clear hB
      simp only [put_lit, put_non, List.set_cons_zero, List.set_cons_succ]
      refine wkS_take (some 78) (.bool true) (by kernel_rfl) (by kernel_rfl) (by kernel_rfl) (fun w hS => by rcases hb1 with rfl <;> kernel_rfl) ?_
      simp only [put_lit, put_non, List.set_cons_zero, List.set_cons_succ]
      refine wkS_take (some 79) (.bool true) (by kernel_rfl) (by kernel_rfl) (by kernel_rfl) (fun w hS => by kernel_rfl) ?_
      simp only [put_lit, put_non, List.set_cons_zero, List.set_cons_succ]
      refine wkS_take (some 80) (.bool true) (by kernel_rfl) (by kernel_rfl) (by kernel_rfl) (fun w hS => by kernel_rfl) ?_
      simp only [put_lit, put_non, List.set_cons_zero, List.set_cons_succ]
      refine wkS_skip (some 81) (by kernel_rfl) (by kernel_rfl) (by kernel_rfl) ?_
      simp only [put_lit, put_non, List.set_cons_zero, List.set_cons_succ]
      refine wkS_skip (some 82) (by kernel_rfl) (by kernel_rfl) (by kernel_rfl) ?_
      simp only [put_lit, put_non, List.set_cons_zero, List.set_cons_succ]
      refine wkS_skipC (some 83) (by kernel_rfl) (by kernel_rfl) (by kernel_rfl) hK ?_
      simp only [put_lit, put_non, List.set_cons_zero, List.set_cons_succ]
      refine wkS_skip (some 84) (by kernel_rfl) (by kernel_rfl) (by kernel_rfl) ?_
      simp only [put_lit, put_non, List.set_cons_zero, List.set_cons_succ]
      refine wkS_take (some 85) (.bool true) (by kernel_rfl) (by kernel_rfl) (by kernel_rfl) (fun w hS => by kernel_rfl) ?_
      simp only [put_lit, put_non, List.set_cons_zero, List.set_cons_succ]
      refine wkS_take (some 86) (.bool true) (by kernel_rfl) (by kernel_rfl) (by kernel_rfl) (fun w hS => by kernel_rfl) ?_
      simp only [put_lit, put_non, List.set_cons_zero, List.set_cons_succ]
      refine wkS_take (some 87) (.bool true) (by kernel_rfl) (by kernel_rfl) (by kernel_rfl) (fun w hS => by kernel_rfl) ?_
      simp only [put_lit, put_non, List.set_cons_zero, List.set_cons_succ]
      refine wkS_call (some 88) 30 #[] (by kernel_rfl) (by kernel_rfl) (by kernel_rfl) (fun w => by kernel_rfl) ?_
      refine (known2_v _ (hM.below (below_then HB hK))).mono ?_
      rintro e u14 ⟨rfl, hB⟩
      refine ⟨_, rfl, below_then hK hB, ?_⟩
      have hK := below_then hK hB
      clear hB
      simp only [put_lit, put_non, List.set_cons_zero, List.set_cons_succ]
      refine wkS_take (some 89) (.bool true) (by kernel_rfl) (by kernel_rfl) (by kernel_rfl) (fun w hS => by kernel_rfl) ?_
      simp only [put_lit, put_non, List.set_cons_zero, List.set_cons_succ]
      refine wkS_take (some 6) (.bool true) (by kernel_rfl) (by kernel_rfl) (by kernel_rfl) (fun w hS => by kernel_rfl) ?_
      simp only [put_lit, put_non, List.set_cons_zero, List.set_cons_succ]
      refine wkS_done ?_
      go_wp2_with fail
      go_ret
      exact ⟨rfl, below_then HB hK⟩
    · have hb1 : sb = -1 ∨ sb = 0 := by have := rcmp_three qb qc; omega
      obtain ⟨sc, hac⟩ : ∃ k, rcmp qa qc = k := ⟨_, rfl⟩
      have hc1 : sc = -1 ∨ sc = 0 := by
        have h3 := rcmp_three qa qc
        have h4 := htr (by omega) (by omega)
        omega
      refine wp_region_plan (S := fun w' => Below w5.heap.size w5 w') [(0, true), (1, true), (2, true), (3, false), (4, false), (5, true), (6, true), (7, true), (8, true), (9, true), (10, false), (11, true), (12, true), (13, true), (14, true), (15, true), (16, true), (17, true), (19, true), (18, false), (20, false), (21, false), (22, true), (23, true), (24, true), (25, true), (26, true), (28, true), (29, true), (32, true), (27, false), (30, false), (31, false), (33, true), (34, true), (35, true), (36, true), (37, true), (39, true), (40, true), (43, true), (38, false), (41, false), (42, false), (44, true), (45, true), (46, true), (47, true), (48, true), (49, true), (50, true), (51, true), (52, false), (53, true), (54, true), (55, true), (56, true), (57, true), (58, false), (59, true), (60, true), (61, true), (62, true), (63, false), (64, true), (65, true)] (by kernel_rfl) (by kernel_rfl) (by kernel_rfl) (by kernel_rfl) (fun _ _ d _ _ h => by cases d <;> exact h) (Below.refl _ _).drew ?_
      have hK : Below w5.heap.size w5 w5.drew := (Below.refl _ _).drew
      refine wkS_take (some 25) (.int .i64 s) (by kernel_rfl) (by kernel_rfl) (by kernel_rfl) (fun w hS => by kernel_rfl) ?_
      simp only [put_lit, put_non, List.set_cons_zero, List.set_cons_succ]
      refine wkS_take (some 26) (.agg #[.bool b0, .slice A0 m0 c0, .slice A0' m0' c0']) (by kernel_rfl) (by kernel_rfl) (by kernel_rfl) (fun w hS => exec_load3 7 (hF0.below hS) (by kernel_rfl) (by kernel_rfl)) ?_
      simp only [put_lit, put_non, List.set_cons_zero, List.set_cons_succ]
      refine wkS_take (some 27) (.agg #[.bool b1, .slice A1 m1 c1, .slice A1' m1' c1']) (by kernel_rfl) (by kernel_rfl) (by kernel_rfl) (fun w hS => exec_load3 8 (hF1.below hS) (by kernel_rfl) (by kernel_rfl)) ?_
      simp only [put_lit, put_non, List.set_cons_zero, List.set_cons_succ]
      refine wkS_call (some 28) 22 #[.agg #[.bool b0, .slice A0 m0 c0, .slice A0' m0' c0'], .agg #[.bool b1, .slice A1 m1 c1, .slice A1' m1' c1']] (by kernel_rfl) (by kernel_rfl) (by kernel_rfl) (fun w => by kernel_rfl) ?_
      refine (subf_v (ha.below hK).fracV (hb.below hK).fracV (by omega) (by omega) (by omega) (by omega)).mono ?_
      rintro e u1 ⟨r1, rfl, hr1, hB⟩
      refine ⟨r1, rfl, below_then hK hB, ?_⟩
      have hK := below_then hK hB
      clear hB
      simp only [put_lit, put_non, List.set_cons_zero, List.set_cons_succ]
      refine wkS_call (some 29) 18 #[r1] (by kernel_rfl) (by kernel_rfl) (by kernel_rfl) (fun w => by kernel_rfl) ?_
      refine (sign_is hr1.fracV (by omega) (hsg)).mono ?_
      rintro e u2 ⟨rfl, hB⟩
      refine ⟨_, rfl, below_then hK hB, ?_⟩
      have hK := below_then hK hB
      have hr1 := hr1.below hB
      clear hB
      simp only [put_lit, put_non, List.set_cons_zero, List.set_cons_succ]
      refine wkS_take (some 30) (.bool true) (by kernel_rfl) (by kernel_rfl) (by kernel_rfl) (fun w hS => by rcases hs3 with rfl | rfl | rfl <;> kernel_rfl) ?_
      simp only [put_lit, put_non, List.set_cons_zero, List.set_cons_succ]
      refine wkS_take (some 31) (.bool true) (by kernel_rfl) (by kernel_rfl) (by kernel_rfl) (fun w hS => by kernel_rfl) ?_
      simp only [put_lit, put_non, List.set_cons_zero, List.set_cons_succ]
      refine wkS_take (some 32) (.int .i64 s) (by kernel_rfl) (by kernel_rfl) (by kernel_rfl) (fun w hS => by kernel_rfl) ?_
      simp only [put_lit, put_non, List.set_cons_zero, List.set_cons_succ]
      refine wkS_take (some 33) (.agg #[.bool b1, .slice A1 m1 c1, .slice A1' m1' c1']) (by kernel_rfl) (by kernel_rfl) (by kernel_rfl) (fun w hS => exec_load3 8 (hF1.below hS) (by kernel_rfl) (by kernel_rfl)) ?_
      simp only [put_lit, put_non, List.set_cons_zero, List.set_cons_succ]
      refine wkS_take (some 34) (.agg #[.bool b0, .slice A0 m0 c0, .slice A0' m0' c0']) (by kernel_rfl) (by kernel_rfl) (by kernel_rfl) (fun w hS => exec_load3 7 (hF0.below hS) (by kernel_rfl) (by kernel_rfl)) ?_
      simp only [put_lit, put_non, List.set_cons_zero, List.set_cons_succ]
      clear hr1
      refine wkS_call (some 35) 16 #[.agg #[.bool b1, .slice A1 m1 c1, .slice A1' m1' c1'], .agg #[.bool b0, .slice A0 m0 c0, .slice A0' m0' c0']] (by kernel_rfl) (by kernel_rfl) (by kernel_rfl) (fun w => by kernel_rfl) ?_
      refine (cmp_is (hb.below hK).fracV (ha.below hK).fracV (by omega) (by omega) (hba)).mono ?_
      rintro e u3 ⟨rfl, hB⟩
      refine ⟨_, rfl, below_then hK hB, ?_⟩
      have hK := below_then hK hB
      clear hB
      simp only [put_lit, put_non, List.set_cons_zero, List.set_cons_succ]
      refine wkS_take (some 36) (.int .i64 s) (by kernel_rfl) (by kernel_rfl) (by kernel_rfl) (fun w hS => by rcases hs3 with rfl | rfl | rfl <;> kernel_rfl) ?_
      simp only [put_lit, put_non, List.set_cons_zero, List.set_cons_succ]
      refine wkS_take (some 37) (.bool true) (by kernel_rfl) (by kernel_rfl) (by kernel_rfl) (fun w hS => by rcases hs3 with rfl | rfl | rfl <;> kernel_rfl) ?_
      simp only [put_lit, put_non, List.set_cons_zero, List.set_cons_succ]
      refine wkS_take (some 38) (.bool true) (by kernel_rfl) (by kernel_rfl) (by kernel_rfl) (fun w hS => by kernel_rfl) ?_
      simp only [put_lit, put_non, List.set_cons_zero, List.set_cons_succ]
      refine wkS_take (some 39) (.bool true) (by kernel_rfl) (by kernel_rfl) (by kernel_rfl) (fun w hS => by kernel_rfl) ?_
      simp only [put_lit, put_non, List.set_cons_zero, List.set_cons_succ]
      refine wkS_take (some 40) (.int .i64 s) (by kernel_rfl) (by kernel_rfl) (by kernel_rfl) (fun w hS => by kernel_rfl) ?_
      simp only [put_lit, put_non, List.set_cons_zero, List.set_cons_succ]
      refine wkS_take (some 41) (.bool (decide (s = 0))) (by kernel_rfl) (by kernel_rfl) (by kernel_rfl) (fun w hS => by rcases hs3 with rfl | rfl | rfl <;> kernel_rfl) ?_
      simp only [put_lit, put_non, List.set_cons_zero, List.set_cons_succ]
      refine wkS_take (some 42) (.agg #[.bool b0, .slice A0 m0 c0, .slice A0' m0' c0']) (by kernel_rfl) (by kernel_rfl) (by kernel_rfl) (fun w hS => exec_load3 7 (hF0.below hS) (by kernel_rfl) (by kernel_rfl)) ?_
      simp only [put_lit, put_non, List.set_cons_zero, List.set_cons_succ]
      refine wkS_take (some 44) (.agg #[.bool b1, .slice A1 m1 c1, .slice A1' m1' c1']) (by kernel_rfl) (by kernel_rfl) (by kernel_rfl) (fun w hS => exec_load3 8 (hF1.below hS) (by kernel_rfl) (by kernel_rfl)) ?_
      simp only [put_lit, put_non, List.set_cons_zero, List.set_cons_succ]
      refine wkS_call (some 43) 12 #[.agg #[.bool b0, .slice A0 m0 c0, .slice A0' m0' c0']] (by kernel_rfl) (by kernel_rfl) (by kernel_rfl) (fun w => by kernel_rfl) ?_
      refine (normf_v (ha.below hK).fracV (by omega) (by omega)).mono ?_
      rintro e u4 ⟨r1, rfl, hr1, hB⟩
      refine ⟨r1, rfl, below_then hK hB, ?_⟩
      have hK := below_then hK hB
      clear hB
      simp only [put_lit, put_non, List.set_cons_zero, List.set_cons_succ]
      refine wkS_call (some 45) 12 #[.agg #[.bool b1, .slice A1 m1 c1, .slice A1' m1' c1']] (by kernel_rfl) (by kernel_rfl) (by kernel_rfl) (fun w => by kernel_rfl) ?_
      refine (normf_v (hb.below hK).fracV (by omega) (by omega)).mono ?_
      rintro e u5 ⟨r2, rfl, hr2, hB⟩
      refine ⟨r2, rfl, below_then hK hB, ?_⟩
      have hK := below_then hK hB
      have hr1 := hr1.below hB
      clear hB
      simp only [put_lit, put_non, List.set_cons_zero, List.set_cons_succ]
      refine wkS_call (some 46) 11 #[r1, r2] (by kernel_rfl) (by kernel_rfl) (by kernel_rfl) (fun w => by kernel_rfl) ?_
      refine (same_is hr1 hr2 hsame).mono ?_
      rintro e u6 ⟨rfl, hB⟩
      refine ⟨_, rfl, below_then hK hB, ?_⟩
      have hK := below_then hK hB
      have hr1 := hr1.below hB
      have hr2 := hr2.below hB
      clear hB
      simp only [put_lit, put_non, List.set_cons_zero, List.set_cons_succ]
      refine wkS_take (some 47) (.bool true) (by kernel_rfl) (by kernel_rfl) (by kernel_rfl) (fun w hS => by rcases hs3 with rfl | rfl | rfl <;> kernel_rfl) ?_
      simp only [put_lit, put_non, List.set_cons_zero, List.set_cons_succ]
      refine wkS_take (some 48) (.bool true) (by kernel_rfl) (by kernel_rfl) (by kernel_rfl) (fun w hS => by kernel_rfl) ?_
      simp only [put_lit, put_non, List.set_cons_zero, List.set_cons_succ]
      refine wkS_take (some 49) (.bool true) (by kernel_rfl) (by kernel_rfl) (by kernel_rfl) (fun w hS => by kernel_rfl) ?_
      simp only [put_lit, put_non, List.set_cons_zero, List.set_cons_succ]
      refine wkS_take (some 50) (.agg #[.bool b0, .slice A0 m0 c0, .slice A0' m0' c0']) (by kernel_rfl) (by kernel_rfl) (by kernel_rfl) (fun w hS => exec_load3 7 (hF0.below hS) (by kernel_rfl) (by kernel_rfl)) ?_
      simp only [put_lit, put_non, List.set_cons_zero, List.set_cons_succ]
      refine wkS_take (some 51) (.agg #[.bool b2, .slice A2 m2 c2, .slice A2' m2' c2']) (by kernel_rfl) (by kernel_rfl) (by kernel_rfl) (fun w hS => exec_load3 9 (hF2.below hS) (by kernel_rfl) (by kernel_rfl)) ?_
      simp only [put_lit, put_non, List.set_cons_zero, List.set_cons_succ]
      refine wkS_take (some 53) (.agg #[.bool b1, .slice A1 m1 c1, .slice A1' m1' c1']) (by kernel_rfl) (by kernel_rfl) (by kernel_rfl) (fun w hS => exec_load3 8 (hF1.below hS) (by kernel_rfl) (by kernel_rfl)) ?_
      simp only [put_lit, put_non, List.set_cons_zero, List.set_cons_succ]
      refine wkS_take (some 54) (.agg #[.bool b2, .slice A2 m2 c2, .slice A2' m2' c2']) (by kernel_rfl) (by kernel_rfl) (by kernel_rfl) (fun w hS => exec_load3 9 (hF2.below hS) (by kernel_rfl) (by kernel_rfl)) ?_
      simp only [put_lit, put_non, List.set_cons_zero, List.set_cons_succ]
      refine wkS_take (some 57) (.int .i64 s) (by kernel_rfl) (by kernel_rfl) (by kernel_rfl) (fun w hS => by kernel_rfl) ?_
      simp only [put_lit, put_non, List.set_cons_zero, List.set_cons_succ]
      clear hr1 hr2
      refine wkS_call (some 52) 20 #[.agg #[.bool b0, .slice A0 m0 c0, .slice A0' m0' c0'], .agg #[.bool b2, .slice A2 m2 c2, .slice A2' m2' c2']] (by kernel_rfl) (by kernel_rfl) (by kernel_rfl) (fun w => by kernel_rfl) ?_
      refine (addf_v (ha.below hK).fracV (hc.below hK).fracV (by omega) (by omega) (by omega) (by omega)).mono ?_
      rintro e u7 ⟨r1, rfl, hr1, hB⟩
      refine ⟨r1, rfl, below_then hK hB, ?_⟩
      have hK := below_then hK hB
      clear hB
      simp only [put_lit, put_non, List.set_cons_zero, List.set_cons_succ]
      refine wkS_call (some 55) 20 #[.agg #[.bool b1, .slice A1 m1 c1, .slice A1' m1' c1'], .agg #[.bool b2, .slice A2 m2 c2, .slice A2' m2' c2']] (by kernel_rfl) (by kernel_rfl) (by kernel_rfl) (fun w => by kernel_rfl) ?_
      refine (addf_v (hb.below hK).fracV (hc.below hK).fracV (by omega) (by omega) (by omega) (by omega)).mono ?_
      rintro e u8 ⟨r2, rfl, hr2, hB⟩
      refine ⟨r2, rfl, below_then hK hB, ?_⟩
      have hK := below_then hK hB
      have hr1 := hr1.below hB
      clear hB
      simp only [put_lit, put_non, List.set_cons_zero, List.set_cons_succ]
      refine wkS_call (some 56) 16 #[r1, r2] (by kernel_rfl) (by kernel_rfl) (by kernel_rfl) (fun w => by kernel_rfl) ?_
      refine (cmp_is hr1.fracV hr2.fracV (by omega) (by omega) (hadd)).mono ?_
      rintro e u9 ⟨rfl, hB⟩
      refine ⟨_, rfl, below_then hK hB, ?_⟩
      have hK := below_then hK hB
      have hr1 := hr1.below hB
      have hr2 := hr2.below hB
      clear hB
      simp only [put_lit, put_non, List.set_cons_zero, List.set_cons_succ]
      refine wkS_take (some 58) (.bool true) (by kernel_rfl) (by kernel_rfl) (by kernel_rfl) (fun w hS => by rcases hs3 with rfl | rfl | rfl <;> kernel_rfl) ?_
      simp only [put_lit, put_non, List.set_cons_zero, List.set_cons_succ]
      refine wkS_take (some 59) (.bool true) (by kernel_rfl) (by kernel_rfl) (by kernel_rfl) (fun w hS => by kernel_rfl) ?_
      simp only [put_lit, put_non, List.set_cons_zero, List.set_cons_succ]
      refine wkS_take (some 60) (.bool true) (by kernel_rfl) (by kernel_rfl) (by kernel_rfl) (fun w hS => by kernel_rfl) ?_
      simp only [put_lit, put_non, List.set_cons_zero, List.set_cons_succ]
      refine wkS_take (some 61) (.agg #[.bool b0, .slice A0 m0 c0, .slice A0' m0' c0']) (by kernel_rfl) (by kernel_rfl) (by kernel_rfl) (fun w hS => exec_load3 7 (hF0.below hS) (by kernel_rfl) (by kernel_rfl)) ?_
      simp only [put_lit, put_non, List.set_cons_zero, List.set_cons_succ]
      refine wkS_take (some 62) (.agg #[.bool b2, .slice A2 m2 c2, .slice A2' m2' c2']) (by kernel_rfl) (by kernel_rfl) (by kernel_rfl) (fun w hS => exec_load3 9 (hF2.below hS) (by kernel_rfl) (by kernel_rfl)) ?_
      simp only [put_lit, put_non, List.set_cons_zero, List.set_cons_succ]
      refine wkS_take (some 64) (.agg #[.bool b1, .slice A1 m1 c1, .slice A1' m1' c1']) (by kernel_rfl) (by kernel_rfl) (by kernel_rfl) (fun w hS => exec_load3 8 (hF1.below hS) (by kernel_rfl) (by kernel_rfl)) ?_
      simp only [put_lit, put_non, List.set_cons_zero, List.set_cons_succ]
      refine wkS_take (some 65) (.agg #[.bool b2, .slice A2 m2 c2, .slice A2' m2' c2']) (by kernel_rfl) (by kernel_rfl) (by kernel_rfl) (fun w hS => exec_load3 9 (hF2.below hS) (by kernel_rfl) (by kernel_rfl)) ?_
      simp only [put_lit, put_non, List.set_cons_zero, List.set_cons_succ]
      refine wkS_take (some 68) (.int .i64 m) (by kernel_rfl) (by kernel_rfl) (by kernel_rfl) (fun w hS => by kernel_rfl) ?_
      simp only [put_lit, put_non, List.set_cons_zero, List.set_cons_succ]
      clear hr1 hr2
      refine wkS_call (some 63) 24 #[.agg #[.bool b0, .slice A0 m0 c0, .slice A0' m0' c0'], .agg #[.bool b2, .slice A2 m2 c2, .slice A2' m2' c2']] (by kernel_rfl) (by kernel_rfl) (by kernel_rfl) (fun w => by kernel_rfl) ?_
      refine (mulf_v (ha.below hK).fracV (hc.below hK).fracV (by omega) (by omega) (by omega)).mono ?_
      rintro e u10 ⟨r1, rfl, hr1, hB⟩
      refine ⟨r1, rfl, below_then hK hB, ?_⟩
      have hK := below_then hK hB
      clear hB
      simp only [put_lit, put_non, List.set_cons_zero, List.set_cons_succ]
      refine wkS_call (some 66) 24 #[.agg #[.bool b1, .slice A1 m1 c1, .slice A1' m1' c1'], .agg #[.bool b2, .slice A2 m2 c2, .slice A2' m2' c2']] (by kernel_rfl) (by kernel_rfl) (by kernel_rfl) (fun w => by kernel_rfl) ?_
      refine (mulf_v (hb.below hK).fracV (hc.below hK).fracV (by omega) (by omega) (by omega)).mono ?_
      rintro e u11 ⟨r2, rfl, hr2, hB⟩
      refine ⟨r2, rfl, below_then hK hB, ?_⟩
      have hK := below_then hK hB
      have hr1 := hr1.below hB
      clear hB
      simp only [put_lit, put_non, List.set_cons_zero, List.set_cons_succ]
      refine wkS_call (some 67) 16 #[r1, r2] (by kernel_rfl) (by kernel_rfl) (by kernel_rfl) (fun w => by kernel_rfl) ?_
      refine (cmp_is hr1.fracV hr2.fracV (by omega) (by omega) (hmul)).mono ?_
      rintro e u12 ⟨rfl, hB⟩
      refine ⟨_, rfl, below_then hK hB, ?_⟩
      have hK := below_then hK hB
      have hr1 := hr1.below hB
      have hr2 := hr2.below hB
      clear hB
      simp only [put_lit, put_non, List.set_cons_zero, List.set_cons_succ]
      refine wkS_take (some 69) (.bool true) (by kernel_rfl) (by kernel_rfl) (by kernel_rfl) (fun w hS => by rcases hm3 with rfl | rfl | rfl <;> kernel_rfl) ?_
      simp only [put_lit, put_non, List.set_cons_zero, List.set_cons_succ]
      refine wkS_take (some 70) (.bool true) (by kernel_rfl) (by kernel_rfl) (by kernel_rfl) (fun w hS => by kernel_rfl) ?_
      simp only [put_lit, put_non, List.set_cons_zero, List.set_cons_succ]
      refine wkS_take (some 71) (.bool true) (by kernel_rfl) (by kernel_rfl) (by kernel_rfl) (fun w hS => by kernel_rfl) ?_
      simp only [put_lit, put_non, List.set_cons_zero, List.set_cons_succ]
      refine wkS_take (some 72) (.int .i64 s) (by kernel_rfl) (by kernel_rfl) (by kernel_rfl) (fun w hS => by kernel_rfl) ?_
      simp only [put_lit, put_non, List.set_cons_zero, List.set_cons_succ]
      refine wkS_take (some 73) (.bool false) (by kernel_rfl) (by kernel_rfl) (by kernel_rfl) (fun w hS => by rcases hs1 with rfl | rfl <;> kernel_rfl) ?_
      simp only [put_lit, put_non, List.set_cons_zero, List.set_cons_succ]
      refine wkS_take (some 74) (.bool false) (by kernel_rfl) (by kernel_rfl) (by kernel_rfl) (fun w hS => by kernel_rfl) ?_
      simp only [put_lit, put_non, List.set_cons_zero, List.set_cons_succ]
      refine wkS_take (some 75) (.agg #[.bool b1, .slice A1 m1 c1, .slice A1' m1' c1']) (by kernel_rfl) (by kernel_rfl) (by kernel_rfl) (fun w hS => exec_load3 8 (hF1.below hS) (by kernel_rfl) (by kernel_rfl)) ?_
      simp only [put_lit, put_non, List.set_cons_zero, List.set_cons_succ]
      refine wkS_take (some 76) (.agg #[.bool b2, .slice A2 m2 c2, .slice A2' m2' c2']) (by kernel_rfl) (by kernel_rfl) (by kernel_rfl) (fun w hS => exec_load3 9 (hF2.below hS) (by kernel_rfl) (by kernel_rfl)) ?_
      simp only [put_lit, put_non, List.set_cons_zero, List.set_cons_succ]
      clear hr1 hr2
      refine wkS_call (some 77) 16 #[.agg #[.bool b1, .slice A1 m1 c1, .slice A1' m1' c1'], .agg #[.bool b2, .slice A2 m2 c2, .slice A2' m2' c2']] (by kernel_rfl) (by kernel_rfl) (by kernel_rfl) (fun w => by kernel_rfl) ?_
      refine (cmp_is (hb.below hK).fracV (hc.below hK).fracV (by omega) (by omega) (hbc)).mono ?_
      rintro e u13 ⟨rfl, hB⟩
      refine ⟨_, rfl, below_then hK hB, ?_⟩
      have hK := below_then hK hB
      clear hB
      simp only [put_lit, put_non, List.set_cons_zero, List.set_cons_succ]
      refine wkS_take (some 78) (.bool false) (by kernel_rfl) (by kernel_rfl) (by kernel_rfl) (fun w hS => by rcases hb1 with rfl | rfl <;> kernel_rfl) ?_
      simp only [put_lit, put_non, List.set_cons_zero, List.set_cons_succ]
      refine wkS_take (some 79) (.bool false) (by kernel_rfl) (by kernel_rfl) (by kernel_rfl) (fun w hS => by kernel_rfl) ?_
      simp only [put_lit, put_non, List.set_cons_zero, List.set_cons_succ]
      refine wkS_take (some 80) (.bool false) (by kernel_rfl) (by kernel_rfl) (by kernel_rfl) (fun w hS => by kernel_rfl) ?_
      simp only [put_lit, put_non, List.set_cons_zero, List.set_cons_succ]
      refine wkS_take (some 81) (.agg #[.bool b0, .slice A0 m0 c0, .slice A0' m0' c0']) (by kernel_rfl) (by kernel_rfl) (by kernel_rfl) (fun w hS => exec_load3 7 (hF0.below hS) (by kernel_rfl) (by kernel_rfl)) ?_
      simp only [put_lit, put_non, List.set_cons_zero, List.set_cons_succ]
      refine wkS_take (some 82) (.agg #[.bool b2, .slice A2 m2 c2, .slice A2' m2' c2']) (by kernel_rfl) (by kernel_rfl) (by kernel_rfl) (fun w hS => exec_load3 9 (hF2.below hS) (by kernel_rfl) (by kernel_rfl)) ?_
      simp only [put_lit, put_non, List.set_cons_zero, List.set_cons_succ]
      refine wkS_call (some 83) 16 #[.agg #[.bool b0, .slice A0 m0 c0, .slice A0' m0' c0'], .agg #[.bool b2, .slice A2 m2 c2, .slice A2' m2' c2']] (by kernel_rfl) (by kernel_rfl) (by kernel_rfl) (fun w => by kernel_rfl) ?_
      refine (cmp_is (ha.below hK).fracV (hc.below hK).fracV (by omega) (by omega) (hac)).mono ?_
      rintro e u14 ⟨rfl, hB⟩
      refine ⟨_, rfl, below_then hK hB, ?_⟩
      have hK := below_then hK hB
      clear hB
      simp only [put_lit, put_non, List.set_cons_zero, List.set_cons_succ]
      refine wkS_take (some 84) (.bool true) (by kernel_rfl) (by kernel_rfl) (by kernel_rfl) (fun w hS => by rcases hc1 with rfl | rfl <;> kernel_rfl) ?_
      simp only [put_lit, put_non, List.set_cons_zero, List.set_cons_succ]
      refine wkS_take (some 85) (.bool true) (by kernel_rfl) (by kernel_rfl) (by kernel_rfl) (fun w hS => by kernel_rfl) ?_
      simp only [put_lit, put_non, List.set_cons_zero, List.set_cons_succ]
      refine wkS_take (some 86) (.bool true) (by kernel_rfl) (by kernel_rfl) (by kernel_rfl) (fun w hS => by kernel_rfl) ?_
      simp only [put_lit, put_non, List.set_cons_zero, List.set_cons_succ]
      refine wkS_take (some 87) (.bool true) (by kernel_rfl) (by kernel_rfl) (by kernel_rfl) (fun w hS => by kernel_rfl) ?_
      simp only [put_lit, put_non, List.set_cons_zero, List.set_cons_succ]
      refine wkS_call (some 88) 30 #[] (by kernel_rfl) (by kernel_rfl) (by kernel_rfl) (fun w => by kernel_rfl) ?_
      refine (known2_v _ (hM.below (below_then HB hK))).mono ?_
      rintro e u15 ⟨rfl, hB⟩
      refine ⟨_, rfl, below_then hK hB, ?_⟩
      have hK := below_then hK hB
      clear hB
      simp only [put_lit, put_non, List.set_cons_zero, List.set_cons_succ]
      refine wkS_take (some 89) (.bool true) (by kernel_rfl) (by kernel_rfl) (by kernel_rfl) (fun w hS => by kernel_rfl) ?_
      simp only [put_lit, put_non, List.set_cons_zero, List.set_cons_succ]
      refine wkS_take (some 6) (.bool true) (by kernel_rfl) (by kernel_rfl) (by kernel_rfl) (fun w hS => by kernel_rfl) ?_
      simp only [put_lit, put_non, List.set_cons_zero, List.set_cons_succ]
      refine wkS_done ?_
      go_wp2_with fail
      go_ret
      exact ⟨rfl, below_then HB hK⟩
theorem order_walk (w : World) {x y z : Int} (_ : (Lit.int .i64 x).wf = true) (_ : (Lit.int .i64 y).wf = true) (_ : (Lit.int .i64 z).wf = true) (hM : MaxL w) : Calls Tryz.prog 6 #[.int .i64 x, .int .i64 y, .int .i64 z] w (RVal w (.bool true)) := order_walk0 w x y z hM
end Go.Proofs.YtgjhgpfjeoeojaaGreatDoor

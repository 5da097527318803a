/- The walk of the law RationalField: it returns true and leaves what was there. -/
import Derived.Test.YtgjhgpfjeoeojaaGreatDoorBown
import Derived.Test.YtgjhgpfjeoeojaaGreatDoorKnow2
import Derived.Test.YtgjhgpfjeoeojaaGreatDoorRefL
import Derived.Test.YtgjhgpfjeoeojaaGreatDoorPlans
namespace Go.Proofs.YtgjhgpfjeoeojaaGreatDoor
set_option linter.unusedSimpArgs false
open Go.RowKit Dig
set_option linter.unusedVariables false

theorem conjF2 {w : World} {g0 g1 : Nat} {b0 b1 : Bool} {x0 y0 x1 y1 : Value} (h0 : Fcl w g0 b0 x0 y0) (h1 : Fcl w g1 b1 x1 y1) :
    w.cell? ⟨g0, 0, none⟩ = some (.bool b0) ∧ w.cell? ⟨g0, 1, none⟩ = some x0 ∧ w.cell? ⟨g0, 2, none⟩ = some y0 ∧ w.cell? ⟨g1, 0, none⟩ = some (.bool b1) ∧ w.cell? ⟨g1, 1, none⟩ = some x1 ∧ w.cell? ⟨g1, 2, none⟩ = some y1 :=
  ⟨h0.cells.1, h0.cells.2.1, h0.cells.2.2, h1.cells.1, h1.cells.2.1, h1.cells.2.2⟩
theorem conjF3 {w : World} {g0 g1 g2 : Nat} {b0 b1 b2 : Bool} {x0 y0 x1 y1 x2 y2 : Value} (h0 : Fcl w g0 b0 x0 y0) (h1 : Fcl w g1 b1 x1 y1) (h2 : Fcl w g2 b2 x2 y2) :
    w.cell? ⟨g0, 0, none⟩ = some (.bool b0) ∧ w.cell? ⟨g0, 1, none⟩ = some x0 ∧ w.cell? ⟨g0, 2, none⟩ = some y0 ∧ w.cell? ⟨g1, 0, none⟩ = some (.bool b1) ∧ w.cell? ⟨g1, 1, none⟩ = some x1 ∧ w.cell? ⟨g1, 2, none⟩ = some y1 ∧ w.cell? ⟨g2, 0, none⟩ = some (.bool b2) ∧ w.cell? ⟨g2, 1, none⟩ = some x2 ∧ w.cell? ⟨g2, 2, none⟩ = some y2 :=
  ⟨h0.cells.1, h0.cells.2.1, h0.cells.2.2, h1.cells.1, h1.cells.2.1, h1.cells.2.2, h2.cells.1, h2.cells.2.1, h2.cells.2.2⟩
theorem conjF4 {w : World} {g0 g1 g2 g3 : Nat} {b0 b1 b2 b3 : Bool} {x0 y0 x1 y1 x2 y2 x3 y3 : Value} (h0 : Fcl w g0 b0 x0 y0) (h1 : Fcl w g1 b1 x1 y1) (h2 : Fcl w g2 b2 x2 y2) (h3 : Fcl w g3 b3 x3 y3) :
    w.cell? ⟨g0, 0, none⟩ = some (.bool b0) ∧ w.cell? ⟨g0, 1, none⟩ = some x0 ∧ w.cell? ⟨g0, 2, none⟩ = some y0 ∧ w.cell? ⟨g1, 0, none⟩ = some (.bool b1) ∧ w.cell? ⟨g1, 1, none⟩ = some x1 ∧ w.cell? ⟨g1, 2, none⟩ = some y1 ∧ w.cell? ⟨g2, 0, none⟩ = some (.bool b2) ∧ w.cell? ⟨g2, 1, none⟩ = some x2 ∧ w.cell? ⟨g2, 2, none⟩ = some y2 ∧ w.cell? ⟨g3, 0, none⟩ = some (.bool b3) ∧ w.cell? ⟨g3, 1, none⟩ = some x3 ∧ w.cell? ⟨g3, 2, none⟩ = some y3 :=
  ⟨h0.cells.1, h0.cells.2.1, h0.cells.2.2, h1.cells.1, h1.cells.2.1, h1.cells.2.2, h2.cells.1, h2.cells.2.1, h2.cells.2.2, h3.cells.1, h3.cells.2.1, h3.cells.2.2⟩
theorem conjF5 {w : World} {g0 g1 g2 g3 g4 : Nat} {b0 b1 b2 b3 b4 : Bool} {x0 y0 x1 y1 x2 y2 x3 y3 x4 y4 : Value} (h0 : Fcl w g0 b0 x0 y0) (h1 : Fcl w g1 b1 x1 y1) (h2 : Fcl w g2 b2 x2 y2) (h3 : Fcl w g3 b3 x3 y3) (h4 : Fcl w g4 b4 x4 y4) :
    w.cell? ⟨g0, 0, none⟩ = some (.bool b0) ∧ w.cell? ⟨g0, 1, none⟩ = some x0 ∧ w.cell? ⟨g0, 2, none⟩ = some y0 ∧ w.cell? ⟨g1, 0, none⟩ = some (.bool b1) ∧ w.cell? ⟨g1, 1, none⟩ = some x1 ∧ w.cell? ⟨g1, 2, none⟩ = some y1 ∧ w.cell? ⟨g2, 0, none⟩ = some (.bool b2) ∧ w.cell? ⟨g2, 1, none⟩ = some x2 ∧ w.cell? ⟨g2, 2, none⟩ = some y2 ∧ w.cell? ⟨g3, 0, none⟩ = some (.bool b3) ∧ w.cell? ⟨g3, 1, none⟩ = some x3 ∧ w.cell? ⟨g3, 2, none⟩ = some y3 ∧ w.cell? ⟨g4, 0, none⟩ = some (.bool b4) ∧ w.cell? ⟨g4, 1, none⟩ = some x4 ∧ w.cell? ⟨g4, 2, none⟩ = some y4 :=
  ⟨h0.cells.1, h0.cells.2.1, h0.cells.2.2, h1.cells.1, h1.cells.2.1, h1.cells.2.2, h2.cells.1, h2.cells.2.1, h2.cells.2.2, h3.cells.1, h3.cells.2.1, h3.cells.2.2, h4.cells.1, h4.cells.2.1, h4.cells.2.2⟩

set_option maxRecDepth 20000 in
set_option maxHeartbeats 32000000 in
theorem field_walk0 (w : World) (x y z : Int) (hM : MaxL w) : Calls Tryz.prog 5 #[.int .i64 x, .int .i64 y, .int .i64 z] w (RVal w (.bool true)) := by
  have NW := Lib.hid (fun w1 => new_v w1 1 1 (by unfold Fits64; omega) (by unfold Fits64; omega) (by omega))
  rw [show frz 1 1 = (1 : Rat) from rfl] at NW
  have A := Lib.hid (fun w1 => baseFrac_v w1 x)
  have B := Lib.hid (fun w1 => baseFrac_v w1 y)
  have C := Lib.hid (fun w1 => baseFrac_v w1 z)
  generalize bq x = qa at *
  generalize bq y = qb at *
  generalize bq z = qc at *
  go_enter Tryz.func5, Tryz.ntmps5
  go_wp2_with fail
  refine (A.out _).mono ?_
  rintro e w1 ⟨va, rfl, ha, hB1⟩
  go_wp2_with fail
  refine (B.out _).mono ?_
  rintro e w2 ⟨vb, rfl, hb, hB2⟩
  have ha := ha.below hB2
  have HB := below_then hB1 hB2
  go_wp2_with fail
  refine (C.out _).mono ?_
  rintro e w3 ⟨vc, rfl, hc, hB3⟩
  have ha := ha.below hB3
  have hb := hb.below hB3
  have HB := below_then HB hB3
  obtain ⟨b0, A0, m0, c0, A0', m0', c0', rfl, _, _, _⟩ := ha.parts
  obtain ⟨b1, A1, m1, c1, A1', m1', c1', rfl, _, _, _⟩ := hb.parts
  obtain ⟨b2, A2, m2, c2, A2', m2', c2', rfl, _, _, _⟩ := hc.parts
  obtain ⟨W, ew, hBW, hF0, hF1, hF2⟩ := var3 w3 b0 b1 b2 (.slice A0 m0 c0) (.slice A0' m0' c0') (.slice A1 m1 c1) (.slice A1' m1' c1') (.slice A2 m2 c2) (.slice A2' m2' c2')
  have ha := ha.below hBW
  have hb := hb.below hBW
  have hc := hc.below hBW
  have HB := below_then HB hBW
  clear hB1 hB2 hB3
  go_wp2_with fail
  generalize hg1 : w3.heap.size + 1 = g1 at *
  generalize hg2 : g1 + 1 = g2 at *
  generalize hg0 : w3.heap.size = g0 at *
  clear hg0 hg1 hg2
  refine (NW.out _).mono ?_
  rintro e w4 ⟨vo, rfl, ho, hB4⟩
  obtain ⟨b3, A3, m3, c3, A3', m3', c3', rfl, _, _, _⟩ := ho.parts
  obtain ⟨W2, g3, ew2, eg3, hBW2, hF3⟩ := var1 w4 b3 (.slice A3 m3 c3) (.slice A3' m3' c3')
  have hBY := below_then hB4 hBW2
  have ho := ho.below hBW2
  have ha := ha.below hBY
  have hb := hb.below hBY
  have hc := hc.below hBY
  have hF0 := hF0.below hBY
  have hF1 := hF1.below hBY
  have hF2 := hF2.below hBY
  have HB := below_then HB hBY
  clear hBY hBW2 hB4 hBW
  obtain ⟨o0, o1, o2⟩ := hF3.cells
  obtain ⟨d0, d1, d2⟩ := hF1.cells
  by_cases h0 : qb = 0
  · have hb0 := hb
    rw [h0] at hb0
    have D := Lib.hid (div0_fv (w := W2) ho.fracV hb0.fracV (by omega))
    go_wp2_with fail
    refine (D.out).mono ?_
    rintro e w5 ⟨rfl, hB5⟩
    have hBW3 : Below w5.heap.size w5 (w5.alloc (.cells #[.bool false, .slice none 0 0, .slice none 0 0] 25)) := (Below.refl _ _).alloc (Nat.le_refl _) _
    have hBY := below_then hB5 hBW3
    have ha := ha.below hBY
    have hb := hb.below hBY
    have hc := hc.below hBY
    have hF0 := hF0.below hBY
    have hF1 := hF1.below hBY
    have hF2 := hF2.below hBY
    have HB := below_then HB hBY
    clear hBY hBW3 hB5 o0 o1 o2 d0 d1 d2
    obtain ⟨d0, d1, d2⟩ := hF1.cells
    have S := Lib.hid (sign_is hb.fracV (by omega) (show rsgn qb = 0 by rw [h0]; rfl))
    go_wp2_with fail
    refine (S.out).mono ?_
    rintro e w6 ⟨rfl, hB6⟩
    have ha := ha.below hB6
    have hb := hb.below hB6
    have hc := hc.below hB6
    have hF0 := hF0.below hB6
    have hF1 := hF1.below hB6
    have hF2 := hF2.below hB6
    have HB := below_then HB hB6
    clear hB6 d0 d1 d2 ew ew2 eg3 hF3
    go_wp2_with fail
    refine wp_region_plan (S := fun w' => Below w6.heap.size w6 w') [(0, true), (1, true), (2, true), (3, true), (4, true), (5, true), (6, true), (7, true), (9, true), (10, true), (8, false), (11, false), (12, false), (13, true), (14, true), (15, true), (16, true), (18, true), (19, true), (17, false), (20, false), (21, false), (22, true), (23, true), (24, true), (25, true), (27, true), (29, true), (30, true), (31, true), (26, false), (28, false), (32, false), (33, false), (34, false), (35, true), (36, true), (37, true), (38, true), (40, true), (42, true), (43, true), (44, true), (39, false), (41, false), (45, false), (46, false), (47, false), (48, true), (49, true), (50, true), (51, true), (52, true), (55, true), (56, true), (58, true), (59, true), (53, false), (54, false), (57, false), (60, false), (61, false), (62, false), (63, true), (64, true), (65, true), (66, true), (67, false), (68, false), (69, false), (70, true), (71, true), (72, true), (73, false), (74, true), (75, true)] (by kernel_rfl) (by kernel_rfl) (by kernel_rfl) (by kernel_rfl) (fun _ _ d _ _ h => by cases d <;> exact h) (Below.refl _ _).drew ?_
    have hK : Below w6.heap.size w6 w6.drew := (Below.refl _ _).drew
    refine wkS_take (some 45) (.int .i64 0) (by kernel_rfl) (by kernel_rfl) (by kernel_rfl) (fun w hS => by kernel_rfl) ?_
    simp only [put_lit, put_non, List.set_cons_zero, List.set_cons_succ]
    refine wkS_take (some 46) (.bool true) (by kernel_rfl) (by kernel_rfl) (by kernel_rfl) (fun w hS => by kernel_rfl) ?_
    simp only [put_lit, put_non, List.set_cons_zero, List.set_cons_succ]
    refine wkS_take (some 47) (.bool true) (by kernel_rfl) (by kernel_rfl) (by kernel_rfl) (fun w hS => by kernel_rfl) ?_
    simp only [put_lit, put_non, List.set_cons_zero, List.set_cons_succ]
    refine wkS_take (some 48) (.bool true) (by kernel_rfl) (by kernel_rfl) (by kernel_rfl) (fun w hS => by kernel_rfl) ?_
    simp only [put_lit, put_non, List.set_cons_zero, List.set_cons_succ]
    refine wkS_take (some 49) (.bool true) (by kernel_rfl) (by kernel_rfl) (by kernel_rfl) (fun w hS => by kernel_rfl) ?_
    simp only [put_lit, put_non, List.set_cons_zero, List.set_cons_succ]
    refine wkS_take (some 50) (.bool true) (by kernel_rfl) (by kernel_rfl) (by kernel_rfl) (fun w hS => by kernel_rfl) ?_
    simp only [put_lit, put_non, List.set_cons_zero, List.set_cons_succ]
    refine wkS_take (some 51) (.agg #[.bool b0, .slice A0 m0 c0, .slice A0' m0' c0']) (by kernel_rfl) (by kernel_rfl) (by kernel_rfl) (fun w hS => exec_load3 7 (hF0.below hS) (by kernel_rfl) (by kernel_rfl)) ?_
    simp only [put_lit, put_non, List.set_cons_zero, List.set_cons_succ]
    refine wkS_take (some 52) (.agg #[.bool b1, .slice A1 m1 c1, .slice A1' m1' c1']) (by kernel_rfl) (by kernel_rfl) (by kernel_rfl) (fun w hS => exec_load3 8 (hF1.below hS) (by kernel_rfl) (by kernel_rfl)) ?_
    simp only [put_lit, put_non, List.set_cons_zero, List.set_cons_succ]
    refine wkS_take (some 54) (.agg #[.bool b1, .slice A1 m1 c1, .slice A1' m1' c1']) (by kernel_rfl) (by kernel_rfl) (by kernel_rfl) (fun w hS => exec_load3 8 (hF1.below hS) (by kernel_rfl) (by kernel_rfl)) ?_
    simp only [put_lit, put_non, List.set_cons_zero, List.set_cons_succ]
    refine wkS_take (some 55) (.agg #[.bool b0, .slice A0 m0 c0, .slice A0' m0' c0']) (by kernel_rfl) (by kernel_rfl) (by kernel_rfl) (fun w hS => exec_load3 7 (hF0.below hS) (by kernel_rfl) (by kernel_rfl)) ?_
    simp only [put_lit, put_non, List.set_cons_zero, List.set_cons_succ]
    refine wkS_call (some 53) 20 #[.agg #[.bool b0, .slice A0 m0 c0, .slice A0' m0' c0'], .agg #[.bool b1, .slice A1 m1 c1, .slice A1' m1' c1']] (by kernel_rfl) (by kernel_rfl) (by kernel_rfl) (fun w => by kernel_rfl) ?_
    refine (addf_v (ha.below hK).fracV (hb.below hK).fracV (by omega) (by omega) (by omega) (by omega)).mono ?_
    rintro e u1 ⟨r1, rfl, hr1, hB⟩
    refine ⟨r1, rfl, below_then hK hB, ?_⟩
    have hK := below_then hK hB
    clear hB
    simp only [put_lit, put_non, List.set_cons_zero, List.set_cons_succ]
    refine wkS_call (some 56) 20 #[.agg #[.bool b1, .slice A1 m1 c1, .slice A1' m1' c1'], .agg #[.bool b0, .slice A0 m0 c0, .slice A0' m0' c0']] (by kernel_rfl) (by kernel_rfl) (by kernel_rfl) (fun w => by kernel_rfl) ?_
    refine (addf_v (hb.below hK).fracV (ha.below hK).fracV (by omega) (by omega) (by omega) (by omega)).mono ?_
    rintro e u2 ⟨r2, rfl, hr2, hB⟩
    refine ⟨r2, rfl, below_then hK hB, ?_⟩
    have hK := below_then hK hB
    have hr1 := hr1.below hB
    clear hB
    simp only [put_lit, put_non, List.set_cons_zero, List.set_cons_succ]
    refine wkS_call (some 57) 11 #[r1, r2] (by kernel_rfl) (by kernel_rfl) (by kernel_rfl) (fun w => by kernel_rfl) ?_
    refine (same_ft hr1 hr2 (Rat.add_comm _ _)).mono ?_
    rintro e u3 ⟨rfl, hB⟩
    refine ⟨_, rfl, below_then hK hB, ?_⟩
    have hK := below_then hK hB
    have hr1 := hr1.below hB
    have hr2 := hr2.below hB
    clear hB
    simp only [put_lit, put_non, List.set_cons_zero, List.set_cons_succ]
    refine wkS_take (some 58) (.bool true) (by kernel_rfl) (by kernel_rfl) (by kernel_rfl) (fun w hS => by kernel_rfl) ?_
    simp only [put_lit, put_non, List.set_cons_zero, List.set_cons_succ]
    refine wkS_take (some 59) (.bool true) (by kernel_rfl) (by kernel_rfl) (by kernel_rfl) (fun w hS => by kernel_rfl) ?_
    simp only [put_lit, put_non, List.set_cons_zero, List.set_cons_succ]
    refine wkS_take (some 60) (.agg #[.bool b0, .slice A0 m0 c0, .slice A0' m0' c0']) (by kernel_rfl) (by kernel_rfl) (by kernel_rfl) (fun w hS => exec_load3 7 (hF0.below hS) (by kernel_rfl) (by kernel_rfl)) ?_
    simp only [put_lit, put_non, List.set_cons_zero, List.set_cons_succ]
    refine wkS_take (some 61) (.agg #[.bool b1, .slice A1 m1 c1, .slice A1' m1' c1']) (by kernel_rfl) (by kernel_rfl) (by kernel_rfl) (fun w hS => exec_load3 8 (hF1.below hS) (by kernel_rfl) (by kernel_rfl)) ?_
    simp only [put_lit, put_non, List.set_cons_zero, List.set_cons_succ]
    refine wkS_take (some 63) (.agg #[.bool b1, .slice A1 m1 c1, .slice A1' m1' c1']) (by kernel_rfl) (by kernel_rfl) (by kernel_rfl) (fun w hS => exec_load3 8 (hF1.below hS) (by kernel_rfl) (by kernel_rfl)) ?_
    simp only [put_lit, put_non, List.set_cons_zero, List.set_cons_succ]
    refine wkS_take (some 64) (.agg #[.bool b0, .slice A0 m0 c0, .slice A0' m0' c0']) (by kernel_rfl) (by kernel_rfl) (by kernel_rfl) (fun w hS => exec_load3 7 (hF0.below hS) (by kernel_rfl) (by kernel_rfl)) ?_
    simp only [put_lit, put_non, List.set_cons_zero, List.set_cons_succ]
    clear hr1 hr2
    refine wkS_call (some 62) 24 #[.agg #[.bool b0, .slice A0 m0 c0, .slice A0' m0' c0'], .agg #[.bool b1, .slice A1 m1 c1, .slice A1' m1' c1']] (by kernel_rfl) (by kernel_rfl) (by kernel_rfl) (fun w => by kernel_rfl) ?_
    refine (mulf_v (ha.below hK).fracV (hb.below hK).fracV (by omega) (by omega) (by omega)).mono ?_
    rintro e u4 ⟨r1, rfl, hr1, hB⟩
    refine ⟨r1, rfl, below_then hK hB, ?_⟩
    have hK := below_then hK hB
    clear hB
    simp only [put_lit, put_non, List.set_cons_zero, List.set_cons_succ]
    refine wkS_call (some 65) 24 #[.agg #[.bool b1, .slice A1 m1 c1, .slice A1' m1' c1'], .agg #[.bool b0, .slice A0 m0 c0, .slice A0' m0' c0']] (by kernel_rfl) (by kernel_rfl) (by kernel_rfl) (fun w => by kernel_rfl) ?_
    refine (mulf_v (hb.below hK).fracV (ha.below hK).fracV (by omega) (by omega) (by omega)).mono ?_
    rintro e u5 ⟨r2, rfl, hr2, hB⟩
    refine ⟨r2, rfl, below_then hK hB, ?_⟩
    have hK := below_then hK hB
    have hr1 := hr1.below hB
    clear hB
    simp only [put_lit, put_non, List.set_cons_zero, List.set_cons_succ]
    refine wkS_call (some 66) 11 #[r1, r2] (by kernel_rfl) (by kernel_rfl) (by kernel_rfl) (fun w => by kernel_rfl) ?_
    refine (same_ft hr1 hr2 (Rat.mul_comm _ _)).mono ?_
    rintro e u6 ⟨rfl, hB⟩
    refine ⟨_, rfl, below_then hK hB, ?_⟩
    have hK := below_then hK hB
    have hr1 := hr1.below hB
    have hr2 := hr2.below hB
    clear hB
    simp only [put_lit, put_non, List.set_cons_zero, List.set_cons_succ]
    refine wkS_take (some 67) (.bool true) (by kernel_rfl) (by kernel_rfl) (by kernel_rfl) (fun w hS => by kernel_rfl) ?_
    simp only [put_lit, put_non, List.set_cons_zero, List.set_cons_succ]
    refine wkS_take (some 68) (.bool true) (by kernel_rfl) (by kernel_rfl) (by kernel_rfl) (fun w hS => by kernel_rfl) ?_
    simp only [put_lit, put_non, List.set_cons_zero, List.set_cons_succ]
    refine wkS_take (some 69) (.agg #[.bool b0, .slice A0 m0 c0, .slice A0' m0' c0']) (by kernel_rfl) (by kernel_rfl) (by kernel_rfl) (fun w hS => exec_load3 7 (hF0.below hS) (by kernel_rfl) (by kernel_rfl)) ?_
    simp only [put_lit, put_non, List.set_cons_zero, List.set_cons_succ]
    refine wkS_take (some 70) (.agg #[.bool b1, .slice A1 m1 c1, .slice A1' m1' c1']) (by kernel_rfl) (by kernel_rfl) (by kernel_rfl) (fun w hS => exec_load3 8 (hF1.below hS) (by kernel_rfl) (by kernel_rfl)) ?_
    simp only [put_lit, put_non, List.set_cons_zero, List.set_cons_succ]
    refine wkS_take (some 72) (.agg #[.bool b2, .slice A2 m2 c2, .slice A2' m2' c2']) (by kernel_rfl) (by kernel_rfl) (by kernel_rfl) (fun w hS => exec_load3 9 (hF2.below hS) (by kernel_rfl) (by kernel_rfl)) ?_
    simp only [put_lit, put_non, List.set_cons_zero, List.set_cons_succ]
    refine wkS_take (some 74) (.agg #[.bool b0, .slice A0 m0 c0, .slice A0' m0' c0']) (by kernel_rfl) (by kernel_rfl) (by kernel_rfl) (fun w hS => exec_load3 7 (hF0.below hS) (by kernel_rfl) (by kernel_rfl)) ?_
    simp only [put_lit, put_non, List.set_cons_zero, List.set_cons_succ]
    refine wkS_take (some 75) (.agg #[.bool b1, .slice A1 m1 c1, .slice A1' m1' c1']) (by kernel_rfl) (by kernel_rfl) (by kernel_rfl) (fun w hS => exec_load3 8 (hF1.below hS) (by kernel_rfl) (by kernel_rfl)) ?_
    simp only [put_lit, put_non, List.set_cons_zero, List.set_cons_succ]
    refine wkS_take (some 76) (.agg #[.bool b2, .slice A2 m2 c2, .slice A2' m2' c2']) (by kernel_rfl) (by kernel_rfl) (by kernel_rfl) (fun w hS => exec_load3 9 (hF2.below hS) (by kernel_rfl) (by kernel_rfl)) ?_
    simp only [put_lit, put_non, List.set_cons_zero, List.set_cons_succ]
    clear hr1 hr2
    refine wkS_call (some 71) 20 #[.agg #[.bool b0, .slice A0 m0 c0, .slice A0' m0' c0'], .agg #[.bool b1, .slice A1 m1 c1, .slice A1' m1' c1']] (by kernel_rfl) (by kernel_rfl) (by kernel_rfl) (fun w => by kernel_rfl) ?_
    refine (addf_v (ha.below hK).fracV (hb.below hK).fracV (by omega) (by omega) (by omega) (by omega)).mono ?_
    rintro e u7 ⟨r1, rfl, hr1, hB⟩
    refine ⟨r1, rfl, below_then hK hB, ?_⟩
    have hK := below_then hK hB
    clear hB
    simp only [put_lit, put_non, List.set_cons_zero, List.set_cons_succ]
    refine wkS_call (some 73) 20 #[r1, .agg #[.bool b2, .slice A2 m2 c2, .slice A2' m2' c2']] (by kernel_rfl) (by kernel_rfl) (by kernel_rfl) (fun w => by kernel_rfl) ?_
    refine (addf_v hr1.fracV (hc.below hK).fracV (by omega) (by omega) (by omega) (by omega)).mono ?_
    rintro e u8 ⟨r2, rfl, hr2, hB⟩
    refine ⟨r2, rfl, below_then hK hB, ?_⟩
    have hK := below_then hK hB
    have hr1 := hr1.below hB
    clear hB
    simp only [put_lit, put_non, List.set_cons_zero, List.set_cons_succ]
    clear hr1
    refine wkS_call (some 77) 20 #[.agg #[.bool b1, .slice A1 m1 c1, .slice A1' m1' c1'], .agg #[.bool b2, .slice A2 m2 c2, .slice A2' m2' c2']] (by kernel_rfl) (by kernel_rfl) (by kernel_rfl) (fun w => by kernel_rfl) ?_
    refine (addf_v (hb.below hK).fracV (hc.below hK).fracV (by omega) (by omega) (by omega) (by omega)).mono ?_
    rintro e u9 ⟨r1, rfl, hr1, hB⟩
    refine ⟨r1, rfl, below_then hK hB, ?_⟩
    have hK := below_then hK hB
    have hr2 := hr2.below hB
    clear hB
    simp only [put_lit, put_non, List.set_cons_zero, List.set_cons_succ]
    refine wkS_call (some 78) 20 #[.agg #[.bool b0, .slice A0 m0 c0, .slice A0' m0' c0'], r1] (by kernel_rfl) (by kernel_rfl) (by kernel_rfl) (fun w => by kernel_rfl) ?_
    refine (addf_v (ha.below hK).fracV hr1.fracV (by omega) (by omega) (by omega) (by omega)).mono ?_
    rintro e u10 ⟨r3, rfl, hr3, hB⟩
    refine ⟨r3, rfl, below_then hK hB, ?_⟩
    have hK := below_then hK hB
    have hr2 := hr2.below hB
    have hr1 := hr1.below hB
    clear hB
    simp only [put_lit, put_non, List.set_cons_zero, List.set_cons_succ]
    refine wkS_call (some 79) 11 #[r2, r3] (by kernel_rfl) (by kernel_rfl) (by kernel_rfl) (fun w => by kernel_rfl) ?_
    refine (same_ft hr2 hr3 (Rat.add_assoc _ _ _)).mono ?_
    rintro e u11 ⟨rfl, hB⟩
    refine ⟨_, rfl, below_then hK hB, ?_⟩
    have hK := below_then hK hB
    have hr2 := hr2.below hB
    have hr1 := hr1.below hB
    have hr3 := hr3.below hB
    clear hB
    simp only [put_lit, put_non, List.set_cons_zero, List.set_cons_succ]
    refine wkS_take (some 80) (.bool true) (by kernel_rfl) (by kernel_rfl) (by kernel_rfl) (fun w hS => by kernel_rfl) ?_
    simp only [put_lit, put_non, List.set_cons_zero, List.set_cons_succ]
    refine wkS_take (some 81) (.bool true) (by kernel_rfl) (by kernel_rfl) (by kernel_rfl) (fun w hS => by kernel_rfl) ?_
    simp only [put_lit, put_non, List.set_cons_zero, List.set_cons_succ]
    refine wkS_take (some 82) (.agg #[.bool b0, .slice A0 m0 c0, .slice A0' m0' c0']) (by kernel_rfl) (by kernel_rfl) (by kernel_rfl) (fun w hS => exec_load3 7 (hF0.below hS) (by kernel_rfl) (by kernel_rfl)) ?_
    simp only [put_lit, put_non, List.set_cons_zero, List.set_cons_succ]
    refine wkS_take (some 83) (.agg #[.bool b1, .slice A1 m1 c1, .slice A1' m1' c1']) (by kernel_rfl) (by kernel_rfl) (by kernel_rfl) (fun w hS => exec_load3 8 (hF1.below hS) (by kernel_rfl) (by kernel_rfl)) ?_
    simp only [put_lit, put_non, List.set_cons_zero, List.set_cons_succ]
    refine wkS_take (some 85) (.agg #[.bool b2, .slice A2 m2 c2, .slice A2' m2' c2']) (by kernel_rfl) (by kernel_rfl) (by kernel_rfl) (fun w hS => exec_load3 9 (hF2.below hS) (by kernel_rfl) (by kernel_rfl)) ?_
    simp only [put_lit, put_non, List.set_cons_zero, List.set_cons_succ]
    refine wkS_take (some 87) (.agg #[.bool b0, .slice A0 m0 c0, .slice A0' m0' c0']) (by kernel_rfl) (by kernel_rfl) (by kernel_rfl) (fun w hS => exec_load3 7 (hF0.below hS) (by kernel_rfl) (by kernel_rfl)) ?_
    simp only [put_lit, put_non, List.set_cons_zero, List.set_cons_succ]
    refine wkS_take (some 88) (.agg #[.bool b1, .slice A1 m1 c1, .slice A1' m1' c1']) (by kernel_rfl) (by kernel_rfl) (by kernel_rfl) (fun w hS => exec_load3 8 (hF1.below hS) (by kernel_rfl) (by kernel_rfl)) ?_
    simp only [put_lit, put_non, List.set_cons_zero, List.set_cons_succ]
    refine wkS_take (some 89) (.agg #[.bool b2, .slice A2 m2 c2, .slice A2' m2' c2']) (by kernel_rfl) (by kernel_rfl) (by kernel_rfl) (fun w hS => exec_load3 9 (hF2.below hS) (by kernel_rfl) (by kernel_rfl)) ?_
    simp only [put_lit, put_non, List.set_cons_zero, List.set_cons_succ]
    clear hr1 hr2 hr3
    refine wkS_call (some 84) 24 #[.agg #[.bool b0, .slice A0 m0 c0, .slice A0' m0' c0'], .agg #[.bool b1, .slice A1 m1 c1, .slice A1' m1' c1']] (by kernel_rfl) (by kernel_rfl) (by kernel_rfl) (fun w => by kernel_rfl) ?_
    refine (mulf_v (ha.below hK).fracV (hb.below hK).fracV (by omega) (by omega) (by omega)).mono ?_
    rintro e u12 ⟨r1, rfl, hr1, hB⟩
    refine ⟨r1, rfl, below_then hK hB, ?_⟩
    have hK := below_then hK hB
    clear hB
    simp only [put_lit, put_non, List.set_cons_zero, List.set_cons_succ]
    refine wkS_call (some 86) 24 #[r1, .agg #[.bool b2, .slice A2 m2 c2, .slice A2' m2' c2']] (by kernel_rfl) (by kernel_rfl) (by kernel_rfl) (fun w => by kernel_rfl) ?_
    refine (mulf_v hr1.fracV (hc.below hK).fracV (by omega) (by omega) (by omega)).mono ?_
    rintro e u13 ⟨r2, rfl, hr2, hB⟩
    refine ⟨r2, rfl, below_then hK hB, ?_⟩
    have hK := below_then hK hB
    have hr1 := hr1.below hB
    clear hB
    simp only [put_lit, put_non, List.set_cons_zero, List.set_cons_succ]
    clear hr1
    refine wkS_call (some 90) 24 #[.agg #[.bool b1, .slice A1 m1 c1, .slice A1' m1' c1'], .agg #[.bool b2, .slice A2 m2 c2, .slice A2' m2' c2']] (by kernel_rfl) (by kernel_rfl) (by kernel_rfl) (fun w => by kernel_rfl) ?_
    refine (mulf_v (hb.below hK).fracV (hc.below hK).fracV (by omega) (by omega) (by omega)).mono ?_
    rintro e u14 ⟨r1, rfl, hr1, hB⟩
    refine ⟨r1, rfl, below_then hK hB, ?_⟩
    have hK := below_then hK hB
    have hr2 := hr2.below hB
    clear hB
    simp only [put_lit, put_non, List.set_cons_zero, List.set_cons_succ]
    refine wkS_call (some 91) 24 #[.agg #[.bool b0, .slice A0 m0 c0, .slice A0' m0' c0'], r1] (by kernel_rfl) (by kernel_rfl) (by kernel_rfl) (fun w => by kernel_rfl) ?_
    refine (mulf_v (ha.below hK).fracV hr1.fracV (by omega) (by omega) (by omega)).mono ?_
    rintro e u15 ⟨r3, rfl, hr3, hB⟩
    refine ⟨r3, rfl, below_then hK hB, ?_⟩
    have hK := below_then hK hB
    have hr2 := hr2.below hB
    have hr1 := hr1.below hB
    clear hB
    simp only [put_lit, put_non, List.set_cons_zero, List.set_cons_succ]
    refine wkS_call (some 92) 11 #[r2, r3] (by kernel_rfl) (by kernel_rfl) (by kernel_rfl) (fun w => by kernel_rfl) ?_
    refine (same_ft hr2 hr3 (Rat.mul_assoc _ _ _)).mono ?_
    rintro e u16 ⟨rfl, hB⟩
    refine ⟨_, rfl, below_then hK hB, ?_⟩
    have hK := below_then hK hB
    have hr2 := hr2.below hB
    have hr1 := hr1.below hB
    have hr3 := hr3.below hB
    clear hB
    simp only [put_lit, put_non, List.set_cons_zero, List.set_cons_succ]
    refine wkS_take (some 93) (.bool true) (by kernel_rfl) (by kernel_rfl) (by kernel_rfl) (fun w hS => by kernel_rfl) ?_
    simp only [put_lit, put_non, List.set_cons_zero, List.set_cons_succ]
    refine wkS_take (some 94) (.bool true) (by kernel_rfl) (by kernel_rfl) (by kernel_rfl) (fun w hS => by kernel_rfl) ?_
    simp only [put_lit, put_non, List.set_cons_zero, List.set_cons_succ]
    refine wkS_take (some 95) (.agg #[.bool b0, .slice A0 m0 c0, .slice A0' m0' c0']) (by kernel_rfl) (by kernel_rfl) (by kernel_rfl) (fun w hS => exec_load3 7 (hF0.below hS) (by kernel_rfl) (by kernel_rfl)) ?_
    simp only [put_lit, put_non, List.set_cons_zero, List.set_cons_succ]
    refine wkS_take (some 96) (.agg #[.bool b1, .slice A1 m1 c1, .slice A1' m1' c1']) (by kernel_rfl) (by kernel_rfl) (by kernel_rfl) (fun w hS => exec_load3 8 (hF1.below hS) (by kernel_rfl) (by kernel_rfl)) ?_
    simp only [put_lit, put_non, List.set_cons_zero, List.set_cons_succ]
    refine wkS_take (some 97) (.agg #[.bool b2, .slice A2 m2 c2, .slice A2' m2' c2']) (by kernel_rfl) (by kernel_rfl) (by kernel_rfl) (fun w hS => exec_load3 9 (hF2.below hS) (by kernel_rfl) (by kernel_rfl)) ?_
    simp only [put_lit, put_non, List.set_cons_zero, List.set_cons_succ]
    refine wkS_take (some 100) (.agg #[.bool b0, .slice A0 m0 c0, .slice A0' m0' c0']) (by kernel_rfl) (by kernel_rfl) (by kernel_rfl) (fun w hS => exec_load3 7 (hF0.below hS) (by kernel_rfl) (by kernel_rfl)) ?_
    simp only [put_lit, put_non, List.set_cons_zero, List.set_cons_succ]
    refine wkS_take (some 101) (.agg #[.bool b1, .slice A1 m1 c1, .slice A1' m1' c1']) (by kernel_rfl) (by kernel_rfl) (by kernel_rfl) (fun w hS => exec_load3 8 (hF1.below hS) (by kernel_rfl) (by kernel_rfl)) ?_
    simp only [put_lit, put_non, List.set_cons_zero, List.set_cons_succ]
    refine wkS_take (some 103) (.agg #[.bool b0, .slice A0 m0 c0, .slice A0' m0' c0']) (by kernel_rfl) (by kernel_rfl) (by kernel_rfl) (fun w hS => exec_load3 7 (hF0.below hS) (by kernel_rfl) (by kernel_rfl)) ?_
    simp only [put_lit, put_non, List.set_cons_zero, List.set_cons_succ]
    refine wkS_take (some 104) (.agg #[.bool b2, .slice A2 m2 c2, .slice A2' m2' c2']) (by kernel_rfl) (by kernel_rfl) (by kernel_rfl) (fun w hS => exec_load3 9 (hF2.below hS) (by kernel_rfl) (by kernel_rfl)) ?_
    simp only [put_lit, put_non, List.set_cons_zero, List.set_cons_succ]
    clear hr1 hr2 hr3
    refine wkS_call (some 98) 20 #[.agg #[.bool b1, .slice A1 m1 c1, .slice A1' m1' c1'], .agg #[.bool b2, .slice A2 m2 c2, .slice A2' m2' c2']] (by kernel_rfl) (by kernel_rfl) (by kernel_rfl) (fun w => by kernel_rfl) ?_
    refine (addf_v (hb.below hK).fracV (hc.below hK).fracV (by omega) (by omega) (by omega) (by omega)).mono ?_
    rintro e u17 ⟨r1, rfl, hr1, hB⟩
    refine ⟨r1, rfl, below_then hK hB, ?_⟩
    have hK := below_then hK hB
    clear hB
    simp only [put_lit, put_non, List.set_cons_zero, List.set_cons_succ]
    refine wkS_call (some 99) 24 #[.agg #[.bool b0, .slice A0 m0 c0, .slice A0' m0' c0'], r1] (by kernel_rfl) (by kernel_rfl) (by kernel_rfl) (fun w => by kernel_rfl) ?_
    refine (mulf_v (ha.below hK).fracV hr1.fracV (by omega) (by omega) (by omega)).mono ?_
    rintro e u18 ⟨r2, rfl, hr2, hB⟩
    refine ⟨r2, rfl, below_then hK hB, ?_⟩
    have hK := below_then hK hB
    have hr1 := hr1.below hB
    clear hB
    simp only [put_lit, put_non, List.set_cons_zero, List.set_cons_succ]
    clear hr1
    refine wkS_call (some 102) 24 #[.agg #[.bool b0, .slice A0 m0 c0, .slice A0' m0' c0'], .agg #[.bool b1, .slice A1 m1 c1, .slice A1' m1' c1']] (by kernel_rfl) (by kernel_rfl) (by kernel_rfl) (fun w => by kernel_rfl) ?_
    refine (mulf_v (ha.below hK).fracV (hb.below hK).fracV (by omega) (by omega) (by omega)).mono ?_
    rintro e u19 ⟨r1, rfl, hr1, hB⟩
    refine ⟨r1, rfl, below_then hK hB, ?_⟩
    have hK := below_then hK hB
    have hr2 := hr2.below hB
    clear hB
    simp only [put_lit, put_non, List.set_cons_zero, List.set_cons_succ]
    refine wkS_call (some 105) 24 #[.agg #[.bool b0, .slice A0 m0 c0, .slice A0' m0' c0'], .agg #[.bool b2, .slice A2 m2 c2, .slice A2' m2' c2']] (by kernel_rfl) (by kernel_rfl) (by kernel_rfl) (fun w => by kernel_rfl) ?_
    refine (mulf_v (ha.below hK).fracV (hc.below hK).fracV (by omega) (by omega) (by omega)).mono ?_
    rintro e u20 ⟨r3, rfl, hr3, hB⟩
    refine ⟨r3, rfl, below_then hK hB, ?_⟩
    have hK := below_then hK hB
    have hr2 := hr2.below hB
    have hr1 := hr1.below hB
    clear hB
    simp only [put_lit, put_non, List.set_cons_zero, List.set_cons_succ]
    refine wkS_call (some 106) 20 #[r1, r3] (by kernel_rfl) (by kernel_rfl) (by kernel_rfl) (fun w => by kernel_rfl) ?_
    refine (addf_v hr1.fracV hr3.fracV (by omega) (by omega) (by omega) (by omega)).mono ?_
    rintro e u21 ⟨r4, rfl, hr4, hB⟩
    refine ⟨r4, rfl, below_then hK hB, ?_⟩
    have hK := below_then hK hB
    have hr2 := hr2.below hB
    have hr1 := hr1.below hB
    have hr3 := hr3.below hB
    clear hB
    simp only [put_lit, put_non, List.set_cons_zero, List.set_cons_succ]
    refine wkS_call (some 107) 11 #[r2, r4] (by kernel_rfl) (by kernel_rfl) (by kernel_rfl) (fun w => by kernel_rfl) ?_
    refine (same_ft hr2 hr4 (Rat.mul_add _ _ _)).mono ?_
    rintro e u22 ⟨rfl, hB⟩
    refine ⟨_, rfl, below_then hK hB, ?_⟩
    have hK := below_then hK hB
    have hr2 := hr2.below hB
    have hr1 := hr1.below hB
    have hr3 := hr3.below hB
    have hr4 := hr4.below hB
    clear hB
    simp only [put_lit, put_non, List.set_cons_zero, List.set_cons_succ]
    refine wkS_take (some 108) (.bool true) (by kernel_rfl) (by kernel_rfl) (by kernel_rfl) (fun w hS => by kernel_rfl) ?_
    simp only [put_lit, put_non, List.set_cons_zero, List.set_cons_succ]
    refine wkS_take (some 109) (.bool true) (by kernel_rfl) (by kernel_rfl) (by kernel_rfl) (fun w hS => by kernel_rfl) ?_
    simp only [put_lit, put_non, List.set_cons_zero, List.set_cons_succ]
    refine wkS_take (some 110) (.agg #[.bool b0, .slice A0 m0 c0, .slice A0' m0' c0']) (by kernel_rfl) (by kernel_rfl) (by kernel_rfl) (fun w hS => exec_load3 7 (hF0.below hS) (by kernel_rfl) (by kernel_rfl)) ?_
    simp only [put_lit, put_non, List.set_cons_zero, List.set_cons_succ]
    refine wkS_take (some 111) (.agg #[.bool b0, .slice A0 m0 c0, .slice A0' m0' c0']) (by kernel_rfl) (by kernel_rfl) (by kernel_rfl) (fun w hS => exec_load3 7 (hF0.below hS) (by kernel_rfl) (by kernel_rfl)) ?_
    simp only [put_lit, put_non, List.set_cons_zero, List.set_cons_succ]
    clear hr1 hr2 hr3 hr4
    refine wkS_call (some 112) 26 #[.agg #[.bool b0, .slice A0 m0 c0, .slice A0' m0' c0']] (by kernel_rfl) (by kernel_rfl) (by kernel_rfl) (fun w => by kernel_rfl) ?_
    refine (negf_v (ha.below hK).fracV (by omega) (by omega)).mono ?_
    rintro e u23 ⟨r1, rfl, hr1, hB⟩
    refine ⟨r1, rfl, below_then hK hB, ?_⟩
    have hK := below_then hK hB
    clear hB
    simp only [put_lit, put_non, List.set_cons_zero, List.set_cons_succ]
    refine wkS_call (some 113) 20 #[.agg #[.bool b0, .slice A0 m0 c0, .slice A0' m0' c0'], r1] (by kernel_rfl) (by kernel_rfl) (by kernel_rfl) (fun w => by kernel_rfl) ?_
    refine (addf_v (ha.below hK).fracV hr1.fracV (by omega) (by omega) (by omega) (by omega)).mono ?_
    rintro e u24 ⟨r2, rfl, hr2, hB⟩
    refine ⟨r2, rfl, below_then hK hB, ?_⟩
    have hK := below_then hK hB
    have hr1 := hr1.below hB
    clear hB
    simp only [put_lit, put_non, List.set_cons_zero, List.set_cons_succ]
    refine wkS_call (some 114) 18 #[r2] (by kernel_rfl) (by kernel_rfl) (by kernel_rfl) (fun w => by kernel_rfl) ?_
    refine (sign_is hr2.fracV (by omega) (by rw [Rat.add_neg_cancel])).mono ?_
    rintro e u25 ⟨rfl, hB⟩
    refine ⟨_, rfl, below_then hK hB, ?_⟩
    have hK := below_then hK hB
    have hr1 := hr1.below hB
    have hr2 := hr2.below hB
    clear hB
    simp only [put_lit, put_non, List.set_cons_zero, List.set_cons_succ]
    refine wkS_take (some 115) (.bool true) (by kernel_rfl) (by kernel_rfl) (by kernel_rfl) (fun w hS => by kernel_rfl) ?_
    simp only [put_lit, put_non, List.set_cons_zero, List.set_cons_succ]
    refine wkS_take (some 116) (.bool true) (by kernel_rfl) (by kernel_rfl) (by kernel_rfl) (fun w hS => by kernel_rfl) ?_
    simp only [put_lit, put_non, List.set_cons_zero, List.set_cons_succ]
    refine wkS_take (some 117) (.bool true) (by kernel_rfl) (by kernel_rfl) (by kernel_rfl) (fun w hS => by kernel_rfl) ?_
    simp only [put_lit, put_non, List.set_cons_zero, List.set_cons_succ]
    clear hr1 hr2
    refine wkS_call (some 118) 30 #[] (by kernel_rfl) (by kernel_rfl) (by kernel_rfl) (fun w => by kernel_rfl) ?_
    refine (known2_v _ (hM.below (below_then HB hK))).mono ?_
    rintro e u26 ⟨rfl, hB⟩
    refine ⟨_, rfl, below_then hK hB, ?_⟩
    have hK := below_then hK hB
    clear hB
    simp only [put_lit, put_non, List.set_cons_zero, List.set_cons_succ]
    refine wkS_take (some 119) (.bool true) (by kernel_rfl) (by kernel_rfl) (by kernel_rfl) (fun w hS => by kernel_rfl) ?_
    simp only [put_lit, put_non, List.set_cons_zero, List.set_cons_succ]
    refine wkS_take (some 6) (.bool true) (by kernel_rfl) (by kernel_rfl) (by kernel_rfl) (fun w hS => by kernel_rfl) ?_
    simp only [put_lit, put_non, List.set_cons_zero, List.set_cons_succ]
    refine wkS_done ?_
    go_wp2_with fail
    go_ret
    exact ⟨rfl, below_then HB hK⟩
  · have D := Lib.hid (divf_v (w := W2) ho.fracV hb.fracV (by omega) (by omega) (by omega) h0)
    go_wp2_with fail
    refine (D.out).mono ?_
    rintro e w5 ⟨vd, rfl, hd, hB5⟩
    obtain ⟨b4, A4, m4, c4, A4', m4', c4', rfl, _, _, _⟩ := hd.parts
    obtain ⟨W3, g4, ew3, eg4, hBW3, hF4⟩ := var1 w5 b4 (.slice A4 m4 c4) (.slice A4' m4' c4')
    have hBY := below_then hB5 hBW3
    have hd := hd.below hBW3
    have ha := ha.below hBY
    have hb := hb.below hBY
    have hc := hc.below hBY
    have ho := ho.below hBY
    have hF0 := hF0.below hBY
    have hF1 := hF1.below hBY
    have hF2 := hF2.below hBY
    have hF3 := hF3.below hBY
    have HB := below_then HB hBY
    clear hBY hBW3 hB5 o0 o1 o2 d0 d1 d2
    obtain ⟨d0, d1, d2⟩ := hF1.cells
    obtain ⟨sb, hsb⟩ : ∃ s, rsgn qb = s := ⟨_, rfl⟩
    have hsn : (sb != 0) = true := by rw [bne_iff_ne]; exact fun e => h0 (rsgn_eq_zero.1 (hsb.trans e))
    have S := Lib.hid (sign_is (w := W3) hb.fracV (by omega) hsb)
    have HS := Lib.hid hsb
    clear hsb
    go_wp2_with fail
    refine (S.out).mono ?_
    rintro e w6 ⟨rfl, hB6⟩
    have ha := ha.below hB6
    have hb := hb.below hB6
    have hc := hc.below hB6
    have ho := ho.below hB6
    have hd := hd.below hB6
    have hF0 := hF0.below hB6
    have hF1 := hF1.below hB6
    have hF2 := hF2.below hB6
    have hF3 := hF3.below hB6
    have hF4 := hF4.below hB6
    have HB := below_then HB hB6
    clear hB6 d0 d1 d2 ew ew2 ew3 eg3 eg4
    go_wp2_with fail
    have sv0 := trivial
    have hK : Below w6.heap.size w6 w6 := Below.refl _ _
    have hS0 := conjF3 hF1 hF3 hF4
    go_region_held3 (fun w' => w'.cell? ⟨g1, 0, none⟩ = some (.bool b1) ∧ w'.cell? ⟨g1, 1, none⟩ = some (.slice A1 m1 c1) ∧ w'.cell? ⟨g1, 2, none⟩ = some (.slice A1' m1' c1') ∧ w'.cell? ⟨g3, 0, none⟩ = some (.bool b3) ∧ w'.cell? ⟨g3, 1, none⟩ = some (.slice A3 m3 c3) ∧ w'.cell? ⟨g3, 2, none⟩ = some (.slice A3' m3' c3') ∧ w'.cell? ⟨g4, 0, none⟩ = some (.bool b4) ∧ w'.cell? ⟨g4, 1, none⟩ = some (.slice A4 m4 c4) ∧ w'.cell? ⟨g4, 2, none⟩ = some (.slice A4' m4' c4')) (first | with_reducible exact conjF3 (hF1.below hK) (hF3.below hK) (hF4.below hK) | exact hS0) (first | (have sv1 := sv0; clear sv0; go_at_call 24; refine (mulf_v (hb.below (Below.refl _ _).drew).fracV (hd.below (Below.refl _ _).drew).fracV (by omega) (by omega) (by omega)).mono ?_; rintro e t1 ⟨r1, rfl, hr1, hB⟩; have hK := below_undrew hB; clear hB) | (have sv2 := sv1; clear sv1; go_at_call 11; refine (same_ft hr1 (ho.below hK) (by rw [Rat.div_def, Rat.one_mul]; exact Rat.mul_inv_cancel qb h0)).mono ?_; rintro e t2 ⟨rfl, hB⟩; have hK := below_then hK hB; have hr1 := hr1.below hB; clear hB))
    have ha := ha.below hK
    have hb := hb.below hK
    have hc := hc.below hK
    have hF0 := hF0.below hK
    have hF1 := hF1.below hK
    have hF2 := hF2.below hK
    have HB := below_then HB hK
    clear hK hS0 hF3 hF4 ho hd hr1
    go_wp2_with fail
    refine wp_region_plan (S := fun w' => Below t2.heap.size t2 w') [(0, true), (1, true), (2, true), (3, true), (4, true), (5, true), (6, true), (7, true), (9, true), (10, true), (8, false), (11, false), (12, false), (13, true), (14, true), (15, true), (16, true), (18, true), (19, true), (17, false), (20, false), (21, false), (22, true), (23, true), (24, true), (25, true), (27, true), (29, true), (30, true), (31, true), (26, false), (28, false), (32, false), (33, false), (34, false), (35, true), (36, true), (37, true), (38, true), (40, true), (42, true), (43, true), (44, true), (39, false), (41, false), (45, false), (46, false), (47, false), (48, true), (49, true), (50, true), (51, true), (52, true), (55, true), (56, true), (58, true), (59, true), (53, false), (54, false), (57, false), (60, false), (61, false), (62, false), (63, true), (64, true), (65, true), (66, true), (67, false), (68, false), (69, false), (70, true), (71, true), (72, true), (73, false), (74, true), (75, true)] (by kernel_rfl) (by kernel_rfl) (by kernel_rfl) (by kernel_rfl) (fun _ _ d _ _ h => by cases d <;> exact h) (Below.refl _ _).drew ?_
    have hK : Below t2.heap.size t2 t2.drew := (Below.refl _ _).drew
    refine wkS_take (some 45) (.int .i64 0) (by kernel_rfl) (by kernel_rfl) (by kernel_rfl) (fun w hS => by kernel_rfl) ?_
    simp only [put_lit, put_non, List.set_cons_zero, List.set_cons_succ]
    refine wkS_take (some 46) (.bool true) (by kernel_rfl) (by kernel_rfl) (by kernel_rfl) (fun w hS => by kernel_rfl) ?_
    simp only [put_lit, put_non, List.set_cons_zero, List.set_cons_succ]
    refine wkS_take (some 47) (.bool true) (by kernel_rfl) (by kernel_rfl) (by kernel_rfl) (fun w hS => by kernel_rfl) ?_
    simp only [put_lit, put_non, List.set_cons_zero, List.set_cons_succ]
    refine wkS_take (some 48) (.bool true) (by kernel_rfl) (by kernel_rfl) (by kernel_rfl) (fun w hS => by kernel_rfl) ?_
    simp only [put_lit, put_non, List.set_cons_zero, List.set_cons_succ]
    refine wkS_take (some 49) (.bool true) (by kernel_rfl) (by kernel_rfl) (by kernel_rfl) (fun w hS => by kernel_rfl) ?_
    simp only [put_lit, put_non, List.set_cons_zero, List.set_cons_succ]
    refine wkS_take (some 50) (.bool true) (by kernel_rfl) (by kernel_rfl) (by kernel_rfl) (fun w hS => by kernel_rfl) ?_
    simp only [put_lit, put_non, List.set_cons_zero, List.set_cons_succ]
    refine wkS_take (some 51) (.agg #[.bool b0, .slice A0 m0 c0, .slice A0' m0' c0']) (by kernel_rfl) (by kernel_rfl) (by kernel_rfl) (fun w hS => exec_load3 7 (hF0.below hS) (by kernel_rfl) (by kernel_rfl)) ?_
    simp only [put_lit, put_non, List.set_cons_zero, List.set_cons_succ]
    refine wkS_take (some 52) (.agg #[.bool b1, .slice A1 m1 c1, .slice A1' m1' c1']) (by kernel_rfl) (by kernel_rfl) (by kernel_rfl) (fun w hS => exec_load3 8 (hF1.below hS) (by kernel_rfl) (by kernel_rfl)) ?_
    simp only [put_lit, put_non, List.set_cons_zero, List.set_cons_succ]
    refine wkS_take (some 54) (.agg #[.bool b1, .slice A1 m1 c1, .slice A1' m1' c1']) (by kernel_rfl) (by kernel_rfl) (by kernel_rfl) (fun w hS => exec_load3 8 (hF1.below hS) (by kernel_rfl) (by kernel_rfl)) ?_
    simp only [put_lit, put_non, List.set_cons_zero, List.set_cons_succ]
    refine wkS_take (some 55) (.agg #[.bool b0, .slice A0 m0 c0, .slice A0' m0' c0']) (by kernel_rfl) (by kernel_rfl) (by kernel_rfl) (fun w hS => exec_load3 7 (hF0.below hS) (by kernel_rfl) (by kernel_rfl)) ?_
    simp only [put_lit, put_non, List.set_cons_zero, List.set_cons_succ]
    refine wkS_call (some 53) 20 #[.agg #[.bool b0, .slice A0 m0 c0, .slice A0' m0' c0'], .agg #[.bool b1, .slice A1 m1 c1, .slice A1' m1' c1']] (by kernel_rfl) (by kernel_rfl) (by kernel_rfl) (fun w => by kernel_rfl) ?_
    refine (addf_v (ha.below hK).fracV (hb.below hK).fracV (by omega) (by omega) (by omega) (by omega)).mono ?_
    rintro e u1 ⟨r1, rfl, hr1, hB⟩
    refine ⟨r1, rfl, below_then hK hB, ?_⟩
    have hK := below_then hK hB
    clear hB
    simp only [put_lit, put_non, List.set_cons_zero, List.set_cons_succ]
    refine wkS_call (some 56) 20 #[.agg #[.bool b1, .slice A1 m1 c1, .slice A1' m1' c1'], .agg #[.bool b0, .slice A0 m0 c0, .slice A0' m0' c0']] (by kernel_rfl) (by kernel_rfl) (by kernel_rfl) (fun w => by kernel_rfl) ?_
    refine (addf_v (hb.below hK).fracV (ha.below hK).fracV (by omega) (by omega) (by omega) (by omega)).mono ?_
    rintro e u2 ⟨r2, rfl, hr2, hB⟩
    refine ⟨r2, rfl, below_then hK hB, ?_⟩
    have hK := below_then hK hB
    have hr1 := hr1.below hB
    clear hB
    simp only [put_lit, put_non, List.set_cons_zero, List.set_cons_succ]
    refine wkS_call (some 57) 11 #[r1, r2] (by kernel_rfl) (by kernel_rfl) (by kernel_rfl) (fun w => by kernel_rfl) ?_
    refine (same_ft hr1 hr2 (Rat.add_comm _ _)).mono ?_
    rintro e u3 ⟨rfl, hB⟩
    refine ⟨_, rfl, below_then hK hB, ?_⟩
    have hK := below_then hK hB
    have hr1 := hr1.below hB
    have hr2 := hr2.below hB
    clear hB
    simp only [put_lit, put_non, List.set_cons_zero, List.set_cons_succ]
    refine wkS_take (some 58) (.bool true) (by kernel_rfl) (by kernel_rfl) (by kernel_rfl) (fun w hS => by kernel_rfl) ?_
    simp only [put_lit, put_non, List.set_cons_zero, List.set_cons_succ]
    refine wkS_take (some 59) (.bool true) (by kernel_rfl) (by kernel_rfl) (by kernel_rfl) (fun w hS => by kernel_rfl) ?_
    simp only [put_lit, put_non, List.set_cons_zero, List.set_cons_succ]
    refine wkS_take (some 60) (.agg #[.bool b0, .slice A0 m0 c0, .slice A0' m0' c0']) (by kernel_rfl) (by kernel_rfl) (by kernel_rfl) (fun w hS => exec_load3 7 (hF0.below hS) (by kernel_rfl) (by kernel_rfl)) ?_
    simp only [put_lit, put_non, List.set_cons_zero, List.set_cons_succ]
    refine wkS_take (some 61) (.agg #[.bool b1, .slice A1 m1 c1, .slice A1' m1' c1']) (by kernel_rfl) (by kernel_rfl) (by kernel_rfl) (fun w hS => exec_load3 8 (hF1.below hS) (by kernel_rfl) (by kernel_rfl)) ?_
    simp only [put_lit, put_non, List.set_cons_zero, List.set_cons_succ]
    refine wkS_take (some 63) (.agg #[.bool b1, .slice A1 m1 c1, .slice A1' m1' c1']) (by kernel_rfl) (by kernel_rfl) (by kernel_rfl) (fun w hS => exec_load3 8 (hF1.below hS) (by kernel_rfl) (by kernel_rfl)) ?_
    simp only [put_lit, put_non, List.set_cons_zero, List.set_cons_succ]
    refine wkS_take (some 64) (.agg #[.bool b0, .slice A0 m0 c0, .slice A0' m0' c0']) (by kernel_rfl) (by kernel_rfl) (by kernel_rfl) (fun w hS => exec_load3 7 (hF0.below hS) (by kernel_rfl) (by kernel_rfl)) ?_
    simp only [put_lit, put_non, List.set_cons_zero, List.set_cons_succ]
    clear hr1 hr2
    refine wkS_call (some 62) 24 #[.agg #[.bool b0, .slice A0 m0 c0, .slice A0' m0' c0'], .agg #[.bool b1, .slice A1 m1 c1, .slice A1' m1' c1']] (by kernel_rfl) (by kernel_rfl) (by kernel_rfl) (fun w => by kernel_rfl) ?_
    refine (mulf_v (ha.below hK).fracV (hb.below hK).fracV (by omega) (by omega) (by omega)).mono ?_
    rintro e u4 ⟨r1, rfl, hr1, hB⟩
    refine ⟨r1, rfl, below_then hK hB, ?_⟩
    have hK := below_then hK hB
    clear hB
    simp only [put_lit, put_non, List.set_cons_zero, List.set_cons_succ]
    refine wkS_call (some 65) 24 #[.agg #[.bool b1, .slice A1 m1 c1, .slice A1' m1' c1'], .agg #[.bool b0, .slice A0 m0 c0, .slice A0' m0' c0']] (by kernel_rfl) (by kernel_rfl) (by kernel_rfl) (fun w => by kernel_rfl) ?_
    refine (mulf_v (hb.below hK).fracV (ha.below hK).fracV (by omega) (by omega) (by omega)).mono ?_
    rintro e u5 ⟨r2, rfl, hr2, hB⟩
    refine ⟨r2, rfl, below_then hK hB, ?_⟩
    have hK := below_then hK hB
    have hr1 := hr1.below hB
    clear hB
    simp only [put_lit, put_non, List.set_cons_zero, List.set_cons_succ]
    refine wkS_call (some 66) 11 #[r1, r2] (by kernel_rfl) (by kernel_rfl) (by kernel_rfl) (fun w => by kernel_rfl) ?_
    refine (same_ft hr1 hr2 (Rat.mul_comm _ _)).mono ?_
    rintro e u6 ⟨rfl, hB⟩
    refine ⟨_, rfl, below_then hK hB, ?_⟩
    have hK := below_then hK hB
    have hr1 := hr1.below hB
    have hr2 := hr2.below hB
    clear hB
    simp only [put_lit, put_non, List.set_cons_zero, List.set_cons_succ]
    refine wkS_take (some 67) (.bool true) (by kernel_rfl) (by kernel_rfl) (by kernel_rfl) (fun w hS => by kernel_rfl) ?_
    simp only [put_lit, put_non, List.set_cons_zero, List.set_cons_succ]
    refine wkS_take (some 68) (.bool true) (by kernel_rfl) (by kernel_rfl) (by kernel_rfl) (fun w hS => by kernel_rfl) ?_
    simp only [put_lit, put_non, List.set_cons_zero, List.set_cons_succ]
    refine wkS_take (some 69) (.agg #[.bool b0, .slice A0 m0 c0, .slice A0' m0' c0']) (by kernel_rfl) (by kernel_rfl) (by kernel_rfl) (fun w hS => exec_load3 7 (hF0.below hS) (by kernel_rfl) (by kernel_rfl)) ?_
    simp only [put_lit, put_non, List.set_cons_zero, List.set_cons_succ]
    refine wkS_take (some 70) (.agg #[.bool b1, .slice A1 m1 c1, .slice A1' m1' c1']) (by kernel_rfl) (by kernel_rfl) (by kernel_rfl) (fun w hS => exec_load3 8 (hF1.below hS) (by kernel_rfl) (by kernel_rfl)) ?_
    simp only [put_lit, put_non, List.set_cons_zero, List.set_cons_succ]
    refine wkS_take (some 72) (.agg #[.bool b2, .slice A2 m2 c2, .slice A2' m2' c2']) (by kernel_rfl) (by kernel_rfl) (by kernel_rfl) (fun w hS => exec_load3 9 (hF2.below hS) (by kernel_rfl) (by kernel_rfl)) ?_
    simp only [put_lit, put_non, List.set_cons_zero, List.set_cons_succ]
    refine wkS_take (some 74) (.agg #[.bool b0, .slice A0 m0 c0, .slice A0' m0' c0']) (by kernel_rfl) (by kernel_rfl) (by kernel_rfl) (fun w hS => exec_load3 7 (hF0.below hS) (by kernel_rfl) (by kernel_rfl)) ?_
    simp only [put_lit, put_non, List.set_cons_zero, List.set_cons_succ]
    refine wkS_take (some 75) (.agg #[.bool b1, .slice A1 m1 c1, .slice A1' m1' c1']) (by kernel_rfl) (by kernel_rfl) (by kernel_rfl) (fun w hS => exec_load3 8 (hF1.below hS) (by kernel_rfl) (by kernel_rfl)) ?_
    simp only [put_lit, put_non, List.set_cons_zero, List.set_cons_succ]
    refine wkS_take (some 76) (.agg #[.bool b2, .slice A2 m2 c2, .slice A2' m2' c2']) (by kernel_rfl) (by kernel_rfl) (by kernel_rfl) (fun w hS => exec_load3 9 (hF2.below hS) (by kernel_rfl) (by kernel_rfl)) ?_
    simp only [put_lit, put_non, List.set_cons_zero, List.set_cons_succ]
    clear hr1 hr2
    refine wkS_call (some 71) 20 #[.agg #[.bool b0, .slice A0 m0 c0, .slice A0' m0' c0'], .agg #[.bool b1, .slice A1 m1 c1, .slice A1' m1' c1']] (by kernel_rfl) (by kernel_rfl) (by kernel_rfl) (fun w => by kernel_rfl) ?_
    refine (addf_v (ha.below hK).fracV (hb.below hK).fracV (by omega) (by omega) (by omega) (by omega)).mono ?_
    rintro e u7 ⟨r1, rfl, hr1, hB⟩
    refine ⟨r1, rfl, below_then hK hB, ?_⟩
    have hK := below_then hK hB
    clear hB
    simp only [put_lit, put_non, List.set_cons_zero, List.set_cons_succ]
    refine wkS_call (some 73) 20 #[r1, .agg #[.bool b2, .slice A2 m2 c2, .slice A2' m2' c2']] (by kernel_rfl) (by kernel_rfl) (by kernel_rfl) (fun w => by kernel_rfl) ?_
    refine (addf_v hr1.fracV (hc.below hK).fracV (by omega) (by omega) (by omega) (by omega)).mono ?_
    rintro e u8 ⟨r2, rfl, hr2, hB⟩
    refine ⟨r2, rfl, below_then hK hB, ?_⟩
    have hK := below_then hK hB
    have hr1 := hr1.below hB
    clear hB
    simp only [put_lit, put_non, List.set_cons_zero, List.set_cons_succ]
    clear hr1
    refine wkS_call (some 77) 20 #[.agg #[.bool b1, .slice A1 m1 c1, .slice A1' m1' c1'], .agg #[.bool b2, .slice A2 m2 c2, .slice A2' m2' c2']] (by kernel_rfl) (by kernel_rfl) (by kernel_rfl) (fun w => by kernel_rfl) ?_
    refine (addf_v (hb.below hK).fracV (hc.below hK).fracV (by omega) (by omega) (by omega) (by omega)).mono ?_
    rintro e u9 ⟨r1, rfl, hr1, hB⟩
    refine ⟨r1, rfl, below_then hK hB, ?_⟩
    have hK := below_then hK hB
    have hr2 := hr2.below hB
    clear hB
    simp only [put_lit, put_non, List.set_cons_zero, List.set_cons_succ]
    refine wkS_call (some 78) 20 #[.agg #[.bool b0, .slice A0 m0 c0, .slice A0' m0' c0'], r1] (by kernel_rfl) (by kernel_rfl) (by kernel_rfl) (fun w => by kernel_rfl) ?_
    refine (addf_v (ha.below hK).fracV hr1.fracV (by omega) (by omega) (by omega) (by omega)).mono ?_
    rintro e u10 ⟨r3, rfl, hr3, hB⟩
    refine ⟨r3, rfl, below_then hK hB, ?_⟩
    have hK := below_then hK hB
    have hr2 := hr2.below hB
    have hr1 := hr1.below hB
    clear hB
    simp only [put_lit, put_non, List.set_cons_zero, List.set_cons_succ]
    refine wkS_call (some 79) 11 #[r2, r3] (by kernel_rfl) (by kernel_rfl) (by kernel_rfl) (fun w => by kernel_rfl) ?_
    refine (same_ft hr2 hr3 (Rat.add_assoc _ _ _)).mono ?_
    rintro e u11 ⟨rfl, hB⟩
    refine ⟨_, rfl, below_then hK hB, ?_⟩
    have hK := below_then hK hB
    have hr2 := hr2.below hB
    have hr1 := hr1.below hB
    have hr3 := hr3.below hB
    clear hB
    simp only [put_lit, put_non, List.set_cons_zero, List.set_cons_succ]
    refine wkS_take (some 80) (.bool true) (by kernel_rfl) (by kernel_rfl) (by kernel_rfl) (fun w hS => by kernel_rfl) ?_
    simp only [put_lit, put_non, List.set_cons_zero, List.set_cons_succ]
    refine wkS_take (some 81) (.bool true) (by kernel_rfl) (by kernel_rfl) (by kernel_rfl) (fun w hS => by kernel_rfl) ?_
    simp only [put_lit, put_non, List.set_cons_zero, List.set_cons_succ]
    refine wkS_take (some 82) (.agg #[.bool b0, .slice A0 m0 c0, .slice A0' m0' c0']) (by kernel_rfl) (by kernel_rfl) (by kernel_rfl) (fun w hS => exec_load3 7 (hF0.below hS) (by kernel_rfl) (by kernel_rfl)) ?_
    simp only [put_lit, put_non, List.set_cons_zero, List.set_cons_succ]
    refine wkS_take (some 83) (.agg #[.bool b1, .slice A1 m1 c1, .slice A1' m1' c1']) (by kernel_rfl) (by kernel_rfl) (by kernel_rfl) (fun w hS => exec_load3 8 (hF1.below hS) (by kernel_rfl) (by kernel_rfl)) ?_
    simp only [put_lit, put_non, List.set_cons_zero, List.set_cons_succ]
    refine wkS_take (some 85) (.agg #[.bool b2, .slice A2 m2 c2, .slice A2' m2' c2']) (by kernel_rfl) (by kernel_rfl) (by kernel_rfl) (fun w hS => exec_load3 9 (hF2.below hS) (by kernel_rfl) (by kernel_rfl)) ?_
    simp only [put_lit, put_non, List.set_cons_zero, List.set_cons_succ]
    refine wkS_take (some 87) (.agg #[.bool b0, .slice A0 m0 c0, .slice A0' m0' c0']) (by kernel_rfl) (by kernel_rfl) (by kernel_rfl) (fun w hS => exec_load3 7 (hF0.below hS) (by kernel_rfl) (by kernel_rfl)) ?_
    simp only [put_lit, put_non, List.set_cons_zero, List.set_cons_succ]
    refine wkS_take (some 88) (.agg #[.bool b1, .slice A1 m1 c1, .slice A1' m1' c1']) (by kernel_rfl) (by kernel_rfl) (by kernel_rfl) (fun w hS => exec_load3 8 (hF1.below hS) (by kernel_rfl) (by kernel_rfl)) ?_
    simp only [put_lit, put_non, List.set_cons_zero, List.set_cons_succ]
    refine wkS_take (some 89) (.agg #[.bool b2, .slice A2 m2 c2, .slice A2' m2' c2']) (by kernel_rfl) (by kernel_rfl) (by kernel_rfl) (fun w hS => exec_load3 9 (hF2.below hS) (by kernel_rfl) (by kernel_rfl)) ?_
    simp only [put_lit, put_non, List.set_cons_zero, List.set_cons_succ]
    clear hr1 hr2 hr3
    refine wkS_call (some 84) 24 #[.agg #[.bool b0, .slice A0 m0 c0, .slice A0' m0' c0'], .agg #[.bool b1, .slice A1 m1 c1, .slice A1' m1' c1']] (by kernel_rfl) (by kernel_rfl) (by kernel_rfl) (fun w => by kernel_rfl) ?_
    refine (mulf_v (ha.below hK).fracV (hb.below hK).fracV (by omega) (by omega) (by omega)).mono ?_
    rintro e u12 ⟨r1, rfl, hr1, hB⟩
    refine ⟨r1, rfl, below_then hK hB, ?_⟩
    have hK := below_then hK hB
    clear hB
    simp only [put_lit, put_non, List.set_cons_zero, List.set_cons_succ]
    refine wkS_call (some 86) 24 #[r1, .agg #[.bool b2, .slice A2 m2 c2, .slice A2' m2' c2']] (by kernel_rfl) (by kernel_rfl) (by kernel_rfl) (fun w => by kernel_rfl) ?_
    refine (mulf_v hr1.fracV (hc.below hK).fracV (by omega) (by omega) (by omega)).mono ?_
    rintro e u13 ⟨r2, rfl, hr2, hB⟩
    refine ⟨r2, rfl, below_then hK hB, ?_⟩
    have hK := below_then hK hB
    have hr1 := hr1.below hB
    clear hB
    simp only [put_lit, put_non, List.set_cons_zero, List.set_cons_succ]
    clear hr1
    refine wkS_call (some 90) 24 #[.agg #[.bool b1, .slice A1 m1 c1, .slice A1' m1' c1'], .agg #[.bool b2, .slice A2 m2 c2, .slice A2' m2' c2']] (by kernel_rfl) (by kernel_rfl) (by kernel_rfl) (fun w => by kernel_rfl) ?_
    refine (mulf_v (hb.below hK).fracV (hc.below hK).fracV (by omega) (by omega) (by omega)).mono ?_
    rintro e u14 ⟨r1, rfl, hr1, hB⟩
    refine ⟨r1, rfl, below_then hK hB, ?_⟩
    have hK := below_then hK hB
    have hr2 := hr2.below hB
    clear hB
    simp only [put_lit, put_non, List.set_cons_zero, List.set_cons_succ]
    refine wkS_call (some 91) 24 #[.agg #[.bool b0, .slice A0 m0 c0, .slice A0' m0' c0'], r1] (by kernel_rfl) (by kernel_rfl) (by kernel_rfl) (fun w => by kernel_rfl) ?_
    refine (mulf_v (ha.below hK).fracV hr1.fracV (by omega) (by omega) (by omega)).mono ?_
    rintro e u15 ⟨r3, rfl, hr3, hB⟩
    refine ⟨r3, rfl, below_then hK hB, ?_⟩
    have hK := below_then hK hB
    have hr2 := hr2.below hB
    have hr1 := hr1.below hB
    clear hB
    simp only [put_lit, put_non, List.set_cons_zero, List.set_cons_succ]
    refine wkS_call (some 92) 11 #[r2, r3] (by kernel_rfl) (by kernel_rfl) (by kernel_rfl) (fun w => by kernel_rfl) ?_
    refine (same_ft hr2 hr3 (Rat.mul_assoc _ _ _)).mono ?_
    rintro e u16 ⟨rfl, hB⟩
    refine ⟨_, rfl, below_then hK hB, ?_⟩
    have hK := below_then hK hB
    have hr2 := hr2.below hB
    have hr1 := hr1.below hB
    have hr3 := hr3.below hB
    clear hB
    simp only [put_lit, put_non, List.set_cons_zero, List.set_cons_succ]
    refine wkS_take (some 93) (.bool true) (by kernel_rfl) (by kernel_rfl) (by kernel_rfl) (fun w hS => by kernel_rfl) ?_
    simp only [put_lit, put_non, List.set_cons_zero, List.set_cons_succ]
    refine wkS_take (some 94) (.bool true) (by kernel_rfl) (by kernel_rfl) (by kernel_rfl) (fun w hS => by kernel_rfl) ?_
    simp only [put_lit, put_non, List.set_cons_zero, List.set_cons_succ]
    refine wkS_take (some 95) (.agg #[.bool b0, .slice A0 m0 c0, .slice A0' m0' c0']) (by kernel_rfl) (by kernel_rfl) (by kernel_rfl) (fun w hS => exec_load3 7 (hF0.below hS) (by kernel_rfl) (by kernel_rfl)) ?_
    simp only [put_lit, put_non, List.set_cons_zero, List.set_cons_succ]
    refine wkS_take (some 96) (.agg #[.bool b1, .slice A1 m1 c1, .slice A1' m1' c1']) (by kernel_rfl) (by kernel_rfl) (by kernel_rfl) (fun w hS => exec_load3 8 (hF1.below hS) (by kernel_rfl) (by kernel_rfl)) ?_
    simp only [put_lit, put_non, List.set_cons_zero, List.set_cons_succ]
    refine wkS_take (some 97) (.agg #[.bool b2, .slice A2 m2 c2, .slice A2' m2' c2']) (by kernel_rfl) (by kernel_rfl) (by kernel_rfl) (fun w hS => exec_load3 9 (hF2.below hS) (by kernel_rfl) (by kernel_rfl)) ?_
    simp only [put_lit, put_non, List.set_cons_zero, List.set_cons_succ]
    refine wkS_take (some 100) (.agg #[.bool b0, .slice A0 m0 c0, .slice A0' m0' c0']) (by kernel_rfl) (by kernel_rfl) (by kernel_rfl) (fun w hS => exec_load3 7 (hF0.below hS) (by kernel_rfl) (by kernel_rfl)) ?_
    simp only [put_lit, put_non, List.set_cons_zero, List.set_cons_succ]
    refine wkS_take (some 101) (.agg #[.bool b1, .slice A1 m1 c1, .slice A1' m1' c1']) (by kernel_rfl) (by kernel_rfl) (by kernel_rfl) (fun w hS => exec_load3 8 (hF1.below hS) (by kernel_rfl) (by kernel_rfl)) ?_
    simp only [put_lit, put_non, List.set_cons_zero, List.set_cons_succ]
    refine wkS_take (some 103) (.agg #[.bool b0, .slice A0 m0 c0, .slice A0' m0' c0']) (by kernel_rfl) (by kernel_rfl) (by kernel_rfl) (fun w hS => exec_load3 7 (hF0.below hS) (by kernel_rfl) (by kernel_rfl)) ?_
    simp only [put_lit, put_non, List.set_cons_zero, List.set_cons_succ]
    refine wkS_take (some 104) (.agg #[.bool b2, .slice A2 m2 c2, .slice A2' m2' c2']) (by kernel_rfl) (by kernel_rfl) (by kernel_rfl) (fun w hS => exec_load3 9 (hF2.below hS) (by kernel_rfl) (by kernel_rfl)) ?_
    simp only [put_lit, put_non, List.set_cons_zero, List.set_cons_succ]
    clear hr1 hr2 hr3
    refine wkS_call (some 98) 20 #[.agg #[.bool b1, .slice A1 m1 c1, .slice A1' m1' c1'], .agg #[.bool b2, .slice A2 m2 c2, .slice A2' m2' c2']] (by kernel_rfl) (by kernel_rfl) (by kernel_rfl) (fun w => by kernel_rfl) ?_
    refine (addf_v (hb.below hK).fracV (hc.below hK).fracV (by omega) (by omega) (by omega) (by omega)).mono ?_
    rintro e u17 ⟨r1, rfl, hr1, hB⟩
    refine ⟨r1, rfl, below_then hK hB, ?_⟩
    have hK := below_then hK hB
    clear hB
    simp only [put_lit, put_non, List.set_cons_zero, List.set_cons_succ]
    refine wkS_call (some 99) 24 #[.agg #[.bool b0, .slice A0 m0 c0, .slice A0' m0' c0'], r1] (by kernel_rfl) (by kernel_rfl) (by kernel_rfl) (fun w => by kernel_rfl) ?_
    refine (mulf_v (ha.below hK).fracV hr1.fracV (by omega) (by omega) (by omega)).mono ?_
    rintro e u18 ⟨r2, rfl, hr2, hB⟩
    refine ⟨r2, rfl, below_then hK hB, ?_⟩
    have hK := below_then hK hB
    have hr1 := hr1.below hB
    clear hB
    simp only [put_lit, put_non, List.set_cons_zero, List.set_cons_succ]
    clear hr1
    refine wkS_call (some 102) 24 #[.agg #[.bool b0, .slice A0 m0 c0, .slice A0' m0' c0'], .agg #[.bool b1, .slice A1 m1 c1, .slice A1' m1' c1']] (by kernel_rfl) (by kernel_rfl) (by kernel_rfl) (fun w => by kernel_rfl) ?_
    refine (mulf_v (ha.below hK).fracV (hb.below hK).fracV (by omega) (by omega) (by omega)).mono ?_
    rintro e u19 ⟨r1, rfl, hr1, hB⟩
    refine ⟨r1, rfl, below_then hK hB, ?_⟩
    have hK := below_then hK hB
    have hr2 := hr2.below hB
    clear hB
    simp only [put_lit, put_non, List.set_cons_zero, List.set_cons_succ]
    refine wkS_call (some 105) 24 #[.agg #[.bool b0, .slice A0 m0 c0, .slice A0' m0' c0'], .agg #[.bool b2, .slice A2 m2 c2, .slice A2' m2' c2']] (by kernel_rfl) (by kernel_rfl) (by kernel_rfl) (fun w => by kernel_rfl) ?_
    refine (mulf_v (ha.below hK).fracV (hc.below hK).fracV (by omega) (by omega) (by omega)).mono ?_
    rintro e u20 ⟨r3, rfl, hr3, hB⟩
    refine ⟨r3, rfl, below_then hK hB, ?_⟩
    have hK := below_then hK hB
    have hr2 := hr2.below hB
    have hr1 := hr1.below hB
    clear hB
    simp only [put_lit, put_non, List.set_cons_zero, List.set_cons_succ]
    refine wkS_call (some 106) 20 #[r1, r3] (by kernel_rfl) (by kernel_rfl) (by kernel_rfl) (fun w => by kernel_rfl) ?_
    refine (addf_v hr1.fracV hr3.fracV (by omega) (by omega) (by omega) (by omega)).mono ?_
    rintro e u21 ⟨r4, rfl, hr4, hB⟩
    refine ⟨r4, rfl, below_then hK hB, ?_⟩
    have hK := below_then hK hB
    have hr2 := hr2.below hB
    have hr1 := hr1.below hB
    have hr3 := hr3.below hB
    clear hB
    simp only [put_lit, put_non, List.set_cons_zero, List.set_cons_succ]
    refine wkS_call (some 107) 11 #[r2, r4] (by kernel_rfl) (by kernel_rfl) (by kernel_rfl) (fun w => by kernel_rfl) ?_
    refine (same_ft hr2 hr4 (Rat.mul_add _ _ _)).mono ?_
    rintro e u22 ⟨rfl, hB⟩
    refine ⟨_, rfl, below_then hK hB, ?_⟩
    have hK := below_then hK hB
    have hr2 := hr2.below hB
    have hr1 := hr1.below hB
    have hr3 := hr3.below hB
    have hr4 := hr4.below hB
    clear hB
    simp only [put_lit, put_non, List.set_cons_zero, List.set_cons_succ]
    refine wkS_take (some 108) (.bool true) (by kernel_rfl) (by kernel_rfl) (by kernel_rfl) (fun w hS => by kernel_rfl) ?_
    simp only [put_lit, put_non, List.set_cons_zero, List.set_cons_succ]
    refine wkS_take (some 109) (.bool true) (by kernel_rfl) (by kernel_rfl) (by kernel_rfl) (fun w hS => by kernel_rfl) ?_
    simp only [put_lit, put_non, List.set_cons_zero, List.set_cons_succ]
    refine wkS_take (some 110) (.agg #[.bool b0, .slice A0 m0 c0, .slice A0' m0' c0']) (by kernel_rfl) (by kernel_rfl) (by kernel_rfl) (fun w hS => exec_load3 7 (hF0.below hS) (by kernel_rfl) (by kernel_rfl)) ?_
    simp only [put_lit, put_non, List.set_cons_zero, List.set_cons_succ]
    refine wkS_take (some 111) (.agg #[.bool b0, .slice A0 m0 c0, .slice A0' m0' c0']) (by kernel_rfl) (by kernel_rfl) (by kernel_rfl) (fun w hS => exec_load3 7 (hF0.below hS) (by kernel_rfl) (by kernel_rfl)) ?_
    simp only [put_lit, put_non, List.set_cons_zero, List.set_cons_succ]
    clear hr1 hr2 hr3 hr4
    refine wkS_call (some 112) 26 #[.agg #[.bool b0, .slice A0 m0 c0, .slice A0' m0' c0']] (by kernel_rfl) (by kernel_rfl) (by kernel_rfl) (fun w => by kernel_rfl) ?_
    refine (negf_v (ha.below hK).fracV (by omega) (by omega)).mono ?_
    rintro e u23 ⟨r1, rfl, hr1, hB⟩
    refine ⟨r1, rfl, below_then hK hB, ?_⟩
    have hK := below_then hK hB
    clear hB
    simp only [put_lit, put_non, List.set_cons_zero, List.set_cons_succ]
    refine wkS_call (some 113) 20 #[.agg #[.bool b0, .slice A0 m0 c0, .slice A0' m0' c0'], r1] (by kernel_rfl) (by kernel_rfl) (by kernel_rfl) (fun w => by kernel_rfl) ?_
    refine (addf_v (ha.below hK).fracV hr1.fracV (by omega) (by omega) (by omega) (by omega)).mono ?_
    rintro e u24 ⟨r2, rfl, hr2, hB⟩
    refine ⟨r2, rfl, below_then hK hB, ?_⟩
    have hK := below_then hK hB
    have hr1 := hr1.below hB
    clear hB
    simp only [put_lit, put_non, List.set_cons_zero, List.set_cons_succ]
    refine wkS_call (some 114) 18 #[r2] (by kernel_rfl) (by kernel_rfl) (by kernel_rfl) (fun w => by kernel_rfl) ?_
    refine (sign_is hr2.fracV (by omega) (by rw [Rat.add_neg_cancel])).mono ?_
    rintro e u25 ⟨rfl, hB⟩
    refine ⟨_, rfl, below_then hK hB, ?_⟩
    have hK := below_then hK hB
    have hr1 := hr1.below hB
    have hr2 := hr2.below hB
    clear hB
    simp only [put_lit, put_non, List.set_cons_zero, List.set_cons_succ]
    refine wkS_take (some 115) (.bool true) (by kernel_rfl) (by kernel_rfl) (by kernel_rfl) (fun w hS => by kernel_rfl) ?_
    simp only [put_lit, put_non, List.set_cons_zero, List.set_cons_succ]
    refine wkS_take (some 116) (.bool true) (by kernel_rfl) (by kernel_rfl) (by kernel_rfl) (fun w hS => by kernel_rfl) ?_
    simp only [put_lit, put_non, List.set_cons_zero, List.set_cons_succ]
    refine wkS_take (some 117) (.bool true) (by kernel_rfl) (by kernel_rfl) (by kernel_rfl) (fun w hS => by kernel_rfl) ?_
    simp only [put_lit, put_non, List.set_cons_zero, List.set_cons_succ]
    clear hr1 hr2
    refine wkS_call (some 118) 30 #[] (by kernel_rfl) (by kernel_rfl) (by kernel_rfl) (fun w => by kernel_rfl) ?_
    refine (known2_v _ (hM.below (below_then HB hK))).mono ?_
    rintro e u26 ⟨rfl, hB⟩
    refine ⟨_, rfl, below_then hK hB, ?_⟩
    have hK := below_then hK hB
    clear hB
    simp only [put_lit, put_non, List.set_cons_zero, List.set_cons_succ]
    refine wkS_take (some 119) (.bool true) (by kernel_rfl) (by kernel_rfl) (by kernel_rfl) (fun w hS => by kernel_rfl) ?_
    simp only [put_lit, put_non, List.set_cons_zero, List.set_cons_succ]
    refine wkS_take (some 6) (.bool true) (by kernel_rfl) (by kernel_rfl) (by kernel_rfl) (fun w hS => by kernel_rfl) ?_
    simp only [put_lit, put_non, List.set_cons_zero, List.set_cons_succ]
    refine wkS_done ?_
    go_wp2_with fail
    go_ret
    exact ⟨rfl, below_then HB hK⟩
theorem field_walk (w : World) {x y z : Int} (_ : (Lit.int .i64 x).wf = true) (_ : (Lit.int .i64 y).wf = true) (_ : (Lit.int .i64 z).wf = true) (hM : MaxL w) : Calls Tryz.prog 5 #[.int .i64 x, .int .i64 y, .int .i64 z] w (RVal w (.bool true)) := field_walk0 w x y z hM
end Go.Proofs.YtgjhgpfjeoeojaaGreatDoor

/- The walk of the law RationalArith: it returns true and leaves what was there. -/
import Derived.Test.YtgjhgpfjeoeojaaGreatDoorBown
import Derived.Test.YtgjhgpfjeoeojaaGreatDoorKnow2
import Derived.Test.YtgjhgpfjeoeojaaGreatDoorRefL
import Derived.Test.YtgjhgpfjeoeojaaGreatDoorPlans
import Derived.Test.YtgjhgpfjeoeojaaGreatDoorRefQ
namespace Go.Proofs.YtgjhgpfjeoeojaaGreatDoor
set_option linter.unusedSimpArgs false
open Go.RowKit Dig
set_option linter.unusedVariables false

section
variable {w : World} {va vb : Value} {p q : Rat} {k l : Nat} {z : Int}
theorem fracSign_is (ha : FracV w va p k) (hk : k ≤ 400000) (h1 : 2 ≤ k) (h : rsgn p = z) : Calls Tryz.prog 19 #[va] w (RVal w (.int .i64 z)) := h ▸ fracSign_v ha hk h1
theorem fracCmp_is (ha : FracV w va p k) (hb : FracV w vb q l) (hk : k < 48) (hl : l < 48) (h1 : 2 ≤ k) (h2 : 2 ≤ l) (h : rcmp p q = z) : Calls Tryz.prog 17 #[va, vb] w (RVal w (.int .i64 z)) := h ▸ fracCmp_v ha hb (by omega) (by omega) h1 h2
theorem sgn_three (p : Rat) : rsgn p = -1 ∨ rsgn p = 0 ∨ rsgn p = 1 := by
  rcases rsgn_cases p with ⟨_, e⟩ | ⟨_, e⟩ | ⟨_, e⟩ <;> rw [e] <;> decide
theorem isCanon_as (w : World) {neg c : Bool} {vn vd : Value} {xs ys : List Nat} (hx : Num w vn xs) (hy : Num w vd ys) (hzx : xs.length ≤ 8) (hzy : ys.length ≤ 8) (h : canon neg xs ys = c) :
    Calls Tryz.prog 14 #[.agg #[.bool neg, vn, vd]] w (RVal w (.bool c)) := h ▸ isCanon_v w neg vn vd xs ys hx hy (by omega) (by omega)
theorem fracIsCanon_as (w : World) {neg c : Bool} {vn vd : Value} {xs ys : List Nat} (hx : Num w vn xs) (hy : Num w vd ys) (hzx : xs.length ≤ 8) (hzy : ys.length ≤ 8) (h : canon neg xs ys = c) :
    Calls Tryz.prog 15 #[.agg #[.bool neg, vn, vd]] w (RVal w (.bool c)) := h ▸ fracIsCanon_v (k := 8) w neg vn vd xs ys hx hy (by omega) (by omega) hzx hzy
theorem below_then_at {w w1 w2 : World} {g : Nat} (hg : w.heap.size = g) (h1 : Below g w w1) (h2 : Below w1.heap.size w1 w2) : Below g w w2 := by
  subst hg
  exact below_then h1 h2
theorem var2 (w : World) (b0 b1 : Bool) (x0 y0 x1 y1 : Value) : ∃ W, (w.alloc (.cells #[.bool b0, x0, y0] 25)).alloc (.cells #[.bool b1, x1, y1] 25) = W ∧ Below w.heap.size w W ∧ Fcl W w.heap.size b0 x0 y0 ∧ Fcl W (w.heap.size + 1) b1 x1 y1 :=
  ⟨_, rfl, below_alloc2 w _ _, (Fcl.new w _ _ _).alloc _, Fcl.new2 w _ _ _ _⟩
end
set_option maxHeartbeats 4000000 in
theorem arith_long (w : World) (v1 v2 v3 v4 : Value) (l1 l2 l3 l4 : List Nat) {pa pb : Bool} (n1 : Num w v1 l1) (n2 : Num w v2 l2) (n3 : Num w v3 l3) (n4 : Num w v4 l4) (hl : 4 < l1.length ∨ 4 < l2.length ∨ 4 < l3.length ∨ 4 < l4.length) :
    Calls Tryz.prog 3 #[.bool pa, v1, v2, .bool pb, v3, v4] w (RVal w (.bool true)) := by
  obtain ⟨A1, c1, rfl⟩ := n1.form
  obtain ⟨A2, c2, rfl⟩ := n2.form
  obtain ⟨A3, c3, rfl⟩ := n3.form
  obtain ⟨A4, c4, rfl⟩ := n4.form
  generalize l1.length = m1 at *
  generalize l2.length = m2 at *
  generalize l3.length = m3 at *
  generalize l4.length = m4 at *
  by_cases h1 : 4 < m1
  · skip
    have e1 : ((4 : Int) < m1) = True := by simp; omega
    go_enter Tryz.func3, Tryz.ntmps3
    go_wp2_with fail
    go_ret
    exact ⟨rfl, Below.refl _ _⟩
  by_cases h2 : 4 < m2
  · skip
    have e1 : ((4 : Int) < m1) = False := by simp; omega
    have e2 : ((4 : Int) < m2) = True := by simp; omega
    go_enter Tryz.func3, Tryz.ntmps3
    go_wp2_with fail
    go_ret
    exact ⟨rfl, Below.refl _ _⟩
  by_cases h3 : 4 < m3
  · skip
    have e1 : ((4 : Int) < m1) = False := by simp; omega
    have e2 : ((4 : Int) < m2) = False := by simp; omega
    have e3 : ((4 : Int) < m3) = True := by simp; omega
    go_enter Tryz.func3, Tryz.ntmps3
    go_wp2_with fail
    go_ret
    exact ⟨rfl, Below.refl _ _⟩
  · have h4 : 4 < m4 := by omega
    have e1 : ((4 : Int) < m1) = False := by simp; omega
    have e2 : ((4 : Int) < m2) = False := by simp; omega
    have e3 : ((4 : Int) < m3) = False := by simp; omega
    have e4 : ((4 : Int) < m4) = True := by simp; omega
    go_enter Tryz.func3, Tryz.ntmps3
    go_wp2_with fail
    go_ret
    exact ⟨rfl, Below.refl _ _⟩
set_option maxRecDepth 20000 in
set_option maxHeartbeats 64000000 in
theorem arith_short (w : World) (v1 v2 v3 v4 : Value) (l1 l2 l3 l4 : List Nat) {pa pb : Bool} (n1 : Num w v1 l1) (n2 : Num w v2 l2) (n3 : Num w v3 l3) (n4 : Num w v4 l4) (hl1 : l1.length ≤ 4) (hl2 : l2.length ≤ 4) (hl3 : l3.length ≤ 4) (hl4 : l4.length ≤ 4) (hM : MaxL w) :
    Calls Tryz.prog 3 #[.bool pa, v1, v2, .bool pb, v3, v4] w (RVal w (.bool true)) := by
  have RW1 := Lib.hid (raw_v w pa v1 v2 l1 l2 n1 n2)
  have RW2 := Lib.hid (fun w1 hB => raw_v w1 pb v3 v4 l3 l4 (n3.below hB) (n4.below hB))
  obtain ⟨A1, c1, rfl⟩ := n1.form
  obtain ⟨A2, c2, rfl⟩ := n2.form
  obtain ⟨A3, c3, rfl⟩ := n3.form
  obtain ⟨A4, c4, rfl⟩ := n4.form
  have e1 : ((4 : Int) < l1.length) = False := by simp; omega
  have e2 : ((4 : Int) < l2.length) = False := by simp; omega
  have e3 : ((4 : Int) < l3.length) = False := by simp; omega
  have e4 : ((4 : Int) < l4.length) = False := by simp; omega
  obtain ⟨x1, hx1⟩ : ∃ x, mkn l1 = x := ⟨_, rfl⟩
  obtain ⟨x2, hx2⟩ : ∃ x, mkn l2 = x := ⟨_, rfl⟩
  obtain ⟨x3, hx3⟩ : ∃ x, mkn l3 = x := ⟨_, rfl⟩
  obtain ⟨x4, hx4⟩ : ∃ x, mkn l4 = x := ⟨_, rfl⟩
  have y1 : x1.length ≤ 8 := hx1 ▸ mkn_length l1
  have y2 : x2.length ≤ 8 := hx2 ▸ mkn_length l2
  have y3 : x3.length ≤ 8 := hx3 ▸ mkn_length l3
  have y4 : x4.length ≤ 8 := hx4 ▸ mkn_length l4
  rw [hx1, hx2] at RW1
  rw [hx3, hx4] at RW2
  clear hx1 hx2 hx3 hx4
  generalize l1.length = m1 at *
  generalize l2.length = m2 at *
  generalize l3.length = m3 at *
  generalize l4.length = m4 at *
  clear n1 n2 n3 n4
  have Y1 := Lib.hid y1
  have Y2 := Lib.hid y2
  have Y3 := Lib.hid y3
  have Y4 := Lib.hid y4
  clear y1 y2 y3 y4
  go_enter Tryz.func3, Tryz.ntmps3
  go_wp2_with fail
  refine (RW1.out).mono ?_
  rintro e w1 ⟨vn, vd, rfl, hv1, hv2, hB1⟩
  go_wp2_with fail
  refine (RW2.out _ hB1).mono ?_
  rintro e w2 ⟨vs, vt, rfl, hv3, hv4, hB2⟩
  have hv1 := hv1.below hB2
  have hv2 := hv2.below hB2
  have HB := below_then hB1 hB2
  clear RW1 RW2 e1 e2 e3 e4 hl1 hl2 hl3 hl4
  obtain ⟨B1, j1, rfl⟩ := hv1.form
  obtain ⟨B2, j2, rfl⟩ := hv2.form
  obtain ⟨B3, j3, rfl⟩ := hv3.form
  obtain ⟨B4, j4, rfl⟩ := hv4.form
  have hfa : FracV w2 (.agg #[.bool pa, .slice B1 x1.length j1, .slice B2 x2.length j2]) (fr pa (val x1) (val x2)) 8 := FracV.of ⟨_, hv1, rfl, Y1.out⟩ ⟨_, hv2, rfl, Y2.out⟩
  have hfb : FracV w2 (.agg #[.bool pb, .slice B3 x3.length j3, .slice B4 x4.length j4]) (fr pb (val x3) (val x4)) 8 := FracV.of ⟨_, hv3, rfl, Y3.out⟩ ⟨_, hv4, rfl, Y4.out⟩
  generalize fr pa (val x1) (val x2) = qa at *
  generalize fr pb (val x3) (val x4) = qb at *
  obtain ⟨zc, hzc⟩ : ∃ c, canon pa x1 x2 = c := ⟨_, rfl⟩
  have CI := fun w1 (hB : Below w2.heap.size w2 w1) => isCanon_as w1 (hv1.below hB) (hv2.below hB) Y1.out Y2.out hzc
  have CJ := fun w1 (hB : Below w2.heap.size w2 w1) => fracIsCanon_as w1 (hv1.below hB) (hv2.below hB) Y1.out Y2.out hzc
  clear hzc hv1 hv2 hv3 hv4 Y1 Y2 Y3 Y4 hB1 hB2
  generalize x1.length = i1 at *
  generalize x2.length = i2 at *
  generalize x3.length = i3 at *
  generalize x4.length = i4 at *
  have CI := Lib.hid CI
  have CJ := Lib.hid CJ
  obtain ⟨W, ew, hBW, hF0, hF1⟩ := var2 w2 pa pb (.slice B1 i1 j1) (.slice B2 i2 j2) (.slice B3 i3 j3) (.slice B4 i4 j4)
  have hfa := hfa.below hBW
  have hfb := hfb.below hBW
  have HB := below_then HB hBW
  obtain ⟨c0, c1, c2⟩ := hF0.cells
  obtain ⟨d0, d1, d2⟩ := hF1.cells
  have H2 := hBW
  clear hBW
  by_cases h0 : qb = 0
  · skip
    have hz : FracV W (.agg #[.bool pb, .slice B3 i3 j3, .slice B4 i4 j4]) 0 8 := h0 ▸ hfb
    have DV := Lib.hid (div0_fv hfa hz (by omega))
    go_wp2_with fail
    generalize hg1 : w2.heap.size + 1 = g1 at *
    generalize hg0 : w2.heap.size = g0 at *
    have HG0 := Lib.hid hg0
    clear hg0 hg1
    refine (DV.out).mono ?_
    rintro e w6 ⟨rfl, hB6⟩
    have hBW2 : Below w6.heap.size w6 (w6.alloc (.cells #[.bool false, .slice none 0 0, .slice none 0 0] 25)) := (Below.refl _ _).alloc (Nat.le_refl _) _
    have hF2 := Fcl.new w6 false (.slice none 0 0) (.slice none 0 0)
    have hB := below_then hB6 hBW2
    clear hB6 hBW2 ew hz
    clear c0 c1 c2 d0 d1 d2
    have hfa := hfa.below hB
    have hfb := hfb.below hB
    have hF0 := hF0.below hB
    have hF1 := hF1.below hB
    have HB := below_then HB hB
    have H2 := below_then_at HG0.out H2 hB
    clear hB
    have DW := Lib.hid (fracDiv0_v hfa hfb (by omega) (by omega) (by omega) (by omega) h0)
    obtain ⟨c0, c1, c2⟩ := hF0.cells
    obtain ⟨d0, d1, d2⟩ := hF1.cells
    go_wp2_with fail
    generalize hw6 : w6.alloc (.cells #[.bool false, .slice none 0 0, .slice none 0 0] 25) = W6 at *
    generalize hg2 : w6.heap.size = g2 at *
    clear hw6 hg2
    refine (DW.out).mono ?_
    rintro e w7 ⟨rfl, hB7⟩
    have hBW3 : Below w7.heap.size w7 (w7.alloc (.cells #[.bool false, .slice none 0 0, .slice none 0 0] 25)) := (Below.refl _ _).alloc (Nat.le_refl _) _
    have hF3 := Fcl.new w7 false (.slice none 0 0) (.slice none 0 0)
    have hB := below_then hB7 hBW3
    clear hB7 hBW3
    clear c0 c1 c2 d0 d1 d2
    have hfa := hfa.below hB
    have hfb := hfb.below hB
    have hF0 := hF0.below hB
    have hF1 := hF1.below hB
    have hF2 := hF2.below hB
    have HB := below_then HB hB
    have H2 := below_then_at HG0.out H2 hB
    clear hB
    obtain ⟨zm, hcm⟩ : ∃ z, rcmp qa qb = z := ⟨_, rfl⟩
    obtain ⟨zs, hsg⟩ : ∃ z, rsgn qa = z := ⟨_, rfl⟩
    have hzm : zm = -1 ∨ zm = 0 ∨ zm = 1 := hcm ▸ sgn_three (qa - qb)
    have hzs : zs = -1 ∨ zs = 0 ∨ zs = 1 := hsg ▸ sgn_three qa
    have hzm := Lib.hid hzm
    have hzs := Lib.hid hzs
    have hcm := Lib.hid hcm
    have hsg := Lib.hid hsg
    go_wp2_with fail
    generalize hw8 : w7.alloc (.cells #[.bool false, .slice none 0 0, .slice none 0 0] 25) = w8 at *
    generalize hg3 : w7.heap.size = g3 at *
    clear hw8 hg3
    have hzm := hzm.out
    have hzs := hzs.out
    have hcm := hcm.out
    have hsg := hsg.out
    dsimp only [List.append]
    refine wp_region_plan (S := fun w' => Below w8.heap.size w8 w') [(0, true), (2, true), (1, false), (3, false), (4, false), (5, true), (6, true), (8, true), (7, false), (9, false), (10, true), (11, true), (12, true), (13, true), (14, true), (16, true), (17, true), (15, false), (18, false), (19, true), (20, true), (21, true), (22, true), (24, true), (23, false), (25, false), (26, true), (27, true), (28, true), (29, true), (30, true), (32, true), (33, true), (31, false), (34, false), (35, false), (36, true), (37, true), (38, true), (39, true), (41, true), (42, true), (40, false), (43, false), (44, false), (45, true), (46, true), (47, true), (48, true), (50, true), (51, true), (49, false), (52, false), (53, false), (54, true), (55, true), (56, true), (57, true), (58, false), (59, true), (60, true), (61, true), (62, true), (63, true), (64, true), (65, true), (66, true), (68, true), (67, false), (69, false), (70, false), (71, true), (72, true), (73, true), (75, true), (74, false), (76, false), (77, false), (78, true), (79, true), (80, false), (81, true), (82, true)] (by kernel_rfl) (by kernel_rfl) (by kernel_rfl) (by kernel_rfl) (fun _ _ d _ _ h => by cases d <;> exact h) (Below.refl _ _).drew ?_
    have hK : Below w8.heap.size w8 w8.drew := (Below.refl _ _).drew
    refine wkS_take (some 57) (.agg #[.bool pa, .slice B1 i1 j1, .slice B2 i2 j2]) (by kernel_rfl) (by kernel_rfl) (by kernel_rfl) (fun w hS => exec_load3 13 (hF0.below hS) (by kernel_rfl) (by kernel_rfl)) ?_
    simp only [put_lit, put_non, List.set_cons_zero, List.set_cons_succ]
    refine wkS_take (some 59) (.agg #[.bool pa, .slice B1 i1 j1, .slice B2 i2 j2]) (by kernel_rfl) (by kernel_rfl) (by kernel_rfl) (fun w hS => exec_load3 13 (hF0.below hS) (by kernel_rfl) (by kernel_rfl)) ?_
    simp only [put_lit, put_non, List.set_cons_zero, List.set_cons_succ]
    refine wkS_call (some 58) 12 #[.agg #[.bool pa, .slice B1 i1 j1, .slice B2 i2 j2]] (by kernel_rfl) (by kernel_rfl) (by kernel_rfl) (fun w => by kernel_rfl) ?_
    refine (normf_v (hfa.below hK) (by omega) (by omega)).mono ?_
    rintro e u1 ⟨r1, rfl, hr1, hB⟩
    refine ⟨r1, rfl, below_then hK hB, ?_⟩
    have hK := below_then hK hB
    clear hB
    simp only [put_lit, put_non, List.set_cons_zero, List.set_cons_succ]
    refine wkS_call (some 60) 13 #[.agg #[.bool pa, .slice B1 i1 j1, .slice B2 i2 j2]] (by kernel_rfl) (by kernel_rfl) (by kernel_rfl) (fun w => by kernel_rfl) ?_
    refine (fracNorm_v (hfa.below hK) (by omega) (by omega)).mono ?_
    rintro e u2 ⟨r2, rfl, hr2, hB⟩
    refine ⟨r2, rfl, below_then hK hB, ?_⟩
    have hK := below_then hK hB
    have hr1 := hr1.below hB
    clear hB
    simp only [put_lit, put_non, List.set_cons_zero, List.set_cons_succ]
    refine wkS_call (some 61) 11 #[r1, r2] (by kernel_rfl) (by kernel_rfl) (by kernel_rfl) (fun w => by kernel_rfl) ?_
    refine (same_ft hr1 hr2 (rfl)).mono ?_
    rintro e u3 ⟨rfl, hB⟩
    refine ⟨_, rfl, below_then hK hB, ?_⟩
    have hK := below_then hK hB
    have hr1 := hr1.below hB
    have hr2 := hr2.below hB
    clear hB
    simp only [put_lit, put_non, List.set_cons_zero, List.set_cons_succ]
    refine wkS_take (some 62) (.bool true) (by kernel_rfl) (by kernel_rfl) (by kernel_rfl) (fun w hS => by kernel_rfl) ?_
    simp only [put_lit, put_non, List.set_cons_zero, List.set_cons_succ]
    refine wkS_take (some 63) (.agg #[.bool pa, .slice B1 i1 j1, .slice B2 i2 j2]) (by kernel_rfl) (by kernel_rfl) (by kernel_rfl) (fun w hS => exec_load3 13 (hF0.below hS) (by kernel_rfl) (by kernel_rfl)) ?_
    simp only [put_lit, put_non, List.set_cons_zero, List.set_cons_succ]
    refine wkS_take (some 65) (.agg #[.bool pa, .slice B1 i1 j1, .slice B2 i2 j2]) (by kernel_rfl) (by kernel_rfl) (by kernel_rfl) (fun w hS => exec_load3 13 (hF0.below hS) (by kernel_rfl) (by kernel_rfl)) ?_
    simp only [put_lit, put_non, List.set_cons_zero, List.set_cons_succ]
    clear hr1 hr2
    refine wkS_call (some 64) 14 #[.agg #[.bool pa, .slice B1 i1 j1, .slice B2 i2 j2]] (by kernel_rfl) (by kernel_rfl) (by kernel_rfl) (fun w => by kernel_rfl) ?_
    refine (CI.out _ (below_then_at HG0.out H2 hK)).mono ?_
    rintro e u4 ⟨rfl, hB⟩
    refine ⟨_, rfl, below_then hK hB, ?_⟩
    have hK := below_then hK hB
    clear hB
    simp only [put_lit, put_non, List.set_cons_zero, List.set_cons_succ]
    refine wkS_call (some 66) 15 #[.agg #[.bool pa, .slice B1 i1 j1, .slice B2 i2 j2]] (by kernel_rfl) (by kernel_rfl) (by kernel_rfl) (fun w => by kernel_rfl) ?_
    refine (CJ.out _ (below_then_at HG0.out H2 hK)).mono ?_
    rintro e u5 ⟨rfl, hB⟩
    refine ⟨_, rfl, below_then hK hB, ?_⟩
    have hK := below_then hK hB
    clear hB
    simp only [put_lit, put_non, List.set_cons_zero, List.set_cons_succ]
    refine wkS_take (some 67) (.bool true) (by kernel_rfl) (by kernel_rfl) (by kernel_rfl) (fun w hS => by cases zc <;> kernel_rfl) ?_
    simp only [put_lit, put_non, List.set_cons_zero, List.set_cons_succ]
    refine wkS_take (some 68) (.bool true) (by kernel_rfl) (by kernel_rfl) (by kernel_rfl) (fun w hS => by kernel_rfl) ?_
    simp only [put_lit, put_non, List.set_cons_zero, List.set_cons_succ]
    refine wkS_take (some 69) (.bool true) (by kernel_rfl) (by kernel_rfl) (by kernel_rfl) (fun w hS => by kernel_rfl) ?_
    simp only [put_lit, put_non, List.set_cons_zero, List.set_cons_succ]
    refine wkS_take (some 70) (.agg #[.bool pa, .slice B1 i1 j1, .slice B2 i2 j2]) (by kernel_rfl) (by kernel_rfl) (by kernel_rfl) (fun w hS => exec_load3 13 (hF0.below hS) (by kernel_rfl) (by kernel_rfl)) ?_
    simp only [put_lit, put_non, List.set_cons_zero, List.set_cons_succ]
    refine wkS_take (some 71) (.agg #[.bool pb, .slice B3 i3 j3, .slice B4 i4 j4]) (by kernel_rfl) (by kernel_rfl) (by kernel_rfl) (fun w hS => exec_load3 14 (hF1.below hS) (by kernel_rfl) (by kernel_rfl)) ?_
    simp only [put_lit, put_non, List.set_cons_zero, List.set_cons_succ]
    refine wkS_take (some 73) (.agg #[.bool pa, .slice B1 i1 j1, .slice B2 i2 j2]) (by kernel_rfl) (by kernel_rfl) (by kernel_rfl) (fun w hS => exec_load3 13 (hF0.below hS) (by kernel_rfl) (by kernel_rfl)) ?_
    simp only [put_lit, put_non, List.set_cons_zero, List.set_cons_succ]
    refine wkS_take (some 74) (.agg #[.bool pb, .slice B3 i3 j3, .slice B4 i4 j4]) (by kernel_rfl) (by kernel_rfl) (by kernel_rfl) (fun w hS => exec_load3 14 (hF1.below hS) (by kernel_rfl) (by kernel_rfl)) ?_
    simp only [put_lit, put_non, List.set_cons_zero, List.set_cons_succ]
    refine wkS_call (some 72) 16 #[.agg #[.bool pa, .slice B1 i1 j1, .slice B2 i2 j2], .agg #[.bool pb, .slice B3 i3 j3, .slice B4 i4 j4]] (by kernel_rfl) (by kernel_rfl) (by kernel_rfl) (fun w => by kernel_rfl) ?_
    refine (cmp_is (hfa.below hK) (hfb.below hK) (by omega) (by omega) hcm).mono ?_
    rintro e u6 ⟨rfl, hB⟩
    refine ⟨_, rfl, below_then hK hB, ?_⟩
    have hK := below_then hK hB
    clear hB
    simp only [put_lit, put_non, List.set_cons_zero, List.set_cons_succ]
    refine wkS_call (some 75) 17 #[.agg #[.bool pa, .slice B1 i1 j1, .slice B2 i2 j2], .agg #[.bool pb, .slice B3 i3 j3, .slice B4 i4 j4]] (by kernel_rfl) (by kernel_rfl) (by kernel_rfl) (fun w => by kernel_rfl) ?_
    refine (fracCmp_is (hfa.below hK) (hfb.below hK) (by omega) (by omega) (by omega) (by omega) hcm).mono ?_
    rintro e u7 ⟨rfl, hB⟩
    refine ⟨_, rfl, below_then hK hB, ?_⟩
    have hK := below_then hK hB
    clear hB
    simp only [put_lit, put_non, List.set_cons_zero, List.set_cons_succ]
    refine wkS_take (some 76) (.bool true) (by kernel_rfl) (by kernel_rfl) (by kernel_rfl) (fun w hS => by rcases hzm with rfl | rfl | rfl <;> kernel_rfl) ?_
    simp only [put_lit, put_non, List.set_cons_zero, List.set_cons_succ]
    refine wkS_take (some 77) (.bool true) (by kernel_rfl) (by kernel_rfl) (by kernel_rfl) (fun w hS => by kernel_rfl) ?_
    simp only [put_lit, put_non, List.set_cons_zero, List.set_cons_succ]
    refine wkS_take (some 78) (.bool true) (by kernel_rfl) (by kernel_rfl) (by kernel_rfl) (fun w hS => by kernel_rfl) ?_
    simp only [put_lit, put_non, List.set_cons_zero, List.set_cons_succ]
    refine wkS_take (some 79) (.agg #[.bool pa, .slice B1 i1 j1, .slice B2 i2 j2]) (by kernel_rfl) (by kernel_rfl) (by kernel_rfl) (fun w hS => exec_load3 13 (hF0.below hS) (by kernel_rfl) (by kernel_rfl)) ?_
    simp only [put_lit, put_non, List.set_cons_zero, List.set_cons_succ]
    refine wkS_take (some 81) (.agg #[.bool pa, .slice B1 i1 j1, .slice B2 i2 j2]) (by kernel_rfl) (by kernel_rfl) (by kernel_rfl) (fun w hS => exec_load3 13 (hF0.below hS) (by kernel_rfl) (by kernel_rfl)) ?_
    simp only [put_lit, put_non, List.set_cons_zero, List.set_cons_succ]
    refine wkS_call (some 80) 18 #[.agg #[.bool pa, .slice B1 i1 j1, .slice B2 i2 j2]] (by kernel_rfl) (by kernel_rfl) (by kernel_rfl) (fun w => by kernel_rfl) ?_
    refine (sign_is (hfa.below hK) (by omega) hsg).mono ?_
    rintro e u8 ⟨rfl, hB⟩
    refine ⟨_, rfl, below_then hK hB, ?_⟩
    have hK := below_then hK hB
    clear hB
    simp only [put_lit, put_non, List.set_cons_zero, List.set_cons_succ]
    refine wkS_call (some 82) 19 #[.agg #[.bool pa, .slice B1 i1 j1, .slice B2 i2 j2]] (by kernel_rfl) (by kernel_rfl) (by kernel_rfl) (fun w => by kernel_rfl) ?_
    refine (fracSign_is (hfa.below hK) (by omega) (by omega) hsg).mono ?_
    rintro e u9 ⟨rfl, hB⟩
    refine ⟨_, rfl, below_then hK hB, ?_⟩
    have hK := below_then hK hB
    clear hB
    simp only [put_lit, put_non, List.set_cons_zero, List.set_cons_succ]
    refine wkS_take (some 83) (.bool true) (by kernel_rfl) (by kernel_rfl) (by kernel_rfl) (fun w hS => by rcases hzs with rfl | rfl | rfl <;> kernel_rfl) ?_
    simp only [put_lit, put_non, List.set_cons_zero, List.set_cons_succ]
    refine wkS_take (some 84) (.bool true) (by kernel_rfl) (by kernel_rfl) (by kernel_rfl) (fun w hS => by kernel_rfl) ?_
    simp only [put_lit, put_non, List.set_cons_zero, List.set_cons_succ]
    refine wkS_take (some 85) (.bool true) (by kernel_rfl) (by kernel_rfl) (by kernel_rfl) (fun w hS => by kernel_rfl) ?_
    simp only [put_lit, put_non, List.set_cons_zero, List.set_cons_succ]
    refine wkS_take (some 86) (.agg #[.bool pa, .slice B1 i1 j1, .slice B2 i2 j2]) (by kernel_rfl) (by kernel_rfl) (by kernel_rfl) (fun w hS => exec_load3 13 (hF0.below hS) (by kernel_rfl) (by kernel_rfl)) ?_
    simp only [put_lit, put_non, List.set_cons_zero, List.set_cons_succ]
    refine wkS_take (some 87) (.agg #[.bool pb, .slice B3 i3 j3, .slice B4 i4 j4]) (by kernel_rfl) (by kernel_rfl) (by kernel_rfl) (fun w hS => exec_load3 14 (hF1.below hS) (by kernel_rfl) (by kernel_rfl)) ?_
    simp only [put_lit, put_non, List.set_cons_zero, List.set_cons_succ]
    refine wkS_take (some 89) (.agg #[.bool pa, .slice B1 i1 j1, .slice B2 i2 j2]) (by kernel_rfl) (by kernel_rfl) (by kernel_rfl) (fun w hS => exec_load3 13 (hF0.below hS) (by kernel_rfl) (by kernel_rfl)) ?_
    simp only [put_lit, put_non, List.set_cons_zero, List.set_cons_succ]
    refine wkS_take (some 90) (.agg #[.bool pb, .slice B3 i3 j3, .slice B4 i4 j4]) (by kernel_rfl) (by kernel_rfl) (by kernel_rfl) (fun w hS => exec_load3 14 (hF1.below hS) (by kernel_rfl) (by kernel_rfl)) ?_
    simp only [put_lit, put_non, List.set_cons_zero, List.set_cons_succ]
    refine wkS_call (some 88) 20 #[.agg #[.bool pa, .slice B1 i1 j1, .slice B2 i2 j2], .agg #[.bool pb, .slice B3 i3 j3, .slice B4 i4 j4]] (by kernel_rfl) (by kernel_rfl) (by kernel_rfl) (fun w => by kernel_rfl) ?_
    refine (addf_v (hfa.below hK) (hfb.below hK) (by omega) (by omega) (by omega) (by omega)).mono ?_
    rintro e u10 ⟨r1, rfl, hr1, hB⟩
    refine ⟨r1, rfl, below_then hK hB, ?_⟩
    have hK := below_then hK hB
    clear hB
    simp only [put_lit, put_non, List.set_cons_zero, List.set_cons_succ]
    refine wkS_call (some 91) 21 #[.agg #[.bool pa, .slice B1 i1 j1, .slice B2 i2 j2], .agg #[.bool pb, .slice B3 i3 j3, .slice B4 i4 j4]] (by kernel_rfl) (by kernel_rfl) (by kernel_rfl) (fun w => by kernel_rfl) ?_
    refine (fracAdd_v (hfa.below hK) (hfb.below hK) (by omega) (by omega) (by omega) (by omega)).mono ?_
    rintro e u11 ⟨r2, rfl, hr2, hB⟩
    refine ⟨r2, rfl, below_then hK hB, ?_⟩
    have hK := below_then hK hB
    have hr1 := hr1.below hB
    clear hB
    simp only [put_lit, put_non, List.set_cons_zero, List.set_cons_succ]
    refine wkS_call (some 92) 11 #[r1, r2] (by kernel_rfl) (by kernel_rfl) (by kernel_rfl) (fun w => by kernel_rfl) ?_
    refine (same_ft hr1 hr2 (rfl)).mono ?_
    rintro e u12 ⟨rfl, hB⟩
    refine ⟨_, rfl, below_then hK hB, ?_⟩
    have hK := below_then hK hB
    have hr1 := hr1.below hB
    have hr2 := hr2.below hB
    clear hB
    simp only [put_lit, put_non, List.set_cons_zero, List.set_cons_succ]
    refine wkS_take (some 93) (.bool true) (by kernel_rfl) (by kernel_rfl) (by kernel_rfl) (fun w hS => by kernel_rfl) ?_
    simp only [put_lit, put_non, List.set_cons_zero, List.set_cons_succ]
    refine wkS_take (some 94) (.bool true) (by kernel_rfl) (by kernel_rfl) (by kernel_rfl) (fun w hS => by kernel_rfl) ?_
    simp only [put_lit, put_non, List.set_cons_zero, List.set_cons_succ]
    refine wkS_take (some 95) (.agg #[.bool pa, .slice B1 i1 j1, .slice B2 i2 j2]) (by kernel_rfl) (by kernel_rfl) (by kernel_rfl) (fun w hS => exec_load3 13 (hF0.below hS) (by kernel_rfl) (by kernel_rfl)) ?_
    simp only [put_lit, put_non, List.set_cons_zero, List.set_cons_succ]
    refine wkS_take (some 96) (.agg #[.bool pb, .slice B3 i3 j3, .slice B4 i4 j4]) (by kernel_rfl) (by kernel_rfl) (by kernel_rfl) (fun w hS => exec_load3 14 (hF1.below hS) (by kernel_rfl) (by kernel_rfl)) ?_
    simp only [put_lit, put_non, List.set_cons_zero, List.set_cons_succ]
    refine wkS_take (some 98) (.agg #[.bool pa, .slice B1 i1 j1, .slice B2 i2 j2]) (by kernel_rfl) (by kernel_rfl) (by kernel_rfl) (fun w hS => exec_load3 13 (hF0.below hS) (by kernel_rfl) (by kernel_rfl)) ?_
    simp only [put_lit, put_non, List.set_cons_zero, List.set_cons_succ]
    refine wkS_take (some 99) (.agg #[.bool pb, .slice B3 i3 j3, .slice B4 i4 j4]) (by kernel_rfl) (by kernel_rfl) (by kernel_rfl) (fun w hS => exec_load3 14 (hF1.below hS) (by kernel_rfl) (by kernel_rfl)) ?_
    simp only [put_lit, put_non, List.set_cons_zero, List.set_cons_succ]
    clear hr1 hr2
    refine wkS_call (some 97) 22 #[.agg #[.bool pa, .slice B1 i1 j1, .slice B2 i2 j2], .agg #[.bool pb, .slice B3 i3 j3, .slice B4 i4 j4]] (by kernel_rfl) (by kernel_rfl) (by kernel_rfl) (fun w => by kernel_rfl) ?_
    refine (subf_v (hfa.below hK) (hfb.below hK) (by omega) (by omega) (by omega) (by omega)).mono ?_
    rintro e u13 ⟨r1, rfl, hr1, hB⟩
    refine ⟨r1, rfl, below_then hK hB, ?_⟩
    have hK := below_then hK hB
    clear hB
    simp only [put_lit, put_non, List.set_cons_zero, List.set_cons_succ]
    refine wkS_call (some 100) 23 #[.agg #[.bool pa, .slice B1 i1 j1, .slice B2 i2 j2], .agg #[.bool pb, .slice B3 i3 j3, .slice B4 i4 j4]] (by kernel_rfl) (by kernel_rfl) (by kernel_rfl) (fun w => by kernel_rfl) ?_
    refine (fracSub_v (hfa.below hK) (hfb.below hK) (by omega) (by omega) (by omega) (by omega)).mono ?_
    rintro e u14 ⟨r2, rfl, hr2, hB⟩
    refine ⟨r2, rfl, below_then hK hB, ?_⟩
    have hK := below_then hK hB
    have hr1 := hr1.below hB
    clear hB
    simp only [put_lit, put_non, List.set_cons_zero, List.set_cons_succ]
    refine wkS_call (some 101) 11 #[r1, r2] (by kernel_rfl) (by kernel_rfl) (by kernel_rfl) (fun w => by kernel_rfl) ?_
    refine (same_ft hr1 hr2 (rfl)).mono ?_
    rintro e u15 ⟨rfl, hB⟩
    refine ⟨_, rfl, below_then hK hB, ?_⟩
    have hK := below_then hK hB
    have hr1 := hr1.below hB
    have hr2 := hr2.below hB
    clear hB
    simp only [put_lit, put_non, List.set_cons_zero, List.set_cons_succ]
    refine wkS_take (some 102) (.bool true) (by kernel_rfl) (by kernel_rfl) (by kernel_rfl) (fun w hS => by kernel_rfl) ?_
    simp only [put_lit, put_non, List.set_cons_zero, List.set_cons_succ]
    refine wkS_take (some 103) (.bool true) (by kernel_rfl) (by kernel_rfl) (by kernel_rfl) (fun w hS => by kernel_rfl) ?_
    simp only [put_lit, put_non, List.set_cons_zero, List.set_cons_succ]
    refine wkS_take (some 104) (.agg #[.bool pa, .slice B1 i1 j1, .slice B2 i2 j2]) (by kernel_rfl) (by kernel_rfl) (by kernel_rfl) (fun w hS => exec_load3 13 (hF0.below hS) (by kernel_rfl) (by kernel_rfl)) ?_
    simp only [put_lit, put_non, List.set_cons_zero, List.set_cons_succ]
    refine wkS_take (some 105) (.agg #[.bool pb, .slice B3 i3 j3, .slice B4 i4 j4]) (by kernel_rfl) (by kernel_rfl) (by kernel_rfl) (fun w hS => exec_load3 14 (hF1.below hS) (by kernel_rfl) (by kernel_rfl)) ?_
    simp only [put_lit, put_non, List.set_cons_zero, List.set_cons_succ]
    refine wkS_take (some 107) (.agg #[.bool pa, .slice B1 i1 j1, .slice B2 i2 j2]) (by kernel_rfl) (by kernel_rfl) (by kernel_rfl) (fun w hS => exec_load3 13 (hF0.below hS) (by kernel_rfl) (by kernel_rfl)) ?_
    simp only [put_lit, put_non, List.set_cons_zero, List.set_cons_succ]
    refine wkS_take (some 108) (.agg #[.bool pb, .slice B3 i3 j3, .slice B4 i4 j4]) (by kernel_rfl) (by kernel_rfl) (by kernel_rfl) (fun w hS => exec_load3 14 (hF1.below hS) (by kernel_rfl) (by kernel_rfl)) ?_
    simp only [put_lit, put_non, List.set_cons_zero, List.set_cons_succ]
    clear hr1 hr2
    refine wkS_call (some 106) 24 #[.agg #[.bool pa, .slice B1 i1 j1, .slice B2 i2 j2], .agg #[.bool pb, .slice B3 i3 j3, .slice B4 i4 j4]] (by kernel_rfl) (by kernel_rfl) (by kernel_rfl) (fun w => by kernel_rfl) ?_
    refine (mulf_v (hfa.below hK) (hfb.below hK) (by omega) (by omega) (by omega)).mono ?_
    rintro e u16 ⟨r1, rfl, hr1, hB⟩
    refine ⟨r1, rfl, below_then hK hB, ?_⟩
    have hK := below_then hK hB
    clear hB
    simp only [put_lit, put_non, List.set_cons_zero, List.set_cons_succ]
    refine wkS_call (some 109) 25 #[.agg #[.bool pa, .slice B1 i1 j1, .slice B2 i2 j2], .agg #[.bool pb, .slice B3 i3 j3, .slice B4 i4 j4]] (by kernel_rfl) (by kernel_rfl) (by kernel_rfl) (fun w => by kernel_rfl) ?_
    refine (fracMul_v (hfa.below hK) (hfb.below hK) (by omega) (by omega) (by omega)).mono ?_
    rintro e u17 ⟨r2, rfl, hr2, hB⟩
    refine ⟨r2, rfl, below_then hK hB, ?_⟩
    have hK := below_then hK hB
    have hr1 := hr1.below hB
    clear hB
    simp only [put_lit, put_non, List.set_cons_zero, List.set_cons_succ]
    refine wkS_call (some 110) 11 #[r1, r2] (by kernel_rfl) (by kernel_rfl) (by kernel_rfl) (fun w => by kernel_rfl) ?_
    refine (same_ft hr1 hr2 (rfl)).mono ?_
    rintro e u18 ⟨rfl, hB⟩
    refine ⟨_, rfl, below_then hK hB, ?_⟩
    have hK := below_then hK hB
    have hr1 := hr1.below hB
    have hr2 := hr2.below hB
    clear hB
    simp only [put_lit, put_non, List.set_cons_zero, List.set_cons_succ]
    refine wkS_take (some 111) (.bool true) (by kernel_rfl) (by kernel_rfl) (by kernel_rfl) (fun w hS => by kernel_rfl) ?_
    simp only [put_lit, put_non, List.set_cons_zero, List.set_cons_succ]
    refine wkS_take (some 112) (.bool true) (by kernel_rfl) (by kernel_rfl) (by kernel_rfl) (fun w hS => by kernel_rfl) ?_
    simp only [put_lit, put_non, List.set_cons_zero, List.set_cons_succ]
    refine wkS_take (some 113) (.agg #[.bool false, .slice none 0 0, .slice none 0 0]) (by kernel_rfl) (by kernel_rfl) (by kernel_rfl) (fun w hS => exec_load3 15 (hF2.below hS) (by kernel_rfl) (by kernel_rfl)) ?_
    simp only [put_lit, put_non, List.set_cons_zero, List.set_cons_succ]
    refine wkS_take (some 114) (.agg #[.bool false, .slice none 0 0, .slice none 0 0]) (by kernel_rfl) (by kernel_rfl) (by kernel_rfl) (fun w hS => exec_load3 17 (hF3.below hS) (by kernel_rfl) (by kernel_rfl)) ?_
    simp only [put_lit, put_non, List.set_cons_zero, List.set_cons_succ]
    clear hr1 hr2
    refine wkS_call (some 115) 11 #[.agg #[.bool false, .slice none 0 0, .slice none 0 0], .agg #[.bool false, .slice none 0 0, .slice none 0 0]] (by kernel_rfl) (by kernel_rfl) (by kernel_rfl) (fun w => by kernel_rfl) ?_
    refine (same_zero _).mono ?_
    rintro e u19 ⟨rfl, hB⟩
    refine ⟨_, rfl, below_then hK hB, ?_⟩
    have hK := below_then hK hB
    clear hB
    simp only [put_lit, put_non, List.set_cons_zero, List.set_cons_succ]
    refine wkS_take (some 116) (.bool true) (by kernel_rfl) (by kernel_rfl) (by kernel_rfl) (fun w hS => by kernel_rfl) ?_
    simp only [put_lit, put_non, List.set_cons_zero, List.set_cons_succ]
    refine wkS_take (some 117) (.bool true) (by kernel_rfl) (by kernel_rfl) (by kernel_rfl) (fun w hS => by kernel_rfl) ?_
    simp only [put_lit, put_non, List.set_cons_zero, List.set_cons_succ]
    refine wkS_take (some 118) (.int .i64 20) (by kernel_rfl) (by kernel_rfl) (by kernel_rfl) (fun w hS => by kernel_rfl) ?_
    simp only [put_lit, put_non, List.set_cons_zero, List.set_cons_succ]
    refine wkS_take (some 119) (.int .i64 20) (by kernel_rfl) (by kernel_rfl) (by kernel_rfl) (fun w hS => by kernel_rfl) ?_
    simp only [put_lit, put_non, List.set_cons_zero, List.set_cons_succ]
    refine wkS_take (some 120) (.bool true) (by kernel_rfl) (by kernel_rfl) (by kernel_rfl) (fun w hS => by kernel_rfl) ?_
    simp only [put_lit, put_non, List.set_cons_zero, List.set_cons_succ]
    refine wkS_take (some 121) (.bool true) (by kernel_rfl) (by kernel_rfl) (by kernel_rfl) (fun w hS => by kernel_rfl) ?_
    simp only [put_lit, put_non, List.set_cons_zero, List.set_cons_succ]
    refine wkS_take (some 122) (.bool true) (by kernel_rfl) (by kernel_rfl) (by kernel_rfl) (fun w hS => by kernel_rfl) ?_
    simp only [put_lit, put_non, List.set_cons_zero, List.set_cons_succ]
    refine wkS_take (some 123) (.agg #[.bool pa, .slice B1 i1 j1, .slice B2 i2 j2]) (by kernel_rfl) (by kernel_rfl) (by kernel_rfl) (fun w hS => exec_load3 13 (hF0.below hS) (by kernel_rfl) (by kernel_rfl)) ?_
    simp only [put_lit, put_non, List.set_cons_zero, List.set_cons_succ]
    refine wkS_take (some 125) (.agg #[.bool pa, .slice B1 i1 j1, .slice B2 i2 j2]) (by kernel_rfl) (by kernel_rfl) (by kernel_rfl) (fun w hS => exec_load3 13 (hF0.below hS) (by kernel_rfl) (by kernel_rfl)) ?_
    simp only [put_lit, put_non, List.set_cons_zero, List.set_cons_succ]
    refine wkS_call (some 124) 26 #[.agg #[.bool pa, .slice B1 i1 j1, .slice B2 i2 j2]] (by kernel_rfl) (by kernel_rfl) (by kernel_rfl) (fun w => by kernel_rfl) ?_
    refine (negf_v (hfa.below hK) (by omega) (by omega)).mono ?_
    rintro e u20 ⟨r1, rfl, hr1, hB⟩
    refine ⟨r1, rfl, below_then hK hB, ?_⟩
    have hK := below_then hK hB
    clear hB
    simp only [put_lit, put_non, List.set_cons_zero, List.set_cons_succ]
    refine wkS_call (some 126) 27 #[.agg #[.bool pa, .slice B1 i1 j1, .slice B2 i2 j2]] (by kernel_rfl) (by kernel_rfl) (by kernel_rfl) (fun w => by kernel_rfl) ?_
    refine (fracNeg_v (hfa.below hK) (by omega) (by omega)).mono ?_
    rintro e u21 ⟨r2, rfl, hr2, hB⟩
    refine ⟨r2, rfl, below_then hK hB, ?_⟩
    have hK := below_then hK hB
    have hr1 := hr1.below hB
    clear hB
    simp only [put_lit, put_non, List.set_cons_zero, List.set_cons_succ]
    refine wkS_call (some 127) 11 #[r1, r2] (by kernel_rfl) (by kernel_rfl) (by kernel_rfl) (fun w => by kernel_rfl) ?_
    refine (same_ft hr1 hr2 (rfl)).mono ?_
    rintro e u22 ⟨rfl, hB⟩
    refine ⟨_, rfl, below_then hK hB, ?_⟩
    have hK := below_then hK hB
    have hr1 := hr1.below hB
    have hr2 := hr2.below hB
    clear hB
    simp only [put_lit, put_non, List.set_cons_zero, List.set_cons_succ]
    refine wkS_take (some 128) (.bool true) (by kernel_rfl) (by kernel_rfl) (by kernel_rfl) (fun w hS => by kernel_rfl) ?_
    simp only [put_lit, put_non, List.set_cons_zero, List.set_cons_succ]
    refine wkS_take (some 129) (.bool true) (by kernel_rfl) (by kernel_rfl) (by kernel_rfl) (fun w hS => by kernel_rfl) ?_
    simp only [put_lit, put_non, List.set_cons_zero, List.set_cons_succ]
    refine wkS_take (some 130) (.agg #[.bool pa, .slice B1 i1 j1, .slice B2 i2 j2]) (by kernel_rfl) (by kernel_rfl) (by kernel_rfl) (fun w hS => exec_load3 13 (hF0.below hS) (by kernel_rfl) (by kernel_rfl)) ?_
    simp only [put_lit, put_non, List.set_cons_zero, List.set_cons_succ]
    refine wkS_take (some 132) (.agg #[.bool pa, .slice B1 i1 j1, .slice B2 i2 j2]) (by kernel_rfl) (by kernel_rfl) (by kernel_rfl) (fun w hS => exec_load3 13 (hF0.below hS) (by kernel_rfl) (by kernel_rfl)) ?_
    simp only [put_lit, put_non, List.set_cons_zero, List.set_cons_succ]
    clear hr1 hr2
    refine wkS_call (some 131) 28 #[.agg #[.bool pa, .slice B1 i1 j1, .slice B2 i2 j2]] (by kernel_rfl) (by kernel_rfl) (by kernel_rfl) (fun w => by kernel_rfl) ?_
    refine (compl_v (hfa.below hK) (by omega) (by omega)).mono ?_
    rintro e u23 ⟨r1, rfl, hr1, hB⟩
    refine ⟨r1, rfl, below_then hK hB, ?_⟩
    have hK := below_then hK hB
    clear hB
    simp only [put_lit, put_non, List.set_cons_zero, List.set_cons_succ]
    refine wkS_call (some 133) 29 #[.agg #[.bool pa, .slice B1 i1 j1, .slice B2 i2 j2]] (by kernel_rfl) (by kernel_rfl) (by kernel_rfl) (fun w => by kernel_rfl) ?_
    refine (fracCompl_v (hfa.below hK) (by omega) (by omega)).mono ?_
    rintro e u24 ⟨r2, rfl, hr2, hB⟩
    refine ⟨r2, rfl, below_then hK hB, ?_⟩
    have hK := below_then hK hB
    have hr1 := hr1.below hB
    clear hB
    simp only [put_lit, put_non, List.set_cons_zero, List.set_cons_succ]
    refine wkS_call (some 134) 11 #[r1, r2] (by kernel_rfl) (by kernel_rfl) (by kernel_rfl) (fun w => by kernel_rfl) ?_
    refine (same_ft hr1 hr2 (rfl)).mono ?_
    rintro e u25 ⟨rfl, hB⟩
    refine ⟨_, rfl, below_then hK hB, ?_⟩
    have hK := below_then hK hB
    have hr1 := hr1.below hB
    have hr2 := hr2.below hB
    clear hB
    simp only [put_lit, put_non, List.set_cons_zero, List.set_cons_succ]
    refine wkS_take (some 135) (.bool true) (by kernel_rfl) (by kernel_rfl) (by kernel_rfl) (fun w hS => by kernel_rfl) ?_
    simp only [put_lit, put_non, List.set_cons_zero, List.set_cons_succ]
    refine wkS_take (some 136) (.bool true) (by kernel_rfl) (by kernel_rfl) (by kernel_rfl) (fun w hS => by kernel_rfl) ?_
    simp only [put_lit, put_non, List.set_cons_zero, List.set_cons_succ]
    clear hr1 hr2
    refine wkS_call (some 137) 30 #[] (by kernel_rfl) (by kernel_rfl) (by kernel_rfl) (fun w => by kernel_rfl) ?_
    refine (known2_v _ (hM.below (below_then HB hK))).mono ?_
    rintro e u26 ⟨rfl, hB⟩
    refine ⟨_, rfl, below_then hK hB, ?_⟩
    have hK := below_then hK hB
    clear hB
    simp only [put_lit, put_non, List.set_cons_zero, List.set_cons_succ]
    refine wkS_take (some 138) (.bool true) (by kernel_rfl) (by kernel_rfl) (by kernel_rfl) (fun w hS => by kernel_rfl) ?_
    simp only [put_lit, put_non, List.set_cons_zero, List.set_cons_succ]
    refine wkS_take (some 12) (.bool true) (by kernel_rfl) (by kernel_rfl) (by kernel_rfl) (fun w hS => by kernel_rfl) ?_
    simp only [put_lit, put_non, List.set_cons_zero, List.set_cons_succ]
    refine wkS_done ?_
    go_wp2_with fail
    go_ret
    exact ⟨rfl, below_then HB hK⟩
  · skip
    have DV := Lib.hid (divf_v hfa hfb (by omega) (by omega) (by omega) h0)
    go_wp2_with fail
    generalize hg1 : w2.heap.size + 1 = g1 at *
    generalize hg0 : w2.heap.size = g0 at *
    have HG0 := Lib.hid hg0
    clear hg0 hg1
    refine (DV.out).mono ?_
    rintro e w6 ⟨vd, rfl, hd, hB6⟩
    obtain ⟨b2, C1, C2, C3, C1', C2', C3', rfl, _, _, _⟩ := hd.parts
    obtain ⟨W2, g2, ew2, eg2, hBW2, hF2⟩ := var1 w6 b2 (.slice C1 C2 C3) (.slice C1' C2' C3')
    have hB := below_then hB6 hBW2
    have hd := hd.below hBW2
    clear hB6 hBW2 ew
    clear c0 c1 c2 d0 d1 d2
    have hfa := hfa.below hB
    have hfb := hfb.below hB
    have hF0 := hF0.below hB
    have hF1 := hF1.below hB
    have HB := below_then HB hB
    have H2 := below_then_at HG0.out H2 hB
    clear hB
    have DW := Lib.hid (fracDiv_v hfa hfb (by omega) (by omega) (by omega) (by omega) h0)
    obtain ⟨c0, c1, c2⟩ := hF0.cells
    obtain ⟨d0, d1, d2⟩ := hF1.cells
    go_wp2_with fail
    refine (DW.out).mono ?_
    rintro e w7 ⟨vg, rfl, hg, hB7⟩
    obtain ⟨b3, D1, D2, D3, D1', D2', D3', rfl, _, _, _⟩ := hg.parts
    obtain ⟨w8, g3, ew3, eg3, hBW3, hF3⟩ := var1 w7 b3 (.slice D1 D2 D3) (.slice D1' D2' D3')
    have hg := hg.below hBW3
    have hB := below_then hB7 hBW3
    clear c0 c1 c2 d0 d1 d2
    have hfa := hfa.below hB
    have hfb := hfb.below hB
    have hF0 := hF0.below hB
    have hF1 := hF1.below hB
    have hF2 := hF2.below hB
    have hd := hd.below hB
    have HB := below_then HB hB
    have H2 := below_then_at HG0.out H2 hB
    clear hB
    obtain ⟨zm, hcm⟩ : ∃ z, rcmp qa qb = z := ⟨_, rfl⟩
    obtain ⟨zs, hsg⟩ : ∃ z, rsgn qa = z := ⟨_, rfl⟩
    have hzm : zm = -1 ∨ zm = 0 ∨ zm = 1 := hcm ▸ sgn_three (qa - qb)
    have hzs : zs = -1 ∨ zs = 0 ∨ zs = 1 := hsg ▸ sgn_three qa
    have hzm := Lib.hid hzm
    have hzs := Lib.hid hzs
    have hcm := Lib.hid hcm
    have hsg := Lib.hid hsg
    go_wp2_with fail
    have hzm := hzm.out
    have hzs := hzs.out
    have hcm := hcm.out
    have hsg := hsg.out
    dsimp only [List.append]
    refine wp_region_plan (S := fun w' => Below w8.heap.size w8 w') [(0, true), (2, true), (1, false), (3, false), (4, false), (5, true), (6, true), (8, true), (7, false), (9, false), (10, true), (11, true), (12, true), (13, true), (14, true), (16, true), (17, true), (15, false), (18, false), (19, true), (20, true), (21, true), (22, true), (24, true), (23, false), (25, false), (26, true), (27, true), (28, true), (29, true), (30, true), (32, true), (33, true), (31, false), (34, false), (35, false), (36, true), (37, true), (38, true), (39, true), (41, true), (42, true), (40, false), (43, false), (44, false), (45, true), (46, true), (47, true), (48, true), (50, true), (51, true), (49, false), (52, false), (53, false), (54, true), (55, true), (56, true), (57, true), (58, false), (59, true), (60, true), (61, true), (62, true), (63, true), (64, true), (65, true), (66, true), (68, true), (67, false), (69, false), (70, false), (71, true), (72, true), (73, true), (75, true), (74, false), (76, false), (77, false), (78, true), (79, true), (80, false), (81, true), (82, true)] (by kernel_rfl) (by kernel_rfl) (by kernel_rfl) (by kernel_rfl) (fun _ _ d _ _ h => by cases d <;> exact h) (Below.refl _ _).drew ?_
    have hK : Below w8.heap.size w8 w8.drew := (Below.refl _ _).drew
    refine wkS_take (some 57) (.agg #[.bool pa, .slice B1 i1 j1, .slice B2 i2 j2]) (by kernel_rfl) (by kernel_rfl) (by kernel_rfl) (fun w hS => exec_load3 13 (hF0.below hS) (by kernel_rfl) (by kernel_rfl)) ?_
    simp only [put_lit, put_non, List.set_cons_zero, List.set_cons_succ]
    refine wkS_take (some 59) (.agg #[.bool pa, .slice B1 i1 j1, .slice B2 i2 j2]) (by kernel_rfl) (by kernel_rfl) (by kernel_rfl) (fun w hS => exec_load3 13 (hF0.below hS) (by kernel_rfl) (by kernel_rfl)) ?_
    simp only [put_lit, put_non, List.set_cons_zero, List.set_cons_succ]
    refine wkS_call (some 58) 12 #[.agg #[.bool pa, .slice B1 i1 j1, .slice B2 i2 j2]] (by kernel_rfl) (by kernel_rfl) (by kernel_rfl) (fun w => by kernel_rfl) ?_
    refine (normf_v (hfa.below hK) (by omega) (by omega)).mono ?_
    rintro e u1 ⟨r1, rfl, hr1, hB⟩
    refine ⟨r1, rfl, below_then hK hB, ?_⟩
    have hK := below_then hK hB
    clear hB
    simp only [put_lit, put_non, List.set_cons_zero, List.set_cons_succ]
    refine wkS_call (some 60) 13 #[.agg #[.bool pa, .slice B1 i1 j1, .slice B2 i2 j2]] (by kernel_rfl) (by kernel_rfl) (by kernel_rfl) (fun w => by kernel_rfl) ?_
    refine (fracNorm_v (hfa.below hK) (by omega) (by omega)).mono ?_
    rintro e u2 ⟨r2, rfl, hr2, hB⟩
    refine ⟨r2, rfl, below_then hK hB, ?_⟩
    have hK := below_then hK hB
    have hr1 := hr1.below hB
    clear hB
    simp only [put_lit, put_non, List.set_cons_zero, List.set_cons_succ]
    refine wkS_call (some 61) 11 #[r1, r2] (by kernel_rfl) (by kernel_rfl) (by kernel_rfl) (fun w => by kernel_rfl) ?_
    refine (same_ft hr1 hr2 (rfl)).mono ?_
    rintro e u3 ⟨rfl, hB⟩
    refine ⟨_, rfl, below_then hK hB, ?_⟩
    have hK := below_then hK hB
    have hr1 := hr1.below hB
    have hr2 := hr2.below hB
    clear hB
    simp only [put_lit, put_non, List.set_cons_zero, List.set_cons_succ]
    refine wkS_take (some 62) (.bool true) (by kernel_rfl) (by kernel_rfl) (by kernel_rfl) (fun w hS => by kernel_rfl) ?_
    simp only [put_lit, put_non, List.set_cons_zero, List.set_cons_succ]
    refine wkS_take (some 63) (.agg #[.bool pa, .slice B1 i1 j1, .slice B2 i2 j2]) (by kernel_rfl) (by kernel_rfl) (by kernel_rfl) (fun w hS => exec_load3 13 (hF0.below hS) (by kernel_rfl) (by kernel_rfl)) ?_
    simp only [put_lit, put_non, List.set_cons_zero, List.set_cons_succ]
    refine wkS_take (some 65) (.agg #[.bool pa, .slice B1 i1 j1, .slice B2 i2 j2]) (by kernel_rfl) (by kernel_rfl) (by kernel_rfl) (fun w hS => exec_load3 13 (hF0.below hS) (by kernel_rfl) (by kernel_rfl)) ?_
    simp only [put_lit, put_non, List.set_cons_zero, List.set_cons_succ]
    clear hr1 hr2
    refine wkS_call (some 64) 14 #[.agg #[.bool pa, .slice B1 i1 j1, .slice B2 i2 j2]] (by kernel_rfl) (by kernel_rfl) (by kernel_rfl) (fun w => by kernel_rfl) ?_
    refine (CI.out _ (below_then_at HG0.out H2 hK)).mono ?_
    rintro e u4 ⟨rfl, hB⟩
    refine ⟨_, rfl, below_then hK hB, ?_⟩
    have hK := below_then hK hB
    clear hB
    simp only [put_lit, put_non, List.set_cons_zero, List.set_cons_succ]
    refine wkS_call (some 66) 15 #[.agg #[.bool pa, .slice B1 i1 j1, .slice B2 i2 j2]] (by kernel_rfl) (by kernel_rfl) (by kernel_rfl) (fun w => by kernel_rfl) ?_
    refine (CJ.out _ (below_then_at HG0.out H2 hK)).mono ?_
    rintro e u5 ⟨rfl, hB⟩
    refine ⟨_, rfl, below_then hK hB, ?_⟩
    have hK := below_then hK hB
    clear hB
    simp only [put_lit, put_non, List.set_cons_zero, List.set_cons_succ]
    refine wkS_take (some 67) (.bool true) (by kernel_rfl) (by kernel_rfl) (by kernel_rfl) (fun w hS => by cases zc <;> kernel_rfl) ?_
    simp only [put_lit, put_non, List.set_cons_zero, List.set_cons_succ]
    refine wkS_take (some 68) (.bool true) (by kernel_rfl) (by kernel_rfl) (by kernel_rfl) (fun w hS => by kernel_rfl) ?_
    simp only [put_lit, put_non, List.set_cons_zero, List.set_cons_succ]
    refine wkS_take (some 69) (.bool true) (by kernel_rfl) (by kernel_rfl) (by kernel_rfl) (fun w hS => by kernel_rfl) ?_
    simp only [put_lit, put_non, List.set_cons_zero, List.set_cons_succ]
    refine wkS_take (some 70) (.agg #[.bool pa, .slice B1 i1 j1, .slice B2 i2 j2]) (by kernel_rfl) (by kernel_rfl) (by kernel_rfl) (fun w hS => exec_load3 13 (hF0.below hS) (by kernel_rfl) (by kernel_rfl)) ?_
    simp only [put_lit, put_non, List.set_cons_zero, List.set_cons_succ]
    refine wkS_take (some 71) (.agg #[.bool pb, .slice B3 i3 j3, .slice B4 i4 j4]) (by kernel_rfl) (by kernel_rfl) (by kernel_rfl) (fun w hS => exec_load3 14 (hF1.below hS) (by kernel_rfl) (by kernel_rfl)) ?_
    simp only [put_lit, put_non, List.set_cons_zero, List.set_cons_succ]
    refine wkS_take (some 73) (.agg #[.bool pa, .slice B1 i1 j1, .slice B2 i2 j2]) (by kernel_rfl) (by kernel_rfl) (by kernel_rfl) (fun w hS => exec_load3 13 (hF0.below hS) (by kernel_rfl) (by kernel_rfl)) ?_
    simp only [put_lit, put_non, List.set_cons_zero, List.set_cons_succ]
    refine wkS_take (some 74) (.agg #[.bool pb, .slice B3 i3 j3, .slice B4 i4 j4]) (by kernel_rfl) (by kernel_rfl) (by kernel_rfl) (fun w hS => exec_load3 14 (hF1.below hS) (by kernel_rfl) (by kernel_rfl)) ?_
    simp only [put_lit, put_non, List.set_cons_zero, List.set_cons_succ]
    refine wkS_call (some 72) 16 #[.agg #[.bool pa, .slice B1 i1 j1, .slice B2 i2 j2], .agg #[.bool pb, .slice B3 i3 j3, .slice B4 i4 j4]] (by kernel_rfl) (by kernel_rfl) (by kernel_rfl) (fun w => by kernel_rfl) ?_
    refine (cmp_is (hfa.below hK) (hfb.below hK) (by omega) (by omega) hcm).mono ?_
    rintro e u6 ⟨rfl, hB⟩
    refine ⟨_, rfl, below_then hK hB, ?_⟩
    have hK := below_then hK hB
    clear hB
    simp only [put_lit, put_non, List.set_cons_zero, List.set_cons_succ]
    refine wkS_call (some 75) 17 #[.agg #[.bool pa, .slice B1 i1 j1, .slice B2 i2 j2], .agg #[.bool pb, .slice B3 i3 j3, .slice B4 i4 j4]] (by kernel_rfl) (by kernel_rfl) (by kernel_rfl) (fun w => by kernel_rfl) ?_
    refine (fracCmp_is (hfa.below hK) (hfb.below hK) (by omega) (by omega) (by omega) (by omega) hcm).mono ?_
    rintro e u7 ⟨rfl, hB⟩
    refine ⟨_, rfl, below_then hK hB, ?_⟩
    have hK := below_then hK hB
    clear hB
    simp only [put_lit, put_non, List.set_cons_zero, List.set_cons_succ]
    refine wkS_take (some 76) (.bool true) (by kernel_rfl) (by kernel_rfl) (by kernel_rfl) (fun w hS => by rcases hzm with rfl | rfl | rfl <;> kernel_rfl) ?_
    simp only [put_lit, put_non, List.set_cons_zero, List.set_cons_succ]
    refine wkS_take (some 77) (.bool true) (by kernel_rfl) (by kernel_rfl) (by kernel_rfl) (fun w hS => by kernel_rfl) ?_
    simp only [put_lit, put_non, List.set_cons_zero, List.set_cons_succ]
    refine wkS_take (some 78) (.bool true) (by kernel_rfl) (by kernel_rfl) (by kernel_rfl) (fun w hS => by kernel_rfl) ?_
    simp only [put_lit, put_non, List.set_cons_zero, List.set_cons_succ]
    refine wkS_take (some 79) (.agg #[.bool pa, .slice B1 i1 j1, .slice B2 i2 j2]) (by kernel_rfl) (by kernel_rfl) (by kernel_rfl) (fun w hS => exec_load3 13 (hF0.below hS) (by kernel_rfl) (by kernel_rfl)) ?_
    simp only [put_lit, put_non, List.set_cons_zero, List.set_cons_succ]
    refine wkS_take (some 81) (.agg #[.bool pa, .slice B1 i1 j1, .slice B2 i2 j2]) (by kernel_rfl) (by kernel_rfl) (by kernel_rfl) (fun w hS => exec_load3 13 (hF0.below hS) (by kernel_rfl) (by kernel_rfl)) ?_
    simp only [put_lit, put_non, List.set_cons_zero, List.set_cons_succ]
    refine wkS_call (some 80) 18 #[.agg #[.bool pa, .slice B1 i1 j1, .slice B2 i2 j2]] (by kernel_rfl) (by kernel_rfl) (by kernel_rfl) (fun w => by kernel_rfl) ?_
    refine (sign_is (hfa.below hK) (by omega) hsg).mono ?_
    rintro e u8 ⟨rfl, hB⟩
    refine ⟨_, rfl, below_then hK hB, ?_⟩
    have hK := below_then hK hB
    clear hB
    simp only [put_lit, put_non, List.set_cons_zero, List.set_cons_succ]
    refine wkS_call (some 82) 19 #[.agg #[.bool pa, .slice B1 i1 j1, .slice B2 i2 j2]] (by kernel_rfl) (by kernel_rfl) (by kernel_rfl) (fun w => by kernel_rfl) ?_
    refine (fracSign_is (hfa.below hK) (by omega) (by omega) hsg).mono ?_
    rintro e u9 ⟨rfl, hB⟩
    refine ⟨_, rfl, below_then hK hB, ?_⟩
    have hK := below_then hK hB
    clear hB
    simp only [put_lit, put_non, List.set_cons_zero, List.set_cons_succ]
    refine wkS_take (some 83) (.bool true) (by kernel_rfl) (by kernel_rfl) (by kernel_rfl) (fun w hS => by rcases hzs with rfl | rfl | rfl <;> kernel_rfl) ?_
    simp only [put_lit, put_non, List.set_cons_zero, List.set_cons_succ]
    refine wkS_take (some 84) (.bool true) (by kernel_rfl) (by kernel_rfl) (by kernel_rfl) (fun w hS => by kernel_rfl) ?_
    simp only [put_lit, put_non, List.set_cons_zero, List.set_cons_succ]
    refine wkS_take (some 85) (.bool true) (by kernel_rfl) (by kernel_rfl) (by kernel_rfl) (fun w hS => by kernel_rfl) ?_
    simp only [put_lit, put_non, List.set_cons_zero, List.set_cons_succ]
    refine wkS_take (some 86) (.agg #[.bool pa, .slice B1 i1 j1, .slice B2 i2 j2]) (by kernel_rfl) (by kernel_rfl) (by kernel_rfl) (fun w hS => exec_load3 13 (hF0.below hS) (by kernel_rfl) (by kernel_rfl)) ?_
    simp only [put_lit, put_non, List.set_cons_zero, List.set_cons_succ]
    refine wkS_take (some 87) (.agg #[.bool pb, .slice B3 i3 j3, .slice B4 i4 j4]) (by kernel_rfl) (by kernel_rfl) (by kernel_rfl) (fun w hS => exec_load3 14 (hF1.below hS) (by kernel_rfl) (by kernel_rfl)) ?_
    simp only [put_lit, put_non, List.set_cons_zero, List.set_cons_succ]
    refine wkS_take (some 89) (.agg #[.bool pa, .slice B1 i1 j1, .slice B2 i2 j2]) (by kernel_rfl) (by kernel_rfl) (by kernel_rfl) (fun w hS => exec_load3 13 (hF0.below hS) (by kernel_rfl) (by kernel_rfl)) ?_
    simp only [put_lit, put_non, List.set_cons_zero, List.set_cons_succ]
    refine wkS_take (some 90) (.agg #[.bool pb, .slice B3 i3 j3, .slice B4 i4 j4]) (by kernel_rfl) (by kernel_rfl) (by kernel_rfl) (fun w hS => exec_load3 14 (hF1.below hS) (by kernel_rfl) (by kernel_rfl)) ?_
    simp only [put_lit, put_non, List.set_cons_zero, List.set_cons_succ]
    refine wkS_call (some 88) 20 #[.agg #[.bool pa, .slice B1 i1 j1, .slice B2 i2 j2], .agg #[.bool pb, .slice B3 i3 j3, .slice B4 i4 j4]] (by kernel_rfl) (by kernel_rfl) (by kernel_rfl) (fun w => by kernel_rfl) ?_
    refine (addf_v (hfa.below hK) (hfb.below hK) (by omega) (by omega) (by omega) (by omega)).mono ?_
    rintro e u10 ⟨r1, rfl, hr1, hB⟩
    refine ⟨r1, rfl, below_then hK hB, ?_⟩
    have hK := below_then hK hB
    clear hB
    simp only [put_lit, put_non, List.set_cons_zero, List.set_cons_succ]
    refine wkS_call (some 91) 21 #[.agg #[.bool pa, .slice B1 i1 j1, .slice B2 i2 j2], .agg #[.bool pb, .slice B3 i3 j3, .slice B4 i4 j4]] (by kernel_rfl) (by kernel_rfl) (by kernel_rfl) (fun w => by kernel_rfl) ?_
    refine (fracAdd_v (hfa.below hK) (hfb.below hK) (by omega) (by omega) (by omega) (by omega)).mono ?_
    rintro e u11 ⟨r2, rfl, hr2, hB⟩
    refine ⟨r2, rfl, below_then hK hB, ?_⟩
    have hK := below_then hK hB
    have hr1 := hr1.below hB
    clear hB
    simp only [put_lit, put_non, List.set_cons_zero, List.set_cons_succ]
    refine wkS_call (some 92) 11 #[r1, r2] (by kernel_rfl) (by kernel_rfl) (by kernel_rfl) (fun w => by kernel_rfl) ?_
    refine (same_ft hr1 hr2 (rfl)).mono ?_
    rintro e u12 ⟨rfl, hB⟩
    refine ⟨_, rfl, below_then hK hB, ?_⟩
    have hK := below_then hK hB
    have hr1 := hr1.below hB
    have hr2 := hr2.below hB
    clear hB
    simp only [put_lit, put_non, List.set_cons_zero, List.set_cons_succ]
    refine wkS_take (some 93) (.bool true) (by kernel_rfl) (by kernel_rfl) (by kernel_rfl) (fun w hS => by kernel_rfl) ?_
    simp only [put_lit, put_non, List.set_cons_zero, List.set_cons_succ]
    refine wkS_take (some 94) (.bool true) (by kernel_rfl) (by kernel_rfl) (by kernel_rfl) (fun w hS => by kernel_rfl) ?_
    simp only [put_lit, put_non, List.set_cons_zero, List.set_cons_succ]
    refine wkS_take (some 95) (.agg #[.bool pa, .slice B1 i1 j1, .slice B2 i2 j2]) (by kernel_rfl) (by kernel_rfl) (by kernel_rfl) (fun w hS => exec_load3 13 (hF0.below hS) (by kernel_rfl) (by kernel_rfl)) ?_
    simp only [put_lit, put_non, List.set_cons_zero, List.set_cons_succ]
    refine wkS_take (some 96) (.agg #[.bool pb, .slice B3 i3 j3, .slice B4 i4 j4]) (by kernel_rfl) (by kernel_rfl) (by kernel_rfl) (fun w hS => exec_load3 14 (hF1.below hS) (by kernel_rfl) (by kernel_rfl)) ?_
    simp only [put_lit, put_non, List.set_cons_zero, List.set_cons_succ]
    refine wkS_take (some 98) (.agg #[.bool pa, .slice B1 i1 j1, .slice B2 i2 j2]) (by kernel_rfl) (by kernel_rfl) (by kernel_rfl) (fun w hS => exec_load3 13 (hF0.below hS) (by kernel_rfl) (by kernel_rfl)) ?_
    simp only [put_lit, put_non, List.set_cons_zero, List.set_cons_succ]
    refine wkS_take (some 99) (.agg #[.bool pb, .slice B3 i3 j3, .slice B4 i4 j4]) (by kernel_rfl) (by kernel_rfl) (by kernel_rfl) (fun w hS => exec_load3 14 (hF1.below hS) (by kernel_rfl) (by kernel_rfl)) ?_
    simp only [put_lit, put_non, List.set_cons_zero, List.set_cons_succ]
    clear hr1 hr2
    refine wkS_call (some 97) 22 #[.agg #[.bool pa, .slice B1 i1 j1, .slice B2 i2 j2], .agg #[.bool pb, .slice B3 i3 j3, .slice B4 i4 j4]] (by kernel_rfl) (by kernel_rfl) (by kernel_rfl) (fun w => by kernel_rfl) ?_
    refine (subf_v (hfa.below hK) (hfb.below hK) (by omega) (by omega) (by omega) (by omega)).mono ?_
    rintro e u13 ⟨r1, rfl, hr1, hB⟩
    refine ⟨r1, rfl, below_then hK hB, ?_⟩
    have hK := below_then hK hB
    clear hB
    simp only [put_lit, put_non, List.set_cons_zero, List.set_cons_succ]
    refine wkS_call (some 100) 23 #[.agg #[.bool pa, .slice B1 i1 j1, .slice B2 i2 j2], .agg #[.bool pb, .slice B3 i3 j3, .slice B4 i4 j4]] (by kernel_rfl) (by kernel_rfl) (by kernel_rfl) (fun w => by kernel_rfl) ?_
    refine (fracSub_v (hfa.below hK) (hfb.below hK) (by omega) (by omega) (by omega) (by omega)).mono ?_
    rintro e u14 ⟨r2, rfl, hr2, hB⟩
    refine ⟨r2, rfl, below_then hK hB, ?_⟩
    have hK := below_then hK hB
    have hr1 := hr1.below hB
    clear hB
    simp only [put_lit, put_non, List.set_cons_zero, List.set_cons_succ]
    refine wkS_call (some 101) 11 #[r1, r2] (by kernel_rfl) (by kernel_rfl) (by kernel_rfl) (fun w => by kernel_rfl) ?_
    refine (same_ft hr1 hr2 (rfl)).mono ?_
    rintro e u15 ⟨rfl, hB⟩
    refine ⟨_, rfl, below_then hK hB, ?_⟩
    have hK := below_then hK hB
    have hr1 := hr1.below hB
    have hr2 := hr2.below hB
    clear hB
    simp only [put_lit, put_non, List.set_cons_zero, List.set_cons_succ]
    refine wkS_take (some 102) (.bool true) (by kernel_rfl) (by kernel_rfl) (by kernel_rfl) (fun w hS => by kernel_rfl) ?_
    simp only [put_lit, put_non, List.set_cons_zero, List.set_cons_succ]
    refine wkS_take (some 103) (.bool true) (by kernel_rfl) (by kernel_rfl) (by kernel_rfl) (fun w hS => by kernel_rfl) ?_
    simp only [put_lit, put_non, List.set_cons_zero, List.set_cons_succ]
    refine wkS_take (some 104) (.agg #[.bool pa, .slice B1 i1 j1, .slice B2 i2 j2]) (by kernel_rfl) (by kernel_rfl) (by kernel_rfl) (fun w hS => exec_load3 13 (hF0.below hS) (by kernel_rfl) (by kernel_rfl)) ?_
    simp only [put_lit, put_non, List.set_cons_zero, List.set_cons_succ]
    refine wkS_take (some 105) (.agg #[.bool pb, .slice B3 i3 j3, .slice B4 i4 j4]) (by kernel_rfl) (by kernel_rfl) (by kernel_rfl) (fun w hS => exec_load3 14 (hF1.below hS) (by kernel_rfl) (by kernel_rfl)) ?_
    simp only [put_lit, put_non, List.set_cons_zero, List.set_cons_succ]
    refine wkS_take (some 107) (.agg #[.bool pa, .slice B1 i1 j1, .slice B2 i2 j2]) (by kernel_rfl) (by kernel_rfl) (by kernel_rfl) (fun w hS => exec_load3 13 (hF0.below hS) (by kernel_rfl) (by kernel_rfl)) ?_
    simp only [put_lit, put_non, List.set_cons_zero, List.set_cons_succ]
    refine wkS_take (some 108) (.agg #[.bool pb, .slice B3 i3 j3, .slice B4 i4 j4]) (by kernel_rfl) (by kernel_rfl) (by kernel_rfl) (fun w hS => exec_load3 14 (hF1.below hS) (by kernel_rfl) (by kernel_rfl)) ?_
    simp only [put_lit, put_non, List.set_cons_zero, List.set_cons_succ]
    clear hr1 hr2
    refine wkS_call (some 106) 24 #[.agg #[.bool pa, .slice B1 i1 j1, .slice B2 i2 j2], .agg #[.bool pb, .slice B3 i3 j3, .slice B4 i4 j4]] (by kernel_rfl) (by kernel_rfl) (by kernel_rfl) (fun w => by kernel_rfl) ?_
    refine (mulf_v (hfa.below hK) (hfb.below hK) (by omega) (by omega) (by omega)).mono ?_
    rintro e u16 ⟨r1, rfl, hr1, hB⟩
    refine ⟨r1, rfl, below_then hK hB, ?_⟩
    have hK := below_then hK hB
    clear hB
    simp only [put_lit, put_non, List.set_cons_zero, List.set_cons_succ]
    refine wkS_call (some 109) 25 #[.agg #[.bool pa, .slice B1 i1 j1, .slice B2 i2 j2], .agg #[.bool pb, .slice B3 i3 j3, .slice B4 i4 j4]] (by kernel_rfl) (by kernel_rfl) (by kernel_rfl) (fun w => by kernel_rfl) ?_
    refine (fracMul_v (hfa.below hK) (hfb.below hK) (by omega) (by omega) (by omega)).mono ?_
    rintro e u17 ⟨r2, rfl, hr2, hB⟩
    refine ⟨r2, rfl, below_then hK hB, ?_⟩
    have hK := below_then hK hB
    have hr1 := hr1.below hB
    clear hB
    simp only [put_lit, put_non, List.set_cons_zero, List.set_cons_succ]
    refine wkS_call (some 110) 11 #[r1, r2] (by kernel_rfl) (by kernel_rfl) (by kernel_rfl) (fun w => by kernel_rfl) ?_
    refine (same_ft hr1 hr2 (rfl)).mono ?_
    rintro e u18 ⟨rfl, hB⟩
    refine ⟨_, rfl, below_then hK hB, ?_⟩
    have hK := below_then hK hB
    have hr1 := hr1.below hB
    have hr2 := hr2.below hB
    clear hB
    simp only [put_lit, put_non, List.set_cons_zero, List.set_cons_succ]
    refine wkS_take (some 111) (.bool true) (by kernel_rfl) (by kernel_rfl) (by kernel_rfl) (fun w hS => by kernel_rfl) ?_
    simp only [put_lit, put_non, List.set_cons_zero, List.set_cons_succ]
    refine wkS_take (some 112) (.bool true) (by kernel_rfl) (by kernel_rfl) (by kernel_rfl) (fun w hS => by kernel_rfl) ?_
    simp only [put_lit, put_non, List.set_cons_zero, List.set_cons_succ]
    refine wkS_take (some 113) (.agg #[.bool b2, .slice C1 C2 C3, .slice C1' C2' C3']) (by kernel_rfl) (by kernel_rfl) (by kernel_rfl) (fun w hS => exec_load3 15 (hF2.below hS) (by kernel_rfl) (by kernel_rfl)) ?_
    simp only [put_lit, put_non, List.set_cons_zero, List.set_cons_succ]
    refine wkS_take (some 114) (.agg #[.bool b3, .slice D1 D2 D3, .slice D1' D2' D3']) (by kernel_rfl) (by kernel_rfl) (by kernel_rfl) (fun w hS => exec_load3 17 (hF3.below hS) (by kernel_rfl) (by kernel_rfl)) ?_
    simp only [put_lit, put_non, List.set_cons_zero, List.set_cons_succ]
    clear hr1 hr2
    refine wkS_call (some 115) 11 #[.agg #[.bool b2, .slice C1 C2 C3, .slice C1' C2' C3'], .agg #[.bool b3, .slice D1 D2 D3, .slice D1' D2' D3']] (by kernel_rfl) (by kernel_rfl) (by kernel_rfl) (fun w => by kernel_rfl) ?_
    refine (same_ft (hd.below hK) (hg.below hK) (rfl)).mono ?_
    rintro e u19 ⟨rfl, hB⟩
    refine ⟨_, rfl, below_then hK hB, ?_⟩
    have hK := below_then hK hB
    clear hB
    simp only [put_lit, put_non, List.set_cons_zero, List.set_cons_succ]
    refine wkS_take (some 116) (.bool true) (by kernel_rfl) (by kernel_rfl) (by kernel_rfl) (fun w hS => by kernel_rfl) ?_
    simp only [put_lit, put_non, List.set_cons_zero, List.set_cons_succ]
    refine wkS_take (some 117) (.bool true) (by kernel_rfl) (by kernel_rfl) (by kernel_rfl) (fun w hS => by kernel_rfl) ?_
    simp only [put_lit, put_non, List.set_cons_zero, List.set_cons_succ]
    refine wkS_take (some 118) (.int .i64 0) (by kernel_rfl) (by kernel_rfl) (by kernel_rfl) (fun w hS => by kernel_rfl) ?_
    simp only [put_lit, put_non, List.set_cons_zero, List.set_cons_succ]
    refine wkS_take (some 119) (.int .i64 0) (by kernel_rfl) (by kernel_rfl) (by kernel_rfl) (fun w hS => by kernel_rfl) ?_
    simp only [put_lit, put_non, List.set_cons_zero, List.set_cons_succ]
    refine wkS_take (some 120) (.bool true) (by kernel_rfl) (by kernel_rfl) (by kernel_rfl) (fun w hS => by kernel_rfl) ?_
    simp only [put_lit, put_non, List.set_cons_zero, List.set_cons_succ]
    refine wkS_take (some 121) (.bool true) (by kernel_rfl) (by kernel_rfl) (by kernel_rfl) (fun w hS => by kernel_rfl) ?_
    simp only [put_lit, put_non, List.set_cons_zero, List.set_cons_succ]
    refine wkS_take (some 122) (.bool true) (by kernel_rfl) (by kernel_rfl) (by kernel_rfl) (fun w hS => by kernel_rfl) ?_
    simp only [put_lit, put_non, List.set_cons_zero, List.set_cons_succ]
    refine wkS_take (some 123) (.agg #[.bool pa, .slice B1 i1 j1, .slice B2 i2 j2]) (by kernel_rfl) (by kernel_rfl) (by kernel_rfl) (fun w hS => exec_load3 13 (hF0.below hS) (by kernel_rfl) (by kernel_rfl)) ?_
    simp only [put_lit, put_non, List.set_cons_zero, List.set_cons_succ]
    refine wkS_take (some 125) (.agg #[.bool pa, .slice B1 i1 j1, .slice B2 i2 j2]) (by kernel_rfl) (by kernel_rfl) (by kernel_rfl) (fun w hS => exec_load3 13 (hF0.below hS) (by kernel_rfl) (by kernel_rfl)) ?_
    simp only [put_lit, put_non, List.set_cons_zero, List.set_cons_succ]
    refine wkS_call (some 124) 26 #[.agg #[.bool pa, .slice B1 i1 j1, .slice B2 i2 j2]] (by kernel_rfl) (by kernel_rfl) (by kernel_rfl) (fun w => by kernel_rfl) ?_
    refine (negf_v (hfa.below hK) (by omega) (by omega)).mono ?_
    rintro e u20 ⟨r1, rfl, hr1, hB⟩
    refine ⟨r1, rfl, below_then hK hB, ?_⟩
    have hK := below_then hK hB
    clear hB
    simp only [put_lit, put_non, List.set_cons_zero, List.set_cons_succ]
    refine wkS_call (some 126) 27 #[.agg #[.bool pa, .slice B1 i1 j1, .slice B2 i2 j2]] (by kernel_rfl) (by kernel_rfl) (by kernel_rfl) (fun w => by kernel_rfl) ?_
    refine (fracNeg_v (hfa.below hK) (by omega) (by omega)).mono ?_
    rintro e u21 ⟨r2, rfl, hr2, hB⟩
    refine ⟨r2, rfl, below_then hK hB, ?_⟩
    have hK := below_then hK hB
    have hr1 := hr1.below hB
    clear hB
    simp only [put_lit, put_non, List.set_cons_zero, List.set_cons_succ]
    refine wkS_call (some 127) 11 #[r1, r2] (by kernel_rfl) (by kernel_rfl) (by kernel_rfl) (fun w => by kernel_rfl) ?_
    refine (same_ft hr1 hr2 (rfl)).mono ?_
    rintro e u22 ⟨rfl, hB⟩
    refine ⟨_, rfl, below_then hK hB, ?_⟩
    have hK := below_then hK hB
    have hr1 := hr1.below hB
    have hr2 := hr2.below hB
    clear hB
    simp only [put_lit, put_non, List.set_cons_zero, List.set_cons_succ]
    refine wkS_take (some 128) (.bool true) (by kernel_rfl) (by kernel_rfl) (by kernel_rfl) (fun w hS => by kernel_rfl) ?_
    simp only [put_lit, put_non, List.set_cons_zero, List.set_cons_succ]
    refine wkS_take (some 129) (.bool true) (by kernel_rfl) (by kernel_rfl) (by kernel_rfl) (fun w hS => by kernel_rfl) ?_
    simp only [put_lit, put_non, List.set_cons_zero, List.set_cons_succ]
    refine wkS_take (some 130) (.agg #[.bool pa, .slice B1 i1 j1, .slice B2 i2 j2]) (by kernel_rfl) (by kernel_rfl) (by kernel_rfl) (fun w hS => exec_load3 13 (hF0.below hS) (by kernel_rfl) (by kernel_rfl)) ?_
    simp only [put_lit, put_non, List.set_cons_zero, List.set_cons_succ]
    refine wkS_take (some 132) (.agg #[.bool pa, .slice B1 i1 j1, .slice B2 i2 j2]) (by kernel_rfl) (by kernel_rfl) (by kernel_rfl) (fun w hS => exec_load3 13 (hF0.below hS) (by kernel_rfl) (by kernel_rfl)) ?_
    simp only [put_lit, put_non, List.set_cons_zero, List.set_cons_succ]
    clear hr1 hr2
    refine wkS_call (some 131) 28 #[.agg #[.bool pa, .slice B1 i1 j1, .slice B2 i2 j2]] (by kernel_rfl) (by kernel_rfl) (by kernel_rfl) (fun w => by kernel_rfl) ?_
    refine (compl_v (hfa.below hK) (by omega) (by omega)).mono ?_
    rintro e u23 ⟨r1, rfl, hr1, hB⟩
    refine ⟨r1, rfl, below_then hK hB, ?_⟩
    have hK := below_then hK hB
    clear hB
    simp only [put_lit, put_non, List.set_cons_zero, List.set_cons_succ]
    refine wkS_call (some 133) 29 #[.agg #[.bool pa, .slice B1 i1 j1, .slice B2 i2 j2]] (by kernel_rfl) (by kernel_rfl) (by kernel_rfl) (fun w => by kernel_rfl) ?_
    refine (fracCompl_v (hfa.below hK) (by omega) (by omega)).mono ?_
    rintro e u24 ⟨r2, rfl, hr2, hB⟩
    refine ⟨r2, rfl, below_then hK hB, ?_⟩
    have hK := below_then hK hB
    have hr1 := hr1.below hB
    clear hB
    simp only [put_lit, put_non, List.set_cons_zero, List.set_cons_succ]
    refine wkS_call (some 134) 11 #[r1, r2] (by kernel_rfl) (by kernel_rfl) (by kernel_rfl) (fun w => by kernel_rfl) ?_
    refine (same_ft hr1 hr2 (rfl)).mono ?_
    rintro e u25 ⟨rfl, hB⟩
    refine ⟨_, rfl, below_then hK hB, ?_⟩
    have hK := below_then hK hB
    have hr1 := hr1.below hB
    have hr2 := hr2.below hB
    clear hB
    simp only [put_lit, put_non, List.set_cons_zero, List.set_cons_succ]
    refine wkS_take (some 135) (.bool true) (by kernel_rfl) (by kernel_rfl) (by kernel_rfl) (fun w hS => by kernel_rfl) ?_
    simp only [put_lit, put_non, List.set_cons_zero, List.set_cons_succ]
    refine wkS_take (some 136) (.bool true) (by kernel_rfl) (by kernel_rfl) (by kernel_rfl) (fun w hS => by kernel_rfl) ?_
    simp only [put_lit, put_non, List.set_cons_zero, List.set_cons_succ]
    clear hr1 hr2
    refine wkS_call (some 137) 30 #[] (by kernel_rfl) (by kernel_rfl) (by kernel_rfl) (fun w => by kernel_rfl) ?_
    refine (known2_v _ (hM.below (below_then HB hK))).mono ?_
    rintro e u26 ⟨rfl, hB⟩
    refine ⟨_, rfl, below_then hK hB, ?_⟩
    have hK := below_then hK hB
    clear hB
    simp only [put_lit, put_non, List.set_cons_zero, List.set_cons_succ]
    refine wkS_take (some 138) (.bool true) (by kernel_rfl) (by kernel_rfl) (by kernel_rfl) (fun w hS => by kernel_rfl) ?_
    simp only [put_lit, put_non, List.set_cons_zero, List.set_cons_succ]
    refine wkS_take (some 12) (.bool true) (by kernel_rfl) (by kernel_rfl) (by kernel_rfl) (fun w hS => by kernel_rfl) ?_
    simp only [put_lit, put_non, List.set_cons_zero, List.set_cons_succ]
    refine wkS_done ?_
    go_wp2_with fail
    go_ret
    exact ⟨rfl, below_then HB hK⟩
theorem arith_walk (w : World) (v1 v2 v3 v4 : Value) (l1 l2 l3 l4 : List Nat) {pa pb : Bool} (n1 : Num w v1 l1) (n2 : Num w v2 l2) (n3 : Num w v3 l3) (n4 : Num w v4 l4) (hM : MaxL w) :
    Calls Tryz.prog 3 #[.bool pa, v1, v2, .bool pb, v3, v4] w (RVal w (.bool true)) := by
  by_cases h : l1.length ≤ 4 ∧ l2.length ≤ 4 ∧ l3.length ≤ 4 ∧ l4.length ≤ 4
  · exact arith_short w v1 v2 v3 v4 l1 l2 l3 l4 n1 n2 n3 n4 h.1 h.2.1 h.2.2.1 h.2.2.2 hM
  · exact arith_long w v1 v2 v3 v4 l1 l2 l3 l4 n1 n2 n3 n4 (by omega)
end Go.Proofs.YtgjhgpfjeoeojaaGreatDoor

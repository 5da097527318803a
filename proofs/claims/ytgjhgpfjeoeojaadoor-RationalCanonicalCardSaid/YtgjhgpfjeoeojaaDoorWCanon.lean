/- The walk of the law RationalCanonical: it returns true and leaves what was there. -/
import Derived.Test.YtgjhgpfjeoeojaaDoorBown
import Derived.Test.YtgjhgpfjeoeojaaDoorKnow2
import Derived.Test.YtgjhgpfjeoeojaaDoorRefL
import Derived.Test.YtgjhgpfjeoeojaaDoorPlans
namespace Go.Proofs.YtgjhgpfjeoeojaaDoor
set_option linter.unusedSimpArgs false
open Go.RowKit Dig
set_option linter.unusedVariables false

theorem fr_scale (a : Bool) (n d : Nat) {f : Nat} (hf : f ≠ 0) : fr a (n * f) (d * f) = fr a n d := by
  have h1 : fr false f f = 1 := by
    have := (fr_eq_zero false f f)
    have h2 := fr_num false (n := f) hf
    rw [Nat.gcd_self, Nat.div_self (by omega)] at h2
    exact Rat.ext (by rw [h2.1]; rfl) (by rw [h2.2]; rfl)
  have := fr_mul a false n f d f
  rw [h1, Rat.mul_one] at this
  rw [this]
  cases a <;> rfl
section
variable {w : World} {v : Value} {q : Rat} {k : Nat}
theorem canon_of (q : Rat) : canon (decide (q.num < 0)) (dg q.num.natAbs) (dg q.den) = true := by
  unfold canon
  rw [val_dg, val_dg, fr_self]
  simp
theorem dg_len {n k : Nat} (h : n < 4294967296 ^ k) : (dg n).length ≤ k := dg_length_le n k h
theorem isCanon_is (h : CanF w v q k) (hk : k ≤ 400000) : Calls Tryd.prog 18 #[v] w (RVal w (.bool true)) := by
  obtain ⟨vn, vd, rfl, h1, h2⟩ := h
  have := isCanon_v w (decide (q.num < 0)) vn vd (dg q.num.natAbs) (dg q.den) h1.1 h2.1 (Nat.le_trans (dg_len h1.2) hk) (Nat.le_trans (dg_len h2.2) hk)
  rwa [canon_of] at this
theorem can_pos {A : Option Addr} {m c n : Nat} (h : Can w (.slice A m c) n k) (hn : n ≠ 0) : 0 < m := by
  obtain ⟨A', c', e⟩ := h.1.form
  cases e
  rcases Nat.eq_zero_or_pos (dg n).length with h0 | h0
  · exact absurd ((dg_nil_iff n).1 (List.length_eq_zero_iff.1 h0)) hn
  · exact h0
end
set_option maxHeartbeats 4000000 in
theorem canonical_long (w : World) (v1 v2 : Value) (l1 l2 : List Nat) {neg : Bool} {k : Int} (n1 : Num w v1 l1) (n2 : Num w v2 l2) (hl : 4 < l1.length ∨ 4 < l2.length) :
    Calls Tryd.prog 5 #[.bool neg, v1, v2, .int .u32 k] w (RVal w (.bool true)) := by
  obtain ⟨A1, c1, rfl⟩ := n1.form
  obtain ⟨A2, c2, rfl⟩ := n2.form
  generalize l1.length = m1 at *
  generalize l2.length = m2 at *
  by_cases h1 : 4 < m1
  · have e1 : ((4 : Int) < m1) = True := by simp; omega
    go_enter Tryd.func5, Tryd.ntmps5
    go_wp2_with fail
    go_ret
    exact ⟨rfl, Below.refl _ _⟩
  · have e1 : ((4 : Int) < m1) = False := by simp; omega
    have e2 : ((4 : Int) < m2) = True := by simp; omega
    go_enter Tryd.func5, Tryd.ntmps5
    go_wp2_with fail
    go_ret
    exact ⟨rfl, Below.refl _ _⟩
set_option maxRecDepth 20000 in
set_option maxHeartbeats 16000000 in
theorem canonical_short (w : World) (v1 v2 : Value) (l1 l2 : List Nat) {neg : Bool} {k : Nat} (n1 : Num w v1 l1) (n2 : Num w v2 l2) (hl : l1.length ≤ 4) (hl' : l2.length ≤ 4) (hk : k < 4294967296) (hM : MaxL w) :
    Calls Tryd.prog 5 #[.bool neg, v1, v2, .int .u32 (k : Int)] w (RVal w (.bool true)) := by
  have RW := Lib.hid (raw_v w neg v1 v2 l1 l2 n1 n2)
  have FU := Lib.hid (fun w1 => from_v (w := w1) (k + 1) (by omega))
  obtain ⟨A1, c1, rfl⟩ := n1.form
  obtain ⟨A2, c2, rfl⟩ := n2.form
  obtain ⟨n, hn⟩ : ∃ n, val (mkn l1) = n := ⟨_, rfl⟩
  obtain ⟨d, hd⟩ : ∃ n, val (mkn l2) = n := ⟨_, rfl⟩
  have hmx : (mkn l1).length ≤ 8 := mkn_length l1
  have hmy : (mkn l2).length ≤ 8 := mkn_length l2
  have e1 : ((4 : Int) < l1.length) = False := by simp; omega
  have e2 : ((4 : Int) < l2.length) = False := by simp; omega
  generalize l1.length = m1 at *
  generalize l2.length = m2 at *
  clear n1 n2
  go_enter Tryd.func5, Tryd.ntmps5
  go_wp2_with fail
  refine (RW.out).mono ?_
  rintro e w1 ⟨vn, vd, rfl, hvn, hvd, hB1⟩
  obtain ⟨B1, j1, rfl⟩ := hvn.form
  obtain ⟨B2, j2, rfl⟩ := hvd.form
  have hx : NumV w1 (.slice B1 (mkn l1).length j1) n 8 := ⟨_, hvn, hn, hmx⟩
  have hy : NumV w1 (.slice B2 (mkn l2).length j2) d 8 := ⟨_, hvd, hd, hmy⟩
  clear hvn hvd hn hd hmx hmy e1 e2
  generalize (mkn l1).length = i1 at *
  generalize (mkn l2).length = i2 at *
  obtain ⟨W, g0, ew, eg, hBW, hF0⟩ := var1 w1 neg (.slice B1 i1 j1) (.slice B2 i2 j2)
  have hx := hx.below hBW
  have hy := hy.below hBW
  have HB := below_then hB1 hBW
  go_wp2_with fail
  rw [show (k : Int) + 1 = ((k + 1 : Nat) : Int) by omega]
  refine (FU.out _).mono ?_
  rintro e w5 ⟨vf, rfl, hf, _, hB5⟩
  have hf := hf.numV
  obtain ⟨F1, f2, f3, rfl⟩ := hf.form
  have hx := hx.below hB5
  have hy := hy.below hB5
  have hF0 := hF0.below hB5
  have HB := below_then HB hB5
  clear hB1 hBW ew eg hB5
  go_wp2_with fail
  go_cut [11] from 29 (fun s11 w' => ∃ g x1 x2 x3 y1 y2 y3, s11 = .pointer (some ⟨g, 0, none⟩) ∧ Fcl w' g neg (.slice x1 x2 x3) (.slice y1 y2 y3) ∧ NumV w' (.slice x1 x2 x3) (n * (k + 1)) 10 ∧ NumV w' (.slice y1 y2 y3) (d * (k + 1)) 10 ∧ Below w5.heap.size w5 w')
  case first =>
    refine hk_begin (S := fun w' => Below w5.heap.size w5 w') 12 (by kernel_rfl) (by kernel_rfl) ?_
    have hK : Below w5.heap.size w5 w5.drew := (Below.refl w5.heap.size w5).drew
    refine hk_take (i := 0) (some 29) (.bool neg) (by kernel_rfl) (by kernel_rfl) (by kernel_rfl) (by kernel_rfl) (by kernel_rfl) (by kernel_rfl) (fun w hS => by kernel_rfl) (fun _ _ d _ _ h => by cases d <;> exact h) hK ?_
    simp only [put_lit, put_non, List.set_cons_zero, List.set_cons_succ]
    refine hk_take (i := 1) (some 30) (.pointer (some ⟨g0, 1, none⟩)) (by kernel_rfl) (by kernel_rfl) (by kernel_rfl) (by kernel_rfl) (by kernel_rfl) (by kernel_rfl) (fun w hS => by kernel_rfl) (fun _ _ d _ _ h => by cases d <;> exact h) hK ?_
    simp only [put_lit, put_non, List.set_cons_zero, List.set_cons_succ]
    refine hk_take (i := 2) (some 31) (.slice B1 i1 j1) (by kernel_rfl) (by kernel_rfl) (by kernel_rfl) (by kernel_rfl) (by kernel_rfl) (by kernel_rfl) (fun w hS => exec_part 23 30 (hF0.below hS).cells.2.1 (by kernel_rfl) (by kernel_rfl) (by kernel_rfl)) (fun _ _ d _ _ h => by cases d <;> exact h) hK ?_
    simp only [put_lit, put_non, List.set_cons_zero, List.set_cons_succ]
    refine hk_take (i := 3) (some 32) (.slice F1 f2 f3) (by kernel_rfl) (by kernel_rfl) (by kernel_rfl) (by kernel_rfl) (by kernel_rfl) (by kernel_rfl) (fun w hS => by kernel_rfl) (fun _ _ d _ _ h => by cases d <;> exact h) hK ?_
    simp only [put_lit, put_non, List.set_cons_zero, List.set_cons_succ]
    refine hk_take (i := 5) (some 34) (.pointer (some ⟨g0, 2, none⟩)) (by kernel_rfl) (by kernel_rfl) (by kernel_rfl) (by kernel_rfl) (by kernel_rfl) (by kernel_rfl) (fun w hS => by kernel_rfl) (fun _ _ d _ _ h => by cases d <;> exact h) hK ?_
    simp only [put_lit, put_non, List.set_cons_zero, List.set_cons_succ]
    refine hk_take (i := 6) (some 35) (.slice B2 i2 j2) (by kernel_rfl) (by kernel_rfl) (by kernel_rfl) (by kernel_rfl) (by kernel_rfl) (by kernel_rfl) (fun w hS => exec_part 23 34 (hF0.below hS).cells.2.2 (by kernel_rfl) (by kernel_rfl) (by kernel_rfl)) (fun _ _ d _ _ h => by cases d <;> exact h) hK ?_
    simp only [put_lit, put_non, List.set_cons_zero, List.set_cons_succ]
    refine hk_take (i := 7) (some 36) (.slice F1 f2 f3) (by kernel_rfl) (by kernel_rfl) (by kernel_rfl) (by kernel_rfl) (by kernel_rfl) (by kernel_rfl) (fun w hS => by kernel_rfl) (fun _ _ d _ _ h => by cases d <;> exact h) hK ?_
    simp only [put_lit, put_non, List.set_cons_zero, List.set_cons_succ]
    refine hk_two (i := 4) (j := 10) (by kernel_rfl) ?_ ?_
    · skip
      refine op_call (some 33) 16 #[.slice B1 i1 j1, .slice F1 f2 f3] (by kernel_rfl) (by kernel_rfl) (by kernel_rfl) (fun w => by kernel_rfl) ?_
      refine (mul_v (w := w5.drew) (hx.below hK) (hf.below hK) (by omega) (by omega) (by omega)).mono ?_
      rintro e y1 ⟨rX, rfl, hX, _, hB⟩
      refine ⟨_, rfl, below_then hK hB, ?_⟩
      have hK := below_then hK hB
      clear hB
      have hX := hX.numV
      obtain ⟨X1, X2, X3, rfl⟩ := hX.form
      simp only [put_lit, put_non, List.set_cons_zero, List.set_cons_succ]
      refine hk_two (i := 8) (j := 10) (by kernel_rfl) ?_ ?_
      · skip
        refine op_call (some 37) 16 #[.slice B2 i2 j2, .slice F1 f2 f3] (by kernel_rfl) (by kernel_rfl) (by kernel_rfl) (fun w => by kernel_rfl) ?_
        refine (mul_v (w := y1) (hy.below hK) (hf.below hK) (by omega) (by omega) (by omega)).mono ?_
        rintro e y2 ⟨rY, rfl, hY, _, hB⟩
        refine ⟨_, rfl, below_then hK hB, ?_⟩
        have hK := below_then hK hB
        have hX := hX.below hB
        clear hB
        have hY := hY.numV
        obtain ⟨Y1, Y2, Y3, rfl⟩ := hY.form
        simp only [put_lit, put_non, List.set_cons_zero, List.set_cons_succ]
        refine hk_take (i := 9) (some 38) (.agg #[.bool neg, .slice X1 X2 X3, .slice Y1 Y2 Y3]) (by kernel_rfl) (by kernel_rfl) (by kernel_rfl) (by kernel_rfl) (by kernel_rfl) (by kernel_rfl) (fun w hS => by kernel_rfl) (fun _ _ d _ _ h => by cases d <;> exact h) hK ?_
        simp only [put_lit, put_non, List.set_cons_zero, List.set_cons_succ]
        refine hk_one (i := 10) (by kernel_rfl) ?_
        obtain ⟨y3, g1, ewg1, egg1, hB, hFg1⟩ := var1 y2 false (.slice none 0 0) (.slice none 0 0)
        refine op_do (some 11) (.pointer (some ⟨g1, 0, none⟩)) y3 (by kernel_rfl) (by kernel_rfl) (by kernel_rfl) (by rw [← ewg1, ← egg1]; exact exec_new3 (by kernel_rfl)) ?_
        refine ⟨below_then hK hB, ?_⟩
        have ltg1 := hK.size
        have hK := below_then hK hB
        have hX := hX.below hB
        have hY := hY.below hB
        clear hB
        simp only [put_lit, put_non, List.set_cons_zero, List.set_cons_succ]
        refine hk_one (i := 11) (by kernel_rfl) ?_
        refine op_skip none (stor3 y3 g1 (.bool neg) (.slice X1 X2 X3) (.slice Y1 Y2 Y3)) (by kernel_rfl) (by kernel_rfl) (by kernel_rfl) (exec_store3 11 38 hFg1 (by kernel_rfl) (by kernel_rfl) (by kernel_rfl)) ?_
        have hB := below_put3 (g := g1) hK (by omega) (.bool neg) (.slice X1 X2 X3) (.slice Y1 Y2 Y3)
        refine ⟨hB, ?_⟩
        have hX := hX.put3 hFg1 (.bool neg) (.slice X1 X2 X3) (.slice Y1 Y2 Y3)
        have hY := hY.put3 hFg1 (.bool neg) (.slice X1 X2 X3) (.slice Y1 Y2 Y3)
        have hFg1 := hFg1.put3 neg (.slice X1 X2 X3) (.slice Y1 Y2 Y3)
        simp only [put_lit, put_non, List.set_cons_zero, List.set_cons_succ]
        refine hk_done (by kernel_rfl) ?_
        go_wp2_with fail
        go_meet
        case rel => exact ⟨g1, _, _, _, _, _, _, rfl, hFg1, hX, hY, hB⟩
      · skip
        obtain ⟨y2, g1, ewg1, egg1, hB, hFg1⟩ := var1 y1 false (.slice none 0 0) (.slice none 0 0)
        refine op_do (some 11) (.pointer (some ⟨g1, 0, none⟩)) y2 (by kernel_rfl) (by kernel_rfl) (by kernel_rfl) (by rw [← ewg1, ← egg1]; exact exec_new3 (by kernel_rfl)) ?_
        refine ⟨below_then hK hB, ?_⟩
        have ltg1 := hK.size
        have hK := below_then hK hB
        have hX := hX.below hB
        clear hB
        simp only [put_lit, put_non, List.set_cons_zero, List.set_cons_succ]
        refine hk_one (i := 8) (by kernel_rfl) ?_
        refine op_call (some 37) 16 #[.slice B2 i2 j2, .slice F1 f2 f3] (by kernel_rfl) (by kernel_rfl) (by kernel_rfl) (fun w => by kernel_rfl) ?_
        refine (mul_v (w := y2) (hy.below hK) (hf.below hK) (by omega) (by omega) (by omega)).mono ?_
        rintro e y3 ⟨rY, rfl, hY, _, hB⟩
        refine ⟨_, rfl, below_then hK hB, ?_⟩
        have hK := below_then hK hB
        have hX := hX.below hB
        have hFg1 := hFg1.below hB
        clear hB
        have hY := hY.numV
        obtain ⟨Y1, Y2, Y3, rfl⟩ := hY.form
        simp only [put_lit, put_non, List.set_cons_zero, List.set_cons_succ]
        refine hk_take (i := 9) (some 38) (.agg #[.bool neg, .slice X1 X2 X3, .slice Y1 Y2 Y3]) (by kernel_rfl) (by kernel_rfl) (by kernel_rfl) (by kernel_rfl) (by kernel_rfl) (by kernel_rfl) (fun w hS => by kernel_rfl) (fun _ _ d _ _ h => by cases d <;> exact h) hK ?_
        simp only [put_lit, put_non, List.set_cons_zero, List.set_cons_succ]
        refine hk_one (i := 11) (by kernel_rfl) ?_
        refine op_skip none (stor3 y3 g1 (.bool neg) (.slice X1 X2 X3) (.slice Y1 Y2 Y3)) (by kernel_rfl) (by kernel_rfl) (by kernel_rfl) (exec_store3 11 38 hFg1 (by kernel_rfl) (by kernel_rfl) (by kernel_rfl)) ?_
        have hB := below_put3 (g := g1) hK (by omega) (.bool neg) (.slice X1 X2 X3) (.slice Y1 Y2 Y3)
        refine ⟨hB, ?_⟩
        have hX := hX.put3 hFg1 (.bool neg) (.slice X1 X2 X3) (.slice Y1 Y2 Y3)
        have hY := hY.put3 hFg1 (.bool neg) (.slice X1 X2 X3) (.slice Y1 Y2 Y3)
        have hFg1 := hFg1.put3 neg (.slice X1 X2 X3) (.slice Y1 Y2 Y3)
        simp only [put_lit, put_non, List.set_cons_zero, List.set_cons_succ]
        refine hk_done (by kernel_rfl) ?_
        go_wp2_with fail
        go_meet
        case rel => exact ⟨g1, _, _, _, _, _, _, rfl, hFg1, hX, hY, hB⟩
    · skip
      obtain ⟨y1, g1, ewg1, egg1, hB, hFg1⟩ := var1 w5.drew false (.slice none 0 0) (.slice none 0 0)
      refine op_do (some 11) (.pointer (some ⟨g1, 0, none⟩)) y1 (by kernel_rfl) (by kernel_rfl) (by kernel_rfl) (by rw [← ewg1, ← egg1]; exact exec_new3 (by kernel_rfl)) ?_
      refine ⟨below_then hK hB, ?_⟩
      have ltg1 := hK.size
      have hK := below_then hK hB
      clear hB
      simp only [put_lit, put_non, List.set_cons_zero, List.set_cons_succ]
      refine hk_one (i := 4) (by kernel_rfl) ?_
      refine op_call (some 33) 16 #[.slice B1 i1 j1, .slice F1 f2 f3] (by kernel_rfl) (by kernel_rfl) (by kernel_rfl) (fun w => by kernel_rfl) ?_
      refine (mul_v (w := y1) (hx.below hK) (hf.below hK) (by omega) (by omega) (by omega)).mono ?_
      rintro e y2 ⟨rX, rfl, hX, _, hB⟩
      refine ⟨_, rfl, below_then hK hB, ?_⟩
      have hK := below_then hK hB
      have hFg1 := hFg1.below hB
      clear hB
      have hX := hX.numV
      obtain ⟨X1, X2, X3, rfl⟩ := hX.form
      simp only [put_lit, put_non, List.set_cons_zero, List.set_cons_succ]
      refine hk_one (i := 8) (by kernel_rfl) ?_
      refine op_call (some 37) 16 #[.slice B2 i2 j2, .slice F1 f2 f3] (by kernel_rfl) (by kernel_rfl) (by kernel_rfl) (fun w => by kernel_rfl) ?_
      refine (mul_v (w := y2) (hy.below hK) (hf.below hK) (by omega) (by omega) (by omega)).mono ?_
      rintro e y3 ⟨rY, rfl, hY, _, hB⟩
      refine ⟨_, rfl, below_then hK hB, ?_⟩
      have hK := below_then hK hB
      have hFg1 := hFg1.below hB
      have hX := hX.below hB
      clear hB
      have hY := hY.numV
      obtain ⟨Y1, Y2, Y3, rfl⟩ := hY.form
      simp only [put_lit, put_non, List.set_cons_zero, List.set_cons_succ]
      refine hk_take (i := 9) (some 38) (.agg #[.bool neg, .slice X1 X2 X3, .slice Y1 Y2 Y3]) (by kernel_rfl) (by kernel_rfl) (by kernel_rfl) (by kernel_rfl) (by kernel_rfl) (by kernel_rfl) (fun w hS => by kernel_rfl) (fun _ _ d _ _ h => by cases d <;> exact h) hK ?_
      simp only [put_lit, put_non, List.set_cons_zero, List.set_cons_succ]
      refine hk_one (i := 11) (by kernel_rfl) ?_
      refine op_skip none (stor3 y3 g1 (.bool neg) (.slice X1 X2 X3) (.slice Y1 Y2 Y3)) (by kernel_rfl) (by kernel_rfl) (by kernel_rfl) (exec_store3 11 38 hFg1 (by kernel_rfl) (by kernel_rfl) (by kernel_rfl)) ?_
      have hB := below_put3 (g := g1) hK (by omega) (.bool neg) (.slice X1 X2 X3) (.slice Y1 Y2 Y3)
      refine ⟨hB, ?_⟩
      have hX := hX.put3 hFg1 (.bool neg) (.slice X1 X2 X3) (.slice Y1 Y2 Y3)
      have hY := hY.put3 hFg1 (.bool neg) (.slice X1 X2 X3) (.slice Y1 Y2 Y3)
      have hFg1 := hFg1.put3 neg (.slice X1 X2 X3) (.slice Y1 Y2 Y3)
      simp only [put_lit, put_non, List.set_cons_zero, List.set_cons_succ]
      refine hk_done (by kernel_rfl) ?_
      go_wp2_with fail
      go_meet
      case rel => exact ⟨g1, _, _, _, _, _, _, rfl, hFg1, hX, hY, hB⟩
  case rest =>
    obtain ⟨g1, X1, X2, X3, Y1, Y2, Y3, rfl, hF1, hX, hY, hB⟩ := hcut
    have hx := hx.below hB
    have hy := hy.below hB
    have hF0 := hF0.below hB
    have HB := below_then HB hB
    clear hB hf
    have hfa : FracV wc (.agg #[.bool neg, .slice B1 i1 j1, .slice B2 i2 j2]) (fr neg n d) 8 := FracV.of hx hy
    have hfb : FracV wc (.agg #[.bool neg, .slice X1 X2 X3, .slice Y1 Y2 Y3]) (fr neg (n * (k + 1)) (d * (k + 1))) 10 := FracV.of hX hY
    rw [fr_scale neg n d (by omega)] at hfb
    generalize fr neg n d = p at *
    clear hx hy hX hY
    have NV := Lib.hid (normf_v hfa (by omega) (by omega))
    obtain ⟨c0, c1, c2⟩ := hF0.cells
    go_wp2_with fail
    refine (NV.out).mono ?_
    rintro e w6 ⟨vc, rfl, hc, hB6⟩
    clear c0 c1 c2
    obtain ⟨b2, C1, C2, C3, C1', C2', C3', rfl, _, _, hcd⟩ := hc.parts
    have hpos := can_pos hcd p.den_nz
    have hpos : decide ((0 : Int) < (C2' : Int)) = true := by rw [decide_eq_true_eq]; omega
    have hpos := Lib.hid hpos
    clear hcd
    obtain ⟨w8, g2, ew, eg, hBW, hF2⟩ := var1 w6 b2 (.slice C1 C2 C3) (.slice C1' C2' C3')
    have hc := hc.below hBW
    have hB := below_then hB6 hBW
    have hfa := hfa.below hB
    have hfb := hfb.below hB
    have hF0 := hF0.below hB
    have hF1 := hF1.below hB
    have HB := below_then HB hB
    go_wp2_with fail
    have hpos := hpos.out
    refine wp_region_plan (S := fun w' => Below w8.heap.size w8 w') [(0, true), (1, false), (2, true), (3, true), (5, true), (4, false), (6, false), (7, true), (8, true), (9, true), (11, true), (10, false), (12, false), (13, true), (14, true), (15, true), (16, true), (17, false), (18, false), (19, true), (20, true), (21, true), (22, true), (23, false), (24, false), (25, true), (26, true), (27, true), (28, true), (29, false), (30, false), (31, true), (32, true), (33, true), (34, true), (35, true), (36, false), (37, true), (38, true), (39, true), (40, false), (41, true), (42, true)] (by kernel_rfl) (by kernel_rfl) (by kernel_rfl) (by kernel_rfl) (fun _ _ d _ _ h => by cases d <;> exact h) (Below.refl _ _).drew ?_
    have hK : Below w8.heap.size w8 w8.drew := (Below.refl _ _).drew
    refine wkS_take (some 41) (.agg #[.bool b2, .slice C1 C2 C3, .slice C1' C2' C3']) (by kernel_rfl) (by kernel_rfl) (by kernel_rfl) (fun w hS => exec_load3 12 (hF2.below hS) (by kernel_rfl) (by kernel_rfl)) ?_
    simp only [put_lit, put_non, List.set_cons_zero, List.set_cons_succ]
    refine wkS_call (some 42) 18 #[.agg #[.bool b2, .slice C1 C2 C3, .slice C1' C2' C3']] (by kernel_rfl) (by kernel_rfl) (by kernel_rfl) (fun w => by kernel_rfl) ?_
    refine (isCanon_is (hc.below hK) (by omega)).mono ?_
    rintro e u1 ⟨rfl, hB⟩
    refine ⟨_, rfl, below_then hK hB, ?_⟩
    have hK := below_then hK hB
    clear hB
    simp only [put_lit, put_non, List.set_cons_zero, List.set_cons_succ]
    refine wkS_take (some 43) (.bool true) (by kernel_rfl) (by kernel_rfl) (by kernel_rfl) (fun w hS => by kernel_rfl) ?_
    simp only [put_lit, put_non, List.set_cons_zero, List.set_cons_succ]
    refine wkS_take (some 44) (.agg #[.bool neg, .slice X1 X2 X3, .slice Y1 Y2 Y3]) (by kernel_rfl) (by kernel_rfl) (by kernel_rfl) (fun w hS => exec_load3 11 (hF1.below hS) (by kernel_rfl) (by kernel_rfl)) ?_
    simp only [put_lit, put_non, List.set_cons_zero, List.set_cons_succ]
    refine wkS_take (some 46) (.agg #[.bool b2, .slice C1 C2 C3, .slice C1' C2' C3']) (by kernel_rfl) (by kernel_rfl) (by kernel_rfl) (fun w hS => exec_load3 12 (hF2.below hS) (by kernel_rfl) (by kernel_rfl)) ?_
    simp only [put_lit, put_non, List.set_cons_zero, List.set_cons_succ]
    refine wkS_call (some 45) 17 #[.agg #[.bool neg, .slice X1 X2 X3, .slice Y1 Y2 Y3]] (by kernel_rfl) (by kernel_rfl) (by kernel_rfl) (fun w => by kernel_rfl) ?_
    refine (normf_v (hfb.below hK) (by omega) (by omega)).mono ?_
    rintro e u2 ⟨r1, rfl, hr1, hB⟩
    refine ⟨r1, rfl, below_then hK hB, ?_⟩
    have hK := below_then hK hB
    clear hB
    simp only [put_lit, put_non, List.set_cons_zero, List.set_cons_succ]
    refine wkS_call (some 47) 8 #[r1, .agg #[.bool b2, .slice C1 C2 C3, .slice C1' C2' C3']] (by kernel_rfl) (by kernel_rfl) (by kernel_rfl) (fun w => by kernel_rfl) ?_
    refine (same_ft hr1 (hc.below hK) (rfl)).mono ?_
    rintro e u3 ⟨rfl, hB⟩
    refine ⟨_, rfl, below_then hK hB, ?_⟩
    have hK := below_then hK hB
    have hr1 := hr1.below hB
    clear hB
    simp only [put_lit, put_non, List.set_cons_zero, List.set_cons_succ]
    refine wkS_take (some 48) (.bool true) (by kernel_rfl) (by kernel_rfl) (by kernel_rfl) (fun w hS => by kernel_rfl) ?_
    simp only [put_lit, put_non, List.set_cons_zero, List.set_cons_succ]
    refine wkS_take (some 49) (.bool true) (by kernel_rfl) (by kernel_rfl) (by kernel_rfl) (fun w hS => by kernel_rfl) ?_
    simp only [put_lit, put_non, List.set_cons_zero, List.set_cons_succ]
    refine wkS_take (some 50) (.agg #[.bool b2, .slice C1 C2 C3, .slice C1' C2' C3']) (by kernel_rfl) (by kernel_rfl) (by kernel_rfl) (fun w hS => exec_load3 12 (hF2.below hS) (by kernel_rfl) (by kernel_rfl)) ?_
    simp only [put_lit, put_non, List.set_cons_zero, List.set_cons_succ]
    refine wkS_take (some 52) (.agg #[.bool b2, .slice C1 C2 C3, .slice C1' C2' C3']) (by kernel_rfl) (by kernel_rfl) (by kernel_rfl) (fun w hS => exec_load3 12 (hF2.below hS) (by kernel_rfl) (by kernel_rfl)) ?_
    simp only [put_lit, put_non, List.set_cons_zero, List.set_cons_succ]
    clear hr1
    refine wkS_call (some 51) 17 #[.agg #[.bool b2, .slice C1 C2 C3, .slice C1' C2' C3']] (by kernel_rfl) (by kernel_rfl) (by kernel_rfl) (fun w => by kernel_rfl) ?_
    refine (normf_v (hc.below hK).fracV (by omega) (by omega)).mono ?_
    rintro e u4 ⟨r1, rfl, hr1, hB⟩
    refine ⟨r1, rfl, below_then hK hB, ?_⟩
    have hK := below_then hK hB
    clear hB
    simp only [put_lit, put_non, List.set_cons_zero, List.set_cons_succ]
    refine wkS_call (some 53) 8 #[r1, .agg #[.bool b2, .slice C1 C2 C3, .slice C1' C2' C3']] (by kernel_rfl) (by kernel_rfl) (by kernel_rfl) (fun w => by kernel_rfl) ?_
    refine (same_ft hr1 (hc.below hK) (rfl)).mono ?_
    rintro e u5 ⟨rfl, hB⟩
    refine ⟨_, rfl, below_then hK hB, ?_⟩
    have hK := below_then hK hB
    have hr1 := hr1.below hB
    clear hB
    simp only [put_lit, put_non, List.set_cons_zero, List.set_cons_succ]
    refine wkS_take (some 54) (.bool true) (by kernel_rfl) (by kernel_rfl) (by kernel_rfl) (fun w hS => by kernel_rfl) ?_
    simp only [put_lit, put_non, List.set_cons_zero, List.set_cons_succ]
    refine wkS_take (some 55) (.bool true) (by kernel_rfl) (by kernel_rfl) (by kernel_rfl) (fun w hS => by kernel_rfl) ?_
    simp only [put_lit, put_non, List.set_cons_zero, List.set_cons_succ]
    refine wkS_take (some 56) (.agg #[.bool neg, .slice B1 i1 j1, .slice B2 i2 j2]) (by kernel_rfl) (by kernel_rfl) (by kernel_rfl) (fun w hS => exec_load3 9 (hF0.below hS) (by kernel_rfl) (by kernel_rfl)) ?_
    simp only [put_lit, put_non, List.set_cons_zero, List.set_cons_succ]
    refine wkS_take (some 57) (.agg #[.bool neg, .slice X1 X2 X3, .slice Y1 Y2 Y3]) (by kernel_rfl) (by kernel_rfl) (by kernel_rfl) (fun w hS => exec_load3 11 (hF1.below hS) (by kernel_rfl) (by kernel_rfl)) ?_
    simp only [put_lit, put_non, List.set_cons_zero, List.set_cons_succ]
    clear hr1
    refine wkS_call (some 58) 19 #[.agg #[.bool neg, .slice B1 i1 j1, .slice B2 i2 j2], .agg #[.bool neg, .slice X1 X2 X3, .slice Y1 Y2 Y3]] (by kernel_rfl) (by kernel_rfl) (by kernel_rfl) (fun w => by kernel_rfl) ?_
    refine (mulf_v (hfa.below hK) (hfb.below hK) (by omega) (by omega) (by omega)).mono ?_
    rintro e u6 ⟨r1, rfl, hr1, hB⟩
    refine ⟨r1, rfl, below_then hK hB, ?_⟩
    have hK := below_then hK hB
    clear hB
    simp only [put_lit, put_non, List.set_cons_zero, List.set_cons_succ]
    refine wkS_call (some 59) 18 #[r1] (by kernel_rfl) (by kernel_rfl) (by kernel_rfl) (fun w => by kernel_rfl) ?_
    refine (isCanon_is hr1 (by omega)).mono ?_
    rintro e u7 ⟨rfl, hB⟩
    refine ⟨_, rfl, below_then hK hB, ?_⟩
    have hK := below_then hK hB
    have hr1 := hr1.below hB
    clear hB
    simp only [put_lit, put_non, List.set_cons_zero, List.set_cons_succ]
    refine wkS_take (some 60) (.bool true) (by kernel_rfl) (by kernel_rfl) (by kernel_rfl) (fun w hS => by kernel_rfl) ?_
    simp only [put_lit, put_non, List.set_cons_zero, List.set_cons_succ]
    refine wkS_take (some 61) (.bool true) (by kernel_rfl) (by kernel_rfl) (by kernel_rfl) (fun w hS => by kernel_rfl) ?_
    simp only [put_lit, put_non, List.set_cons_zero, List.set_cons_succ]
    refine wkS_take (some 62) (.agg #[.bool neg, .slice B1 i1 j1, .slice B2 i2 j2]) (by kernel_rfl) (by kernel_rfl) (by kernel_rfl) (fun w hS => exec_load3 9 (hF0.below hS) (by kernel_rfl) (by kernel_rfl)) ?_
    simp only [put_lit, put_non, List.set_cons_zero, List.set_cons_succ]
    refine wkS_take (some 63) (.agg #[.bool neg, .slice X1 X2 X3, .slice Y1 Y2 Y3]) (by kernel_rfl) (by kernel_rfl) (by kernel_rfl) (fun w hS => exec_load3 11 (hF1.below hS) (by kernel_rfl) (by kernel_rfl)) ?_
    simp only [put_lit, put_non, List.set_cons_zero, List.set_cons_succ]
    clear hr1
    refine wkS_call (some 64) 20 #[.agg #[.bool neg, .slice B1 i1 j1, .slice B2 i2 j2], .agg #[.bool neg, .slice X1 X2 X3, .slice Y1 Y2 Y3]] (by kernel_rfl) (by kernel_rfl) (by kernel_rfl) (fun w => by kernel_rfl) ?_
    refine (subf_v (hfa.below hK) (hfb.below hK) (by omega) (by omega) (by omega) (by omega)).mono ?_
    rintro e u8 ⟨r1, rfl, hr1, hB⟩
    refine ⟨r1, rfl, below_then hK hB, ?_⟩
    have hK := below_then hK hB
    clear hB
    simp only [put_lit, put_non, List.set_cons_zero, List.set_cons_succ]
    refine wkS_call (some 65) 18 #[r1] (by kernel_rfl) (by kernel_rfl) (by kernel_rfl) (fun w => by kernel_rfl) ?_
    refine (isCanon_is hr1 (by omega)).mono ?_
    rintro e u9 ⟨rfl, hB⟩
    refine ⟨_, rfl, below_then hK hB, ?_⟩
    have hK := below_then hK hB
    have hr1 := hr1.below hB
    clear hB
    simp only [put_lit, put_non, List.set_cons_zero, List.set_cons_succ]
    refine wkS_take (some 66) (.bool true) (by kernel_rfl) (by kernel_rfl) (by kernel_rfl) (fun w hS => by kernel_rfl) ?_
    simp only [put_lit, put_non, List.set_cons_zero, List.set_cons_succ]
    refine wkS_take (some 67) (.bool true) (by kernel_rfl) (by kernel_rfl) (by kernel_rfl) (fun w hS => by kernel_rfl) ?_
    simp only [put_lit, put_non, List.set_cons_zero, List.set_cons_succ]
    refine wkS_take (some 68) (.agg #[.bool neg, .slice B1 i1 j1, .slice B2 i2 j2]) (by kernel_rfl) (by kernel_rfl) (by kernel_rfl) (fun w hS => exec_load3 9 (hF0.below hS) (by kernel_rfl) (by kernel_rfl)) ?_
    simp only [put_lit, put_non, List.set_cons_zero, List.set_cons_succ]
    refine wkS_take (some 69) (.agg #[.bool neg, .slice X1 X2 X3, .slice Y1 Y2 Y3]) (by kernel_rfl) (by kernel_rfl) (by kernel_rfl) (fun w hS => exec_load3 11 (hF1.below hS) (by kernel_rfl) (by kernel_rfl)) ?_
    simp only [put_lit, put_non, List.set_cons_zero, List.set_cons_succ]
    clear hr1
    refine wkS_call (some 70) 20 #[.agg #[.bool neg, .slice B1 i1 j1, .slice B2 i2 j2], .agg #[.bool neg, .slice X1 X2 X3, .slice Y1 Y2 Y3]] (by kernel_rfl) (by kernel_rfl) (by kernel_rfl) (fun w => by kernel_rfl) ?_
    refine (subf_v (hfa.below hK) (hfb.below hK) (by omega) (by omega) (by omega) (by omega)).mono ?_
    rintro e u10 ⟨r1, rfl, hr1, hB⟩
    refine ⟨r1, rfl, below_then hK hB, ?_⟩
    have hK := below_then hK hB
    clear hB
    simp only [put_lit, put_non, List.set_cons_zero, List.set_cons_succ]
    refine wkS_call (some 71) 21 #[r1] (by kernel_rfl) (by kernel_rfl) (by kernel_rfl) (fun w => by kernel_rfl) ?_
    refine (sign_is hr1.fracV (by omega) (by rw [Rat.sub_self])).mono ?_
    rintro e u11 ⟨rfl, hB⟩
    refine ⟨_, rfl, below_then hK hB, ?_⟩
    have hK := below_then hK hB
    have hr1 := hr1.below hB
    clear hB
    simp only [put_lit, put_non, List.set_cons_zero, List.set_cons_succ]
    refine wkS_take (some 72) (.bool true) (by kernel_rfl) (by kernel_rfl) (by kernel_rfl) (fun w hS => by kernel_rfl) ?_
    simp only [put_lit, put_non, List.set_cons_zero, List.set_cons_succ]
    refine wkS_take (some 73) (.bool true) (by kernel_rfl) (by kernel_rfl) (by kernel_rfl) (fun w hS => by kernel_rfl) ?_
    simp only [put_lit, put_non, List.set_cons_zero, List.set_cons_succ]
    refine wkS_take (some 74) (.bool true) (by kernel_rfl) (by kernel_rfl) (by kernel_rfl) (fun w hS => by kernel_rfl) ?_
    simp only [put_lit, put_non, List.set_cons_zero, List.set_cons_succ]
    refine wkS_take (some 75) (.pointer (some ⟨g2, 2, none⟩)) (by kernel_rfl) (by kernel_rfl) (by kernel_rfl) (fun w hS => by kernel_rfl) ?_
    simp only [put_lit, put_non, List.set_cons_zero, List.set_cons_succ]
    refine wkS_take (some 76) (.slice C1' C2' C3') (by kernel_rfl) (by kernel_rfl) (by kernel_rfl) (fun w hS => exec_part 23 75 (hF2.below hS).cells.2.2 (by kernel_rfl) (by kernel_rfl) (by kernel_rfl)) ?_
    simp only [put_lit, put_non, List.set_cons_zero, List.set_cons_succ]
    clear hr1
    refine wkS_do (some 77) (.int .i64 (C2' : Int)) (by kernel_rfl) (by kernel_rfl) (by kernel_rfl) (by kernel_rfl) hK ?_
    simp only [put_lit, put_non, List.set_cons_zero, List.set_cons_succ]
    refine wkS_take (some 78) (.bool true) (by kernel_rfl) (by kernel_rfl) (by kernel_rfl) (fun w hS => Eq.trans (b := Result.ok (Next.value (.bool (decide ((0 : Int) < (C2' : Int))))) w) (by kernel_rfl) (by rw [hpos])) ?_
    simp only [put_lit, put_non, List.set_cons_zero, List.set_cons_succ]
    refine wkS_take (some 79) (.bool true) (by kernel_rfl) (by kernel_rfl) (by kernel_rfl) (fun w hS => by kernel_rfl) ?_
    simp only [put_lit, put_non, List.set_cons_zero, List.set_cons_succ]
    refine wkS_take (some 80) (.bool true) (by kernel_rfl) (by kernel_rfl) (by kernel_rfl) (fun w hS => by kernel_rfl) ?_
    simp only [put_lit, put_non, List.set_cons_zero, List.set_cons_succ]
    refine wkS_call (some 81) 9 #[] (by kernel_rfl) (by kernel_rfl) (by kernel_rfl) (fun w => by kernel_rfl) ?_
    refine (known2_v _ (hM.below (below_then HB hK))).mono ?_
    rintro e u12 ⟨rfl, hB⟩
    refine ⟨_, rfl, below_then hK hB, ?_⟩
    have hK := below_then hK hB
    clear hB
    simp only [put_lit, put_non, List.set_cons_zero, List.set_cons_succ]
    refine wkS_take (some 82) (.bool true) (by kernel_rfl) (by kernel_rfl) (by kernel_rfl) (fun w hS => by kernel_rfl) ?_
    simp only [put_lit, put_non, List.set_cons_zero, List.set_cons_succ]
    refine wkS_take (some 8) (.bool true) (by kernel_rfl) (by kernel_rfl) (by kernel_rfl) (fun w hS => by kernel_rfl) ?_
    simp only [put_lit, put_non, List.set_cons_zero, List.set_cons_succ]
    refine wkS_done ?_
    go_wp2_with fail
    go_ret
    exact ⟨rfl, below_then HB hK⟩
theorem canonical_walk (w : World) (v1 v2 : Value) (l1 l2 : List Nat) {neg : Bool} {k : Int} (n1 : Num w v1 l1) (n2 : Num w v2 l2) (hk : (Lit.int .u32 k).wf = true) (hM : MaxL w) :
    Calls Tryd.prog 5 #[.bool neg, v1, v2, .int .u32 k] w (RVal w (.bool true)) := by
  by_cases h : l1.length ≤ 4 ∧ l2.length ≤ 4
  · have h3 := wf_digit hk
    obtain ⟨k', rfl⟩ : ∃ k' : Nat, k = (k' : Int) := ⟨k.toNat, by omega⟩
    exact canonical_short w v1 v2 l1 l2 n1 n2 h.1 h.2 (by omega) hM
  · exact canonical_long w v1 v2 l1 l2 n1 n2 (by omega)
end Go.Proofs.YtgjhgpfjeoeojaaDoor

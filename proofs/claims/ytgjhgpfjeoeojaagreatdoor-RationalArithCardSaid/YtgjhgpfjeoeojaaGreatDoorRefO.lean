/- The contracts of the reference functions FracDiv, FracSub, FracSign, FracCmp, FracComplement, FracIsCanonical. -/
import Derived.Test.YtgjhgpfjeoeojaaGreatDoorRefkn
import Derived.Test.YtgjhgpfjeoeojaaGreatDoorRatF
import Derived.Test.YtgjhgpfjeoeojaaGreatDoorRefL
namespace Go.Proofs.YtgjhgpfjeoeojaaGreatDoor
set_option linter.unusedSimpArgs false
open Go.RowKit Dig
set_option linter.unusedVariables false

theorem canF_len0 {w : World} {b : Bool} {A A' : Option Addr} {m c m' c' k : Nat} {q : Rat} (h : CanF w (.agg #[.bool b, .slice A m c, .slice A' m' c']) q k) : m = 0 ↔ q = 0 := by
  obtain ⟨vn, vd, e, h1, h2⟩ := h
  simp only [Value.agg.injEq, Array.mk.injEq, List.cons.injEq, and_true] at e
  obtain ⟨_, rfl, _⟩ := e
  obtain ⟨B, d, e⟩ := h1.1.form
  cases e
  rw [List.length_eq_zero_iff, dg_nil_iff, Int.natAbs_eq_zero, Rat.num_eq_zero]
section
variable {w : World} {va vb : Value} {p q : Rat} {k l : Nat}
/-- As Ready, and the second numerator is empty just where the fraction is 0. -/
def ReadyD (w w' : World) (p q : Rat) (k l g0 g1 g2 : Nat) : Prop :=
  ∃ na A m c A' m' c' n d nb B i j B' i' j' s t, Fcl w' g0 na (.slice A m c) (.slice A' m' c') ∧ Fcl w' g1 nb (.slice B i j) (.slice B' i' j') ∧ Fcl w' g2 false (.slice none 0 0) (.slice none 0 0) ∧
    NumV w' (.slice A m c) n k ∧ NumV w' (.slice A' m' c') d k ∧ d ≠ 0 ∧ fr na n d = p ∧ NumV w' (.slice B i j) s l ∧ NumV w' (.slice B' i' j') t l ∧ t ≠ 0 ∧ fr nb s t = q ∧ Below w.heap.size w w' ∧ (i = 0 ↔ q = 0)
set_option maxRecDepth 20000 in
set_option maxHeartbeats 16000000 in
theorem fracDiv0_v (ha : FracV w va p k) (hb : FracV w vb q l) (hk : k ≤ 100000) (hl : l ≤ 100000) (h1 : 2 ≤ k) (h2 : 2 ≤ l) (h0 : q = 0) : Calls Tryz.prog 10 #[va, vb] w (RErr w 20) := by
  have D1 := Lib.hid (fun w1 hB => fracNorm_v (w := w1) (ha.below hB) (by omega) h1)
  have D2 := Lib.hid (fun w1 hB => fracNorm_v (w := w1) (hb.below hB) (by omega) h2)
  obtain ⟨na, A, m, c, A', m', c', n, d, rfl, hn, hd, hp⟩ := ha.parts
  obtain ⟨nb, B, i, j, B', i', j', s, t, rfl, hs, ht, hq⟩ := hb.parts
  obtain ⟨w2, g0, g1, g2, ew, eg0, eg1, eg2, hB0, hF0, hF1, hF2⟩ := three_boxes w na nb (.slice A m c) (.slice A' m' c') (.slice B i j) (.slice B' i' j')
  have HG := Lib.hid (show w.heap.size ≤ g2 by omega)
  clear hn hd hs ht hp hq ha hb
  go_enter Tryz.func10, Tryz.ntmps10
  go_wp2_with fail
  go_cut [6, 7] from 8 (fun s5 s6 w' => ∃ g5 g6, s5 = .pointer (some ⟨g5, 0, none⟩) ∧ s6 = .pointer (some ⟨g6, 0, none⟩) ∧ g5 ≠ g2 ∧ g6 ≠ g2 ∧ ReadyD w w' p q k l g5 g6 g2)
  case first =>
    refine hk_begin (S := fun w' => Below w2.heap.size w2 w') 8 (by kernel_rfl) (by kernel_rfl) ?_
    have hK : Below w2.heap.size w2 w2.drew := (Below.refl w2.heap.size w2).drew
    refine hk_take (i := 0) (some 8) (.agg #[.bool na, .slice A m c, .slice A' m' c']) (by kernel_rfl) (by kernel_rfl) (by kernel_rfl) (by kernel_rfl) (by kernel_rfl) (by kernel_rfl) (fun w hS => exec_load3 2 (hF0.below hS) (by kernel_rfl) (by kernel_rfl)) (fun _ _ d _ _ h => by cases d <;> exact h) hK ?_
    simp only [put_lit, put_non, List.set_cons_zero, List.set_cons_succ]
    refine hk_take (i := 2) (some 10) (.agg #[.bool nb, .slice B i j, .slice B' i' j']) (by kernel_rfl) (by kernel_rfl) (by kernel_rfl) (by kernel_rfl) (by kernel_rfl) (by kernel_rfl) (fun w hS => exec_load3 3 (hF1.below hS) (by kernel_rfl) (by kernel_rfl)) (fun _ _ d _ _ h => by cases d <;> exact h) hK ?_
    simp only [put_lit, put_non, List.set_cons_zero, List.set_cons_succ]
    refine hk_three (i := 1) (j := 4) (k := 5) (by kernel_rfl) ?_ ?_ ?_
    · skip
      refine op_call (some 9) 13 #[.agg #[.bool na, .slice A m c, .slice A' m' c']] (by kernel_rfl) (by kernel_rfl) (by kernel_rfl) (fun w => by kernel_rfl) ?_
      refine (D1.out w2.drew (below_then hB0 hK)).mono ?_
      rintro e wz1 ⟨ux, rfl, hux, hB⟩
      refine ⟨_, rfl, below_then hK hB, ?_⟩
      have hK := below_then hK hB
      clear hB
      obtain ⟨xa, X, x1, x2, X', x1', x2', n, d, rfl, hx1, hx2, hx3, hx4⟩ := hux.fracP
      simp only [put_lit, put_non, List.set_cons_zero, List.set_cons_succ]
      refine hk_three (i := 3) (j := 4) (k := 5) (by kernel_rfl) ?_ ?_ ?_
      · skip
        refine op_call (some 11) 13 #[.agg #[.bool nb, .slice B i j, .slice B' i' j']] (by kernel_rfl) (by kernel_rfl) (by kernel_rfl) (fun w => by kernel_rfl) ?_
        refine (D2.out wz1 (below_then hB0 hK)).mono ?_
        rintro e wz2 ⟨uy, rfl, huy, hB⟩
        refine ⟨_, rfl, below_then hK hB, ?_⟩
        have hK := below_then hK hB
        have hx1 := hx1.below hB
        have hx2 := hx2.below hB
        clear hB
        obtain ⟨ya, Y, y1, y2, Y', y1', y2', s, t, rfl, hy1, hy2, hy3, hy4⟩ := huy.fracP
        have hyz := canF_len0 huy
        simp only [put_lit, put_non, List.set_cons_zero, List.set_cons_succ]
        refine hk_two (i := 4) (j := 5) (by kernel_rfl) ?_ ?_
        · skip
          obtain ⟨wz3, g5, ewg5, egg5, hB, hFg5⟩ := var1 wz2 false (.slice none 0 0) (.slice none 0 0)
          refine op_do (some 6) (.pointer (some ⟨g5, 0, none⟩)) wz3 (by kernel_rfl) (by kernel_rfl) (by kernel_rfl) (by rw [← ewg5, ← egg5]; exact exec_new3 (by kernel_rfl)) ?_
          refine ⟨below_then hK hB, ?_⟩
          have ltg5 := hK.size
          have hK := below_then hK hB
          have hx1 := hx1.below hB
          have hx2 := hx2.below hB
          have hy1 := hy1.below hB
          have hy2 := hy2.below hB
          clear hB
          simp only [put_lit, put_non, List.set_cons_zero, List.set_cons_succ]
          refine hk_one (i := 5) (by kernel_rfl) ?_
          have lhFg5g6 := hFg5.lt
          obtain ⟨wz4, g6, ewg6, egg6, hB, hFg6⟩ := var1 wz3 false (.slice none 0 0) (.slice none 0 0)
          refine op_do (some 7) (.pointer (some ⟨g6, 0, none⟩)) wz4 (by kernel_rfl) (by kernel_rfl) (by kernel_rfl) (by rw [← ewg6, ← egg6]; exact exec_new3 (by kernel_rfl)) ?_
          refine ⟨below_then hK hB, ?_⟩
          have ltg6 := hK.size
          have hK := below_then hK hB
          have hx1 := hx1.below hB
          have hx2 := hx2.below hB
          have hy1 := hy1.below hB
          have hy2 := hy2.below hB
          have hFg5 := hFg5.below hB
          clear hB
          simp only [put_lit, put_non, List.set_cons_zero, List.set_cons_succ]
          refine hk_one (i := 6) (by kernel_rfl) ?_
          refine op_skip none (stor3 wz4 g5 (.bool xa) (.slice X x1 x2) (.slice X' x1' x2')) (by kernel_rfl) (by kernel_rfl) (by kernel_rfl) (exec_store3 6 9 hFg5 (by kernel_rfl) (by kernel_rfl) (by kernel_rfl)) ?_
          have hB := below_put3 (g := g5) hK (by omega) (.bool xa) (.slice X x1 x2) (.slice X' x1' x2')
          refine ⟨hB, ?_⟩
          have hK := hB
          have hx1 := hx1.put3 hFg5 (.bool xa) (.slice X x1 x2) (.slice X' x1' x2')
          have hx2 := hx2.put3 hFg5 (.bool xa) (.slice X x1 x2) (.slice X' x1' x2')
          have hy1 := hy1.put3 hFg5 (.bool xa) (.slice X x1 x2) (.slice X' x1' x2')
          have hy2 := hy2.put3 hFg5 (.bool xa) (.slice X x1 x2) (.slice X' x1' x2')
          have hFg6 := hFg6.far (g2 := g5) (by omega) (.bool xa) (.slice X x1 x2) (.slice X' x1' x2')
          have hFg5 := hFg5.put3 xa (.slice X x1 x2) (.slice X' x1' x2')
          simp only [put_lit, put_non, List.set_cons_zero, List.set_cons_succ]
          refine hk_one (i := 7) (by kernel_rfl) ?_
          refine op_skip none (stor3 (stor3 wz4 g5 (.bool xa) (.slice X x1 x2) (.slice X' x1' x2')) g6 (.bool ya) (.slice Y y1 y2) (.slice Y' y1' y2')) (by kernel_rfl) (by kernel_rfl) (by kernel_rfl) (exec_store3 7 11 hFg6 (by kernel_rfl) (by kernel_rfl) (by kernel_rfl)) ?_
          have hB := below_put3 (g := g6) hK (by omega) (.bool ya) (.slice Y y1 y2) (.slice Y' y1' y2')
          refine ⟨hB, ?_⟩
          have hK := hB
          have hx1 := hx1.put3 hFg6 (.bool ya) (.slice Y y1 y2) (.slice Y' y1' y2')
          have hx2 := hx2.put3 hFg6 (.bool ya) (.slice Y y1 y2) (.slice Y' y1' y2')
          have hy1 := hy1.put3 hFg6 (.bool ya) (.slice Y y1 y2) (.slice Y' y1' y2')
          have hy2 := hy2.put3 hFg6 (.bool ya) (.slice Y y1 y2) (.slice Y' y1' y2')
          have hFg5 := hFg5.far (g2 := g6) (by omega) (.bool ya) (.slice Y y1 y2) (.slice Y' y1' y2')
          have hFg6 := hFg6.put3 ya (.slice Y y1 y2) (.slice Y' y1' y2')
          simp only [put_lit, put_non, List.set_cons_zero, List.set_cons_succ]
          refine hk_done (by kernel_rfl) ?_
          have hl2 := hF2.lt
          go_wp2_with fail
          go_meet
          case rel => exact ⟨g5, g6, rfl, rfl, by omega, by omega, xa, X, x1, x2, X', x1', x2', n, d, ya, Y, y1, y2, Y', y1', y2', s, t, hFg5, hFg6, hF2.below hK, hx1, hx2, hx3, hx4, hy1, hy2, hy3, hy4, below_then hB0 hK, hyz⟩
        · skip
          obtain ⟨wz3, g6, ewg6, egg6, hB, hFg6⟩ := var1 wz2 false (.slice none 0 0) (.slice none 0 0)
          refine op_do (some 7) (.pointer (some ⟨g6, 0, none⟩)) wz3 (by kernel_rfl) (by kernel_rfl) (by kernel_rfl) (by rw [← ewg6, ← egg6]; exact exec_new3 (by kernel_rfl)) ?_
          refine ⟨below_then hK hB, ?_⟩
          have ltg6 := hK.size
          have hK := below_then hK hB
          have hx1 := hx1.below hB
          have hx2 := hx2.below hB
          have hy1 := hy1.below hB
          have hy2 := hy2.below hB
          clear hB
          simp only [put_lit, put_non, List.set_cons_zero, List.set_cons_succ]
          refine hk_one (i := 4) (by kernel_rfl) ?_
          have lhFg6g5 := hFg6.lt
          obtain ⟨wz4, g5, ewg5, egg5, hB, hFg5⟩ := var1 wz3 false (.slice none 0 0) (.slice none 0 0)
          refine op_do (some 6) (.pointer (some ⟨g5, 0, none⟩)) wz4 (by kernel_rfl) (by kernel_rfl) (by kernel_rfl) (by rw [← ewg5, ← egg5]; exact exec_new3 (by kernel_rfl)) ?_
          refine ⟨below_then hK hB, ?_⟩
          have ltg5 := hK.size
          have hK := below_then hK hB
          have hx1 := hx1.below hB
          have hx2 := hx2.below hB
          have hy1 := hy1.below hB
          have hy2 := hy2.below hB
          have hFg6 := hFg6.below hB
          clear hB
          simp only [put_lit, put_non, List.set_cons_zero, List.set_cons_succ]
          refine hk_one (i := 6) (by kernel_rfl) ?_
          refine op_skip none (stor3 wz4 g5 (.bool xa) (.slice X x1 x2) (.slice X' x1' x2')) (by kernel_rfl) (by kernel_rfl) (by kernel_rfl) (exec_store3 6 9 hFg5 (by kernel_rfl) (by kernel_rfl) (by kernel_rfl)) ?_
          have hB := below_put3 (g := g5) hK (by omega) (.bool xa) (.slice X x1 x2) (.slice X' x1' x2')
          refine ⟨hB, ?_⟩
          have hK := hB
          have hx1 := hx1.put3 hFg5 (.bool xa) (.slice X x1 x2) (.slice X' x1' x2')
          have hx2 := hx2.put3 hFg5 (.bool xa) (.slice X x1 x2) (.slice X' x1' x2')
          have hy1 := hy1.put3 hFg5 (.bool xa) (.slice X x1 x2) (.slice X' x1' x2')
          have hy2 := hy2.put3 hFg5 (.bool xa) (.slice X x1 x2) (.slice X' x1' x2')
          have hFg6 := hFg6.far (g2 := g5) (by omega) (.bool xa) (.slice X x1 x2) (.slice X' x1' x2')
          have hFg5 := hFg5.put3 xa (.slice X x1 x2) (.slice X' x1' x2')
          simp only [put_lit, put_non, List.set_cons_zero, List.set_cons_succ]
          refine hk_one (i := 7) (by kernel_rfl) ?_
          refine op_skip none (stor3 (stor3 wz4 g5 (.bool xa) (.slice X x1 x2) (.slice X' x1' x2')) g6 (.bool ya) (.slice Y y1 y2) (.slice Y' y1' y2')) (by kernel_rfl) (by kernel_rfl) (by kernel_rfl) (exec_store3 7 11 hFg6 (by kernel_rfl) (by kernel_rfl) (by kernel_rfl)) ?_
          have hB := below_put3 (g := g6) hK (by omega) (.bool ya) (.slice Y y1 y2) (.slice Y' y1' y2')
          refine ⟨hB, ?_⟩
          have hK := hB
          have hx1 := hx1.put3 hFg6 (.bool ya) (.slice Y y1 y2) (.slice Y' y1' y2')
          have hx2 := hx2.put3 hFg6 (.bool ya) (.slice Y y1 y2) (.slice Y' y1' y2')
          have hy1 := hy1.put3 hFg6 (.bool ya) (.slice Y y1 y2) (.slice Y' y1' y2')
          have hy2 := hy2.put3 hFg6 (.bool ya) (.slice Y y1 y2) (.slice Y' y1' y2')
          have hFg5 := hFg5.far (g2 := g6) (by omega) (.bool ya) (.slice Y y1 y2) (.slice Y' y1' y2')
          have hFg6 := hFg6.put3 ya (.slice Y y1 y2) (.slice Y' y1' y2')
          simp only [put_lit, put_non, List.set_cons_zero, List.set_cons_succ]
          refine hk_done (by kernel_rfl) ?_
          have hl2 := hF2.lt
          go_wp2_with fail
          go_meet
          case rel => exact ⟨g5, g6, rfl, rfl, by omega, by omega, xa, X, x1, x2, X', x1', x2', n, d, ya, Y, y1, y2, Y', y1', y2', s, t, hFg5, hFg6, hF2.below hK, hx1, hx2, hx3, hx4, hy1, hy2, hy3, hy4, below_then hB0 hK, hyz⟩
      · skip
        obtain ⟨wz2, g5, ewg5, egg5, hB, hFg5⟩ := var1 wz1 false (.slice none 0 0) (.slice none 0 0)
        refine op_do (some 6) (.pointer (some ⟨g5, 0, none⟩)) wz2 (by kernel_rfl) (by kernel_rfl) (by kernel_rfl) (by rw [← ewg5, ← egg5]; exact exec_new3 (by kernel_rfl)) ?_
        refine ⟨below_then hK hB, ?_⟩
        have ltg5 := hK.size
        have hK := below_then hK hB
        have hx1 := hx1.below hB
        have hx2 := hx2.below hB
        clear hB
        simp only [put_lit, put_non, List.set_cons_zero, List.set_cons_succ]
        refine hk_two (i := 3) (j := 5) (by kernel_rfl) ?_ ?_
        · skip
          refine op_call (some 11) 13 #[.agg #[.bool nb, .slice B i j, .slice B' i' j']] (by kernel_rfl) (by kernel_rfl) (by kernel_rfl) (fun w => by kernel_rfl) ?_
          refine (D2.out wz2 (below_then hB0 hK)).mono ?_
          rintro e wz3 ⟨uy, rfl, huy, hB⟩
          refine ⟨_, rfl, below_then hK hB, ?_⟩
          have hK := below_then hK hB
          have hx1 := hx1.below hB
          have hx2 := hx2.below hB
          have hFg5 := hFg5.below hB
          clear hB
          obtain ⟨ya, Y, y1, y2, Y', y1', y2', s, t, rfl, hy1, hy2, hy3, hy4⟩ := huy.fracP
          have hyz := canF_len0 huy
          simp only [put_lit, put_non, List.set_cons_zero, List.set_cons_succ]
          refine hk_one (i := 5) (by kernel_rfl) ?_
          have lhFg5g6 := hFg5.lt
          obtain ⟨wz4, g6, ewg6, egg6, hB, hFg6⟩ := var1 wz3 false (.slice none 0 0) (.slice none 0 0)
          refine op_do (some 7) (.pointer (some ⟨g6, 0, none⟩)) wz4 (by kernel_rfl) (by kernel_rfl) (by kernel_rfl) (by rw [← ewg6, ← egg6]; exact exec_new3 (by kernel_rfl)) ?_
          refine ⟨below_then hK hB, ?_⟩
          have ltg6 := hK.size
          have hK := below_then hK hB
          have hx1 := hx1.below hB
          have hx2 := hx2.below hB
          have hFg5 := hFg5.below hB
          have hy1 := hy1.below hB
          have hy2 := hy2.below hB
          clear hB
          simp only [put_lit, put_non, List.set_cons_zero, List.set_cons_succ]
          refine hk_one (i := 6) (by kernel_rfl) ?_
          refine op_skip none (stor3 wz4 g5 (.bool xa) (.slice X x1 x2) (.slice X' x1' x2')) (by kernel_rfl) (by kernel_rfl) (by kernel_rfl) (exec_store3 6 9 hFg5 (by kernel_rfl) (by kernel_rfl) (by kernel_rfl)) ?_
          have hB := below_put3 (g := g5) hK (by omega) (.bool xa) (.slice X x1 x2) (.slice X' x1' x2')
          refine ⟨hB, ?_⟩
          have hK := hB
          have hx1 := hx1.put3 hFg5 (.bool xa) (.slice X x1 x2) (.slice X' x1' x2')
          have hx2 := hx2.put3 hFg5 (.bool xa) (.slice X x1 x2) (.slice X' x1' x2')
          have hy1 := hy1.put3 hFg5 (.bool xa) (.slice X x1 x2) (.slice X' x1' x2')
          have hy2 := hy2.put3 hFg5 (.bool xa) (.slice X x1 x2) (.slice X' x1' x2')
          have hFg6 := hFg6.far (g2 := g5) (by omega) (.bool xa) (.slice X x1 x2) (.slice X' x1' x2')
          have hFg5 := hFg5.put3 xa (.slice X x1 x2) (.slice X' x1' x2')
          simp only [put_lit, put_non, List.set_cons_zero, List.set_cons_succ]
          refine hk_one (i := 7) (by kernel_rfl) ?_
          refine op_skip none (stor3 (stor3 wz4 g5 (.bool xa) (.slice X x1 x2) (.slice X' x1' x2')) g6 (.bool ya) (.slice Y y1 y2) (.slice Y' y1' y2')) (by kernel_rfl) (by kernel_rfl) (by kernel_rfl) (exec_store3 7 11 hFg6 (by kernel_rfl) (by kernel_rfl) (by kernel_rfl)) ?_
          have hB := below_put3 (g := g6) hK (by omega) (.bool ya) (.slice Y y1 y2) (.slice Y' y1' y2')
          refine ⟨hB, ?_⟩
          have hK := hB
          have hx1 := hx1.put3 hFg6 (.bool ya) (.slice Y y1 y2) (.slice Y' y1' y2')
          have hx2 := hx2.put3 hFg6 (.bool ya) (.slice Y y1 y2) (.slice Y' y1' y2')
          have hy1 := hy1.put3 hFg6 (.bool ya) (.slice Y y1 y2) (.slice Y' y1' y2')
          have hy2 := hy2.put3 hFg6 (.bool ya) (.slice Y y1 y2) (.slice Y' y1' y2')
          have hFg5 := hFg5.far (g2 := g6) (by omega) (.bool ya) (.slice Y y1 y2) (.slice Y' y1' y2')
          have hFg6 := hFg6.put3 ya (.slice Y y1 y2) (.slice Y' y1' y2')
          simp only [put_lit, put_non, List.set_cons_zero, List.set_cons_succ]
          refine hk_done (by kernel_rfl) ?_
          have hl2 := hF2.lt
          go_wp2_with fail
          go_meet
          case rel => exact ⟨g5, g6, rfl, rfl, by omega, by omega, xa, X, x1, x2, X', x1', x2', n, d, ya, Y, y1, y2, Y', y1', y2', s, t, hFg5, hFg6, hF2.below hK, hx1, hx2, hx3, hx4, hy1, hy2, hy3, hy4, below_then hB0 hK, hyz⟩
        · skip
          have lhFg5g6 := hFg5.lt
          obtain ⟨wz3, g6, ewg6, egg6, hB, hFg6⟩ := var1 wz2 false (.slice none 0 0) (.slice none 0 0)
          refine op_do (some 7) (.pointer (some ⟨g6, 0, none⟩)) wz3 (by kernel_rfl) (by kernel_rfl) (by kernel_rfl) (by rw [← ewg6, ← egg6]; exact exec_new3 (by kernel_rfl)) ?_
          refine ⟨below_then hK hB, ?_⟩
          have ltg6 := hK.size
          have hK := below_then hK hB
          have hx1 := hx1.below hB
          have hx2 := hx2.below hB
          have hFg5 := hFg5.below hB
          clear hB
          simp only [put_lit, put_non, List.set_cons_zero, List.set_cons_succ]
          refine hk_one (i := 3) (by kernel_rfl) ?_
          refine op_call (some 11) 13 #[.agg #[.bool nb, .slice B i j, .slice B' i' j']] (by kernel_rfl) (by kernel_rfl) (by kernel_rfl) (fun w => by kernel_rfl) ?_
          refine (D2.out wz3 (below_then hB0 hK)).mono ?_
          rintro e wz4 ⟨uy, rfl, huy, hB⟩
          refine ⟨_, rfl, below_then hK hB, ?_⟩
          have hK := below_then hK hB
          have hx1 := hx1.below hB
          have hx2 := hx2.below hB
          have hFg5 := hFg5.below hB
          have hFg6 := hFg6.below hB
          clear hB
          obtain ⟨ya, Y, y1, y2, Y', y1', y2', s, t, rfl, hy1, hy2, hy3, hy4⟩ := huy.fracP
          have hyz := canF_len0 huy
          simp only [put_lit, put_non, List.set_cons_zero, List.set_cons_succ]
          refine hk_one (i := 6) (by kernel_rfl) ?_
          refine op_skip none (stor3 wz4 g5 (.bool xa) (.slice X x1 x2) (.slice X' x1' x2')) (by kernel_rfl) (by kernel_rfl) (by kernel_rfl) (exec_store3 6 9 hFg5 (by kernel_rfl) (by kernel_rfl) (by kernel_rfl)) ?_
          have hB := below_put3 (g := g5) hK (by omega) (.bool xa) (.slice X x1 x2) (.slice X' x1' x2')
          refine ⟨hB, ?_⟩
          have hK := hB
          have hx1 := hx1.put3 hFg5 (.bool xa) (.slice X x1 x2) (.slice X' x1' x2')
          have hx2 := hx2.put3 hFg5 (.bool xa) (.slice X x1 x2) (.slice X' x1' x2')
          have hy1 := hy1.put3 hFg5 (.bool xa) (.slice X x1 x2) (.slice X' x1' x2')
          have hy2 := hy2.put3 hFg5 (.bool xa) (.slice X x1 x2) (.slice X' x1' x2')
          have hFg6 := hFg6.far (g2 := g5) (by omega) (.bool xa) (.slice X x1 x2) (.slice X' x1' x2')
          have hFg5 := hFg5.put3 xa (.slice X x1 x2) (.slice X' x1' x2')
          simp only [put_lit, put_non, List.set_cons_zero, List.set_cons_succ]
          refine hk_one (i := 7) (by kernel_rfl) ?_
          refine op_skip none (stor3 (stor3 wz4 g5 (.bool xa) (.slice X x1 x2) (.slice X' x1' x2')) g6 (.bool ya) (.slice Y y1 y2) (.slice Y' y1' y2')) (by kernel_rfl) (by kernel_rfl) (by kernel_rfl) (exec_store3 7 11 hFg6 (by kernel_rfl) (by kernel_rfl) (by kernel_rfl)) ?_
          have hB := below_put3 (g := g6) hK (by omega) (.bool ya) (.slice Y y1 y2) (.slice Y' y1' y2')
          refine ⟨hB, ?_⟩
          have hK := hB
          have hx1 := hx1.put3 hFg6 (.bool ya) (.slice Y y1 y2) (.slice Y' y1' y2')
          have hx2 := hx2.put3 hFg6 (.bool ya) (.slice Y y1 y2) (.slice Y' y1' y2')
          have hy1 := hy1.put3 hFg6 (.bool ya) (.slice Y y1 y2) (.slice Y' y1' y2')
          have hy2 := hy2.put3 hFg6 (.bool ya) (.slice Y y1 y2) (.slice Y' y1' y2')
          have hFg5 := hFg5.far (g2 := g6) (by omega) (.bool ya) (.slice Y y1 y2) (.slice Y' y1' y2')
          have hFg6 := hFg6.put3 ya (.slice Y y1 y2) (.slice Y' y1' y2')
          simp only [put_lit, put_non, List.set_cons_zero, List.set_cons_succ]
          refine hk_done (by kernel_rfl) ?_
          have hl2 := hF2.lt
          go_wp2_with fail
          go_meet
          case rel => exact ⟨g5, g6, rfl, rfl, by omega, by omega, xa, X, x1, x2, X', x1', x2', n, d, ya, Y, y1, y2, Y', y1', y2', s, t, hFg5, hFg6, hF2.below hK, hx1, hx2, hx3, hx4, hy1, hy2, hy3, hy4, below_then hB0 hK, hyz⟩
      · skip
        obtain ⟨wz2, g6, ewg6, egg6, hB, hFg6⟩ := var1 wz1 false (.slice none 0 0) (.slice none 0 0)
        refine op_do (some 7) (.pointer (some ⟨g6, 0, none⟩)) wz2 (by kernel_rfl) (by kernel_rfl) (by kernel_rfl) (by rw [← ewg6, ← egg6]; exact exec_new3 (by kernel_rfl)) ?_
        refine ⟨below_then hK hB, ?_⟩
        have ltg6 := hK.size
        have hK := below_then hK hB
        have hx1 := hx1.below hB
        have hx2 := hx2.below hB
        clear hB
        simp only [put_lit, put_non, List.set_cons_zero, List.set_cons_succ]
        refine hk_two (i := 3) (j := 4) (by kernel_rfl) ?_ ?_
        · skip
          refine op_call (some 11) 13 #[.agg #[.bool nb, .slice B i j, .slice B' i' j']] (by kernel_rfl) (by kernel_rfl) (by kernel_rfl) (fun w => by kernel_rfl) ?_
          refine (D2.out wz2 (below_then hB0 hK)).mono ?_
          rintro e wz3 ⟨uy, rfl, huy, hB⟩
          refine ⟨_, rfl, below_then hK hB, ?_⟩
          have hK := below_then hK hB
          have hx1 := hx1.below hB
          have hx2 := hx2.below hB
          have hFg6 := hFg6.below hB
          clear hB
          obtain ⟨ya, Y, y1, y2, Y', y1', y2', s, t, rfl, hy1, hy2, hy3, hy4⟩ := huy.fracP
          have hyz := canF_len0 huy
          simp only [put_lit, put_non, List.set_cons_zero, List.set_cons_succ]
          refine hk_one (i := 4) (by kernel_rfl) ?_
          have lhFg6g5 := hFg6.lt
          obtain ⟨wz4, g5, ewg5, egg5, hB, hFg5⟩ := var1 wz3 false (.slice none 0 0) (.slice none 0 0)
          refine op_do (some 6) (.pointer (some ⟨g5, 0, none⟩)) wz4 (by kernel_rfl) (by kernel_rfl) (by kernel_rfl) (by rw [← ewg5, ← egg5]; exact exec_new3 (by kernel_rfl)) ?_
          refine ⟨below_then hK hB, ?_⟩
          have ltg5 := hK.size
          have hK := below_then hK hB
          have hx1 := hx1.below hB
          have hx2 := hx2.below hB
          have hFg6 := hFg6.below hB
          have hy1 := hy1.below hB
          have hy2 := hy2.below hB
          clear hB
          simp only [put_lit, put_non, List.set_cons_zero, List.set_cons_succ]
          refine hk_one (i := 6) (by kernel_rfl) ?_
          refine op_skip none (stor3 wz4 g5 (.bool xa) (.slice X x1 x2) (.slice X' x1' x2')) (by kernel_rfl) (by kernel_rfl) (by kernel_rfl) (exec_store3 6 9 hFg5 (by kernel_rfl) (by kernel_rfl) (by kernel_rfl)) ?_
          have hB := below_put3 (g := g5) hK (by omega) (.bool xa) (.slice X x1 x2) (.slice X' x1' x2')
          refine ⟨hB, ?_⟩
          have hK := hB
          have hx1 := hx1.put3 hFg5 (.bool xa) (.slice X x1 x2) (.slice X' x1' x2')
          have hx2 := hx2.put3 hFg5 (.bool xa) (.slice X x1 x2) (.slice X' x1' x2')
          have hy1 := hy1.put3 hFg5 (.bool xa) (.slice X x1 x2) (.slice X' x1' x2')
          have hy2 := hy2.put3 hFg5 (.bool xa) (.slice X x1 x2) (.slice X' x1' x2')
          have hFg6 := hFg6.far (g2 := g5) (by omega) (.bool xa) (.slice X x1 x2) (.slice X' x1' x2')
          have hFg5 := hFg5.put3 xa (.slice X x1 x2) (.slice X' x1' x2')
          simp only [put_lit, put_non, List.set_cons_zero, List.set_cons_succ]
          refine hk_one (i := 7) (by kernel_rfl) ?_
          refine op_skip none (stor3 (stor3 wz4 g5 (.bool xa) (.slice X x1 x2) (.slice X' x1' x2')) g6 (.bool ya) (.slice Y y1 y2) (.slice Y' y1' y2')) (by kernel_rfl) (by kernel_rfl) (by kernel_rfl) (exec_store3 7 11 hFg6 (by kernel_rfl) (by kernel_rfl) (by kernel_rfl)) ?_
          have hB := below_put3 (g := g6) hK (by omega) (.bool ya) (.slice Y y1 y2) (.slice Y' y1' y2')
          refine ⟨hB, ?_⟩
          have hK := hB
          have hx1 := hx1.put3 hFg6 (.bool ya) (.slice Y y1 y2) (.slice Y' y1' y2')
          have hx2 := hx2.put3 hFg6 (.bool ya) (.slice Y y1 y2) (.slice Y' y1' y2')
          have hy1 := hy1.put3 hFg6 (.bool ya) (.slice Y y1 y2) (.slice Y' y1' y2')
          have hy2 := hy2.put3 hFg6 (.bool ya) (.slice Y y1 y2) (.slice Y' y1' y2')
          have hFg5 := hFg5.far (g2 := g6) (by omega) (.bool ya) (.slice Y y1 y2) (.slice Y' y1' y2')
          have hFg6 := hFg6.put3 ya (.slice Y y1 y2) (.slice Y' y1' y2')
          simp only [put_lit, put_non, List.set_cons_zero, List.set_cons_succ]
          refine hk_done (by kernel_rfl) ?_
          have hl2 := hF2.lt
          go_wp2_with fail
          go_meet
          case rel => exact ⟨g5, g6, rfl, rfl, by omega, by omega, xa, X, x1, x2, X', x1', x2', n, d, ya, Y, y1, y2, Y', y1', y2', s, t, hFg5, hFg6, hF2.below hK, hx1, hx2, hx3, hx4, hy1, hy2, hy3, hy4, below_then hB0 hK, hyz⟩
        · skip
          have lhFg6g5 := hFg6.lt
          obtain ⟨wz3, g5, ewg5, egg5, hB, hFg5⟩ := var1 wz2 false (.slice none 0 0) (.slice none 0 0)
          refine op_do (some 6) (.pointer (some ⟨g5, 0, none⟩)) wz3 (by kernel_rfl) (by kernel_rfl) (by kernel_rfl) (by rw [← ewg5, ← egg5]; exact exec_new3 (by kernel_rfl)) ?_
          refine ⟨below_then hK hB, ?_⟩
          have ltg5 := hK.size
          have hK := below_then hK hB
          have hx1 := hx1.below hB
          have hx2 := hx2.below hB
          have hFg6 := hFg6.below hB
          clear hB
          simp only [put_lit, put_non, List.set_cons_zero, List.set_cons_succ]
          refine hk_one (i := 3) (by kernel_rfl) ?_
          refine op_call (some 11) 13 #[.agg #[.bool nb, .slice B i j, .slice B' i' j']] (by kernel_rfl) (by kernel_rfl) (by kernel_rfl) (fun w => by kernel_rfl) ?_
          refine (D2.out wz3 (below_then hB0 hK)).mono ?_
          rintro e wz4 ⟨uy, rfl, huy, hB⟩
          refine ⟨_, rfl, below_then hK hB, ?_⟩
          have hK := below_then hK hB
          have hx1 := hx1.below hB
          have hx2 := hx2.below hB
          have hFg6 := hFg6.below hB
          have hFg5 := hFg5.below hB
          clear hB
          obtain ⟨ya, Y, y1, y2, Y', y1', y2', s, t, rfl, hy1, hy2, hy3, hy4⟩ := huy.fracP
          have hyz := canF_len0 huy
          simp only [put_lit, put_non, List.set_cons_zero, List.set_cons_succ]
          refine hk_one (i := 6) (by kernel_rfl) ?_
          refine op_skip none (stor3 wz4 g5 (.bool xa) (.slice X x1 x2) (.slice X' x1' x2')) (by kernel_rfl) (by kernel_rfl) (by kernel_rfl) (exec_store3 6 9 hFg5 (by kernel_rfl) (by kernel_rfl) (by kernel_rfl)) ?_
          have hB := below_put3 (g := g5) hK (by omega) (.bool xa) (.slice X x1 x2) (.slice X' x1' x2')
          refine ⟨hB, ?_⟩
          have hK := hB
          have hx1 := hx1.put3 hFg5 (.bool xa) (.slice X x1 x2) (.slice X' x1' x2')
          have hx2 := hx2.put3 hFg5 (.bool xa) (.slice X x1 x2) (.slice X' x1' x2')
          have hy1 := hy1.put3 hFg5 (.bool xa) (.slice X x1 x2) (.slice X' x1' x2')
          have hy2 := hy2.put3 hFg5 (.bool xa) (.slice X x1 x2) (.slice X' x1' x2')
          have hFg6 := hFg6.far (g2 := g5) (by omega) (.bool xa) (.slice X x1 x2) (.slice X' x1' x2')
          have hFg5 := hFg5.put3 xa (.slice X x1 x2) (.slice X' x1' x2')
          simp only [put_lit, put_non, List.set_cons_zero, List.set_cons_succ]
          refine hk_one (i := 7) (by kernel_rfl) ?_
          refine op_skip none (stor3 (stor3 wz4 g5 (.bool xa) (.slice X x1 x2) (.slice X' x1' x2')) g6 (.bool ya) (.slice Y y1 y2) (.slice Y' y1' y2')) (by kernel_rfl) (by kernel_rfl) (by kernel_rfl) (exec_store3 7 11 hFg6 (by kernel_rfl) (by kernel_rfl) (by kernel_rfl)) ?_
          have hB := below_put3 (g := g6) hK (by omega) (.bool ya) (.slice Y y1 y2) (.slice Y' y1' y2')
          refine ⟨hB, ?_⟩
          have hK := hB
          have hx1 := hx1.put3 hFg6 (.bool ya) (.slice Y y1 y2) (.slice Y' y1' y2')
          have hx2 := hx2.put3 hFg6 (.bool ya) (.slice Y y1 y2) (.slice Y' y1' y2')
          have hy1 := hy1.put3 hFg6 (.bool ya) (.slice Y y1 y2) (.slice Y' y1' y2')
          have hy2 := hy2.put3 hFg6 (.bool ya) (.slice Y y1 y2) (.slice Y' y1' y2')
          have hFg5 := hFg5.far (g2 := g6) (by omega) (.bool ya) (.slice Y y1 y2) (.slice Y' y1' y2')
          have hFg6 := hFg6.put3 ya (.slice Y y1 y2) (.slice Y' y1' y2')
          simp only [put_lit, put_non, List.set_cons_zero, List.set_cons_succ]
          refine hk_done (by kernel_rfl) ?_
          have hl2 := hF2.lt
          go_wp2_with fail
          go_meet
          case rel => exact ⟨g5, g6, rfl, rfl, by omega, by omega, xa, X, x1, x2, X', x1', x2', n, d, ya, Y, y1, y2, Y', y1', y2', s, t, hFg5, hFg6, hF2.below hK, hx1, hx2, hx3, hx4, hy1, hy2, hy3, hy4, below_then hB0 hK, hyz⟩
    · skip
      obtain ⟨wz1, g5, ewg5, egg5, hB, hFg5⟩ := var1 w2.drew false (.slice none 0 0) (.slice none 0 0)
      refine op_do (some 6) (.pointer (some ⟨g5, 0, none⟩)) wz1 (by kernel_rfl) (by kernel_rfl) (by kernel_rfl) (by rw [← ewg5, ← egg5]; exact exec_new3 (by kernel_rfl)) ?_
      refine ⟨below_then hK hB, ?_⟩
      have ltg5 := hK.size
      have hK := below_then hK hB
      clear hB
      simp only [put_lit, put_non, List.set_cons_zero, List.set_cons_succ]
      refine hk_two (i := 1) (j := 5) (by kernel_rfl) ?_ ?_
      · skip
        refine op_call (some 9) 13 #[.agg #[.bool na, .slice A m c, .slice A' m' c']] (by kernel_rfl) (by kernel_rfl) (by kernel_rfl) (fun w => by kernel_rfl) ?_
        refine (D1.out wz1 (below_then hB0 hK)).mono ?_
        rintro e wz2 ⟨ux, rfl, hux, hB⟩
        refine ⟨_, rfl, below_then hK hB, ?_⟩
        have hK := below_then hK hB
        have hFg5 := hFg5.below hB
        clear hB
        obtain ⟨xa, X, x1, x2, X', x1', x2', n, d, rfl, hx1, hx2, hx3, hx4⟩ := hux.fracP
        simp only [put_lit, put_non, List.set_cons_zero, List.set_cons_succ]
        refine hk_two (i := 3) (j := 5) (by kernel_rfl) ?_ ?_
        · skip
          refine op_call (some 11) 13 #[.agg #[.bool nb, .slice B i j, .slice B' i' j']] (by kernel_rfl) (by kernel_rfl) (by kernel_rfl) (fun w => by kernel_rfl) ?_
          refine (D2.out wz2 (below_then hB0 hK)).mono ?_
          rintro e wz3 ⟨uy, rfl, huy, hB⟩
          refine ⟨_, rfl, below_then hK hB, ?_⟩
          have hK := below_then hK hB
          have hFg5 := hFg5.below hB
          have hx1 := hx1.below hB
          have hx2 := hx2.below hB
          clear hB
          obtain ⟨ya, Y, y1, y2, Y', y1', y2', s, t, rfl, hy1, hy2, hy3, hy4⟩ := huy.fracP
          have hyz := canF_len0 huy
          simp only [put_lit, put_non, List.set_cons_zero, List.set_cons_succ]
          refine hk_one (i := 5) (by kernel_rfl) ?_
          have lhFg5g6 := hFg5.lt
          obtain ⟨wz4, g6, ewg6, egg6, hB, hFg6⟩ := var1 wz3 false (.slice none 0 0) (.slice none 0 0)
          refine op_do (some 7) (.pointer (some ⟨g6, 0, none⟩)) wz4 (by kernel_rfl) (by kernel_rfl) (by kernel_rfl) (by rw [← ewg6, ← egg6]; exact exec_new3 (by kernel_rfl)) ?_
          refine ⟨below_then hK hB, ?_⟩
          have ltg6 := hK.size
          have hK := below_then hK hB
          have hFg5 := hFg5.below hB
          have hx1 := hx1.below hB
          have hx2 := hx2.below hB
          have hy1 := hy1.below hB
          have hy2 := hy2.below hB
          clear hB
          simp only [put_lit, put_non, List.set_cons_zero, List.set_cons_succ]
          refine hk_one (i := 6) (by kernel_rfl) ?_
          refine op_skip none (stor3 wz4 g5 (.bool xa) (.slice X x1 x2) (.slice X' x1' x2')) (by kernel_rfl) (by kernel_rfl) (by kernel_rfl) (exec_store3 6 9 hFg5 (by kernel_rfl) (by kernel_rfl) (by kernel_rfl)) ?_
          have hB := below_put3 (g := g5) hK (by omega) (.bool xa) (.slice X x1 x2) (.slice X' x1' x2')
          refine ⟨hB, ?_⟩
          have hK := hB
          have hx1 := hx1.put3 hFg5 (.bool xa) (.slice X x1 x2) (.slice X' x1' x2')
          have hx2 := hx2.put3 hFg5 (.bool xa) (.slice X x1 x2) (.slice X' x1' x2')
          have hy1 := hy1.put3 hFg5 (.bool xa) (.slice X x1 x2) (.slice X' x1' x2')
          have hy2 := hy2.put3 hFg5 (.bool xa) (.slice X x1 x2) (.slice X' x1' x2')
          have hFg6 := hFg6.far (g2 := g5) (by omega) (.bool xa) (.slice X x1 x2) (.slice X' x1' x2')
          have hFg5 := hFg5.put3 xa (.slice X x1 x2) (.slice X' x1' x2')
          simp only [put_lit, put_non, List.set_cons_zero, List.set_cons_succ]
          refine hk_one (i := 7) (by kernel_rfl) ?_
          refine op_skip none (stor3 (stor3 wz4 g5 (.bool xa) (.slice X x1 x2) (.slice X' x1' x2')) g6 (.bool ya) (.slice Y y1 y2) (.slice Y' y1' y2')) (by kernel_rfl) (by kernel_rfl) (by kernel_rfl) (exec_store3 7 11 hFg6 (by kernel_rfl) (by kernel_rfl) (by kernel_rfl)) ?_
          have hB := below_put3 (g := g6) hK (by omega) (.bool ya) (.slice Y y1 y2) (.slice Y' y1' y2')
          refine ⟨hB, ?_⟩
          have hK := hB
          have hx1 := hx1.put3 hFg6 (.bool ya) (.slice Y y1 y2) (.slice Y' y1' y2')
          have hx2 := hx2.put3 hFg6 (.bool ya) (.slice Y y1 y2) (.slice Y' y1' y2')
          have hy1 := hy1.put3 hFg6 (.bool ya) (.slice Y y1 y2) (.slice Y' y1' y2')
          have hy2 := hy2.put3 hFg6 (.bool ya) (.slice Y y1 y2) (.slice Y' y1' y2')
          have hFg5 := hFg5.far (g2 := g6) (by omega) (.bool ya) (.slice Y y1 y2) (.slice Y' y1' y2')
          have hFg6 := hFg6.put3 ya (.slice Y y1 y2) (.slice Y' y1' y2')
          simp only [put_lit, put_non, List.set_cons_zero, List.set_cons_succ]
          refine hk_done (by kernel_rfl) ?_
          have hl2 := hF2.lt
          go_wp2_with fail
          go_meet
          case rel => exact ⟨g5, g6, rfl, rfl, by omega, by omega, xa, X, x1, x2, X', x1', x2', n, d, ya, Y, y1, y2, Y', y1', y2', s, t, hFg5, hFg6, hF2.below hK, hx1, hx2, hx3, hx4, hy1, hy2, hy3, hy4, below_then hB0 hK, hyz⟩
        · skip
          have lhFg5g6 := hFg5.lt
          obtain ⟨wz3, g6, ewg6, egg6, hB, hFg6⟩ := var1 wz2 false (.slice none 0 0) (.slice none 0 0)
          refine op_do (some 7) (.pointer (some ⟨g6, 0, none⟩)) wz3 (by kernel_rfl) (by kernel_rfl) (by kernel_rfl) (by rw [← ewg6, ← egg6]; exact exec_new3 (by kernel_rfl)) ?_
          refine ⟨below_then hK hB, ?_⟩
          have ltg6 := hK.size
          have hK := below_then hK hB
          have hFg5 := hFg5.below hB
          have hx1 := hx1.below hB
          have hx2 := hx2.below hB
          clear hB
          simp only [put_lit, put_non, List.set_cons_zero, List.set_cons_succ]
          refine hk_one (i := 3) (by kernel_rfl) ?_
          refine op_call (some 11) 13 #[.agg #[.bool nb, .slice B i j, .slice B' i' j']] (by kernel_rfl) (by kernel_rfl) (by kernel_rfl) (fun w => by kernel_rfl) ?_
          refine (D2.out wz3 (below_then hB0 hK)).mono ?_
          rintro e wz4 ⟨uy, rfl, huy, hB⟩
          refine ⟨_, rfl, below_then hK hB, ?_⟩
          have hK := below_then hK hB
          have hFg5 := hFg5.below hB
          have hx1 := hx1.below hB
          have hx2 := hx2.below hB
          have hFg6 := hFg6.below hB
          clear hB
          obtain ⟨ya, Y, y1, y2, Y', y1', y2', s, t, rfl, hy1, hy2, hy3, hy4⟩ := huy.fracP
          have hyz := canF_len0 huy
          simp only [put_lit, put_non, List.set_cons_zero, List.set_cons_succ]
          refine hk_one (i := 6) (by kernel_rfl) ?_
          refine op_skip none (stor3 wz4 g5 (.bool xa) (.slice X x1 x2) (.slice X' x1' x2')) (by kernel_rfl) (by kernel_rfl) (by kernel_rfl) (exec_store3 6 9 hFg5 (by kernel_rfl) (by kernel_rfl) (by kernel_rfl)) ?_
          have hB := below_put3 (g := g5) hK (by omega) (.bool xa) (.slice X x1 x2) (.slice X' x1' x2')
          refine ⟨hB, ?_⟩
          have hK := hB
          have hx1 := hx1.put3 hFg5 (.bool xa) (.slice X x1 x2) (.slice X' x1' x2')
          have hx2 := hx2.put3 hFg5 (.bool xa) (.slice X x1 x2) (.slice X' x1' x2')
          have hy1 := hy1.put3 hFg5 (.bool xa) (.slice X x1 x2) (.slice X' x1' x2')
          have hy2 := hy2.put3 hFg5 (.bool xa) (.slice X x1 x2) (.slice X' x1' x2')
          have hFg6 := hFg6.far (g2 := g5) (by omega) (.bool xa) (.slice X x1 x2) (.slice X' x1' x2')
          have hFg5 := hFg5.put3 xa (.slice X x1 x2) (.slice X' x1' x2')
          simp only [put_lit, put_non, List.set_cons_zero, List.set_cons_succ]
          refine hk_one (i := 7) (by kernel_rfl) ?_
          refine op_skip none (stor3 (stor3 wz4 g5 (.bool xa) (.slice X x1 x2) (.slice X' x1' x2')) g6 (.bool ya) (.slice Y y1 y2) (.slice Y' y1' y2')) (by kernel_rfl) (by kernel_rfl) (by kernel_rfl) (exec_store3 7 11 hFg6 (by kernel_rfl) (by kernel_rfl) (by kernel_rfl)) ?_
          have hB := below_put3 (g := g6) hK (by omega) (.bool ya) (.slice Y y1 y2) (.slice Y' y1' y2')
          refine ⟨hB, ?_⟩
          have hK := hB
          have hx1 := hx1.put3 hFg6 (.bool ya) (.slice Y y1 y2) (.slice Y' y1' y2')
          have hx2 := hx2.put3 hFg6 (.bool ya) (.slice Y y1 y2) (.slice Y' y1' y2')
          have hy1 := hy1.put3 hFg6 (.bool ya) (.slice Y y1 y2) (.slice Y' y1' y2')
          have hy2 := hy2.put3 hFg6 (.bool ya) (.slice Y y1 y2) (.slice Y' y1' y2')
          have hFg5 := hFg5.far (g2 := g6) (by omega) (.bool ya) (.slice Y y1 y2) (.slice Y' y1' y2')
          have hFg6 := hFg6.put3 ya (.slice Y y1 y2) (.slice Y' y1' y2')
          simp only [put_lit, put_non, List.set_cons_zero, List.set_cons_succ]
          refine hk_done (by kernel_rfl) ?_
          have hl2 := hF2.lt
          go_wp2_with fail
          go_meet
          case rel => exact ⟨g5, g6, rfl, rfl, by omega, by omega, xa, X, x1, x2, X', x1', x2', n, d, ya, Y, y1, y2, Y', y1', y2', s, t, hFg5, hFg6, hF2.below hK, hx1, hx2, hx3, hx4, hy1, hy2, hy3, hy4, below_then hB0 hK, hyz⟩
      · skip
        have lhFg5g6 := hFg5.lt
        obtain ⟨wz2, g6, ewg6, egg6, hB, hFg6⟩ := var1 wz1 false (.slice none 0 0) (.slice none 0 0)
        refine op_do (some 7) (.pointer (some ⟨g6, 0, none⟩)) wz2 (by kernel_rfl) (by kernel_rfl) (by kernel_rfl) (by rw [← ewg6, ← egg6]; exact exec_new3 (by kernel_rfl)) ?_
        refine ⟨below_then hK hB, ?_⟩
        have ltg6 := hK.size
        have hK := below_then hK hB
        have hFg5 := hFg5.below hB
        clear hB
        simp only [put_lit, put_non, List.set_cons_zero, List.set_cons_succ]
        refine hk_one (i := 1) (by kernel_rfl) ?_
        refine op_call (some 9) 13 #[.agg #[.bool na, .slice A m c, .slice A' m' c']] (by kernel_rfl) (by kernel_rfl) (by kernel_rfl) (fun w => by kernel_rfl) ?_
        refine (D1.out wz2 (below_then hB0 hK)).mono ?_
        rintro e wz3 ⟨ux, rfl, hux, hB⟩
        refine ⟨_, rfl, below_then hK hB, ?_⟩
        have hK := below_then hK hB
        have hFg5 := hFg5.below hB
        have hFg6 := hFg6.below hB
        clear hB
        obtain ⟨xa, X, x1, x2, X', x1', x2', n, d, rfl, hx1, hx2, hx3, hx4⟩ := hux.fracP
        simp only [put_lit, put_non, List.set_cons_zero, List.set_cons_succ]
        refine hk_one (i := 3) (by kernel_rfl) ?_
        refine op_call (some 11) 13 #[.agg #[.bool nb, .slice B i j, .slice B' i' j']] (by kernel_rfl) (by kernel_rfl) (by kernel_rfl) (fun w => by kernel_rfl) ?_
        refine (D2.out wz3 (below_then hB0 hK)).mono ?_
        rintro e wz4 ⟨uy, rfl, huy, hB⟩
        refine ⟨_, rfl, below_then hK hB, ?_⟩
        have hK := below_then hK hB
        have hFg5 := hFg5.below hB
        have hFg6 := hFg6.below hB
        have hx1 := hx1.below hB
        have hx2 := hx2.below hB
        clear hB
        obtain ⟨ya, Y, y1, y2, Y', y1', y2', s, t, rfl, hy1, hy2, hy3, hy4⟩ := huy.fracP
        have hyz := canF_len0 huy
        simp only [put_lit, put_non, List.set_cons_zero, List.set_cons_succ]
        refine hk_one (i := 6) (by kernel_rfl) ?_
        refine op_skip none (stor3 wz4 g5 (.bool xa) (.slice X x1 x2) (.slice X' x1' x2')) (by kernel_rfl) (by kernel_rfl) (by kernel_rfl) (exec_store3 6 9 hFg5 (by kernel_rfl) (by kernel_rfl) (by kernel_rfl)) ?_
        have hB := below_put3 (g := g5) hK (by omega) (.bool xa) (.slice X x1 x2) (.slice X' x1' x2')
        refine ⟨hB, ?_⟩
        have hK := hB
        have hx1 := hx1.put3 hFg5 (.bool xa) (.slice X x1 x2) (.slice X' x1' x2')
        have hx2 := hx2.put3 hFg5 (.bool xa) (.slice X x1 x2) (.slice X' x1' x2')
        have hy1 := hy1.put3 hFg5 (.bool xa) (.slice X x1 x2) (.slice X' x1' x2')
        have hy2 := hy2.put3 hFg5 (.bool xa) (.slice X x1 x2) (.slice X' x1' x2')
        have hFg6 := hFg6.far (g2 := g5) (by omega) (.bool xa) (.slice X x1 x2) (.slice X' x1' x2')
        have hFg5 := hFg5.put3 xa (.slice X x1 x2) (.slice X' x1' x2')
        simp only [put_lit, put_non, List.set_cons_zero, List.set_cons_succ]
        refine hk_one (i := 7) (by kernel_rfl) ?_
        refine op_skip none (stor3 (stor3 wz4 g5 (.bool xa) (.slice X x1 x2) (.slice X' x1' x2')) g6 (.bool ya) (.slice Y y1 y2) (.slice Y' y1' y2')) (by kernel_rfl) (by kernel_rfl) (by kernel_rfl) (exec_store3 7 11 hFg6 (by kernel_rfl) (by kernel_rfl) (by kernel_rfl)) ?_
        have hB := below_put3 (g := g6) hK (by omega) (.bool ya) (.slice Y y1 y2) (.slice Y' y1' y2')
        refine ⟨hB, ?_⟩
        have hK := hB
        have hx1 := hx1.put3 hFg6 (.bool ya) (.slice Y y1 y2) (.slice Y' y1' y2')
        have hx2 := hx2.put3 hFg6 (.bool ya) (.slice Y y1 y2) (.slice Y' y1' y2')
        have hy1 := hy1.put3 hFg6 (.bool ya) (.slice Y y1 y2) (.slice Y' y1' y2')
        have hy2 := hy2.put3 hFg6 (.bool ya) (.slice Y y1 y2) (.slice Y' y1' y2')
        have hFg5 := hFg5.far (g2 := g6) (by omega) (.bool ya) (.slice Y y1 y2) (.slice Y' y1' y2')
        have hFg6 := hFg6.put3 ya (.slice Y y1 y2) (.slice Y' y1' y2')
        simp only [put_lit, put_non, List.set_cons_zero, List.set_cons_succ]
        refine hk_done (by kernel_rfl) ?_
        have hl2 := hF2.lt
        go_wp2_with fail
        go_meet
        case rel => exact ⟨g5, g6, rfl, rfl, by omega, by omega, xa, X, x1, x2, X', x1', x2', n, d, ya, Y, y1, y2, Y', y1', y2', s, t, hFg5, hFg6, hF2.below hK, hx1, hx2, hx3, hx4, hy1, hy2, hy3, hy4, below_then hB0 hK, hyz⟩
    · skip
      obtain ⟨wz1, g6, ewg6, egg6, hB, hFg6⟩ := var1 w2.drew false (.slice none 0 0) (.slice none 0 0)
      refine op_do (some 7) (.pointer (some ⟨g6, 0, none⟩)) wz1 (by kernel_rfl) (by kernel_rfl) (by kernel_rfl) (by rw [← ewg6, ← egg6]; exact exec_new3 (by kernel_rfl)) ?_
      refine ⟨below_then hK hB, ?_⟩
      have ltg6 := hK.size
      have hK := below_then hK hB
      clear hB
      simp only [put_lit, put_non, List.set_cons_zero, List.set_cons_succ]
      refine hk_two (i := 1) (j := 4) (by kernel_rfl) ?_ ?_
      · skip
        refine op_call (some 9) 13 #[.agg #[.bool na, .slice A m c, .slice A' m' c']] (by kernel_rfl) (by kernel_rfl) (by kernel_rfl) (fun w => by kernel_rfl) ?_
        refine (D1.out wz1 (below_then hB0 hK)).mono ?_
        rintro e wz2 ⟨ux, rfl, hux, hB⟩
        refine ⟨_, rfl, below_then hK hB, ?_⟩
        have hK := below_then hK hB
        have hFg6 := hFg6.below hB
        clear hB
        obtain ⟨xa, X, x1, x2, X', x1', x2', n, d, rfl, hx1, hx2, hx3, hx4⟩ := hux.fracP
        simp only [put_lit, put_non, List.set_cons_zero, List.set_cons_succ]
        refine hk_two (i := 3) (j := 4) (by kernel_rfl) ?_ ?_
        · skip
          refine op_call (some 11) 13 #[.agg #[.bool nb, .slice B i j, .slice B' i' j']] (by kernel_rfl) (by kernel_rfl) (by kernel_rfl) (fun w => by kernel_rfl) ?_
          refine (D2.out wz2 (below_then hB0 hK)).mono ?_
          rintro e wz3 ⟨uy, rfl, huy, hB⟩
          refine ⟨_, rfl, below_then hK hB, ?_⟩
          have hK := below_then hK hB
          have hFg6 := hFg6.below hB
          have hx1 := hx1.below hB
          have hx2 := hx2.below hB
          clear hB
          obtain ⟨ya, Y, y1, y2, Y', y1', y2', s, t, rfl, hy1, hy2, hy3, hy4⟩ := huy.fracP
          have hyz := canF_len0 huy
          simp only [put_lit, put_non, List.set_cons_zero, List.set_cons_succ]
          refine hk_one (i := 4) (by kernel_rfl) ?_
          have lhFg6g5 := hFg6.lt
          obtain ⟨wz4, g5, ewg5, egg5, hB, hFg5⟩ := var1 wz3 false (.slice none 0 0) (.slice none 0 0)
          refine op_do (some 6) (.pointer (some ⟨g5, 0, none⟩)) wz4 (by kernel_rfl) (by kernel_rfl) (by kernel_rfl) (by rw [← ewg5, ← egg5]; exact exec_new3 (by kernel_rfl)) ?_
          refine ⟨below_then hK hB, ?_⟩
          have ltg5 := hK.size
          have hK := below_then hK hB
          have hFg6 := hFg6.below hB
          have hx1 := hx1.below hB
          have hx2 := hx2.below hB
          have hy1 := hy1.below hB
          have hy2 := hy2.below hB
          clear hB
          simp only [put_lit, put_non, List.set_cons_zero, List.set_cons_succ]
          refine hk_one (i := 6) (by kernel_rfl) ?_
          refine op_skip none (stor3 wz4 g5 (.bool xa) (.slice X x1 x2) (.slice X' x1' x2')) (by kernel_rfl) (by kernel_rfl) (by kernel_rfl) (exec_store3 6 9 hFg5 (by kernel_rfl) (by kernel_rfl) (by kernel_rfl)) ?_
          have hB := below_put3 (g := g5) hK (by omega) (.bool xa) (.slice X x1 x2) (.slice X' x1' x2')
          refine ⟨hB, ?_⟩
          have hK := hB
          have hx1 := hx1.put3 hFg5 (.bool xa) (.slice X x1 x2) (.slice X' x1' x2')
          have hx2 := hx2.put3 hFg5 (.bool xa) (.slice X x1 x2) (.slice X' x1' x2')
          have hy1 := hy1.put3 hFg5 (.bool xa) (.slice X x1 x2) (.slice X' x1' x2')
          have hy2 := hy2.put3 hFg5 (.bool xa) (.slice X x1 x2) (.slice X' x1' x2')
          have hFg6 := hFg6.far (g2 := g5) (by omega) (.bool xa) (.slice X x1 x2) (.slice X' x1' x2')
          have hFg5 := hFg5.put3 xa (.slice X x1 x2) (.slice X' x1' x2')
          simp only [put_lit, put_non, List.set_cons_zero, List.set_cons_succ]
          refine hk_one (i := 7) (by kernel_rfl) ?_
          refine op_skip none (stor3 (stor3 wz4 g5 (.bool xa) (.slice X x1 x2) (.slice X' x1' x2')) g6 (.bool ya) (.slice Y y1 y2) (.slice Y' y1' y2')) (by kernel_rfl) (by kernel_rfl) (by kernel_rfl) (exec_store3 7 11 hFg6 (by kernel_rfl) (by kernel_rfl) (by kernel_rfl)) ?_
          have hB := below_put3 (g := g6) hK (by omega) (.bool ya) (.slice Y y1 y2) (.slice Y' y1' y2')
          refine ⟨hB, ?_⟩
          have hK := hB
          have hx1 := hx1.put3 hFg6 (.bool ya) (.slice Y y1 y2) (.slice Y' y1' y2')
          have hx2 := hx2.put3 hFg6 (.bool ya) (.slice Y y1 y2) (.slice Y' y1' y2')
          have hy1 := hy1.put3 hFg6 (.bool ya) (.slice Y y1 y2) (.slice Y' y1' y2')
          have hy2 := hy2.put3 hFg6 (.bool ya) (.slice Y y1 y2) (.slice Y' y1' y2')
          have hFg5 := hFg5.far (g2 := g6) (by omega) (.bool ya) (.slice Y y1 y2) (.slice Y' y1' y2')
          have hFg6 := hFg6.put3 ya (.slice Y y1 y2) (.slice Y' y1' y2')
          simp only [put_lit, put_non, List.set_cons_zero, List.set_cons_succ]
          refine hk_done (by kernel_rfl) ?_
          have hl2 := hF2.lt
          go_wp2_with fail
          go_meet
          case rel => exact ⟨g5, g6, rfl, rfl, by omega, by omega, xa, X, x1, x2, X', x1', x2', n, d, ya, Y, y1, y2, Y', y1', y2', s, t, hFg5, hFg6, hF2.below hK, hx1, hx2, hx3, hx4, hy1, hy2, hy3, hy4, below_then hB0 hK, hyz⟩
        · skip
          have lhFg6g5 := hFg6.lt
          obtain ⟨wz3, g5, ewg5, egg5, hB, hFg5⟩ := var1 wz2 false (.slice none 0 0) (.slice none 0 0)
          refine op_do (some 6) (.pointer (some ⟨g5, 0, none⟩)) wz3 (by kernel_rfl) (by kernel_rfl) (by kernel_rfl) (by rw [← ewg5, ← egg5]; exact exec_new3 (by kernel_rfl)) ?_
          refine ⟨below_then hK hB, ?_⟩
          have ltg5 := hK.size
          have hK := below_then hK hB
          have hFg6 := hFg6.below hB
          have hx1 := hx1.below hB
          have hx2 := hx2.below hB
          clear hB
          simp only [put_lit, put_non, List.set_cons_zero, List.set_cons_succ]
          refine hk_one (i := 3) (by kernel_rfl) ?_
          refine op_call (some 11) 13 #[.agg #[.bool nb, .slice B i j, .slice B' i' j']] (by kernel_rfl) (by kernel_rfl) (by kernel_rfl) (fun w => by kernel_rfl) ?_
          refine (D2.out wz3 (below_then hB0 hK)).mono ?_
          rintro e wz4 ⟨uy, rfl, huy, hB⟩
          refine ⟨_, rfl, below_then hK hB, ?_⟩
          have hK := below_then hK hB
          have hFg6 := hFg6.below hB
          have hx1 := hx1.below hB
          have hx2 := hx2.below hB
          have hFg5 := hFg5.below hB
          clear hB
          obtain ⟨ya, Y, y1, y2, Y', y1', y2', s, t, rfl, hy1, hy2, hy3, hy4⟩ := huy.fracP
          have hyz := canF_len0 huy
          simp only [put_lit, put_non, List.set_cons_zero, List.set_cons_succ]
          refine hk_one (i := 6) (by kernel_rfl) ?_
          refine op_skip none (stor3 wz4 g5 (.bool xa) (.slice X x1 x2) (.slice X' x1' x2')) (by kernel_rfl) (by kernel_rfl) (by kernel_rfl) (exec_store3 6 9 hFg5 (by kernel_rfl) (by kernel_rfl) (by kernel_rfl)) ?_
          have hB := below_put3 (g := g5) hK (by omega) (.bool xa) (.slice X x1 x2) (.slice X' x1' x2')
          refine ⟨hB, ?_⟩
          have hK := hB
          have hx1 := hx1.put3 hFg5 (.bool xa) (.slice X x1 x2) (.slice X' x1' x2')
          have hx2 := hx2.put3 hFg5 (.bool xa) (.slice X x1 x2) (.slice X' x1' x2')
          have hy1 := hy1.put3 hFg5 (.bool xa) (.slice X x1 x2) (.slice X' x1' x2')
          have hy2 := hy2.put3 hFg5 (.bool xa) (.slice X x1 x2) (.slice X' x1' x2')
          have hFg6 := hFg6.far (g2 := g5) (by omega) (.bool xa) (.slice X x1 x2) (.slice X' x1' x2')
          have hFg5 := hFg5.put3 xa (.slice X x1 x2) (.slice X' x1' x2')
          simp only [put_lit, put_non, List.set_cons_zero, List.set_cons_succ]
          refine hk_one (i := 7) (by kernel_rfl) ?_
          refine op_skip none (stor3 (stor3 wz4 g5 (.bool xa) (.slice X x1 x2) (.slice X' x1' x2')) g6 (.bool ya) (.slice Y y1 y2) (.slice Y' y1' y2')) (by kernel_rfl) (by kernel_rfl) (by kernel_rfl) (exec_store3 7 11 hFg6 (by kernel_rfl) (by kernel_rfl) (by kernel_rfl)) ?_
          have hB := below_put3 (g := g6) hK (by omega) (.bool ya) (.slice Y y1 y2) (.slice Y' y1' y2')
          refine ⟨hB, ?_⟩
          have hK := hB
          have hx1 := hx1.put3 hFg6 (.bool ya) (.slice Y y1 y2) (.slice Y' y1' y2')
          have hx2 := hx2.put3 hFg6 (.bool ya) (.slice Y y1 y2) (.slice Y' y1' y2')
          have hy1 := hy1.put3 hFg6 (.bool ya) (.slice Y y1 y2) (.slice Y' y1' y2')
          have hy2 := hy2.put3 hFg6 (.bool ya) (.slice Y y1 y2) (.slice Y' y1' y2')
          have hFg5 := hFg5.far (g2 := g6) (by omega) (.bool ya) (.slice Y y1 y2) (.slice Y' y1' y2')
          have hFg6 := hFg6.put3 ya (.slice Y y1 y2) (.slice Y' y1' y2')
          simp only [put_lit, put_non, List.set_cons_zero, List.set_cons_succ]
          refine hk_done (by kernel_rfl) ?_
          have hl2 := hF2.lt
          go_wp2_with fail
          go_meet
          case rel => exact ⟨g5, g6, rfl, rfl, by omega, by omega, xa, X, x1, x2, X', x1', x2', n, d, ya, Y, y1, y2, Y', y1', y2', s, t, hFg5, hFg6, hF2.below hK, hx1, hx2, hx3, hx4, hy1, hy2, hy3, hy4, below_then hB0 hK, hyz⟩
      · skip
        have lhFg6g5 := hFg6.lt
        obtain ⟨wz2, g5, ewg5, egg5, hB, hFg5⟩ := var1 wz1 false (.slice none 0 0) (.slice none 0 0)
        refine op_do (some 6) (.pointer (some ⟨g5, 0, none⟩)) wz2 (by kernel_rfl) (by kernel_rfl) (by kernel_rfl) (by rw [← ewg5, ← egg5]; exact exec_new3 (by kernel_rfl)) ?_
        refine ⟨below_then hK hB, ?_⟩
        have ltg5 := hK.size
        have hK := below_then hK hB
        have hFg6 := hFg6.below hB
        clear hB
        simp only [put_lit, put_non, List.set_cons_zero, List.set_cons_succ]
        refine hk_one (i := 1) (by kernel_rfl) ?_
        refine op_call (some 9) 13 #[.agg #[.bool na, .slice A m c, .slice A' m' c']] (by kernel_rfl) (by kernel_rfl) (by kernel_rfl) (fun w => by kernel_rfl) ?_
        refine (D1.out wz2 (below_then hB0 hK)).mono ?_
        rintro e wz3 ⟨ux, rfl, hux, hB⟩
        refine ⟨_, rfl, below_then hK hB, ?_⟩
        have hK := below_then hK hB
        have hFg6 := hFg6.below hB
        have hFg5 := hFg5.below hB
        clear hB
        obtain ⟨xa, X, x1, x2, X', x1', x2', n, d, rfl, hx1, hx2, hx3, hx4⟩ := hux.fracP
        simp only [put_lit, put_non, List.set_cons_zero, List.set_cons_succ]
        refine hk_one (i := 3) (by kernel_rfl) ?_
        refine op_call (some 11) 13 #[.agg #[.bool nb, .slice B i j, .slice B' i' j']] (by kernel_rfl) (by kernel_rfl) (by kernel_rfl) (fun w => by kernel_rfl) ?_
        refine (D2.out wz3 (below_then hB0 hK)).mono ?_
        rintro e wz4 ⟨uy, rfl, huy, hB⟩
        refine ⟨_, rfl, below_then hK hB, ?_⟩
        have hK := below_then hK hB
        have hFg6 := hFg6.below hB
        have hFg5 := hFg5.below hB
        have hx1 := hx1.below hB
        have hx2 := hx2.below hB
        clear hB
        obtain ⟨ya, Y, y1, y2, Y', y1', y2', s, t, rfl, hy1, hy2, hy3, hy4⟩ := huy.fracP
        have hyz := canF_len0 huy
        simp only [put_lit, put_non, List.set_cons_zero, List.set_cons_succ]
        refine hk_one (i := 6) (by kernel_rfl) ?_
        refine op_skip none (stor3 wz4 g5 (.bool xa) (.slice X x1 x2) (.slice X' x1' x2')) (by kernel_rfl) (by kernel_rfl) (by kernel_rfl) (exec_store3 6 9 hFg5 (by kernel_rfl) (by kernel_rfl) (by kernel_rfl)) ?_
        have hB := below_put3 (g := g5) hK (by omega) (.bool xa) (.slice X x1 x2) (.slice X' x1' x2')
        refine ⟨hB, ?_⟩
        have hK := hB
        have hx1 := hx1.put3 hFg5 (.bool xa) (.slice X x1 x2) (.slice X' x1' x2')
        have hx2 := hx2.put3 hFg5 (.bool xa) (.slice X x1 x2) (.slice X' x1' x2')
        have hy1 := hy1.put3 hFg5 (.bool xa) (.slice X x1 x2) (.slice X' x1' x2')
        have hy2 := hy2.put3 hFg5 (.bool xa) (.slice X x1 x2) (.slice X' x1' x2')
        have hFg6 := hFg6.far (g2 := g5) (by omega) (.bool xa) (.slice X x1 x2) (.slice X' x1' x2')
        have hFg5 := hFg5.put3 xa (.slice X x1 x2) (.slice X' x1' x2')
        simp only [put_lit, put_non, List.set_cons_zero, List.set_cons_succ]
        refine hk_one (i := 7) (by kernel_rfl) ?_
        refine op_skip none (stor3 (stor3 wz4 g5 (.bool xa) (.slice X x1 x2) (.slice X' x1' x2')) g6 (.bool ya) (.slice Y y1 y2) (.slice Y' y1' y2')) (by kernel_rfl) (by kernel_rfl) (by kernel_rfl) (exec_store3 7 11 hFg6 (by kernel_rfl) (by kernel_rfl) (by kernel_rfl)) ?_
        have hB := below_put3 (g := g6) hK (by omega) (.bool ya) (.slice Y y1 y2) (.slice Y' y1' y2')
        refine ⟨hB, ?_⟩
        have hK := hB
        have hx1 := hx1.put3 hFg6 (.bool ya) (.slice Y y1 y2) (.slice Y' y1' y2')
        have hx2 := hx2.put3 hFg6 (.bool ya) (.slice Y y1 y2) (.slice Y' y1' y2')
        have hy1 := hy1.put3 hFg6 (.bool ya) (.slice Y y1 y2) (.slice Y' y1' y2')
        have hy2 := hy2.put3 hFg6 (.bool ya) (.slice Y y1 y2) (.slice Y' y1' y2')
        have hFg5 := hFg5.far (g2 := g6) (by omega) (.bool ya) (.slice Y y1 y2) (.slice Y' y1' y2')
        have hFg6 := hFg6.put3 ya (.slice Y y1 y2) (.slice Y' y1' y2')
        simp only [put_lit, put_non, List.set_cons_zero, List.set_cons_succ]
        refine hk_done (by kernel_rfl) ?_
        have hl2 := hF2.lt
        go_wp2_with fail
        go_meet
        case rel => exact ⟨g5, g6, rfl, rfl, by omega, by omega, xa, X, x1, x2, X', x1', x2', n, d, ya, Y, y1, y2, Y', y1', y2', s, t, hFg5, hFg6, hF2.below hK, hx1, hx2, hx3, hx4, hy1, hy2, hy3, hy4, below_then hB0 hK, hyz⟩
  case rest =>
    clear hF0 hF1 hF2 hB0 ew D1 D2 eg0 eg1 eg2
    obtain ⟨g5, g6, rfl, rfl, hne0, hne1, xa, X, x1, x2, X', x1', x2', n, d, ya, Y, y1, y2, Y', y1', y2', s, t, hF5, hF6, hFg2, hn, hd, hd0, hp, hs, ht, ht0, hq, hB0, hyz⟩ := hcut
    obtain rfl := hyz.2 h0
    clear hyz hn hd hs ht hd0 hp ht0 hq h0
    obtain ⟨c0, c1, c2⟩ := hF6.cells
    obtain ⟨d0, d1, d2⟩ := hFg2.cells
    obtain ⟨e0, e1, e2⟩ := hFg2.frozen
    go_wp2_with fail
    refine bodyPost_ret (v := .tuple #[.agg #[.bool false, .slice none 0 0, .slice none 0 0], .int .i64 20]) (by rw [results_cell_tmp rfl]; go_simp) rfl ?_
    exact ⟨rfl, below_put3 hB0 HG.out (.bool false) (.slice none 0 0) (.slice none 0 0)⟩
set_option maxRecDepth 20000 in
set_option maxHeartbeats 16000000 in
theorem fracDiv_v (ha : FracV w va p k) (hb : FracV w vb q l) (hk : k ≤ 100000) (hl : l ≤ 100000) (h1 : 2 ≤ k) (h2 : 2 ≤ l) (h0 : q ≠ 0) : Calls Tryz.prog 10 #[va, vb] w (RCanE w (p / q) (k + l)) := by
  have D1 := Lib.hid (fun w1 hB => fracNorm_v (w := w1) (ha.below hB) (by omega) h1)
  have D2 := Lib.hid (fun w1 hB => fracNorm_v (w := w1) (hb.below hB) (by omega) h2)
  obtain ⟨na, A, m, c, A', m', c', n, d, rfl, hn, hd, hp⟩ := ha.parts
  obtain ⟨nb, B, i, j, B', i', j', s, t, rfl, hs, ht, hq⟩ := hb.parts
  obtain ⟨w2, g0, g1, g2, ew, eg0, eg1, eg2, hB0, hF0, hF1, hF2⟩ := three_boxes w na nb (.slice A m c) (.slice A' m' c') (.slice B i j) (.slice B' i' j')
  have HG := Lib.hid (show w.heap.size ≤ g2 by omega)
  clear hn hd hs ht hp hq ha hb
  go_enter Tryz.func10, Tryz.ntmps10
  go_wp2_with fail
  go_cut [6, 7] from 8 (fun s5 s6 w' => ∃ g5 g6, s5 = .pointer (some ⟨g5, 0, none⟩) ∧ s6 = .pointer (some ⟨g6, 0, none⟩) ∧ g5 ≠ g2 ∧ g6 ≠ g2 ∧ ReadyD w w' p q k l g5 g6 g2)
  case first =>
    refine hk_begin (S := fun w' => Below w2.heap.size w2 w') 8 (by kernel_rfl) (by kernel_rfl) ?_
    have hK : Below w2.heap.size w2 w2.drew := (Below.refl w2.heap.size w2).drew
    refine hk_take (i := 0) (some 8) (.agg #[.bool na, .slice A m c, .slice A' m' c']) (by kernel_rfl) (by kernel_rfl) (by kernel_rfl) (by kernel_rfl) (by kernel_rfl) (by kernel_rfl) (fun w hS => exec_load3 2 (hF0.below hS) (by kernel_rfl) (by kernel_rfl)) (fun _ _ d _ _ h => by cases d <;> exact h) hK ?_
    simp only [put_lit, put_non, List.set_cons_zero, List.set_cons_succ]
    refine hk_take (i := 2) (some 10) (.agg #[.bool nb, .slice B i j, .slice B' i' j']) (by kernel_rfl) (by kernel_rfl) (by kernel_rfl) (by kernel_rfl) (by kernel_rfl) (by kernel_rfl) (fun w hS => exec_load3 3 (hF1.below hS) (by kernel_rfl) (by kernel_rfl)) (fun _ _ d _ _ h => by cases d <;> exact h) hK ?_
    simp only [put_lit, put_non, List.set_cons_zero, List.set_cons_succ]
    refine hk_three (i := 1) (j := 4) (k := 5) (by kernel_rfl) ?_ ?_ ?_
    · skip
      refine op_call (some 9) 13 #[.agg #[.bool na, .slice A m c, .slice A' m' c']] (by kernel_rfl) (by kernel_rfl) (by kernel_rfl) (fun w => by kernel_rfl) ?_
      refine (D1.out w2.drew (below_then hB0 hK)).mono ?_
      rintro e wz1 ⟨ux, rfl, hux, hB⟩
      refine ⟨_, rfl, below_then hK hB, ?_⟩
      have hK := below_then hK hB
      clear hB
      obtain ⟨xa, X, x1, x2, X', x1', x2', n, d, rfl, hx1, hx2, hx3, hx4⟩ := hux.fracP
      simp only [put_lit, put_non, List.set_cons_zero, List.set_cons_succ]
      refine hk_three (i := 3) (j := 4) (k := 5) (by kernel_rfl) ?_ ?_ ?_
      · skip
        refine op_call (some 11) 13 #[.agg #[.bool nb, .slice B i j, .slice B' i' j']] (by kernel_rfl) (by kernel_rfl) (by kernel_rfl) (fun w => by kernel_rfl) ?_
        refine (D2.out wz1 (below_then hB0 hK)).mono ?_
        rintro e wz2 ⟨uy, rfl, huy, hB⟩
        refine ⟨_, rfl, below_then hK hB, ?_⟩
        have hK := below_then hK hB
        have hx1 := hx1.below hB
        have hx2 := hx2.below hB
        clear hB
        obtain ⟨ya, Y, y1, y2, Y', y1', y2', s, t, rfl, hy1, hy2, hy3, hy4⟩ := huy.fracP
        have hyz := canF_len0 huy
        simp only [put_lit, put_non, List.set_cons_zero, List.set_cons_succ]
        refine hk_two (i := 4) (j := 5) (by kernel_rfl) ?_ ?_
        · skip
          obtain ⟨wz3, g5, ewg5, egg5, hB, hFg5⟩ := var1 wz2 false (.slice none 0 0) (.slice none 0 0)
          refine op_do (some 6) (.pointer (some ⟨g5, 0, none⟩)) wz3 (by kernel_rfl) (by kernel_rfl) (by kernel_rfl) (by rw [← ewg5, ← egg5]; exact exec_new3 (by kernel_rfl)) ?_
          refine ⟨below_then hK hB, ?_⟩
          have ltg5 := hK.size
          have hK := below_then hK hB
          have hx1 := hx1.below hB
          have hx2 := hx2.below hB
          have hy1 := hy1.below hB
          have hy2 := hy2.below hB
          clear hB
          simp only [put_lit, put_non, List.set_cons_zero, List.set_cons_succ]
          refine hk_one (i := 5) (by kernel_rfl) ?_
          have lhFg5g6 := hFg5.lt
          obtain ⟨wz4, g6, ewg6, egg6, hB, hFg6⟩ := var1 wz3 false (.slice none 0 0) (.slice none 0 0)
          refine op_do (some 7) (.pointer (some ⟨g6, 0, none⟩)) wz4 (by kernel_rfl) (by kernel_rfl) (by kernel_rfl) (by rw [← ewg6, ← egg6]; exact exec_new3 (by kernel_rfl)) ?_
          refine ⟨below_then hK hB, ?_⟩
          have ltg6 := hK.size
          have hK := below_then hK hB
          have hx1 := hx1.below hB
          have hx2 := hx2.below hB
          have hy1 := hy1.below hB
          have hy2 := hy2.below hB
          have hFg5 := hFg5.below hB
          clear hB
          simp only [put_lit, put_non, List.set_cons_zero, List.set_cons_succ]
          refine hk_one (i := 6) (by kernel_rfl) ?_
          refine op_skip none (stor3 wz4 g5 (.bool xa) (.slice X x1 x2) (.slice X' x1' x2')) (by kernel_rfl) (by kernel_rfl) (by kernel_rfl) (exec_store3 6 9 hFg5 (by kernel_rfl) (by kernel_rfl) (by kernel_rfl)) ?_
          have hB := below_put3 (g := g5) hK (by omega) (.bool xa) (.slice X x1 x2) (.slice X' x1' x2')
          refine ⟨hB, ?_⟩
          have hK := hB
          have hx1 := hx1.put3 hFg5 (.bool xa) (.slice X x1 x2) (.slice X' x1' x2')
          have hx2 := hx2.put3 hFg5 (.bool xa) (.slice X x1 x2) (.slice X' x1' x2')
          have hy1 := hy1.put3 hFg5 (.bool xa) (.slice X x1 x2) (.slice X' x1' x2')
          have hy2 := hy2.put3 hFg5 (.bool xa) (.slice X x1 x2) (.slice X' x1' x2')
          have hFg6 := hFg6.far (g2 := g5) (by omega) (.bool xa) (.slice X x1 x2) (.slice X' x1' x2')
          have hFg5 := hFg5.put3 xa (.slice X x1 x2) (.slice X' x1' x2')
          simp only [put_lit, put_non, List.set_cons_zero, List.set_cons_succ]
          refine hk_one (i := 7) (by kernel_rfl) ?_
          refine op_skip none (stor3 (stor3 wz4 g5 (.bool xa) (.slice X x1 x2) (.slice X' x1' x2')) g6 (.bool ya) (.slice Y y1 y2) (.slice Y' y1' y2')) (by kernel_rfl) (by kernel_rfl) (by kernel_rfl) (exec_store3 7 11 hFg6 (by kernel_rfl) (by kernel_rfl) (by kernel_rfl)) ?_
          have hB := below_put3 (g := g6) hK (by omega) (.bool ya) (.slice Y y1 y2) (.slice Y' y1' y2')
          refine ⟨hB, ?_⟩
          have hK := hB
          have hx1 := hx1.put3 hFg6 (.bool ya) (.slice Y y1 y2) (.slice Y' y1' y2')
          have hx2 := hx2.put3 hFg6 (.bool ya) (.slice Y y1 y2) (.slice Y' y1' y2')
          have hy1 := hy1.put3 hFg6 (.bool ya) (.slice Y y1 y2) (.slice Y' y1' y2')
          have hy2 := hy2.put3 hFg6 (.bool ya) (.slice Y y1 y2) (.slice Y' y1' y2')
          have hFg5 := hFg5.far (g2 := g6) (by omega) (.bool ya) (.slice Y y1 y2) (.slice Y' y1' y2')
          have hFg6 := hFg6.put3 ya (.slice Y y1 y2) (.slice Y' y1' y2')
          simp only [put_lit, put_non, List.set_cons_zero, List.set_cons_succ]
          refine hk_done (by kernel_rfl) ?_
          have hl2 := hF2.lt
          go_wp2_with fail
          go_meet
          case rel => exact ⟨g5, g6, rfl, rfl, by omega, by omega, xa, X, x1, x2, X', x1', x2', n, d, ya, Y, y1, y2, Y', y1', y2', s, t, hFg5, hFg6, hF2.below hK, hx1, hx2, hx3, hx4, hy1, hy2, hy3, hy4, below_then hB0 hK, hyz⟩
        · skip
          obtain ⟨wz3, g6, ewg6, egg6, hB, hFg6⟩ := var1 wz2 false (.slice none 0 0) (.slice none 0 0)
          refine op_do (some 7) (.pointer (some ⟨g6, 0, none⟩)) wz3 (by kernel_rfl) (by kernel_rfl) (by kernel_rfl) (by rw [← ewg6, ← egg6]; exact exec_new3 (by kernel_rfl)) ?_
          refine ⟨below_then hK hB, ?_⟩
          have ltg6 := hK.size
          have hK := below_then hK hB
          have hx1 := hx1.below hB
          have hx2 := hx2.below hB
          have hy1 := hy1.below hB
          have hy2 := hy2.below hB
          clear hB
          simp only [put_lit, put_non, List.set_cons_zero, List.set_cons_succ]
          refine hk_one (i := 4) (by kernel_rfl) ?_
          have lhFg6g5 := hFg6.lt
          obtain ⟨wz4, g5, ewg5, egg5, hB, hFg5⟩ := var1 wz3 false (.slice none 0 0) (.slice none 0 0)
          refine op_do (some 6) (.pointer (some ⟨g5, 0, none⟩)) wz4 (by kernel_rfl) (by kernel_rfl) (by kernel_rfl) (by rw [← ewg5, ← egg5]; exact exec_new3 (by kernel_rfl)) ?_
          refine ⟨below_then hK hB, ?_⟩
          have ltg5 := hK.size
          have hK := below_then hK hB
          have hx1 := hx1.below hB
          have hx2 := hx2.below hB
          have hy1 := hy1.below hB
          have hy2 := hy2.below hB
          have hFg6 := hFg6.below hB
          clear hB
          simp only [put_lit, put_non, List.set_cons_zero, List.set_cons_succ]
          refine hk_one (i := 6) (by kernel_rfl) ?_
          refine op_skip none (stor3 wz4 g5 (.bool xa) (.slice X x1 x2) (.slice X' x1' x2')) (by kernel_rfl) (by kernel_rfl) (by kernel_rfl) (exec_store3 6 9 hFg5 (by kernel_rfl) (by kernel_rfl) (by kernel_rfl)) ?_
          have hB := below_put3 (g := g5) hK (by omega) (.bool xa) (.slice X x1 x2) (.slice X' x1' x2')
          refine ⟨hB, ?_⟩
          have hK := hB
          have hx1 := hx1.put3 hFg5 (.bool xa) (.slice X x1 x2) (.slice X' x1' x2')
          have hx2 := hx2.put3 hFg5 (.bool xa) (.slice X x1 x2) (.slice X' x1' x2')
          have hy1 := hy1.put3 hFg5 (.bool xa) (.slice X x1 x2) (.slice X' x1' x2')
          have hy2 := hy2.put3 hFg5 (.bool xa) (.slice X x1 x2) (.slice X' x1' x2')
          have hFg6 := hFg6.far (g2 := g5) (by omega) (.bool xa) (.slice X x1 x2) (.slice X' x1' x2')
          have hFg5 := hFg5.put3 xa (.slice X x1 x2) (.slice X' x1' x2')
          simp only [put_lit, put_non, List.set_cons_zero, List.set_cons_succ]
          refine hk_one (i := 7) (by kernel_rfl) ?_
          refine op_skip none (stor3 (stor3 wz4 g5 (.bool xa) (.slice X x1 x2) (.slice X' x1' x2')) g6 (.bool ya) (.slice Y y1 y2) (.slice Y' y1' y2')) (by kernel_rfl) (by kernel_rfl) (by kernel_rfl) (exec_store3 7 11 hFg6 (by kernel_rfl) (by kernel_rfl) (by kernel_rfl)) ?_
          have hB := below_put3 (g := g6) hK (by omega) (.bool ya) (.slice Y y1 y2) (.slice Y' y1' y2')
          refine ⟨hB, ?_⟩
          have hK := hB
          have hx1 := hx1.put3 hFg6 (.bool ya) (.slice Y y1 y2) (.slice Y' y1' y2')
          have hx2 := hx2.put3 hFg6 (.bool ya) (.slice Y y1 y2) (.slice Y' y1' y2')
          have hy1 := hy1.put3 hFg6 (.bool ya) (.slice Y y1 y2) (.slice Y' y1' y2')
          have hy2 := hy2.put3 hFg6 (.bool ya) (.slice Y y1 y2) (.slice Y' y1' y2')
          have hFg5 := hFg5.far (g2 := g6) (by omega) (.bool ya) (.slice Y y1 y2) (.slice Y' y1' y2')
          have hFg6 := hFg6.put3 ya (.slice Y y1 y2) (.slice Y' y1' y2')
          simp only [put_lit, put_non, List.set_cons_zero, List.set_cons_succ]
          refine hk_done (by kernel_rfl) ?_
          have hl2 := hF2.lt
          go_wp2_with fail
          go_meet
          case rel => exact ⟨g5, g6, rfl, rfl, by omega, by omega, xa, X, x1, x2, X', x1', x2', n, d, ya, Y, y1, y2, Y', y1', y2', s, t, hFg5, hFg6, hF2.below hK, hx1, hx2, hx3, hx4, hy1, hy2, hy3, hy4, below_then hB0 hK, hyz⟩
      · skip
        obtain ⟨wz2, g5, ewg5, egg5, hB, hFg5⟩ := var1 wz1 false (.slice none 0 0) (.slice none 0 0)
        refine op_do (some 6) (.pointer (some ⟨g5, 0, none⟩)) wz2 (by kernel_rfl) (by kernel_rfl) (by kernel_rfl) (by rw [← ewg5, ← egg5]; exact exec_new3 (by kernel_rfl)) ?_
        refine ⟨below_then hK hB, ?_⟩
        have ltg5 := hK.size
        have hK := below_then hK hB
        have hx1 := hx1.below hB
        have hx2 := hx2.below hB
        clear hB
        simp only [put_lit, put_non, List.set_cons_zero, List.set_cons_succ]
        refine hk_two (i := 3) (j := 5) (by kernel_rfl) ?_ ?_
        · skip
          refine op_call (some 11) 13 #[.agg #[.bool nb, .slice B i j, .slice B' i' j']] (by kernel_rfl) (by kernel_rfl) (by kernel_rfl) (fun w => by kernel_rfl) ?_
          refine (D2.out wz2 (below_then hB0 hK)).mono ?_
          rintro e wz3 ⟨uy, rfl, huy, hB⟩
          refine ⟨_, rfl, below_then hK hB, ?_⟩
          have hK := below_then hK hB
          have hx1 := hx1.below hB
          have hx2 := hx2.below hB
          have hFg5 := hFg5.below hB
          clear hB
          obtain ⟨ya, Y, y1, y2, Y', y1', y2', s, t, rfl, hy1, hy2, hy3, hy4⟩ := huy.fracP
          have hyz := canF_len0 huy
          simp only [put_lit, put_non, List.set_cons_zero, List.set_cons_succ]
          refine hk_one (i := 5) (by kernel_rfl) ?_
          have lhFg5g6 := hFg5.lt
          obtain ⟨wz4, g6, ewg6, egg6, hB, hFg6⟩ := var1 wz3 false (.slice none 0 0) (.slice none 0 0)
          refine op_do (some 7) (.pointer (some ⟨g6, 0, none⟩)) wz4 (by kernel_rfl) (by kernel_rfl) (by kernel_rfl) (by rw [← ewg6, ← egg6]; exact exec_new3 (by kernel_rfl)) ?_
          refine ⟨below_then hK hB, ?_⟩
          have ltg6 := hK.size
          have hK := below_then hK hB
          have hx1 := hx1.below hB
          have hx2 := hx2.below hB
          have hFg5 := hFg5.below hB
          have hy1 := hy1.below hB
          have hy2 := hy2.below hB
          clear hB
          simp only [put_lit, put_non, List.set_cons_zero, List.set_cons_succ]
          refine hk_one (i := 6) (by kernel_rfl) ?_
          refine op_skip none (stor3 wz4 g5 (.bool xa) (.slice X x1 x2) (.slice X' x1' x2')) (by kernel_rfl) (by kernel_rfl) (by kernel_rfl) (exec_store3 6 9 hFg5 (by kernel_rfl) (by kernel_rfl) (by kernel_rfl)) ?_
          have hB := below_put3 (g := g5) hK (by omega) (.bool xa) (.slice X x1 x2) (.slice X' x1' x2')
          refine ⟨hB, ?_⟩
          have hK := hB
          have hx1 := hx1.put3 hFg5 (.bool xa) (.slice X x1 x2) (.slice X' x1' x2')
          have hx2 := hx2.put3 hFg5 (.bool xa) (.slice X x1 x2) (.slice X' x1' x2')
          have hy1 := hy1.put3 hFg5 (.bool xa) (.slice X x1 x2) (.slice X' x1' x2')
          have hy2 := hy2.put3 hFg5 (.bool xa) (.slice X x1 x2) (.slice X' x1' x2')
          have hFg6 := hFg6.far (g2 := g5) (by omega) (.bool xa) (.slice X x1 x2) (.slice X' x1' x2')
          have hFg5 := hFg5.put3 xa (.slice X x1 x2) (.slice X' x1' x2')
          simp only [put_lit, put_non, List.set_cons_zero, List.set_cons_succ]
          refine hk_one (i := 7) (by kernel_rfl) ?_
          refine op_skip none (stor3 (stor3 wz4 g5 (.bool xa) (.slice X x1 x2) (.slice X' x1' x2')) g6 (.bool ya) (.slice Y y1 y2) (.slice Y' y1' y2')) (by kernel_rfl) (by kernel_rfl) (by kernel_rfl) (exec_store3 7 11 hFg6 (by kernel_rfl) (by kernel_rfl) (by kernel_rfl)) ?_
          have hB := below_put3 (g := g6) hK (by omega) (.bool ya) (.slice Y y1 y2) (.slice Y' y1' y2')
          refine ⟨hB, ?_⟩
          have hK := hB
          have hx1 := hx1.put3 hFg6 (.bool ya) (.slice Y y1 y2) (.slice Y' y1' y2')
          have hx2 := hx2.put3 hFg6 (.bool ya) (.slice Y y1 y2) (.slice Y' y1' y2')
          have hy1 := hy1.put3 hFg6 (.bool ya) (.slice Y y1 y2) (.slice Y' y1' y2')
          have hy2 := hy2.put3 hFg6 (.bool ya) (.slice Y y1 y2) (.slice Y' y1' y2')
          have hFg5 := hFg5.far (g2 := g6) (by omega) (.bool ya) (.slice Y y1 y2) (.slice Y' y1' y2')
          have hFg6 := hFg6.put3 ya (.slice Y y1 y2) (.slice Y' y1' y2')
          simp only [put_lit, put_non, List.set_cons_zero, List.set_cons_succ]
          refine hk_done (by kernel_rfl) ?_
          have hl2 := hF2.lt
          go_wp2_with fail
          go_meet
          case rel => exact ⟨g5, g6, rfl, rfl, by omega, by omega, xa, X, x1, x2, X', x1', x2', n, d, ya, Y, y1, y2, Y', y1', y2', s, t, hFg5, hFg6, hF2.below hK, hx1, hx2, hx3, hx4, hy1, hy2, hy3, hy4, below_then hB0 hK, hyz⟩
        · skip
          have lhFg5g6 := hFg5.lt
          obtain ⟨wz3, g6, ewg6, egg6, hB, hFg6⟩ := var1 wz2 false (.slice none 0 0) (.slice none 0 0)
          refine op_do (some 7) (.pointer (some ⟨g6, 0, none⟩)) wz3 (by kernel_rfl) (by kernel_rfl) (by kernel_rfl) (by rw [← ewg6, ← egg6]; exact exec_new3 (by kernel_rfl)) ?_
          refine ⟨below_then hK hB, ?_⟩
          have ltg6 := hK.size
          have hK := below_then hK hB
          have hx1 := hx1.below hB
          have hx2 := hx2.below hB
          have hFg5 := hFg5.below hB
          clear hB
          simp only [put_lit, put_non, List.set_cons_zero, List.set_cons_succ]
          refine hk_one (i := 3) (by kernel_rfl) ?_
          refine op_call (some 11) 13 #[.agg #[.bool nb, .slice B i j, .slice B' i' j']] (by kernel_rfl) (by kernel_rfl) (by kernel_rfl) (fun w => by kernel_rfl) ?_
          refine (D2.out wz3 (below_then hB0 hK)).mono ?_
          rintro e wz4 ⟨uy, rfl, huy, hB⟩
          refine ⟨_, rfl, below_then hK hB, ?_⟩
          have hK := below_then hK hB
          have hx1 := hx1.below hB
          have hx2 := hx2.below hB
          have hFg5 := hFg5.below hB
          have hFg6 := hFg6.below hB
          clear hB
          obtain ⟨ya, Y, y1, y2, Y', y1', y2', s, t, rfl, hy1, hy2, hy3, hy4⟩ := huy.fracP
          have hyz := canF_len0 huy
          simp only [put_lit, put_non, List.set_cons_zero, List.set_cons_succ]
          refine hk_one (i := 6) (by kernel_rfl) ?_
          refine op_skip none (stor3 wz4 g5 (.bool xa) (.slice X x1 x2) (.slice X' x1' x2')) (by kernel_rfl) (by kernel_rfl) (by kernel_rfl) (exec_store3 6 9 hFg5 (by kernel_rfl) (by kernel_rfl) (by kernel_rfl)) ?_
          have hB := below_put3 (g := g5) hK (by omega) (.bool xa) (.slice X x1 x2) (.slice X' x1' x2')
          refine ⟨hB, ?_⟩
          have hK := hB
          have hx1 := hx1.put3 hFg5 (.bool xa) (.slice X x1 x2) (.slice X' x1' x2')
          have hx2 := hx2.put3 hFg5 (.bool xa) (.slice X x1 x2) (.slice X' x1' x2')
          have hy1 := hy1.put3 hFg5 (.bool xa) (.slice X x1 x2) (.slice X' x1' x2')
          have hy2 := hy2.put3 hFg5 (.bool xa) (.slice X x1 x2) (.slice X' x1' x2')
          have hFg6 := hFg6.far (g2 := g5) (by omega) (.bool xa) (.slice X x1 x2) (.slice X' x1' x2')
          have hFg5 := hFg5.put3 xa (.slice X x1 x2) (.slice X' x1' x2')
          simp only [put_lit, put_non, List.set_cons_zero, List.set_cons_succ]
          refine hk_one (i := 7) (by kernel_rfl) ?_
          refine op_skip none (stor3 (stor3 wz4 g5 (.bool xa) (.slice X x1 x2) (.slice X' x1' x2')) g6 (.bool ya) (.slice Y y1 y2) (.slice Y' y1' y2')) (by kernel_rfl) (by kernel_rfl) (by kernel_rfl) (exec_store3 7 11 hFg6 (by kernel_rfl) (by kernel_rfl) (by kernel_rfl)) ?_
          have hB := below_put3 (g := g6) hK (by omega) (.bool ya) (.slice Y y1 y2) (.slice Y' y1' y2')
          refine ⟨hB, ?_⟩
          have hK := hB
          have hx1 := hx1.put3 hFg6 (.bool ya) (.slice Y y1 y2) (.slice Y' y1' y2')
          have hx2 := hx2.put3 hFg6 (.bool ya) (.slice Y y1 y2) (.slice Y' y1' y2')
          have hy1 := hy1.put3 hFg6 (.bool ya) (.slice Y y1 y2) (.slice Y' y1' y2')
          have hy2 := hy2.put3 hFg6 (.bool ya) (.slice Y y1 y2) (.slice Y' y1' y2')
          have hFg5 := hFg5.far (g2 := g6) (by omega) (.bool ya) (.slice Y y1 y2) (.slice Y' y1' y2')
          have hFg6 := hFg6.put3 ya (.slice Y y1 y2) (.slice Y' y1' y2')
          simp only [put_lit, put_non, List.set_cons_zero, List.set_cons_succ]
          refine hk_done (by kernel_rfl) ?_
          have hl2 := hF2.lt
          go_wp2_with fail
          go_meet
          case rel => exact ⟨g5, g6, rfl, rfl, by omega, by omega, xa, X, x1, x2, X', x1', x2', n, d, ya, Y, y1, y2, Y', y1', y2', s, t, hFg5, hFg6, hF2.below hK, hx1, hx2, hx3, hx4, hy1, hy2, hy3, hy4, below_then hB0 hK, hyz⟩
      · skip
        obtain ⟨wz2, g6, ewg6, egg6, hB, hFg6⟩ := var1 wz1 false (.slice none 0 0) (.slice none 0 0)
        refine op_do (some 7) (.pointer (some ⟨g6, 0, none⟩)) wz2 (by kernel_rfl) (by kernel_rfl) (by kernel_rfl) (by rw [← ewg6, ← egg6]; exact exec_new3 (by kernel_rfl)) ?_
        refine ⟨below_then hK hB, ?_⟩
        have ltg6 := hK.size
        have hK := below_then hK hB
        have hx1 := hx1.below hB
        have hx2 := hx2.below hB
        clear hB
        simp only [put_lit, put_non, List.set_cons_zero, List.set_cons_succ]
        refine hk_two (i := 3) (j := 4) (by kernel_rfl) ?_ ?_
        · skip
          refine op_call (some 11) 13 #[.agg #[.bool nb, .slice B i j, .slice B' i' j']] (by kernel_rfl) (by kernel_rfl) (by kernel_rfl) (fun w => by kernel_rfl) ?_
          refine (D2.out wz2 (below_then hB0 hK)).mono ?_
          rintro e wz3 ⟨uy, rfl, huy, hB⟩
          refine ⟨_, rfl, below_then hK hB, ?_⟩
          have hK := below_then hK hB
          have hx1 := hx1.below hB
          have hx2 := hx2.below hB
          have hFg6 := hFg6.below hB
          clear hB
          obtain ⟨ya, Y, y1, y2, Y', y1', y2', s, t, rfl, hy1, hy2, hy3, hy4⟩ := huy.fracP
          have hyz := canF_len0 huy
          simp only [put_lit, put_non, List.set_cons_zero, List.set_cons_succ]
          refine hk_one (i := 4) (by kernel_rfl) ?_
          have lhFg6g5 := hFg6.lt
          obtain ⟨wz4, g5, ewg5, egg5, hB, hFg5⟩ := var1 wz3 false (.slice none 0 0) (.slice none 0 0)
          refine op_do (some 6) (.pointer (some ⟨g5, 0, none⟩)) wz4 (by kernel_rfl) (by kernel_rfl) (by kernel_rfl) (by rw [← ewg5, ← egg5]; exact exec_new3 (by kernel_rfl)) ?_
          refine ⟨below_then hK hB, ?_⟩
          have ltg5 := hK.size
          have hK := below_then hK hB
          have hx1 := hx1.below hB
          have hx2 := hx2.below hB
          have hFg6 := hFg6.below hB
          have hy1 := hy1.below hB
          have hy2 := hy2.below hB
          clear hB
          simp only [put_lit, put_non, List.set_cons_zero, List.set_cons_succ]
          refine hk_one (i := 6) (by kernel_rfl) ?_
          refine op_skip none (stor3 wz4 g5 (.bool xa) (.slice X x1 x2) (.slice X' x1' x2')) (by kernel_rfl) (by kernel_rfl) (by kernel_rfl) (exec_store3 6 9 hFg5 (by kernel_rfl) (by kernel_rfl) (by kernel_rfl)) ?_
          have hB := below_put3 (g := g5) hK (by omega) (.bool xa) (.slice X x1 x2) (.slice X' x1' x2')
          refine ⟨hB, ?_⟩
          have hK := hB
          have hx1 := hx1.put3 hFg5 (.bool xa) (.slice X x1 x2) (.slice X' x1' x2')
          have hx2 := hx2.put3 hFg5 (.bool xa) (.slice X x1 x2) (.slice X' x1' x2')
          have hy1 := hy1.put3 hFg5 (.bool xa) (.slice X x1 x2) (.slice X' x1' x2')
          have hy2 := hy2.put3 hFg5 (.bool xa) (.slice X x1 x2) (.slice X' x1' x2')
          have hFg6 := hFg6.far (g2 := g5) (by omega) (.bool xa) (.slice X x1 x2) (.slice X' x1' x2')
          have hFg5 := hFg5.put3 xa (.slice X x1 x2) (.slice X' x1' x2')
          simp only [put_lit, put_non, List.set_cons_zero, List.set_cons_succ]
          refine hk_one (i := 7) (by kernel_rfl) ?_
          refine op_skip none (stor3 (stor3 wz4 g5 (.bool xa) (.slice X x1 x2) (.slice X' x1' x2')) g6 (.bool ya) (.slice Y y1 y2) (.slice Y' y1' y2')) (by kernel_rfl) (by kernel_rfl) (by kernel_rfl) (exec_store3 7 11 hFg6 (by kernel_rfl) (by kernel_rfl) (by kernel_rfl)) ?_
          have hB := below_put3 (g := g6) hK (by omega) (.bool ya) (.slice Y y1 y2) (.slice Y' y1' y2')
          refine ⟨hB, ?_⟩
          have hK := hB
          have hx1 := hx1.put3 hFg6 (.bool ya) (.slice Y y1 y2) (.slice Y' y1' y2')
          have hx2 := hx2.put3 hFg6 (.bool ya) (.slice Y y1 y2) (.slice Y' y1' y2')
          have hy1 := hy1.put3 hFg6 (.bool ya) (.slice Y y1 y2) (.slice Y' y1' y2')
          have hy2 := hy2.put3 hFg6 (.bool ya) (.slice Y y1 y2) (.slice Y' y1' y2')
          have hFg5 := hFg5.far (g2 := g6) (by omega) (.bool ya) (.slice Y y1 y2) (.slice Y' y1' y2')
          have hFg6 := hFg6.put3 ya (.slice Y y1 y2) (.slice Y' y1' y2')
          simp only [put_lit, put_non, List.set_cons_zero, List.set_cons_succ]
          refine hk_done (by kernel_rfl) ?_
          have hl2 := hF2.lt
          go_wp2_with fail
          go_meet
          case rel => exact ⟨g5, g6, rfl, rfl, by omega, by omega, xa, X, x1, x2, X', x1', x2', n, d, ya, Y, y1, y2, Y', y1', y2', s, t, hFg5, hFg6, hF2.below hK, hx1, hx2, hx3, hx4, hy1, hy2, hy3, hy4, below_then hB0 hK, hyz⟩
        · skip
          have lhFg6g5 := hFg6.lt
          obtain ⟨wz3, g5, ewg5, egg5, hB, hFg5⟩ := var1 wz2 false (.slice none 0 0) (.slice none 0 0)
          refine op_do (some 6) (.pointer (some ⟨g5, 0, none⟩)) wz3 (by kernel_rfl) (by kernel_rfl) (by kernel_rfl) (by rw [← ewg5, ← egg5]; exact exec_new3 (by kernel_rfl)) ?_
          refine ⟨below_then hK hB, ?_⟩
          have ltg5 := hK.size
          have hK := below_then hK hB
          have hx1 := hx1.below hB
          have hx2 := hx2.below hB
          have hFg6 := hFg6.below hB
          clear hB
          simp only [put_lit, put_non, List.set_cons_zero, List.set_cons_succ]
          refine hk_one (i := 3) (by kernel_rfl) ?_
          refine op_call (some 11) 13 #[.agg #[.bool nb, .slice B i j, .slice B' i' j']] (by kernel_rfl) (by kernel_rfl) (by kernel_rfl) (fun w => by kernel_rfl) ?_
          refine (D2.out wz3 (below_then hB0 hK)).mono ?_
          rintro e wz4 ⟨uy, rfl, huy, hB⟩
          refine ⟨_, rfl, below_then hK hB, ?_⟩
          have hK := below_then hK hB
          have hx1 := hx1.below hB
          have hx2 := hx2.below hB
          have hFg6 := hFg6.below hB
          have hFg5 := hFg5.below hB
          clear hB
          obtain ⟨ya, Y, y1, y2, Y', y1', y2', s, t, rfl, hy1, hy2, hy3, hy4⟩ := huy.fracP
          have hyz := canF_len0 huy
          simp only [put_lit, put_non, List.set_cons_zero, List.set_cons_succ]
          refine hk_one (i := 6) (by kernel_rfl) ?_
          refine op_skip none (stor3 wz4 g5 (.bool xa) (.slice X x1 x2) (.slice X' x1' x2')) (by kernel_rfl) (by kernel_rfl) (by kernel_rfl) (exec_store3 6 9 hFg5 (by kernel_rfl) (by kernel_rfl) (by kernel_rfl)) ?_
          have hB := below_put3 (g := g5) hK (by omega) (.bool xa) (.slice X x1 x2) (.slice X' x1' x2')
          refine ⟨hB, ?_⟩
          have hK := hB
          have hx1 := hx1.put3 hFg5 (.bool xa) (.slice X x1 x2) (.slice X' x1' x2')
          have hx2 := hx2.put3 hFg5 (.bool xa) (.slice X x1 x2) (.slice X' x1' x2')
          have hy1 := hy1.put3 hFg5 (.bool xa) (.slice X x1 x2) (.slice X' x1' x2')
          have hy2 := hy2.put3 hFg5 (.bool xa) (.slice X x1 x2) (.slice X' x1' x2')
          have hFg6 := hFg6.far (g2 := g5) (by omega) (.bool xa) (.slice X x1 x2) (.slice X' x1' x2')
          have hFg5 := hFg5.put3 xa (.slice X x1 x2) (.slice X' x1' x2')
          simp only [put_lit, put_non, List.set_cons_zero, List.set_cons_succ]
          refine hk_one (i := 7) (by kernel_rfl) ?_
          refine op_skip none (stor3 (stor3 wz4 g5 (.bool xa) (.slice X x1 x2) (.slice X' x1' x2')) g6 (.bool ya) (.slice Y y1 y2) (.slice Y' y1' y2')) (by kernel_rfl) (by kernel_rfl) (by kernel_rfl) (exec_store3 7 11 hFg6 (by kernel_rfl) (by kernel_rfl) (by kernel_rfl)) ?_
          have hB := below_put3 (g := g6) hK (by omega) (.bool ya) (.slice Y y1 y2) (.slice Y' y1' y2')
          refine ⟨hB, ?_⟩
          have hK := hB
          have hx1 := hx1.put3 hFg6 (.bool ya) (.slice Y y1 y2) (.slice Y' y1' y2')
          have hx2 := hx2.put3 hFg6 (.bool ya) (.slice Y y1 y2) (.slice Y' y1' y2')
          have hy1 := hy1.put3 hFg6 (.bool ya) (.slice Y y1 y2) (.slice Y' y1' y2')
          have hy2 := hy2.put3 hFg6 (.bool ya) (.slice Y y1 y2) (.slice Y' y1' y2')
          have hFg5 := hFg5.far (g2 := g6) (by omega) (.bool ya) (.slice Y y1 y2) (.slice Y' y1' y2')
          have hFg6 := hFg6.put3 ya (.slice Y y1 y2) (.slice Y' y1' y2')
          simp only [put_lit, put_non, List.set_cons_zero, List.set_cons_succ]
          refine hk_done (by kernel_rfl) ?_
          have hl2 := hF2.lt
          go_wp2_with fail
          go_meet
          case rel => exact ⟨g5, g6, rfl, rfl, by omega, by omega, xa, X, x1, x2, X', x1', x2', n, d, ya, Y, y1, y2, Y', y1', y2', s, t, hFg5, hFg6, hF2.below hK, hx1, hx2, hx3, hx4, hy1, hy2, hy3, hy4, below_then hB0 hK, hyz⟩
    · skip
      obtain ⟨wz1, g5, ewg5, egg5, hB, hFg5⟩ := var1 w2.drew false (.slice none 0 0) (.slice none 0 0)
      refine op_do (some 6) (.pointer (some ⟨g5, 0, none⟩)) wz1 (by kernel_rfl) (by kernel_rfl) (by kernel_rfl) (by rw [← ewg5, ← egg5]; exact exec_new3 (by kernel_rfl)) ?_
      refine ⟨below_then hK hB, ?_⟩
      have ltg5 := hK.size
      have hK := below_then hK hB
      clear hB
      simp only [put_lit, put_non, List.set_cons_zero, List.set_cons_succ]
      refine hk_two (i := 1) (j := 5) (by kernel_rfl) ?_ ?_
      · skip
        refine op_call (some 9) 13 #[.agg #[.bool na, .slice A m c, .slice A' m' c']] (by kernel_rfl) (by kernel_rfl) (by kernel_rfl) (fun w => by kernel_rfl) ?_
        refine (D1.out wz1 (below_then hB0 hK)).mono ?_
        rintro e wz2 ⟨ux, rfl, hux, hB⟩
        refine ⟨_, rfl, below_then hK hB, ?_⟩
        have hK := below_then hK hB
        have hFg5 := hFg5.below hB
        clear hB
        obtain ⟨xa, X, x1, x2, X', x1', x2', n, d, rfl, hx1, hx2, hx3, hx4⟩ := hux.fracP
        simp only [put_lit, put_non, List.set_cons_zero, List.set_cons_succ]
        refine hk_two (i := 3) (j := 5) (by kernel_rfl) ?_ ?_
        · skip
          refine op_call (some 11) 13 #[.agg #[.bool nb, .slice B i j, .slice B' i' j']] (by kernel_rfl) (by kernel_rfl) (by kernel_rfl) (fun w => by kernel_rfl) ?_
          refine (D2.out wz2 (below_then hB0 hK)).mono ?_
          rintro e wz3 ⟨uy, rfl, huy, hB⟩
          refine ⟨_, rfl, below_then hK hB, ?_⟩
          have hK := below_then hK hB
          have hFg5 := hFg5.below hB
          have hx1 := hx1.below hB
          have hx2 := hx2.below hB
          clear hB
          obtain ⟨ya, Y, y1, y2, Y', y1', y2', s, t, rfl, hy1, hy2, hy3, hy4⟩ := huy.fracP
          have hyz := canF_len0 huy
          simp only [put_lit, put_non, List.set_cons_zero, List.set_cons_succ]
          refine hk_one (i := 5) (by kernel_rfl) ?_
          have lhFg5g6 := hFg5.lt
          obtain ⟨wz4, g6, ewg6, egg6, hB, hFg6⟩ := var1 wz3 false (.slice none 0 0) (.slice none 0 0)
          refine op_do (some 7) (.pointer (some ⟨g6, 0, none⟩)) wz4 (by kernel_rfl) (by kernel_rfl) (by kernel_rfl) (by rw [← ewg6, ← egg6]; exact exec_new3 (by kernel_rfl)) ?_
          refine ⟨below_then hK hB, ?_⟩
          have ltg6 := hK.size
          have hK := below_then hK hB
          have hFg5 := hFg5.below hB
          have hx1 := hx1.below hB
          have hx2 := hx2.below hB
          have hy1 := hy1.below hB
          have hy2 := hy2.below hB
          clear hB
          simp only [put_lit, put_non, List.set_cons_zero, List.set_cons_succ]
          refine hk_one (i := 6) (by kernel_rfl) ?_
          refine op_skip none (stor3 wz4 g5 (.bool xa) (.slice X x1 x2) (.slice X' x1' x2')) (by kernel_rfl) (by kernel_rfl) (by kernel_rfl) (exec_store3 6 9 hFg5 (by kernel_rfl) (by kernel_rfl) (by kernel_rfl)) ?_
          have hB := below_put3 (g := g5) hK (by omega) (.bool xa) (.slice X x1 x2) (.slice X' x1' x2')
          refine ⟨hB, ?_⟩
          have hK := hB
          have hx1 := hx1.put3 hFg5 (.bool xa) (.slice X x1 x2) (.slice X' x1' x2')
          have hx2 := hx2.put3 hFg5 (.bool xa) (.slice X x1 x2) (.slice X' x1' x2')
          have hy1 := hy1.put3 hFg5 (.bool xa) (.slice X x1 x2) (.slice X' x1' x2')
          have hy2 := hy2.put3 hFg5 (.bool xa) (.slice X x1 x2) (.slice X' x1' x2')
          have hFg6 := hFg6.far (g2 := g5) (by omega) (.bool xa) (.slice X x1 x2) (.slice X' x1' x2')
          have hFg5 := hFg5.put3 xa (.slice X x1 x2) (.slice X' x1' x2')
          simp only [put_lit, put_non, List.set_cons_zero, List.set_cons_succ]
          refine hk_one (i := 7) (by kernel_rfl) ?_
          refine op_skip none (stor3 (stor3 wz4 g5 (.bool xa) (.slice X x1 x2) (.slice X' x1' x2')) g6 (.bool ya) (.slice Y y1 y2) (.slice Y' y1' y2')) (by kernel_rfl) (by kernel_rfl) (by kernel_rfl) (exec_store3 7 11 hFg6 (by kernel_rfl) (by kernel_rfl) (by kernel_rfl)) ?_
          have hB := below_put3 (g := g6) hK (by omega) (.bool ya) (.slice Y y1 y2) (.slice Y' y1' y2')
          refine ⟨hB, ?_⟩
          have hK := hB
          have hx1 := hx1.put3 hFg6 (.bool ya) (.slice Y y1 y2) (.slice Y' y1' y2')
          have hx2 := hx2.put3 hFg6 (.bool ya) (.slice Y y1 y2) (.slice Y' y1' y2')
          have hy1 := hy1.put3 hFg6 (.bool ya) (.slice Y y1 y2) (.slice Y' y1' y2')
          have hy2 := hy2.put3 hFg6 (.bool ya) (.slice Y y1 y2) (.slice Y' y1' y2')
          have hFg5 := hFg5.far (g2 := g6) (by omega) (.bool ya) (.slice Y y1 y2) (.slice Y' y1' y2')
          have hFg6 := hFg6.put3 ya (.slice Y y1 y2) (.slice Y' y1' y2')
          simp only [put_lit, put_non, List.set_cons_zero, List.set_cons_succ]
          refine hk_done (by kernel_rfl) ?_
          have hl2 := hF2.lt
          go_wp2_with fail
          go_meet
          case rel => exact ⟨g5, g6, rfl, rfl, by omega, by omega, xa, X, x1, x2, X', x1', x2', n, d, ya, Y, y1, y2, Y', y1', y2', s, t, hFg5, hFg6, hF2.below hK, hx1, hx2, hx3, hx4, hy1, hy2, hy3, hy4, below_then hB0 hK, hyz⟩
        · skip
          have lhFg5g6 := hFg5.lt
          obtain ⟨wz3, g6, ewg6, egg6, hB, hFg6⟩ := var1 wz2 false (.slice none 0 0) (.slice none 0 0)
          refine op_do (some 7) (.pointer (some ⟨g6, 0, none⟩)) wz3 (by kernel_rfl) (by kernel_rfl) (by kernel_rfl) (by rw [← ewg6, ← egg6]; exact exec_new3 (by kernel_rfl)) ?_
          refine ⟨below_then hK hB, ?_⟩
          have ltg6 := hK.size
          have hK := below_then hK hB
          have hFg5 := hFg5.below hB
          have hx1 := hx1.below hB
          have hx2 := hx2.below hB
          clear hB
          simp only [put_lit, put_non, List.set_cons_zero, List.set_cons_succ]
          refine hk_one (i := 3) (by kernel_rfl) ?_
          refine op_call (some 11) 13 #[.agg #[.bool nb, .slice B i j, .slice B' i' j']] (by kernel_rfl) (by kernel_rfl) (by kernel_rfl) (fun w => by kernel_rfl) ?_
          refine (D2.out wz3 (below_then hB0 hK)).mono ?_
          rintro e wz4 ⟨uy, rfl, huy, hB⟩
          refine ⟨_, rfl, below_then hK hB, ?_⟩
          have hK := below_then hK hB
          have hFg5 := hFg5.below hB
          have hx1 := hx1.below hB
          have hx2 := hx2.below hB
          have hFg6 := hFg6.below hB
          clear hB
          obtain ⟨ya, Y, y1, y2, Y', y1', y2', s, t, rfl, hy1, hy2, hy3, hy4⟩ := huy.fracP
          have hyz := canF_len0 huy
          simp only [put_lit, put_non, List.set_cons_zero, List.set_cons_succ]
          refine hk_one (i := 6) (by kernel_rfl) ?_
          refine op_skip none (stor3 wz4 g5 (.bool xa) (.slice X x1 x2) (.slice X' x1' x2')) (by kernel_rfl) (by kernel_rfl) (by kernel_rfl) (exec_store3 6 9 hFg5 (by kernel_rfl) (by kernel_rfl) (by kernel_rfl)) ?_
          have hB := below_put3 (g := g5) hK (by omega) (.bool xa) (.slice X x1 x2) (.slice X' x1' x2')
          refine ⟨hB, ?_⟩
          have hK := hB
          have hx1 := hx1.put3 hFg5 (.bool xa) (.slice X x1 x2) (.slice X' x1' x2')
          have hx2 := hx2.put3 hFg5 (.bool xa) (.slice X x1 x2) (.slice X' x1' x2')
          have hy1 := hy1.put3 hFg5 (.bool xa) (.slice X x1 x2) (.slice X' x1' x2')
          have hy2 := hy2.put3 hFg5 (.bool xa) (.slice X x1 x2) (.slice X' x1' x2')
          have hFg6 := hFg6.far (g2 := g5) (by omega) (.bool xa) (.slice X x1 x2) (.slice X' x1' x2')
          have hFg5 := hFg5.put3 xa (.slice X x1 x2) (.slice X' x1' x2')
          simp only [put_lit, put_non, List.set_cons_zero, List.set_cons_succ]
          refine hk_one (i := 7) (by kernel_rfl) ?_
          refine op_skip none (stor3 (stor3 wz4 g5 (.bool xa) (.slice X x1 x2) (.slice X' x1' x2')) g6 (.bool ya) (.slice Y y1 y2) (.slice Y' y1' y2')) (by kernel_rfl) (by kernel_rfl) (by kernel_rfl) (exec_store3 7 11 hFg6 (by kernel_rfl) (by kernel_rfl) (by kernel_rfl)) ?_
          have hB := below_put3 (g := g6) hK (by omega) (.bool ya) (.slice Y y1 y2) (.slice Y' y1' y2')
          refine ⟨hB, ?_⟩
          have hK := hB
          have hx1 := hx1.put3 hFg6 (.bool ya) (.slice Y y1 y2) (.slice Y' y1' y2')
          have hx2 := hx2.put3 hFg6 (.bool ya) (.slice Y y1 y2) (.slice Y' y1' y2')
          have hy1 := hy1.put3 hFg6 (.bool ya) (.slice Y y1 y2) (.slice Y' y1' y2')
          have hy2 := hy2.put3 hFg6 (.bool ya) (.slice Y y1 y2) (.slice Y' y1' y2')
          have hFg5 := hFg5.far (g2 := g6) (by omega) (.bool ya) (.slice Y y1 y2) (.slice Y' y1' y2')
          have hFg6 := hFg6.put3 ya (.slice Y y1 y2) (.slice Y' y1' y2')
          simp only [put_lit, put_non, List.set_cons_zero, List.set_cons_succ]
          refine hk_done (by kernel_rfl) ?_
          have hl2 := hF2.lt
          go_wp2_with fail
          go_meet
          case rel => exact ⟨g5, g6, rfl, rfl, by omega, by omega, xa, X, x1, x2, X', x1', x2', n, d, ya, Y, y1, y2, Y', y1', y2', s, t, hFg5, hFg6, hF2.below hK, hx1, hx2, hx3, hx4, hy1, hy2, hy3, hy4, below_then hB0 hK, hyz⟩
      · skip
        have lhFg5g6 := hFg5.lt
        obtain ⟨wz2, g6, ewg6, egg6, hB, hFg6⟩ := var1 wz1 false (.slice none 0 0) (.slice none 0 0)
        refine op_do (some 7) (.pointer (some ⟨g6, 0, none⟩)) wz2 (by kernel_rfl) (by kernel_rfl) (by kernel_rfl) (by rw [← ewg6, ← egg6]; exact exec_new3 (by kernel_rfl)) ?_
        refine ⟨below_then hK hB, ?_⟩
        have ltg6 := hK.size
        have hK := below_then hK hB
        have hFg5 := hFg5.below hB
        clear hB
        simp only [put_lit, put_non, List.set_cons_zero, List.set_cons_succ]
        refine hk_one (i := 1) (by kernel_rfl) ?_
        refine op_call (some 9) 13 #[.agg #[.bool na, .slice A m c, .slice A' m' c']] (by kernel_rfl) (by kernel_rfl) (by kernel_rfl) (fun w => by kernel_rfl) ?_
        refine (D1.out wz2 (below_then hB0 hK)).mono ?_
        rintro e wz3 ⟨ux, rfl, hux, hB⟩
        refine ⟨_, rfl, below_then hK hB, ?_⟩
        have hK := below_then hK hB
        have hFg5 := hFg5.below hB
        have hFg6 := hFg6.below hB
        clear hB
        obtain ⟨xa, X, x1, x2, X', x1', x2', n, d, rfl, hx1, hx2, hx3, hx4⟩ := hux.fracP
        simp only [put_lit, put_non, List.set_cons_zero, List.set_cons_succ]
        refine hk_one (i := 3) (by kernel_rfl) ?_
        refine op_call (some 11) 13 #[.agg #[.bool nb, .slice B i j, .slice B' i' j']] (by kernel_rfl) (by kernel_rfl) (by kernel_rfl) (fun w => by kernel_rfl) ?_
        refine (D2.out wz3 (below_then hB0 hK)).mono ?_
        rintro e wz4 ⟨uy, rfl, huy, hB⟩
        refine ⟨_, rfl, below_then hK hB, ?_⟩
        have hK := below_then hK hB
        have hFg5 := hFg5.below hB
        have hFg6 := hFg6.below hB
        have hx1 := hx1.below hB
        have hx2 := hx2.below hB
        clear hB
        obtain ⟨ya, Y, y1, y2, Y', y1', y2', s, t, rfl, hy1, hy2, hy3, hy4⟩ := huy.fracP
        have hyz := canF_len0 huy
        simp only [put_lit, put_non, List.set_cons_zero, List.set_cons_succ]
        refine hk_one (i := 6) (by kernel_rfl) ?_
        refine op_skip none (stor3 wz4 g5 (.bool xa) (.slice X x1 x2) (.slice X' x1' x2')) (by kernel_rfl) (by kernel_rfl) (by kernel_rfl) (exec_store3 6 9 hFg5 (by kernel_rfl) (by kernel_rfl) (by kernel_rfl)) ?_
        have hB := below_put3 (g := g5) hK (by omega) (.bool xa) (.slice X x1 x2) (.slice X' x1' x2')
        refine ⟨hB, ?_⟩
        have hK := hB
        have hx1 := hx1.put3 hFg5 (.bool xa) (.slice X x1 x2) (.slice X' x1' x2')
        have hx2 := hx2.put3 hFg5 (.bool xa) (.slice X x1 x2) (.slice X' x1' x2')
        have hy1 := hy1.put3 hFg5 (.bool xa) (.slice X x1 x2) (.slice X' x1' x2')
        have hy2 := hy2.put3 hFg5 (.bool xa) (.slice X x1 x2) (.slice X' x1' x2')
        have hFg6 := hFg6.far (g2 := g5) (by omega) (.bool xa) (.slice X x1 x2) (.slice X' x1' x2')
        have hFg5 := hFg5.put3 xa (.slice X x1 x2) (.slice X' x1' x2')
        simp only [put_lit, put_non, List.set_cons_zero, List.set_cons_succ]
        refine hk_one (i := 7) (by kernel_rfl) ?_
        refine op_skip none (stor3 (stor3 wz4 g5 (.bool xa) (.slice X x1 x2) (.slice X' x1' x2')) g6 (.bool ya) (.slice Y y1 y2) (.slice Y' y1' y2')) (by kernel_rfl) (by kernel_rfl) (by kernel_rfl) (exec_store3 7 11 hFg6 (by kernel_rfl) (by kernel_rfl) (by kernel_rfl)) ?_
        have hB := below_put3 (g := g6) hK (by omega) (.bool ya) (.slice Y y1 y2) (.slice Y' y1' y2')
        refine ⟨hB, ?_⟩
        have hK := hB
        have hx1 := hx1.put3 hFg6 (.bool ya) (.slice Y y1 y2) (.slice Y' y1' y2')
        have hx2 := hx2.put3 hFg6 (.bool ya) (.slice Y y1 y2) (.slice Y' y1' y2')
        have hy1 := hy1.put3 hFg6 (.bool ya) (.slice Y y1 y2) (.slice Y' y1' y2')
        have hy2 := hy2.put3 hFg6 (.bool ya) (.slice Y y1 y2) (.slice Y' y1' y2')
        have hFg5 := hFg5.far (g2 := g6) (by omega) (.bool ya) (.slice Y y1 y2) (.slice Y' y1' y2')
        have hFg6 := hFg6.put3 ya (.slice Y y1 y2) (.slice Y' y1' y2')
        simp only [put_lit, put_non, List.set_cons_zero, List.set_cons_succ]
        refine hk_done (by kernel_rfl) ?_
        have hl2 := hF2.lt
        go_wp2_with fail
        go_meet
        case rel => exact ⟨g5, g6, rfl, rfl, by omega, by omega, xa, X, x1, x2, X', x1', x2', n, d, ya, Y, y1, y2, Y', y1', y2', s, t, hFg5, hFg6, hF2.below hK, hx1, hx2, hx3, hx4, hy1, hy2, hy3, hy4, below_then hB0 hK, hyz⟩
    · skip
      obtain ⟨wz1, g6, ewg6, egg6, hB, hFg6⟩ := var1 w2.drew false (.slice none 0 0) (.slice none 0 0)
      refine op_do (some 7) (.pointer (some ⟨g6, 0, none⟩)) wz1 (by kernel_rfl) (by kernel_rfl) (by kernel_rfl) (by rw [← ewg6, ← egg6]; exact exec_new3 (by kernel_rfl)) ?_
      refine ⟨below_then hK hB, ?_⟩
      have ltg6 := hK.size
      have hK := below_then hK hB
      clear hB
      simp only [put_lit, put_non, List.set_cons_zero, List.set_cons_succ]
      refine hk_two (i := 1) (j := 4) (by kernel_rfl) ?_ ?_
      · skip
        refine op_call (some 9) 13 #[.agg #[.bool na, .slice A m c, .slice A' m' c']] (by kernel_rfl) (by kernel_rfl) (by kernel_rfl) (fun w => by kernel_rfl) ?_
        refine (D1.out wz1 (below_then hB0 hK)).mono ?_
        rintro e wz2 ⟨ux, rfl, hux, hB⟩
        refine ⟨_, rfl, below_then hK hB, ?_⟩
        have hK := below_then hK hB
        have hFg6 := hFg6.below hB
        clear hB
        obtain ⟨xa, X, x1, x2, X', x1', x2', n, d, rfl, hx1, hx2, hx3, hx4⟩ := hux.fracP
        simp only [put_lit, put_non, List.set_cons_zero, List.set_cons_succ]
        refine hk_two (i := 3) (j := 4) (by kernel_rfl) ?_ ?_
        · skip
          refine op_call (some 11) 13 #[.agg #[.bool nb, .slice B i j, .slice B' i' j']] (by kernel_rfl) (by kernel_rfl) (by kernel_rfl) (fun w => by kernel_rfl) ?_
          refine (D2.out wz2 (below_then hB0 hK)).mono ?_
          rintro e wz3 ⟨uy, rfl, huy, hB⟩
          refine ⟨_, rfl, below_then hK hB, ?_⟩
          have hK := below_then hK hB
          have hFg6 := hFg6.below hB
          have hx1 := hx1.below hB
          have hx2 := hx2.below hB
          clear hB
          obtain ⟨ya, Y, y1, y2, Y', y1', y2', s, t, rfl, hy1, hy2, hy3, hy4⟩ := huy.fracP
          have hyz := canF_len0 huy
          simp only [put_lit, put_non, List.set_cons_zero, List.set_cons_succ]
          refine hk_one (i := 4) (by kernel_rfl) ?_
          have lhFg6g5 := hFg6.lt
          obtain ⟨wz4, g5, ewg5, egg5, hB, hFg5⟩ := var1 wz3 false (.slice none 0 0) (.slice none 0 0)
          refine op_do (some 6) (.pointer (some ⟨g5, 0, none⟩)) wz4 (by kernel_rfl) (by kernel_rfl) (by kernel_rfl) (by rw [← ewg5, ← egg5]; exact exec_new3 (by kernel_rfl)) ?_
          refine ⟨below_then hK hB, ?_⟩
          have ltg5 := hK.size
          have hK := below_then hK hB
          have hFg6 := hFg6.below hB
          have hx1 := hx1.below hB
          have hx2 := hx2.below hB
          have hy1 := hy1.below hB
          have hy2 := hy2.below hB
          clear hB
          simp only [put_lit, put_non, List.set_cons_zero, List.set_cons_succ]
          refine hk_one (i := 6) (by kernel_rfl) ?_
          refine op_skip none (stor3 wz4 g5 (.bool xa) (.slice X x1 x2) (.slice X' x1' x2')) (by kernel_rfl) (by kernel_rfl) (by kernel_rfl) (exec_store3 6 9 hFg5 (by kernel_rfl) (by kernel_rfl) (by kernel_rfl)) ?_
          have hB := below_put3 (g := g5) hK (by omega) (.bool xa) (.slice X x1 x2) (.slice X' x1' x2')
          refine ⟨hB, ?_⟩
          have hK := hB
          have hx1 := hx1.put3 hFg5 (.bool xa) (.slice X x1 x2) (.slice X' x1' x2')
          have hx2 := hx2.put3 hFg5 (.bool xa) (.slice X x1 x2) (.slice X' x1' x2')
          have hy1 := hy1.put3 hFg5 (.bool xa) (.slice X x1 x2) (.slice X' x1' x2')
          have hy2 := hy2.put3 hFg5 (.bool xa) (.slice X x1 x2) (.slice X' x1' x2')
          have hFg6 := hFg6.far (g2 := g5) (by omega) (.bool xa) (.slice X x1 x2) (.slice X' x1' x2')
          have hFg5 := hFg5.put3 xa (.slice X x1 x2) (.slice X' x1' x2')
          simp only [put_lit, put_non, List.set_cons_zero, List.set_cons_succ]
          refine hk_one (i := 7) (by kernel_rfl) ?_
          refine op_skip none (stor3 (stor3 wz4 g5 (.bool xa) (.slice X x1 x2) (.slice X' x1' x2')) g6 (.bool ya) (.slice Y y1 y2) (.slice Y' y1' y2')) (by kernel_rfl) (by kernel_rfl) (by kernel_rfl) (exec_store3 7 11 hFg6 (by kernel_rfl) (by kernel_rfl) (by kernel_rfl)) ?_
          have hB := below_put3 (g := g6) hK (by omega) (.bool ya) (.slice Y y1 y2) (.slice Y' y1' y2')
          refine ⟨hB, ?_⟩
          have hK := hB
          have hx1 := hx1.put3 hFg6 (.bool ya) (.slice Y y1 y2) (.slice Y' y1' y2')
          have hx2 := hx2.put3 hFg6 (.bool ya) (.slice Y y1 y2) (.slice Y' y1' y2')
          have hy1 := hy1.put3 hFg6 (.bool ya) (.slice Y y1 y2) (.slice Y' y1' y2')
          have hy2 := hy2.put3 hFg6 (.bool ya) (.slice Y y1 y2) (.slice Y' y1' y2')
          have hFg5 := hFg5.far (g2 := g6) (by omega) (.bool ya) (.slice Y y1 y2) (.slice Y' y1' y2')
          have hFg6 := hFg6.put3 ya (.slice Y y1 y2) (.slice Y' y1' y2')
          simp only [put_lit, put_non, List.set_cons_zero, List.set_cons_succ]
          refine hk_done (by kernel_rfl) ?_
          have hl2 := hF2.lt
          go_wp2_with fail
          go_meet
          case rel => exact ⟨g5, g6, rfl, rfl, by omega, by omega, xa, X, x1, x2, X', x1', x2', n, d, ya, Y, y1, y2, Y', y1', y2', s, t, hFg5, hFg6, hF2.below hK, hx1, hx2, hx3, hx4, hy1, hy2, hy3, hy4, below_then hB0 hK, hyz⟩
        · skip
          have lhFg6g5 := hFg6.lt
          obtain ⟨wz3, g5, ewg5, egg5, hB, hFg5⟩ := var1 wz2 false (.slice none 0 0) (.slice none 0 0)
          refine op_do (some 6) (.pointer (some ⟨g5, 0, none⟩)) wz3 (by kernel_rfl) (by kernel_rfl) (by kernel_rfl) (by rw [← ewg5, ← egg5]; exact exec_new3 (by kernel_rfl)) ?_
          refine ⟨below_then hK hB, ?_⟩
          have ltg5 := hK.size
          have hK := below_then hK hB
          have hFg6 := hFg6.below hB
          have hx1 := hx1.below hB
          have hx2 := hx2.below hB
          clear hB
          simp only [put_lit, put_non, List.set_cons_zero, List.set_cons_succ]
          refine hk_one (i := 3) (by kernel_rfl) ?_
          refine op_call (some 11) 13 #[.agg #[.bool nb, .slice B i j, .slice B' i' j']] (by kernel_rfl) (by kernel_rfl) (by kernel_rfl) (fun w => by kernel_rfl) ?_
          refine (D2.out wz3 (below_then hB0 hK)).mono ?_
          rintro e wz4 ⟨uy, rfl, huy, hB⟩
          refine ⟨_, rfl, below_then hK hB, ?_⟩
          have hK := below_then hK hB
          have hFg6 := hFg6.below hB
          have hx1 := hx1.below hB
          have hx2 := hx2.below hB
          have hFg5 := hFg5.below hB
          clear hB
          obtain ⟨ya, Y, y1, y2, Y', y1', y2', s, t, rfl, hy1, hy2, hy3, hy4⟩ := huy.fracP
          have hyz := canF_len0 huy
          simp only [put_lit, put_non, List.set_cons_zero, List.set_cons_succ]
          refine hk_one (i := 6) (by kernel_rfl) ?_
          refine op_skip none (stor3 wz4 g5 (.bool xa) (.slice X x1 x2) (.slice X' x1' x2')) (by kernel_rfl) (by kernel_rfl) (by kernel_rfl) (exec_store3 6 9 hFg5 (by kernel_rfl) (by kernel_rfl) (by kernel_rfl)) ?_
          have hB := below_put3 (g := g5) hK (by omega) (.bool xa) (.slice X x1 x2) (.slice X' x1' x2')
          refine ⟨hB, ?_⟩
          have hK := hB
          have hx1 := hx1.put3 hFg5 (.bool xa) (.slice X x1 x2) (.slice X' x1' x2')
          have hx2 := hx2.put3 hFg5 (.bool xa) (.slice X x1 x2) (.slice X' x1' x2')
          have hy1 := hy1.put3 hFg5 (.bool xa) (.slice X x1 x2) (.slice X' x1' x2')
          have hy2 := hy2.put3 hFg5 (.bool xa) (.slice X x1 x2) (.slice X' x1' x2')
          have hFg6 := hFg6.far (g2 := g5) (by omega) (.bool xa) (.slice X x1 x2) (.slice X' x1' x2')
          have hFg5 := hFg5.put3 xa (.slice X x1 x2) (.slice X' x1' x2')
          simp only [put_lit, put_non, List.set_cons_zero, List.set_cons_succ]
          refine hk_one (i := 7) (by kernel_rfl) ?_
          refine op_skip none (stor3 (stor3 wz4 g5 (.bool xa) (.slice X x1 x2) (.slice X' x1' x2')) g6 (.bool ya) (.slice Y y1 y2) (.slice Y' y1' y2')) (by kernel_rfl) (by kernel_rfl) (by kernel_rfl) (exec_store3 7 11 hFg6 (by kernel_rfl) (by kernel_rfl) (by kernel_rfl)) ?_
          have hB := below_put3 (g := g6) hK (by omega) (.bool ya) (.slice Y y1 y2) (.slice Y' y1' y2')
          refine ⟨hB, ?_⟩
          have hK := hB
          have hx1 := hx1.put3 hFg6 (.bool ya) (.slice Y y1 y2) (.slice Y' y1' y2')
          have hx2 := hx2.put3 hFg6 (.bool ya) (.slice Y y1 y2) (.slice Y' y1' y2')
          have hy1 := hy1.put3 hFg6 (.bool ya) (.slice Y y1 y2) (.slice Y' y1' y2')
          have hy2 := hy2.put3 hFg6 (.bool ya) (.slice Y y1 y2) (.slice Y' y1' y2')
          have hFg5 := hFg5.far (g2 := g6) (by omega) (.bool ya) (.slice Y y1 y2) (.slice Y' y1' y2')
          have hFg6 := hFg6.put3 ya (.slice Y y1 y2) (.slice Y' y1' y2')
          simp only [put_lit, put_non, List.set_cons_zero, List.set_cons_succ]
          refine hk_done (by kernel_rfl) ?_
          have hl2 := hF2.lt
          go_wp2_with fail
          go_meet
          case rel => exact ⟨g5, g6, rfl, rfl, by omega, by omega, xa, X, x1, x2, X', x1', x2', n, d, ya, Y, y1, y2, Y', y1', y2', s, t, hFg5, hFg6, hF2.below hK, hx1, hx2, hx3, hx4, hy1, hy2, hy3, hy4, below_then hB0 hK, hyz⟩
      · skip
        have lhFg6g5 := hFg6.lt
        obtain ⟨wz2, g5, ewg5, egg5, hB, hFg5⟩ := var1 wz1 false (.slice none 0 0) (.slice none 0 0)
        refine op_do (some 6) (.pointer (some ⟨g5, 0, none⟩)) wz2 (by kernel_rfl) (by kernel_rfl) (by kernel_rfl) (by rw [← ewg5, ← egg5]; exact exec_new3 (by kernel_rfl)) ?_
        refine ⟨below_then hK hB, ?_⟩
        have ltg5 := hK.size
        have hK := below_then hK hB
        have hFg6 := hFg6.below hB
        clear hB
        simp only [put_lit, put_non, List.set_cons_zero, List.set_cons_succ]
        refine hk_one (i := 1) (by kernel_rfl) ?_
        refine op_call (some 9) 13 #[.agg #[.bool na, .slice A m c, .slice A' m' c']] (by kernel_rfl) (by kernel_rfl) (by kernel_rfl) (fun w => by kernel_rfl) ?_
        refine (D1.out wz2 (below_then hB0 hK)).mono ?_
        rintro e wz3 ⟨ux, rfl, hux, hB⟩
        refine ⟨_, rfl, below_then hK hB, ?_⟩
        have hK := below_then hK hB
        have hFg6 := hFg6.below hB
        have hFg5 := hFg5.below hB
        clear hB
        obtain ⟨xa, X, x1, x2, X', x1', x2', n, d, rfl, hx1, hx2, hx3, hx4⟩ := hux.fracP
        simp only [put_lit, put_non, List.set_cons_zero, List.set_cons_succ]
        refine hk_one (i := 3) (by kernel_rfl) ?_
        refine op_call (some 11) 13 #[.agg #[.bool nb, .slice B i j, .slice B' i' j']] (by kernel_rfl) (by kernel_rfl) (by kernel_rfl) (fun w => by kernel_rfl) ?_
        refine (D2.out wz3 (below_then hB0 hK)).mono ?_
        rintro e wz4 ⟨uy, rfl, huy, hB⟩
        refine ⟨_, rfl, below_then hK hB, ?_⟩
        have hK := below_then hK hB
        have hFg6 := hFg6.below hB
        have hFg5 := hFg5.below hB
        have hx1 := hx1.below hB
        have hx2 := hx2.below hB
        clear hB
        obtain ⟨ya, Y, y1, y2, Y', y1', y2', s, t, rfl, hy1, hy2, hy3, hy4⟩ := huy.fracP
        have hyz := canF_len0 huy
        simp only [put_lit, put_non, List.set_cons_zero, List.set_cons_succ]
        refine hk_one (i := 6) (by kernel_rfl) ?_
        refine op_skip none (stor3 wz4 g5 (.bool xa) (.slice X x1 x2) (.slice X' x1' x2')) (by kernel_rfl) (by kernel_rfl) (by kernel_rfl) (exec_store3 6 9 hFg5 (by kernel_rfl) (by kernel_rfl) (by kernel_rfl)) ?_
        have hB := below_put3 (g := g5) hK (by omega) (.bool xa) (.slice X x1 x2) (.slice X' x1' x2')
        refine ⟨hB, ?_⟩
        have hK := hB
        have hx1 := hx1.put3 hFg5 (.bool xa) (.slice X x1 x2) (.slice X' x1' x2')
        have hx2 := hx2.put3 hFg5 (.bool xa) (.slice X x1 x2) (.slice X' x1' x2')
        have hy1 := hy1.put3 hFg5 (.bool xa) (.slice X x1 x2) (.slice X' x1' x2')
        have hy2 := hy2.put3 hFg5 (.bool xa) (.slice X x1 x2) (.slice X' x1' x2')
        have hFg6 := hFg6.far (g2 := g5) (by omega) (.bool xa) (.slice X x1 x2) (.slice X' x1' x2')
        have hFg5 := hFg5.put3 xa (.slice X x1 x2) (.slice X' x1' x2')
        simp only [put_lit, put_non, List.set_cons_zero, List.set_cons_succ]
        refine hk_one (i := 7) (by kernel_rfl) ?_
        refine op_skip none (stor3 (stor3 wz4 g5 (.bool xa) (.slice X x1 x2) (.slice X' x1' x2')) g6 (.bool ya) (.slice Y y1 y2) (.slice Y' y1' y2')) (by kernel_rfl) (by kernel_rfl) (by kernel_rfl) (exec_store3 7 11 hFg6 (by kernel_rfl) (by kernel_rfl) (by kernel_rfl)) ?_
        have hB := below_put3 (g := g6) hK (by omega) (.bool ya) (.slice Y y1 y2) (.slice Y' y1' y2')
        refine ⟨hB, ?_⟩
        have hK := hB
        have hx1 := hx1.put3 hFg6 (.bool ya) (.slice Y y1 y2) (.slice Y' y1' y2')
        have hx2 := hx2.put3 hFg6 (.bool ya) (.slice Y y1 y2) (.slice Y' y1' y2')
        have hy1 := hy1.put3 hFg6 (.bool ya) (.slice Y y1 y2) (.slice Y' y1' y2')
        have hy2 := hy2.put3 hFg6 (.bool ya) (.slice Y y1 y2) (.slice Y' y1' y2')
        have hFg5 := hFg5.far (g2 := g6) (by omega) (.bool ya) (.slice Y y1 y2) (.slice Y' y1' y2')
        have hFg6 := hFg6.put3 ya (.slice Y y1 y2) (.slice Y' y1' y2')
        simp only [put_lit, put_non, List.set_cons_zero, List.set_cons_succ]
        refine hk_done (by kernel_rfl) ?_
        have hl2 := hF2.lt
        go_wp2_with fail
        go_meet
        case rel => exact ⟨g5, g6, rfl, rfl, by omega, by omega, xa, X, x1, x2, X', x1', x2', n, d, ya, Y, y1, y2, Y', y1', y2', s, t, hFg5, hFg6, hF2.below hK, hx1, hx2, hx3, hx4, hy1, hy2, hy3, hy4, below_then hB0 hK, hyz⟩
  case rest =>
    clear hF0 hF1 hF2 hB0 ew D1 D2 eg0 eg1 eg2
    obtain ⟨g5, g6, rfl, rfl, hne0, hne1, xa, X, x1, x2, X', x1', x2', n, d, ya, Y, y1, y2, Y', y1', y2', s, t, hF5, hF6, hFg2, hn, hd, hd0, hp, hs, ht, ht0, hq, hB0, hyz⟩ := hcut
    have hy0 : y1 ≠ 0 := fun e => h0 (hyz.1 e)
    have hs0 : s ≠ 0 := fun e => h0 (by rw [← hq]; exact (fr_eq_zero ya s t).2 (.inl e))
    have hyb : ((y1 : Int) == 0) = false := by rw [beq_eq_false_iff_ne]; omega
    have h05 : g5 ≠ g2 := hne0
    obtain ⟨c0, c1, c2⟩ := hF6.cells
    go_wp2_with fail
    clear c0 c1 c2
    refine hk_begin (S := fun w' => Below w.heap.size w w' ∧ Fcl w' g5 xa (.slice X x1 x2) (.slice X' x1' x2') ∧ Fcl w' g6 ya (.slice Y y1 y2) (.slice Y' y1' y2')) 18 (by kernel_rfl) (by kernel_rfl) ?_
    have hK : Below w.heap.size w wc.drew := hB0.drew
    have hF5 := hF5.below (Below.refl _ _).drew
    have hF6 := hF6.below (Below.refl _ _).drew
    have hFg2 := hFg2.below (Below.refl _ _).drew
    have hn := hn.below (Below.refl _ _).drew
    have hd := hd.below (Below.refl _ _).drew
    have hs := hs.below (Below.refl _ _).drew
    have ht := ht.below (Below.refl _ _).drew
    refine hk_take (i := 0) (some 17) (.pointer (some ⟨g5, 0, none⟩)) (by kernel_rfl) (by kernel_rfl) (by kernel_rfl) (by kernel_rfl) (by kernel_rfl) (by kernel_rfl) (fun w hS => by kernel_rfl) (fun _ _ d _ _ h => by cases d <;> exact h) ⟨hK, hF5, hF6⟩ ?_
    simp only [put_lit, put_non, List.set_cons_zero, List.set_cons_succ]
    refine hk_take (i := 1) (some 18) (.bool xa) (by kernel_rfl) (by kernel_rfl) (by kernel_rfl) (by kernel_rfl) (by kernel_rfl) (by kernel_rfl) (fun w hS => exec_part 4 17 (hS.2.1).cells.1 (by kernel_rfl) (by kernel_rfl) (by kernel_rfl)) (fun _ _ d _ _ h => by cases d <;> exact h) ⟨hK, hF5, hF6⟩ ?_
    simp only [put_lit, put_non, List.set_cons_zero, List.set_cons_succ]
    refine hk_take (i := 2) (some 19) (.pointer (some ⟨g6, 0, none⟩)) (by kernel_rfl) (by kernel_rfl) (by kernel_rfl) (by kernel_rfl) (by kernel_rfl) (by kernel_rfl) (fun w hS => by kernel_rfl) (fun _ _ d _ _ h => by cases d <;> exact h) ⟨hK, hF5, hF6⟩ ?_
    simp only [put_lit, put_non, List.set_cons_zero, List.set_cons_succ]
    refine hk_take (i := 3) (some 20) (.bool ya) (by kernel_rfl) (by kernel_rfl) (by kernel_rfl) (by kernel_rfl) (by kernel_rfl) (by kernel_rfl) (fun w hS => exec_part 4 19 (hS.2.2).cells.1 (by kernel_rfl) (by kernel_rfl) (by kernel_rfl)) (fun _ _ d _ _ h => by cases d <;> exact h) ⟨hK, hF5, hF6⟩ ?_
    simp only [put_lit, put_non, List.set_cons_zero, List.set_cons_succ]
    refine hk_take (i := 4) (some 21) (.bool (xa != ya)) (by kernel_rfl) (by kernel_rfl) (by kernel_rfl) (by kernel_rfl) (by kernel_rfl) (by kernel_rfl) (fun w hS => by cases xa <;> cases ya <;> kernel_rfl) (fun _ _ d _ _ h => by cases d <;> exact h) ⟨hK, hF5, hF6⟩ ?_
    simp only [put_lit, put_non, List.set_cons_zero, List.set_cons_succ]
    refine hk_take (i := 5) (some 22) (.pointer (some ⟨g5, 1, none⟩)) (by kernel_rfl) (by kernel_rfl) (by kernel_rfl) (by kernel_rfl) (by kernel_rfl) (by kernel_rfl) (fun w hS => by kernel_rfl) (fun _ _ d _ _ h => by cases d <;> exact h) ⟨hK, hF5, hF6⟩ ?_
    simp only [put_lit, put_non, List.set_cons_zero, List.set_cons_succ]
    refine hk_take (i := 6) (some 23) (.slice X x1 x2) (by kernel_rfl) (by kernel_rfl) (by kernel_rfl) (by kernel_rfl) (by kernel_rfl) (by kernel_rfl) (fun w hS => exec_part 23 22 (hS.2.1).cells.2.1 (by kernel_rfl) (by kernel_rfl) (by kernel_rfl)) (fun _ _ d _ _ h => by cases d <;> exact h) ⟨hK, hF5, hF6⟩ ?_
    simp only [put_lit, put_non, List.set_cons_zero, List.set_cons_succ]
    refine hk_take (i := 7) (some 24) (.pointer (some ⟨g6, 2, none⟩)) (by kernel_rfl) (by kernel_rfl) (by kernel_rfl) (by kernel_rfl) (by kernel_rfl) (by kernel_rfl) (fun w hS => by kernel_rfl) (fun _ _ d _ _ h => by cases d <;> exact h) ⟨hK, hF5, hF6⟩ ?_
    simp only [put_lit, put_non, List.set_cons_zero, List.set_cons_succ]
    refine hk_take (i := 8) (some 25) (.slice Y' y1' y2') (by kernel_rfl) (by kernel_rfl) (by kernel_rfl) (by kernel_rfl) (by kernel_rfl) (by kernel_rfl) (fun w hS => exec_part 23 24 (hS.2.2).cells.2.2 (by kernel_rfl) (by kernel_rfl) (by kernel_rfl)) (fun _ _ d _ _ h => by cases d <;> exact h) ⟨hK, hF5, hF6⟩ ?_
    simp only [put_lit, put_non, List.set_cons_zero, List.set_cons_succ]
    refine hk_take (i := 10) (some 27) (.pointer (some ⟨g5, 2, none⟩)) (by kernel_rfl) (by kernel_rfl) (by kernel_rfl) (by kernel_rfl) (by kernel_rfl) (by kernel_rfl) (fun w hS => by kernel_rfl) (fun _ _ d _ _ h => by cases d <;> exact h) ⟨hK, hF5, hF6⟩ ?_
    simp only [put_lit, put_non, List.set_cons_zero, List.set_cons_succ]
    refine hk_take (i := 11) (some 28) (.slice X' x1' x2') (by kernel_rfl) (by kernel_rfl) (by kernel_rfl) (by kernel_rfl) (by kernel_rfl) (by kernel_rfl) (fun w hS => exec_part 23 27 (hS.2.1).cells.2.2 (by kernel_rfl) (by kernel_rfl) (by kernel_rfl)) (fun _ _ d _ _ h => by cases d <;> exact h) ⟨hK, hF5, hF6⟩ ?_
    simp only [put_lit, put_non, List.set_cons_zero, List.set_cons_succ]
    refine hk_take (i := 12) (some 29) (.pointer (some ⟨g6, 1, none⟩)) (by kernel_rfl) (by kernel_rfl) (by kernel_rfl) (by kernel_rfl) (by kernel_rfl) (by kernel_rfl) (fun w hS => by kernel_rfl) (fun _ _ d _ _ h => by cases d <;> exact h) ⟨hK, hF5, hF6⟩ ?_
    simp only [put_lit, put_non, List.set_cons_zero, List.set_cons_succ]
    refine hk_take (i := 13) (some 30) (.slice Y y1 y2) (by kernel_rfl) (by kernel_rfl) (by kernel_rfl) (by kernel_rfl) (by kernel_rfl) (by kernel_rfl) (fun w hS => exec_part 23 29 (hS.2.2).cells.2.1 (by kernel_rfl) (by kernel_rfl) (by kernel_rfl)) (fun _ _ d _ _ h => by cases d <;> exact h) ⟨hK, hF5, hF6⟩ ?_
    simp only [put_lit, put_non, List.set_cons_zero, List.set_cons_succ]
    refine hk_one (i := 9) (by kernel_rfl) ?_
    refine op_call (some 26) 41 #[.slice X x1 x2, .slice Y' y1' y2'] (by kernel_rfl) (by kernel_rfl) (by kernel_rfl) (fun w => by kernel_rfl) ?_
    refine (natMul_v hn ht (by omega) (by omega)).mono ?_
    rintro e wz1 ⟨u1, rfl, hu1, _, hB⟩
    refine ⟨_, rfl, ⟨below_then hK hB, hF5.below hB, hF6.below hB⟩, ?_⟩
    have hK := below_then hK hB
    have hF5 := hF5.below hB
    have hF6 := hF6.below hB
    have hFg2 := hFg2.below hB
    have hn := hn.below hB
    have hd := hd.below hB
    have hs := hs.below hB
    have ht := ht.below hB
    clear hB
    simp only [put_lit, put_non, List.set_cons_zero, List.set_cons_succ]
    refine hk_one (i := 14) (by kernel_rfl) ?_
    refine op_call (some 31) 41 #[.slice X' x1' x2', .slice Y y1 y2] (by kernel_rfl) (by kernel_rfl) (by kernel_rfl) (fun w => by kernel_rfl) ?_
    refine (natMul_v hd hs (by omega) (by omega)).mono ?_
    rintro e wz2 ⟨u2, rfl, hu2, _, hB⟩
    refine ⟨_, rfl, ⟨below_then hK hB, hF5.below hB, hF6.below hB⟩, ?_⟩
    have hK := below_then hK hB
    have hF5 := hF5.below hB
    have hF6 := hF6.below hB
    have hFg2 := hFg2.below hB
    have hn := hn.below hB
    have hd := hd.below hB
    have hs := hs.below hB
    have ht := ht.below hB
    have hu1 := hu1.below hB
    clear hB
    simp only [put_lit, put_non, List.set_cons_zero, List.set_cons_succ]
    refine hk_one (i := 15) (by kernel_rfl) ?_
    refine op_call (some 32) 40 #[.bool (xa != ya), u1, u2] (by kernel_rfl) (by kernel_rfl) (by kernel_rfl) (fun w => by kernel_rfl) ?_
    refine (frac_v (xa != ya) hu1.numV hu2.numV (by omega) (by omega)).mono ?_
    rintro e wz3 ⟨u3, rfl, hu3, hB⟩
    refine ⟨_, rfl, ⟨below_then hK hB, hF5.below hB, hF6.below hB⟩, ?_⟩
    have hK := below_then hK hB
    have hF5 := hF5.below hB
    have hF6 := hF6.below hB
    have hFg2 := hFg2.below hB
    have hn := hn.below hB
    have hd := hd.below hB
    have hs := hs.below hB
    have ht := ht.below hB
    have hu1 := hu1.below hB
    have hu2 := hu2.below hB
    clear hB
    rw [← fr_mul xa ya n t d s, fr_inv ya hs0 ht0, hp, hq, ← Rat.div_def] at hu3
    obtain ⟨b, C, o, r, C', o', r', rfl, hb, hvx, hvy⟩ := hu3.parts
    simp only [put_lit, put_non, List.set_cons_zero, List.set_cons_succ]
    refine hk_one (i := 16) (by kernel_rfl) ?_
    refine op_skip none (stor3 wz3 g2 (.bool b) (.slice C o r) (.slice C' o' r')) (by kernel_rfl) (by kernel_rfl) (by kernel_rfl) (exec_store3 4 32 hFg2 (by kernel_rfl) (by kernel_rfl) (by kernel_rfl)) ?_
    have hKo := hK
    have hFo := hFg2
    have hB := below_put3 (g := g2) hK HG.out (.bool b) (.slice C o r) (.slice C' o' r')
    have hF5 := hF5.far (g2 := g2) hne0 (.bool b) (.slice C o r) (.slice C' o' r')
    have hF6 := hF6.far (g2 := g2) hne1 (.bool b) (.slice C o r) (.slice C' o' r')
    refine ⟨⟨hB, hF5, hF6⟩, ?_⟩
    have hK := hB
    have hFg2 := hFg2.put3 b (.slice C o r) (.slice C' o' r')
    simp only [put_lit, put_non, List.set_cons_zero, List.set_cons_succ]
    refine hk_take (i := 17) (some 5) (.int .i64 0) (by kernel_rfl) (by kernel_rfl) (by kernel_rfl) (by kernel_rfl) (by kernel_rfl) (by kernel_rfl) (fun w hS => by kernel_rfl) (fun _ _ d _ _ h => by cases d <;> exact h) ⟨hK, hF5, hF6⟩ ?_
    simp only [put_lit, put_non, List.set_cons_zero, List.set_cons_succ]
    refine hk_done (by kernel_rfl) ?_
    obtain ⟨k0, k1, k2⟩ := hFg2.cells
    go_wp2_with fail
    refine bodyPost_ret (v := .tuple #[.agg #[.bool b, .slice C o r, .slice C' o' r'], .int .i64 0]) (by rw [results_cell_tmp rfl]; go_simp) rfl ?_
    exact RCanE.stored hb hvx hvy hFo hKo HG.out _
set_option maxRecDepth 20000 in
set_option maxHeartbeats 16000000 in
theorem fracSub_v (ha : FracV w va p k) (hb : FracV w vb q l) (hk : k ≤ 100000) (hl : l ≤ 100000) (h1 : 2 ≤ k) (h2 : 2 ≤ l) : Calls Tryz.prog 23 #[va, vb] w (RCanF w (p - q) (k + l + 1)) := by
  obtain ⟨na, A, m, c, A', m', c', n, d, rfl, hn, hd, hp⟩ := ha.parts
  obtain ⟨nb, B, i, j, B', i', j', s, t, rfl, hs, ht, hq⟩ := hb.parts
  obtain ⟨w2, g0, g1, g2, ew, eg0, eg1, eg2, hB0, hF0, hF1, hFg2⟩ := three_boxes w na nb (.slice A m c) (.slice A' m' c') (.slice B i j) (.slice B' i' j')
  have HG := Lib.hid (show w.heap.size ≤ g2 by omega)
  clear hn hd hs ht hp hq
  have hA := Lib.hid ha
  have hBB := Lib.hid hb
  clear ha hb
  go_enter Tryz.func23, Tryz.ntmps23
  go_wp2_with fail
  have ha := hA.out
  have hb := hBB.out
  refine hk_begin (S := fun w' => Below w.heap.size w w' ∧ Fcl w' g0 na (.slice A m c) (.slice A' m' c') ∧ Fcl w' g1 nb (.slice B i j) (.slice B' i' j')) 5 (by kernel_rfl) (by kernel_rfl) ?_
  have hK : Below w.heap.size w w2.drew := hB0.drew
  have hF0 := hF0.below (Below.refl _ _).drew
  have hF1 := hF1.below (Below.refl _ _).drew
  have hFg2 := hFg2.below (Below.refl _ _).drew
  refine hk_take (i := 0) (some 5) (.agg #[.bool na, .slice A m c, .slice A' m' c']) (by kernel_rfl) (by kernel_rfl) (by kernel_rfl) (by kernel_rfl) (by kernel_rfl) (by kernel_rfl) (fun w hS => exec_load3 2 (hS.2.1) (by kernel_rfl) (by kernel_rfl)) (fun _ _ d _ _ h => by cases d <;> exact h) ⟨hK, hF0, hF1⟩ ?_
  simp only [put_lit, put_non, List.set_cons_zero, List.set_cons_succ]
  refine hk_take (i := 1) (some 6) (.agg #[.bool nb, .slice B i j, .slice B' i' j']) (by kernel_rfl) (by kernel_rfl) (by kernel_rfl) (by kernel_rfl) (by kernel_rfl) (by kernel_rfl) (fun w hS => exec_load3 3 (hS.2.2) (by kernel_rfl) (by kernel_rfl)) (fun _ _ d _ _ h => by cases d <;> exact h) ⟨hK, hF0, hF1⟩ ?_
  simp only [put_lit, put_non, List.set_cons_zero, List.set_cons_succ]
  refine hk_one (i := 2) (by kernel_rfl) ?_
  refine op_call (some 7) 27 #[.agg #[.bool nb, .slice B i j, .slice B' i' j']] (by kernel_rfl) (by kernel_rfl) (by kernel_rfl) (fun w => by kernel_rfl) ?_
  refine (fracNeg_v (hb.below hK) (by omega) h2).mono ?_
  rintro e wz1 ⟨u1, rfl, hu1, hB⟩
  refine ⟨_, rfl, ⟨below_then hK hB, hF0.below hB, hF1.below hB⟩, ?_⟩
  have hK := below_then hK hB
  have hF0 := hF0.below hB
  have hF1 := hF1.below hB
  have hFg2 := hFg2.below hB
  clear hB
  simp only [put_lit, put_non, List.set_cons_zero, List.set_cons_succ]
  refine hk_one (i := 3) (by kernel_rfl) ?_
  refine op_call (some 8) 21 #[.agg #[.bool na, .slice A m c, .slice A' m' c'], u1] (by kernel_rfl) (by kernel_rfl) (by kernel_rfl) (fun w => by kernel_rfl) ?_
  refine (fracAdd_v (ha.below hK) hu1.fracV hk hl h1 h2).mono ?_
  rintro e wz2 ⟨u3, rfl, hu3, hB⟩
  refine ⟨_, rfl, ⟨below_then hK hB, hF0.below hB, hF1.below hB⟩, ?_⟩
  have hK := below_then hK hB
  have hF0 := hF0.below hB
  have hF1 := hF1.below hB
  have hFg2 := hFg2.below hB
  have hu1 := hu1.below hB
  clear hB
  rw [← Rat.sub_eq_add_neg] at hu3
  obtain ⟨b, C, o, r, C', o', r', rfl, hb, hvx, hvy⟩ := hu3.parts
  simp only [put_lit, put_non, List.set_cons_zero, List.set_cons_succ]
  refine hk_one (i := 4) (by kernel_rfl) ?_
  refine op_skip none (stor3 wz2 g2 (.bool b) (.slice C o r) (.slice C' o' r')) (by kernel_rfl) (by kernel_rfl) (by kernel_rfl) (exec_store3 4 8 hFg2 (by kernel_rfl) (by kernel_rfl) (by kernel_rfl)) ?_
  have hKo := hK
  have hFo := hFg2
  have hB := below_put3 (g := g2) hK HG.out (.bool b) (.slice C o r) (.slice C' o' r')
  have hF0 := hF0.far (g2 := g2) (by omega) (.bool b) (.slice C o r) (.slice C' o' r')
  have hF1 := hF1.far (g2 := g2) (by omega) (.bool b) (.slice C o r) (.slice C' o' r')
  refine ⟨⟨hB, hF0, hF1⟩, ?_⟩
  have hK := hB
  have hFg2 := hFg2.put3 b (.slice C o r) (.slice C' o' r')
  simp only [put_lit, put_non, List.set_cons_zero, List.set_cons_succ]
  refine hk_done (by kernel_rfl) ?_
  obtain ⟨k0, k1, k2⟩ := hFg2.cells
  go_wp2_with fail
  refine bodyPost_ret (v := .agg #[.bool b, .slice C o r, .slice C' o' r']) (by rw [results_one rfl]; go_simp) rfl ?_
  exact RCanF.stored hb hvx hvy hFo hKo HG.out _
set_option maxHeartbeats 4000000 in
theorem fracSign_zero (ha : FracV w va p k) (hk : k ≤ 400000) (h1 : 2 ≤ k) (hp : p = 0) : Calls Tryz.prog 19 #[va] w (RVal w (.int .i64 (0))) := by
  have NM := Lib.hid (fun w1 hB => fracNorm_v (w := w1) (ha.below hB) hk h1)
  obtain ⟨na, A, m, c, A', m', c', n, d, rfl, hn, hd, _⟩ := ha.parts
  obtain ⟨W, g0, ew, eg, hBW, hF0⟩ := var1 w na (.slice A m c) (.slice A' m' c')
  obtain ⟨c0, c1, c2⟩ := hF0.cells
  clear hn hd ha
  go_enter Tryz.func19, Tryz.ntmps19
  go_wp2_with fail
  refine (NM.out _ hBW).mono ?_
  rintro e w1 ⟨v, rfl, hv, hB1⟩
  obtain ⟨b, C, o, r, C', o', r', rfl, hb, hvx, hvy⟩ := hv.parts
  have hz := canF_len0 hv
  obtain ⟨W2, g1, ew2, eg2, hB2, hF1⟩ := var1 w1 b (.slice C o r) (.slice C' o' r')
  obtain ⟨d0, d1, d2⟩ := hF1.cells
  have hB := below_then (below_then hBW hB1) hB2
  clear hvx hvy hv
  obtain rfl := hz.2 hp
  clear c0 c1 c2 hz hb hp
  go_wp2_with fail
  go_ret
  exact ⟨rfl, hB⟩
set_option maxHeartbeats 4000000 in
theorem fracSign_neg (ha : FracV w va p k) (hk : k ≤ 400000) (h1 : 2 ≤ k) (hp : p < 0) : Calls Tryz.prog 19 #[va] w (RVal w (.int .i64 (-1))) := by
  have NM := Lib.hid (fun w1 hB => fracNorm_v (w := w1) (ha.below hB) hk h1)
  obtain ⟨na, A, m, c, A', m', c', n, d, rfl, hn, hd, _⟩ := ha.parts
  obtain ⟨W, g0, ew, eg, hBW, hF0⟩ := var1 w na (.slice A m c) (.slice A' m' c')
  obtain ⟨c0, c1, c2⟩ := hF0.cells
  clear hn hd ha
  go_enter Tryz.func19, Tryz.ntmps19
  go_wp2_with fail
  refine (NM.out _ hBW).mono ?_
  rintro e w1 ⟨v, rfl, hv, hB1⟩
  obtain ⟨b, C, o, r, C', o', r', rfl, hb, hvx, hvy⟩ := hv.parts
  have hz := canF_len0 hv
  obtain ⟨W2, g1, ew2, eg2, hB2, hF1⟩ := var1 w1 b (.slice C o r) (.slice C' o' r')
  obtain ⟨d0, d1, d2⟩ := hF1.cells
  have hB := below_then (below_then hBW hB1) hB2
  clear hvx hvy hv
  have ho : ((o : Int) == 0) = false := by
    rw [beq_eq_false_iff_ne]
    intro e
    have := hz.1 (by omega)
    rw [this] at hp
    exact absurd hp (by decide)
  have hb : b = true := by rw [← hb, decide_eq_true_eq]; have := rsgn_neg.2 hp; unfold rsgn at this; exact Int.sign_eq_neg_one_iff_neg.1 this
  subst hb
  clear c0 c1 c2 hz
  go_wp2_with fail
  go_ret
  exact ⟨rfl, hB⟩
set_option maxHeartbeats 4000000 in
theorem fracSign_pos (ha : FracV w va p k) (hk : k ≤ 400000) (h1 : 2 ≤ k) (hp : 0 < p) : Calls Tryz.prog 19 #[va] w (RVal w (.int .i64 (1))) := by
  have NM := Lib.hid (fun w1 hB => fracNorm_v (w := w1) (ha.below hB) hk h1)
  obtain ⟨na, A, m, c, A', m', c', n, d, rfl, hn, hd, _⟩ := ha.parts
  obtain ⟨W, g0, ew, eg, hBW, hF0⟩ := var1 w na (.slice A m c) (.slice A' m' c')
  obtain ⟨c0, c1, c2⟩ := hF0.cells
  clear hn hd ha
  go_enter Tryz.func19, Tryz.ntmps19
  go_wp2_with fail
  refine (NM.out _ hBW).mono ?_
  rintro e w1 ⟨v, rfl, hv, hB1⟩
  obtain ⟨b, C, o, r, C', o', r', rfl, hb, hvx, hvy⟩ := hv.parts
  have hz := canF_len0 hv
  obtain ⟨W2, g1, ew2, eg2, hB2, hF1⟩ := var1 w1 b (.slice C o r) (.slice C' o' r')
  obtain ⟨d0, d1, d2⟩ := hF1.cells
  have hB := below_then (below_then hBW hB1) hB2
  clear hvx hvy hv
  have ho : ((o : Int) == 0) = false := by
    rw [beq_eq_false_iff_ne]
    intro e
    have := hz.1 (by omega)
    rw [this] at hp
    exact absurd hp (by decide)
  have hb : b = false := by
    rw [← hb, decide_eq_false_iff_not]
    intro e
    have := rsgn_pos.2 hp
    unfold rsgn at this
    have := Int.sign_eq_one_iff_pos.1 this
    omega
  subst hb
  clear c0 c1 c2 hz
  go_wp2_with fail
  go_ret
  exact ⟨rfl, hB⟩
theorem fracSign_v (ha : FracV w va p k) (hk : k ≤ 400000) (h1 : 2 ≤ k) : Calls Tryz.prog 19 #[va] w (RVal w (.int .i64 (rsgn p))) := by
  rcases rsgn_cases p with ⟨h, e⟩ | ⟨h, e⟩ | ⟨h, e⟩ <;> rw [e]
  · exact fracSign_neg ha hk h1 h
  · exact fracSign_zero ha hk h1 h
  · exact fracSign_pos ha hk h1 h
set_option maxHeartbeats 4000000 in
theorem fracCmp_v (ha : FracV w va p k) (hb : FracV w vb q l) (hk : k ≤ 100000) (hl : l ≤ 100000) (h1 : 2 ≤ k) (h2 : 2 ≤ l) : Calls Tryz.prog 17 #[va, vb] w (RVal w (.int .i64 (rcmp p q))) := by
  have SB := Lib.hid (fun w1 hB => fracSub_v (w := w1) (ha.below hB) (hb.below hB) hk hl h1 h2)
  have SG := Lib.hid (fun w1 v (h : CanF w1 v (p - q) (k + l + 1)) => fracSign_v h.fracV (by omega) (by omega))
  obtain ⟨na, A, m, c, A', m', c', n, d, rfl, hn, hd, hp⟩ := ha.parts
  obtain ⟨nb, B, i, j, B', i', j', s, t, rfl, hs, ht, hq⟩ := hb.parts
  obtain ⟨w2, g0, g1, ew, eg0, eg1, hB0, hF0, hF1⟩ : ∃ w2 g0 g1, (w.alloc (.cells #[.bool na, .slice A m c, .slice A' m' c'] 25)).alloc (.cells #[.bool nb, .slice B i j, .slice B' i' j'] 25) = w2 ∧ w.heap.size = g0 ∧ g0 + 1 = g1 ∧ Below w.heap.size w w2 ∧ Fcl w2 g0 na (.slice A m c) (.slice A' m' c') ∧ Fcl w2 g1 nb (.slice B i j) (.slice B' i' j') :=
    ⟨_, _, _, rfl, rfl, rfl, below_alloc2 w _ _, (Fcl.new w _ _ _).alloc _, Fcl.new2 w _ _ _ _⟩
  obtain ⟨c0, c1, c2⟩ := hF0.cells
  obtain ⟨d0, d1, d2⟩ := hF1.cells
  clear hn hd hp hs ht hq ha hb
  unfold rcmp
  go_enter Tryz.func17, Tryz.ntmps17
  go_wp2_with fail
  refine (SB.out _ hB0).mono ?_
  rintro e w3 ⟨v, rfl, hv, hB3⟩
  clear c0 c1 c2 d0 d1 d2
  go_wp2_with fail
  refine (SG.out _ _ hv).mono ?_
  rintro e w4 ⟨rfl, hB4⟩
  go_wp2_with fail
  go_ret
  exact ⟨rfl, below_then (below_then hB0 hB3) hB4⟩
end
end Go.Proofs.YtgjhgpfjeoeojaaGreatDoor

/- The contracts of the reference functions FracMul and FracAdd. -/
import Derived.Test.YtgjhgpfjeoeojaaGreatDoorRefJ
import Derived.Test.YtgjhgpfjeoeojaaGreatDoorBown
import Derived.Test.YtgjhgpfjeoeojaaGreatDoorPlans
namespace Go.Proofs.YtgjhgpfjeoeojaaGreatDoor
open Go.RowKit Dig
set_option linter.unusedVariables false

section
variable {w : World} {va vb : Value} {p q : Rat} {k l : Nat}
set_option maxHeartbeats 4000000 in
theorem fracMul_v (ha : FracV w va p k) (hb : FracV w vb q l) (hk : k ≤ 100000) (hl : l ≤ 100000) (h1 : 2 ≤ k) : Calls Tryz.prog 25 #[va, vb] w (RCanF w (p * q) (k + l)) := by
  obtain ⟨na, A, m, c, A', m', c', n, d, rfl, hn, hd, hp⟩ := ha.parts
  obtain ⟨nb, B, i, j, B', i', j', s, t, rfl, hs, ht, hq⟩ := hb.parts
  obtain ⟨w2, g0, g1, g2, ew, eg0, eg1, eg2, hB0, hF0, hF1, hF2⟩ := three_boxes w na nb (.slice A m c) (.slice A' m' c') (.slice B i j) (.slice B' i' j')
  have M1 := Lib.hid (fun w1 hB => natMul_v (w := w1) (hn.below hB) (hs.below hB) (by omega) (by omega))
  have M2 := Lib.hid (fun w1 hB => natMul_v (w := w1) (hd.below hB) (ht.below hB) (by omega) (by omega))
  have RD := fun w1 x y (hx : Can w1 x (n * s) (k + l)) (hy : Can w1 y (d * t) (k + l)) => frac_v (w := w1) (na != nb) hx.numV hy.numV (by omega) (by omega)
  rw [← fr_mul, hp, hq] at RD
  have RR := Lib.hid RD
  have HG := Lib.hid (show w.heap.size ≤ g2 by omega)
  clear RD hn hd hs ht hp hq ha hb
  go_enter Tryz.func25, Tryz.ntmps25
  go_wp2_with fail

  have hK : Below w2.heap.size w2 w2 := Below.refl _ _
  have hS0 := conj_rr hF0 hF1
  have hne0 : g0 ≠ g2 := by omega
  have hne1 : g1 ≠ g2 := by omega
  go_region_held3 (fun w' => w'.cell? ⟨g0, 0, none⟩ = some (.bool na) ∧ w'.cell? ⟨g0, 1, none⟩ = some (.slice A m c) ∧ w'.cell? ⟨g0, 2, none⟩ = some (.slice A' m' c') ∧ w'.cell? ⟨g1, 0, none⟩ = some (.bool nb) ∧ w'.cell? ⟨g1, 1, none⟩ = some (.slice B i j) ∧ w'.cell? ⟨g1, 2, none⟩ = some (.slice B' i' j')) (first | with_reducible exact conj_rr hF0 hF1 | with_reducible exact conj_rr (hF0.below hK) (hF1.below hK) | exact hS0 | exact conj_rr ((hF0.below hK).far hne0 _ _ _) ((hF1.below hK).far hne1 _ _ _)) (first | (go_at_call_of 41 (Value.slice A m c); refine (M1.out _ hB0.drew).mono ?_; rintro e w3 ⟨x, rfl, hx, _, hB3⟩; have hK := below_undrew hB3) | (go_at_call_of 41 (Value.slice A' m' c'); refine (M2.out _ (below_then hB0 hK)).mono ?_; rintro e w4 ⟨y, rfl, hy, _, hB4⟩; have hK := below_then hK hB4) | (go_at_call 40; refine (RR.out _ _ _ (hx.below hB4) hy).mono ?_; rintro e w5 ⟨v, rfl, hv, hB5⟩; obtain ⟨b, C, u, r, C', u', r', rfl, hb, hvx, hvy⟩ := hv.parts; have hK := below_then hK hB5; obtain ⟨c0, c1, c2⟩ := (hF2.below hK).cells; obtain ⟨f0, f1, f2⟩ := (hF2.below hK).frozen))
  go_wp2_with fail
  refine bodyPost_ret (v := .agg #[.bool b, .slice C u r, .slice C' u' r']) (by rw [results_one rfl]; go_simp) rfl ?_
  exact RCanF.stored hb hvx hvy (hF2.below hK) (below_then hB0 hK) HG.out _

theorem natAdd_same {va vb : Value} {a b m : Nat} (ha : NumV w va a m) (hb : NumV w vb b m) (hm : m ≤ 1000000) : Calls Tryz.prog 54 #[va, vb] w (RCan w (a + b) (m + 1)) :=
  (natAdd_v ha hb hm hm).mono fun e w' h => h.fit (add_fit _ _ _ ha.lt hb.lt)
end
end Go.Proofs.YtgjhgpfjeoeojaaGreatDoor

/- The contract of the reference function FracAdd. -/
namespace Go.Proofs.YtgjhgpfjeoeojaaGreatDoor
set_option linter.unusedSimpArgs false
open Go.RowKit Dig
set_option linter.unusedVariables false

theorem natCmp_is {w : World} {va vb : Value} {a b k l : Nat} {z : Int} (ha : NumV w va a k) (hb : NumV w vb b l) (hk : k ≤ 1000000) (hl : l ≤ 1000000) (h : cmpI a b = z) :
    Calls Tryz.prog 55 #[va, vb] w (RVal w (.int .i64 z)) := h ▸ natCmp_v ha hb hk hl
section
variable {w : World} {va vb : Value} {p q : Rat} {k l : Nat}
set_option maxRecDepth 20000 in
set_option maxHeartbeats 16000000 in
theorem fracAdd_v (ha : FracV w va p k) (hb : FracV w vb q l) (hk : k ≤ 100000) (hl : l ≤ 100000) (h1 : 2 ≤ k) (h2 : 2 ≤ l) : Calls Tryz.prog 21 #[va, vb] w (RCanF w (p + q) (k + l + 1)) := by
  have D1 := Lib.hid (fun w1 hB => fracNorm_v (w := w1) (ha.below hB) (by omega) h1)
  have D2 := Lib.hid (fun w1 hB => fracNorm_v (w := w1) (hb.below hB) (by omega) h2)
  obtain ⟨na, A, m, c, A', m', c', n, d, rfl, hn, hd, hp⟩ := ha.parts
  obtain ⟨nb, B, i, j, B', i', j', s, t, rfl, hs, ht, hq⟩ := hb.parts
  obtain ⟨w2, g0, g1, g2, ew, eg0, eg1, eg2, hB0, hF0, hF1, hF2⟩ := three_boxes w na nb (.slice A m c) (.slice A' m' c') (.slice B i j) (.slice B' i' j')
  have HG := Lib.hid (show w.heap.size ≤ g2 by omega)
  clear hn hd hs ht hp hq ha hb
  go_enter Tryz.func21, Tryz.ntmps21
  go_wp2_with fail
  go_cut [5, 6] from 14 (fun s5 s6 w' => ∃ g5 g6, s5 = .pointer (some ⟨g5, 0, none⟩) ∧ s6 = .pointer (some ⟨g6, 0, none⟩) ∧ g5 ≠ g2 ∧ g6 ≠ g2 ∧ Ready w w' p q k l g5 g6 g2)
  case first =>
    refine hk_begin (S := fun w' => Below w2.heap.size w2 w') 8 (by kernel_rfl) (by kernel_rfl) ?_
    have hK : Below w2.heap.size w2 w2.drew := (Below.refl w2.heap.size w2).drew
    refine hk_take (i := 0) (some 14) (.agg #[.bool na, .slice A m c, .slice A' m' c']) (by kernel_rfl) (by kernel_rfl) (by kernel_rfl) (by kernel_rfl) (by kernel_rfl) (by kernel_rfl) (fun w hS => exec_load3 2 (hF0.below hS) (by kernel_rfl) (by kernel_rfl)) (fun _ _ d _ _ h => by cases d <;> exact h) hK ?_
    simp only [put_lit, put_non, List.set_cons_zero, List.set_cons_succ]
    refine hk_take (i := 2) (some 16) (.agg #[.bool nb, .slice B i j, .slice B' i' j']) (by kernel_rfl) (by kernel_rfl) (by kernel_rfl) (by kernel_rfl) (by kernel_rfl) (by kernel_rfl) (fun w hS => exec_load3 3 (hF1.below hS) (by kernel_rfl) (by kernel_rfl)) (fun _ _ d _ _ h => by cases d <;> exact h) hK ?_
    simp only [put_lit, put_non, List.set_cons_zero, List.set_cons_succ]
    refine hk_three (i := 1) (j := 4) (k := 5) (by kernel_rfl) ?_ ?_ ?_
    · skip
      refine op_call (some 15) 13 #[.agg #[.bool na, .slice A m c, .slice A' m' c']] (by kernel_rfl) (by kernel_rfl) (by kernel_rfl) (fun w => by kernel_rfl) ?_
      refine (D1.out w2.drew (below_then hB0 hK)).mono ?_
      rintro e wz1 ⟨ux, rfl, hux, hB⟩
      refine ⟨_, rfl, below_then hK hB, ?_⟩
      have hK := below_then hK hB
      clear hB
      obtain ⟨xa, X, x1, x2, X', x1', x2', n, d, rfl, hx1, hx2, hx3, hx4⟩ := hux.fracP
      simp only [put_lit, put_non, List.set_cons_zero, List.set_cons_succ]
      refine hk_three (i := 3) (j := 4) (k := 5) (by kernel_rfl) ?_ ?_ ?_
      · skip
        refine op_call (some 17) 13 #[.agg #[.bool nb, .slice B i j, .slice B' i' j']] (by kernel_rfl) (by kernel_rfl) (by kernel_rfl) (fun w => by kernel_rfl) ?_
        refine (D2.out wz1 (below_then hB0 hK)).mono ?_
        rintro e wz2 ⟨uy, rfl, huy, hB⟩
        refine ⟨_, rfl, below_then hK hB, ?_⟩
        have hK := below_then hK hB
        have hx1 := hx1.below hB
        have hx2 := hx2.below hB
        clear hB
        obtain ⟨ya, Y, y1, y2, Y', y1', y2', s, t, rfl, hy1, hy2, hy3, hy4⟩ := huy.fracP
        simp only [put_lit, put_non, List.set_cons_zero, List.set_cons_succ]
        refine hk_two (i := 4) (j := 5) (by kernel_rfl) ?_ ?_
        · skip
          obtain ⟨wz3, g5, ewg5, egg5, hB, hFg5⟩ := var1 wz2 false (.slice none 0 0) (.slice none 0 0)
          refine op_do (some 5) (.pointer (some ⟨g5, 0, none⟩)) wz3 (by kernel_rfl) (by kernel_rfl) (by kernel_rfl) (by rw [← ewg5, ← egg5]; exact exec_new3 (by kernel_rfl)) ?_
          refine ⟨below_then hK hB, ?_⟩
          have ltg5 := hK.size
          have hK := below_then hK hB
          have hx1 := hx1.below hB
          have hx2 := hx2.below hB
          have hy1 := hy1.below hB
          have hy2 := hy2.below hB
          clear hB
          simp only [put_lit, put_non, List.set_cons_zero, List.set_cons_succ]
          refine hk_one (i := 5) (by kernel_rfl) ?_
          have lhFg5g6 := hFg5.lt
          obtain ⟨wz4, g6, ewg6, egg6, hB, hFg6⟩ := var1 wz3 false (.slice none 0 0) (.slice none 0 0)
          refine op_do (some 6) (.pointer (some ⟨g6, 0, none⟩)) wz4 (by kernel_rfl) (by kernel_rfl) (by kernel_rfl) (by rw [← ewg6, ← egg6]; exact exec_new3 (by kernel_rfl)) ?_
          refine ⟨below_then hK hB, ?_⟩
          have ltg6 := hK.size
          have hK := below_then hK hB
          have hx1 := hx1.below hB
          have hx2 := hx2.below hB
          have hy1 := hy1.below hB
          have hy2 := hy2.below hB
          have hFg5 := hFg5.below hB
          clear hB
          simp only [put_lit, put_non, List.set_cons_zero, List.set_cons_succ]
          refine hk_one (i := 6) (by kernel_rfl) ?_
          refine op_skip none (stor3 wz4 g5 (.bool xa) (.slice X x1 x2) (.slice X' x1' x2')) (by kernel_rfl) (by kernel_rfl) (by kernel_rfl) (exec_store3 5 15 hFg5 (by kernel_rfl) (by kernel_rfl) (by kernel_rfl)) ?_
          have hB := below_put3 (g := g5) hK (by omega) (.bool xa) (.slice X x1 x2) (.slice X' x1' x2')
          refine ⟨hB, ?_⟩
          have hK := hB
          have hx1 := hx1.put3 hFg5 (.bool xa) (.slice X x1 x2) (.slice X' x1' x2')
          have hx2 := hx2.put3 hFg5 (.bool xa) (.slice X x1 x2) (.slice X' x1' x2')
          have hy1 := hy1.put3 hFg5 (.bool xa) (.slice X x1 x2) (.slice X' x1' x2')
          have hy2 := hy2.put3 hFg5 (.bool xa) (.slice X x1 x2) (.slice X' x1' x2')
          have hFg6 := hFg6.far (g2 := g5) (by omega) (.bool xa) (.slice X x1 x2) (.slice X' x1' x2')
          have hFg5 := hFg5.put3 xa (.slice X x1 x2) (.slice X' x1' x2')
          simp only [put_lit, put_non, List.set_cons_zero, List.set_cons_succ]
          refine hk_one (i := 7) (by kernel_rfl) ?_
          refine op_skip none (stor3 (stor3 wz4 g5 (.bool xa) (.slice X x1 x2) (.slice X' x1' x2')) g6 (.bool ya) (.slice Y y1 y2) (.slice Y' y1' y2')) (by kernel_rfl) (by kernel_rfl) (by kernel_rfl) (exec_store3 6 17 hFg6 (by kernel_rfl) (by kernel_rfl) (by kernel_rfl)) ?_
          have hB := below_put3 (g := g6) hK (by omega) (.bool ya) (.slice Y y1 y2) (.slice Y' y1' y2')
          refine ⟨hB, ?_⟩
          have hK := hB
          have hx1 := hx1.put3 hFg6 (.bool ya) (.slice Y y1 y2) (.slice Y' y1' y2')
          have hx2 := hx2.put3 hFg6 (.bool ya) (.slice Y y1 y2) (.slice Y' y1' y2')
          have hy1 := hy1.put3 hFg6 (.bool ya) (.slice Y y1 y2) (.slice Y' y1' y2')
          have hy2 := hy2.put3 hFg6 (.bool ya) (.slice Y y1 y2) (.slice Y' y1' y2')
          have hFg5 := hFg5.far (g2 := g6) (by omega) (.bool ya) (.slice Y y1 y2) (.slice Y' y1' y2')
          have hFg6 := hFg6.put3 ya (.slice Y y1 y2) (.slice Y' y1' y2')
          simp only [put_lit, put_non, List.set_cons_zero, List.set_cons_succ]
          refine hk_done (by kernel_rfl) ?_
          have hl2 := hF2.lt
          go_wp2_with fail
          go_meet
          case rel => exact ⟨g5, g6, rfl, rfl, by omega, by omega, xa, X, x1, x2, X', x1', x2', n, d, ya, Y, y1, y2, Y', y1', y2', s, t, hFg5, hFg6, hF2.below hK, hx1, hx2, hx3, hx4, hy1, hy2, hy3, hy4, below_then hB0 hK⟩
        · skip
          obtain ⟨wz3, g6, ewg6, egg6, hB, hFg6⟩ := var1 wz2 false (.slice none 0 0) (.slice none 0 0)
          refine op_do (some 6) (.pointer (some ⟨g6, 0, none⟩)) wz3 (by kernel_rfl) (by kernel_rfl) (by kernel_rfl) (by rw [← ewg6, ← egg6]; exact exec_new3 (by kernel_rfl)) ?_
          refine ⟨below_then hK hB, ?_⟩
          have ltg6 := hK.size
          have hK := below_then hK hB
          have hx1 := hx1.below hB
          have hx2 := hx2.below hB
          have hy1 := hy1.below hB
          have hy2 := hy2.below hB
          clear hB
          simp only [put_lit, put_non, List.set_cons_zero, List.set_cons_succ]
          refine hk_one (i := 4) (by kernel_rfl) ?_
          have lhFg6g5 := hFg6.lt
          obtain ⟨wz4, g5, ewg5, egg5, hB, hFg5⟩ := var1 wz3 false (.slice none 0 0) (.slice none 0 0)
          refine op_do (some 5) (.pointer (some ⟨g5, 0, none⟩)) wz4 (by kernel_rfl) (by kernel_rfl) (by kernel_rfl) (by rw [← ewg5, ← egg5]; exact exec_new3 (by kernel_rfl)) ?_
          refine ⟨below_then hK hB, ?_⟩
          have ltg5 := hK.size
          have hK := below_then hK hB
          have hx1 := hx1.below hB
          have hx2 := hx2.below hB
          have hy1 := hy1.below hB
          have hy2 := hy2.below hB
          have hFg6 := hFg6.below hB
          clear hB
          simp only [put_lit, put_non, List.set_cons_zero, List.set_cons_succ]
          refine hk_one (i := 6) (by kernel_rfl) ?_
          refine op_skip none (stor3 wz4 g5 (.bool xa) (.slice X x1 x2) (.slice X' x1' x2')) (by kernel_rfl) (by kernel_rfl) (by kernel_rfl) (exec_store3 5 15 hFg5 (by kernel_rfl) (by kernel_rfl) (by kernel_rfl)) ?_
          have hB := below_put3 (g := g5) hK (by omega) (.bool xa) (.slice X x1 x2) (.slice X' x1' x2')
          refine ⟨hB, ?_⟩
          have hK := hB
          have hx1 := hx1.put3 hFg5 (.bool xa) (.slice X x1 x2) (.slice X' x1' x2')
          have hx2 := hx2.put3 hFg5 (.bool xa) (.slice X x1 x2) (.slice X' x1' x2')
          have hy1 := hy1.put3 hFg5 (.bool xa) (.slice X x1 x2) (.slice X' x1' x2')
          have hy2 := hy2.put3 hFg5 (.bool xa) (.slice X x1 x2) (.slice X' x1' x2')
          have hFg6 := hFg6.far (g2 := g5) (by omega) (.bool xa) (.slice X x1 x2) (.slice X' x1' x2')
          have hFg5 := hFg5.put3 xa (.slice X x1 x2) (.slice X' x1' x2')
          simp only [put_lit, put_non, List.set_cons_zero, List.set_cons_succ]
          refine hk_one (i := 7) (by kernel_rfl) ?_
          refine op_skip none (stor3 (stor3 wz4 g5 (.bool xa) (.slice X x1 x2) (.slice X' x1' x2')) g6 (.bool ya) (.slice Y y1 y2) (.slice Y' y1' y2')) (by kernel_rfl) (by kernel_rfl) (by kernel_rfl) (exec_store3 6 17 hFg6 (by kernel_rfl) (by kernel_rfl) (by kernel_rfl)) ?_
          have hB := below_put3 (g := g6) hK (by omega) (.bool ya) (.slice Y y1 y2) (.slice Y' y1' y2')
          refine ⟨hB, ?_⟩
          have hK := hB
          have hx1 := hx1.put3 hFg6 (.bool ya) (.slice Y y1 y2) (.slice Y' y1' y2')
          have hx2 := hx2.put3 hFg6 (.bool ya) (.slice Y y1 y2) (.slice Y' y1' y2')
          have hy1 := hy1.put3 hFg6 (.bool ya) (.slice Y y1 y2) (.slice Y' y1' y2')
          have hy2 := hy2.put3 hFg6 (.bool ya) (.slice Y y1 y2) (.slice Y' y1' y2')
          have hFg5 := hFg5.far (g2 := g6) (by omega) (.bool ya) (.slice Y y1 y2) (.slice Y' y1' y2')
          have hFg6 := hFg6.put3 ya (.slice Y y1 y2) (.slice Y' y1' y2')
          simp only [put_lit, put_non, List.set_cons_zero, List.set_cons_succ]
          refine hk_done (by kernel_rfl) ?_
          have hl2 := hF2.lt
          go_wp2_with fail
          go_meet
          case rel => exact ⟨g5, g6, rfl, rfl, by omega, by omega, xa, X, x1, x2, X', x1', x2', n, d, ya, Y, y1, y2, Y', y1', y2', s, t, hFg5, hFg6, hF2.below hK, hx1, hx2, hx3, hx4, hy1, hy2, hy3, hy4, below_then hB0 hK⟩
      · skip
        obtain ⟨wz2, g5, ewg5, egg5, hB, hFg5⟩ := var1 wz1 false (.slice none 0 0) (.slice none 0 0)
        refine op_do (some 5) (.pointer (some ⟨g5, 0, none⟩)) wz2 (by kernel_rfl) (by kernel_rfl) (by kernel_rfl) (by rw [← ewg5, ← egg5]; exact exec_new3 (by kernel_rfl)) ?_
        refine ⟨below_then hK hB, ?_⟩
        have ltg5 := hK.size
        have hK := below_then hK hB
        have hx1 := hx1.below hB
        have hx2 := hx2.below hB
        clear hB
        simp only [put_lit, put_non, List.set_cons_zero, List.set_cons_succ]
        refine hk_two (i := 3) (j := 5) (by kernel_rfl) ?_ ?_
        · skip
          refine op_call (some 17) 13 #[.agg #[.bool nb, .slice B i j, .slice B' i' j']] (by kernel_rfl) (by kernel_rfl) (by kernel_rfl) (fun w => by kernel_rfl) ?_
          refine (D2.out wz2 (below_then hB0 hK)).mono ?_
          rintro e wz3 ⟨uy, rfl, huy, hB⟩
          refine ⟨_, rfl, below_then hK hB, ?_⟩
          have hK := below_then hK hB
          have hx1 := hx1.below hB
          have hx2 := hx2.below hB
          have hFg5 := hFg5.below hB
          clear hB
          obtain ⟨ya, Y, y1, y2, Y', y1', y2', s, t, rfl, hy1, hy2, hy3, hy4⟩ := huy.fracP
          simp only [put_lit, put_non, List.set_cons_zero, List.set_cons_succ]
          refine hk_one (i := 5) (by kernel_rfl) ?_
          have lhFg5g6 := hFg5.lt
          obtain ⟨wz4, g6, ewg6, egg6, hB, hFg6⟩ := var1 wz3 false (.slice none 0 0) (.slice none 0 0)
          refine op_do (some 6) (.pointer (some ⟨g6, 0, none⟩)) wz4 (by kernel_rfl) (by kernel_rfl) (by kernel_rfl) (by rw [← ewg6, ← egg6]; exact exec_new3 (by kernel_rfl)) ?_
          refine ⟨below_then hK hB, ?_⟩
          have ltg6 := hK.size
          have hK := below_then hK hB
          have hx1 := hx1.below hB
          have hx2 := hx2.below hB
          have hFg5 := hFg5.below hB
          have hy1 := hy1.below hB
          have hy2 := hy2.below hB
          clear hB
          simp only [put_lit, put_non, List.set_cons_zero, List.set_cons_succ]
          refine hk_one (i := 6) (by kernel_rfl) ?_
          refine op_skip none (stor3 wz4 g5 (.bool xa) (.slice X x1 x2) (.slice X' x1' x2')) (by kernel_rfl) (by kernel_rfl) (by kernel_rfl) (exec_store3 5 15 hFg5 (by kernel_rfl) (by kernel_rfl) (by kernel_rfl)) ?_
          have hB := below_put3 (g := g5) hK (by omega) (.bool xa) (.slice X x1 x2) (.slice X' x1' x2')
          refine ⟨hB, ?_⟩
          have hK := hB
          have hx1 := hx1.put3 hFg5 (.bool xa) (.slice X x1 x2) (.slice X' x1' x2')
          have hx2 := hx2.put3 hFg5 (.bool xa) (.slice X x1 x2) (.slice X' x1' x2')
          have hy1 := hy1.put3 hFg5 (.bool xa) (.slice X x1 x2) (.slice X' x1' x2')
          have hy2 := hy2.put3 hFg5 (.bool xa) (.slice X x1 x2) (.slice X' x1' x2')
          have hFg6 := hFg6.far (g2 := g5) (by omega) (.bool xa) (.slice X x1 x2) (.slice X' x1' x2')
          have hFg5 := hFg5.put3 xa (.slice X x1 x2) (.slice X' x1' x2')
          simp only [put_lit, put_non, List.set_cons_zero, List.set_cons_succ]
          refine hk_one (i := 7) (by kernel_rfl) ?_
          refine op_skip none (stor3 (stor3 wz4 g5 (.bool xa) (.slice X x1 x2) (.slice X' x1' x2')) g6 (.bool ya) (.slice Y y1 y2) (.slice Y' y1' y2')) (by kernel_rfl) (by kernel_rfl) (by kernel_rfl) (exec_store3 6 17 hFg6 (by kernel_rfl) (by kernel_rfl) (by kernel_rfl)) ?_
          have hB := below_put3 (g := g6) hK (by omega) (.bool ya) (.slice Y y1 y2) (.slice Y' y1' y2')
          refine ⟨hB, ?_⟩
          have hK := hB
          have hx1 := hx1.put3 hFg6 (.bool ya) (.slice Y y1 y2) (.slice Y' y1' y2')
          have hx2 := hx2.put3 hFg6 (.bool ya) (.slice Y y1 y2) (.slice Y' y1' y2')
          have hy1 := hy1.put3 hFg6 (.bool ya) (.slice Y y1 y2) (.slice Y' y1' y2')
          have hy2 := hy2.put3 hFg6 (.bool ya) (.slice Y y1 y2) (.slice Y' y1' y2')
          have hFg5 := hFg5.far (g2 := g6) (by omega) (.bool ya) (.slice Y y1 y2) (.slice Y' y1' y2')
          have hFg6 := hFg6.put3 ya (.slice Y y1 y2) (.slice Y' y1' y2')
          simp only [put_lit, put_non, List.set_cons_zero, List.set_cons_succ]
          refine hk_done (by kernel_rfl) ?_
          have hl2 := hF2.lt
          go_wp2_with fail
          go_meet
          case rel => exact ⟨g5, g6, rfl, rfl, by omega, by omega, xa, X, x1, x2, X', x1', x2', n, d, ya, Y, y1, y2, Y', y1', y2', s, t, hFg5, hFg6, hF2.below hK, hx1, hx2, hx3, hx4, hy1, hy2, hy3, hy4, below_then hB0 hK⟩
        · skip
          have lhFg5g6 := hFg5.lt
          obtain ⟨wz3, g6, ewg6, egg6, hB, hFg6⟩ := var1 wz2 false (.slice none 0 0) (.slice none 0 0)
          refine op_do (some 6) (.pointer (some ⟨g6, 0, none⟩)) wz3 (by kernel_rfl) (by kernel_rfl) (by kernel_rfl) (by rw [← ewg6, ← egg6]; exact exec_new3 (by kernel_rfl)) ?_
          refine ⟨below_then hK hB, ?_⟩
          have ltg6 := hK.size
          have hK := below_then hK hB
          have hx1 := hx1.below hB
          have hx2 := hx2.below hB
          have hFg5 := hFg5.below hB
          clear hB
          simp only [put_lit, put_non, List.set_cons_zero, List.set_cons_succ]
          refine hk_one (i := 3) (by kernel_rfl) ?_
          refine op_call (some 17) 13 #[.agg #[.bool nb, .slice B i j, .slice B' i' j']] (by kernel_rfl) (by kernel_rfl) (by kernel_rfl) (fun w => by kernel_rfl) ?_
          refine (D2.out wz3 (below_then hB0 hK)).mono ?_
          rintro e wz4 ⟨uy, rfl, huy, hB⟩
          refine ⟨_, rfl, below_then hK hB, ?_⟩
          have hK := below_then hK hB
          have hx1 := hx1.below hB
          have hx2 := hx2.below hB
          have hFg5 := hFg5.below hB
          have hFg6 := hFg6.below hB
          clear hB
          obtain ⟨ya, Y, y1, y2, Y', y1', y2', s, t, rfl, hy1, hy2, hy3, hy4⟩ := huy.fracP
          simp only [put_lit, put_non, List.set_cons_zero, List.set_cons_succ]
          refine hk_one (i := 6) (by kernel_rfl) ?_
          refine op_skip none (stor3 wz4 g5 (.bool xa) (.slice X x1 x2) (.slice X' x1' x2')) (by kernel_rfl) (by kernel_rfl) (by kernel_rfl) (exec_store3 5 15 hFg5 (by kernel_rfl) (by kernel_rfl) (by kernel_rfl)) ?_
          have hB := below_put3 (g := g5) hK (by omega) (.bool xa) (.slice X x1 x2) (.slice X' x1' x2')
          refine ⟨hB, ?_⟩
          have hK := hB
          have hx1 := hx1.put3 hFg5 (.bool xa) (.slice X x1 x2) (.slice X' x1' x2')
          have hx2 := hx2.put3 hFg5 (.bool xa) (.slice X x1 x2) (.slice X' x1' x2')
          have hy1 := hy1.put3 hFg5 (.bool xa) (.slice X x1 x2) (.slice X' x1' x2')
          have hy2 := hy2.put3 hFg5 (.bool xa) (.slice X x1 x2) (.slice X' x1' x2')
          have hFg6 := hFg6.far (g2 := g5) (by omega) (.bool xa) (.slice X x1 x2) (.slice X' x1' x2')
          have hFg5 := hFg5.put3 xa (.slice X x1 x2) (.slice X' x1' x2')
          simp only [put_lit, put_non, List.set_cons_zero, List.set_cons_succ]
          refine hk_one (i := 7) (by kernel_rfl) ?_
          refine op_skip none (stor3 (stor3 wz4 g5 (.bool xa) (.slice X x1 x2) (.slice X' x1' x2')) g6 (.bool ya) (.slice Y y1 y2) (.slice Y' y1' y2')) (by kernel_rfl) (by kernel_rfl) (by kernel_rfl) (exec_store3 6 17 hFg6 (by kernel_rfl) (by kernel_rfl) (by kernel_rfl)) ?_
          have hB := below_put3 (g := g6) hK (by omega) (.bool ya) (.slice Y y1 y2) (.slice Y' y1' y2')
          refine ⟨hB, ?_⟩
          have hK := hB
          have hx1 := hx1.put3 hFg6 (.bool ya) (.slice Y y1 y2) (.slice Y' y1' y2')
          have hx2 := hx2.put3 hFg6 (.bool ya) (.slice Y y1 y2) (.slice Y' y1' y2')
          have hy1 := hy1.put3 hFg6 (.bool ya) (.slice Y y1 y2) (.slice Y' y1' y2')
          have hy2 := hy2.put3 hFg6 (.bool ya) (.slice Y y1 y2) (.slice Y' y1' y2')
          have hFg5 := hFg5.far (g2 := g6) (by omega) (.bool ya) (.slice Y y1 y2) (.slice Y' y1' y2')
          have hFg6 := hFg6.put3 ya (.slice Y y1 y2) (.slice Y' y1' y2')
          simp only [put_lit, put_non, List.set_cons_zero, List.set_cons_succ]
          refine hk_done (by kernel_rfl) ?_
          have hl2 := hF2.lt
          go_wp2_with fail
          go_meet
          case rel => exact ⟨g5, g6, rfl, rfl, by omega, by omega, xa, X, x1, x2, X', x1', x2', n, d, ya, Y, y1, y2, Y', y1', y2', s, t, hFg5, hFg6, hF2.below hK, hx1, hx2, hx3, hx4, hy1, hy2, hy3, hy4, below_then hB0 hK⟩
      · skip
        obtain ⟨wz2, g6, ewg6, egg6, hB, hFg6⟩ := var1 wz1 false (.slice none 0 0) (.slice none 0 0)
        refine op_do (some 6) (.pointer (some ⟨g6, 0, none⟩)) wz2 (by kernel_rfl) (by kernel_rfl) (by kernel_rfl) (by rw [← ewg6, ← egg6]; exact exec_new3 (by kernel_rfl)) ?_
        refine ⟨below_then hK hB, ?_⟩
        have ltg6 := hK.size
        have hK := below_then hK hB
        have hx1 := hx1.below hB
        have hx2 := hx2.below hB
        clear hB
        simp only [put_lit, put_non, List.set_cons_zero, List.set_cons_succ]
        refine hk_two (i := 3) (j := 4) (by kernel_rfl) ?_ ?_
        · skip
          refine op_call (some 17) 13 #[.agg #[.bool nb, .slice B i j, .slice B' i' j']] (by kernel_rfl) (by kernel_rfl) (by kernel_rfl) (fun w => by kernel_rfl) ?_
          refine (D2.out wz2 (below_then hB0 hK)).mono ?_
          rintro e wz3 ⟨uy, rfl, huy, hB⟩
          refine ⟨_, rfl, below_then hK hB, ?_⟩
          have hK := below_then hK hB
          have hx1 := hx1.below hB
          have hx2 := hx2.below hB
          have hFg6 := hFg6.below hB
          clear hB
          obtain ⟨ya, Y, y1, y2, Y', y1', y2', s, t, rfl, hy1, hy2, hy3, hy4⟩ := huy.fracP
          simp only [put_lit, put_non, List.set_cons_zero, List.set_cons_succ]
          refine hk_one (i := 4) (by kernel_rfl) ?_
          have lhFg6g5 := hFg6.lt
          obtain ⟨wz4, g5, ewg5, egg5, hB, hFg5⟩ := var1 wz3 false (.slice none 0 0) (.slice none 0 0)
          refine op_do (some 5) (.pointer (some ⟨g5, 0, none⟩)) wz4 (by kernel_rfl) (by kernel_rfl) (by kernel_rfl) (by rw [← ewg5, ← egg5]; exact exec_new3 (by kernel_rfl)) ?_
          refine ⟨below_then hK hB, ?_⟩
          have ltg5 := hK.size
          have hK := below_then hK hB
          have hx1 := hx1.below hB
          have hx2 := hx2.below hB
          have hFg6 := hFg6.below hB
          have hy1 := hy1.below hB
          have hy2 := hy2.below hB
          clear hB
          simp only [put_lit, put_non, List.set_cons_zero, List.set_cons_succ]
          refine hk_one (i := 6) (by kernel_rfl) ?_
          refine op_skip none (stor3 wz4 g5 (.bool xa) (.slice X x1 x2) (.slice X' x1' x2')) (by kernel_rfl) (by kernel_rfl) (by kernel_rfl) (exec_store3 5 15 hFg5 (by kernel_rfl) (by kernel_rfl) (by kernel_rfl)) ?_
          have hB := below_put3 (g := g5) hK (by omega) (.bool xa) (.slice X x1 x2) (.slice X' x1' x2')
          refine ⟨hB, ?_⟩
          have hK := hB
          have hx1 := hx1.put3 hFg5 (.bool xa) (.slice X x1 x2) (.slice X' x1' x2')
          have hx2 := hx2.put3 hFg5 (.bool xa) (.slice X x1 x2) (.slice X' x1' x2')
          have hy1 := hy1.put3 hFg5 (.bool xa) (.slice X x1 x2) (.slice X' x1' x2')
          have hy2 := hy2.put3 hFg5 (.bool xa) (.slice X x1 x2) (.slice X' x1' x2')
          have hFg6 := hFg6.far (g2 := g5) (by omega) (.bool xa) (.slice X x1 x2) (.slice X' x1' x2')
          have hFg5 := hFg5.put3 xa (.slice X x1 x2) (.slice X' x1' x2')
          simp only [put_lit, put_non, List.set_cons_zero, List.set_cons_succ]
          refine hk_one (i := 7) (by kernel_rfl) ?_
          refine op_skip none (stor3 (stor3 wz4 g5 (.bool xa) (.slice X x1 x2) (.slice X' x1' x2')) g6 (.bool ya) (.slice Y y1 y2) (.slice Y' y1' y2')) (by kernel_rfl) (by kernel_rfl) (by kernel_rfl) (exec_store3 6 17 hFg6 (by kernel_rfl) (by kernel_rfl) (by kernel_rfl)) ?_
          have hB := below_put3 (g := g6) hK (by omega) (.bool ya) (.slice Y y1 y2) (.slice Y' y1' y2')
          refine ⟨hB, ?_⟩
          have hK := hB
          have hx1 := hx1.put3 hFg6 (.bool ya) (.slice Y y1 y2) (.slice Y' y1' y2')
          have hx2 := hx2.put3 hFg6 (.bool ya) (.slice Y y1 y2) (.slice Y' y1' y2')
          have hy1 := hy1.put3 hFg6 (.bool ya) (.slice Y y1 y2) (.slice Y' y1' y2')
          have hy2 := hy2.put3 hFg6 (.bool ya) (.slice Y y1 y2) (.slice Y' y1' y2')
          have hFg5 := hFg5.far (g2 := g6) (by omega) (.bool ya) (.slice Y y1 y2) (.slice Y' y1' y2')
          have hFg6 := hFg6.put3 ya (.slice Y y1 y2) (.slice Y' y1' y2')
          simp only [put_lit, put_non, List.set_cons_zero, List.set_cons_succ]
          refine hk_done (by kernel_rfl) ?_
          have hl2 := hF2.lt
          go_wp2_with fail
          go_meet
          case rel => exact ⟨g5, g6, rfl, rfl, by omega, by omega, xa, X, x1, x2, X', x1', x2', n, d, ya, Y, y1, y2, Y', y1', y2', s, t, hFg5, hFg6, hF2.below hK, hx1, hx2, hx3, hx4, hy1, hy2, hy3, hy4, below_then hB0 hK⟩
        · skip
          have lhFg6g5 := hFg6.lt
          obtain ⟨wz3, g5, ewg5, egg5, hB, hFg5⟩ := var1 wz2 false (.slice none 0 0) (.slice none 0 0)
          refine op_do (some 5) (.pointer (some ⟨g5, 0, none⟩)) wz3 (by kernel_rfl) (by kernel_rfl) (by kernel_rfl) (by rw [← ewg5, ← egg5]; exact exec_new3 (by kernel_rfl)) ?_
          refine ⟨below_then hK hB, ?_⟩
          have ltg5 := hK.size
          have hK := below_then hK hB
          have hx1 := hx1.below hB
          have hx2 := hx2.below hB
          have hFg6 := hFg6.below hB
          clear hB
          simp only [put_lit, put_non, List.set_cons_zero, List.set_cons_succ]
          refine hk_one (i := 3) (by kernel_rfl) ?_
          refine op_call (some 17) 13 #[.agg #[.bool nb, .slice B i j, .slice B' i' j']] (by kernel_rfl) (by kernel_rfl) (by kernel_rfl) (fun w => by kernel_rfl) ?_
          refine (D2.out wz3 (below_then hB0 hK)).mono ?_
          rintro e wz4 ⟨uy, rfl, huy, hB⟩
          refine ⟨_, rfl, below_then hK hB, ?_⟩
          have hK := below_then hK hB
          have hx1 := hx1.below hB
          have hx2 := hx2.below hB
          have hFg6 := hFg6.below hB
          have hFg5 := hFg5.below hB
          clear hB
          obtain ⟨ya, Y, y1, y2, Y', y1', y2', s, t, rfl, hy1, hy2, hy3, hy4⟩ := huy.fracP
          simp only [put_lit, put_non, List.set_cons_zero, List.set_cons_succ]
          refine hk_one (i := 6) (by kernel_rfl) ?_
          refine op_skip none (stor3 wz4 g5 (.bool xa) (.slice X x1 x2) (.slice X' x1' x2')) (by kernel_rfl) (by kernel_rfl) (by kernel_rfl) (exec_store3 5 15 hFg5 (by kernel_rfl) (by kernel_rfl) (by kernel_rfl)) ?_
          have hB := below_put3 (g := g5) hK (by omega) (.bool xa) (.slice X x1 x2) (.slice X' x1' x2')
          refine ⟨hB, ?_⟩
          have hK := hB
          have hx1 := hx1.put3 hFg5 (.bool xa) (.slice X x1 x2) (.slice X' x1' x2')
          have hx2 := hx2.put3 hFg5 (.bool xa) (.slice X x1 x2) (.slice X' x1' x2')
          have hy1 := hy1.put3 hFg5 (.bool xa) (.slice X x1 x2) (.slice X' x1' x2')
          have hy2 := hy2.put3 hFg5 (.bool xa) (.slice X x1 x2) (.slice X' x1' x2')
          have hFg6 := hFg6.far (g2 := g5) (by omega) (.bool xa) (.slice X x1 x2) (.slice X' x1' x2')
          have hFg5 := hFg5.put3 xa (.slice X x1 x2) (.slice X' x1' x2')
          simp only [put_lit, put_non, List.set_cons_zero, List.set_cons_succ]
          refine hk_one (i := 7) (by kernel_rfl) ?_
          refine op_skip none (stor3 (stor3 wz4 g5 (.bool xa) (.slice X x1 x2) (.slice X' x1' x2')) g6 (.bool ya) (.slice Y y1 y2) (.slice Y' y1' y2')) (by kernel_rfl) (by kernel_rfl) (by kernel_rfl) (exec_store3 6 17 hFg6 (by kernel_rfl) (by kernel_rfl) (by kernel_rfl)) ?_
          have hB := below_put3 (g := g6) hK (by omega) (.bool ya) (.slice Y y1 y2) (.slice Y' y1' y2')
          refine ⟨hB, ?_⟩
          have hK := hB
          have hx1 := hx1.put3 hFg6 (.bool ya) (.slice Y y1 y2) (.slice Y' y1' y2')
          have hx2 := hx2.put3 hFg6 (.bool ya) (.slice Y y1 y2) (.slice Y' y1' y2')
          have hy1 := hy1.put3 hFg6 (.bool ya) (.slice Y y1 y2) (.slice Y' y1' y2')
          have hy2 := hy2.put3 hFg6 (.bool ya) (.slice Y y1 y2) (.slice Y' y1' y2')
          have hFg5 := hFg5.far (g2 := g6) (by omega) (.bool ya) (.slice Y y1 y2) (.slice Y' y1' y2')
          have hFg6 := hFg6.put3 ya (.slice Y y1 y2) (.slice Y' y1' y2')
          simp only [put_lit, put_non, List.set_cons_zero, List.set_cons_succ]
          refine hk_done (by kernel_rfl) ?_
          have hl2 := hF2.lt
          go_wp2_with fail
          go_meet
          case rel => exact ⟨g5, g6, rfl, rfl, by omega, by omega, xa, X, x1, x2, X', x1', x2', n, d, ya, Y, y1, y2, Y', y1', y2', s, t, hFg5, hFg6, hF2.below hK, hx1, hx2, hx3, hx4, hy1, hy2, hy3, hy4, below_then hB0 hK⟩
    · skip
      obtain ⟨wz1, g5, ewg5, egg5, hB, hFg5⟩ := var1 w2.drew false (.slice none 0 0) (.slice none 0 0)
      refine op_do (some 5) (.pointer (some ⟨g5, 0, none⟩)) wz1 (by kernel_rfl) (by kernel_rfl) (by kernel_rfl) (by rw [← ewg5, ← egg5]; exact exec_new3 (by kernel_rfl)) ?_
      refine ⟨below_then hK hB, ?_⟩
      have ltg5 := hK.size
      have hK := below_then hK hB
      clear hB
      simp only [put_lit, put_non, List.set_cons_zero, List.set_cons_succ]
      refine hk_two (i := 1) (j := 5) (by kernel_rfl) ?_ ?_
      · skip
        refine op_call (some 15) 13 #[.agg #[.bool na, .slice A m c, .slice A' m' c']] (by kernel_rfl) (by kernel_rfl) (by kernel_rfl) (fun w => by kernel_rfl) ?_
        refine (D1.out wz1 (below_then hB0 hK)).mono ?_
        rintro e wz2 ⟨ux, rfl, hux, hB⟩
        refine ⟨_, rfl, below_then hK hB, ?_⟩
        have hK := below_then hK hB
        have hFg5 := hFg5.below hB
        clear hB
        obtain ⟨xa, X, x1, x2, X', x1', x2', n, d, rfl, hx1, hx2, hx3, hx4⟩ := hux.fracP
        simp only [put_lit, put_non, List.set_cons_zero, List.set_cons_succ]
        refine hk_two (i := 3) (j := 5) (by kernel_rfl) ?_ ?_
        · skip
          refine op_call (some 17) 13 #[.agg #[.bool nb, .slice B i j, .slice B' i' j']] (by kernel_rfl) (by kernel_rfl) (by kernel_rfl) (fun w => by kernel_rfl) ?_
          refine (D2.out wz2 (below_then hB0 hK)).mono ?_
          rintro e wz3 ⟨uy, rfl, huy, hB⟩
          refine ⟨_, rfl, below_then hK hB, ?_⟩
          have hK := below_then hK hB
          have hFg5 := hFg5.below hB
          have hx1 := hx1.below hB
          have hx2 := hx2.below hB
          clear hB
          obtain ⟨ya, Y, y1, y2, Y', y1', y2', s, t, rfl, hy1, hy2, hy3, hy4⟩ := huy.fracP
          simp only [put_lit, put_non, List.set_cons_zero, List.set_cons_succ]
          refine hk_one (i := 5) (by kernel_rfl) ?_
          have lhFg5g6 := hFg5.lt
          obtain ⟨wz4, g6, ewg6, egg6, hB, hFg6⟩ := var1 wz3 false (.slice none 0 0) (.slice none 0 0)
          refine op_do (some 6) (.pointer (some ⟨g6, 0, none⟩)) wz4 (by kernel_rfl) (by kernel_rfl) (by kernel_rfl) (by rw [← ewg6, ← egg6]; exact exec_new3 (by kernel_rfl)) ?_
          refine ⟨below_then hK hB, ?_⟩
          have ltg6 := hK.size
          have hK := below_then hK hB
          have hFg5 := hFg5.below hB
          have hx1 := hx1.below hB
          have hx2 := hx2.below hB
          have hy1 := hy1.below hB
          have hy2 := hy2.below hB
          clear hB
          simp only [put_lit, put_non, List.set_cons_zero, List.set_cons_succ]
          refine hk_one (i := 6) (by kernel_rfl) ?_
          refine op_skip none (stor3 wz4 g5 (.bool xa) (.slice X x1 x2) (.slice X' x1' x2')) (by kernel_rfl) (by kernel_rfl) (by kernel_rfl) (exec_store3 5 15 hFg5 (by kernel_rfl) (by kernel_rfl) (by kernel_rfl)) ?_
          have hB := below_put3 (g := g5) hK (by omega) (.bool xa) (.slice X x1 x2) (.slice X' x1' x2')
          refine ⟨hB, ?_⟩
          have hK := hB
          have hx1 := hx1.put3 hFg5 (.bool xa) (.slice X x1 x2) (.slice X' x1' x2')
          have hx2 := hx2.put3 hFg5 (.bool xa) (.slice X x1 x2) (.slice X' x1' x2')
          have hy1 := hy1.put3 hFg5 (.bool xa) (.slice X x1 x2) (.slice X' x1' x2')
          have hy2 := hy2.put3 hFg5 (.bool xa) (.slice X x1 x2) (.slice X' x1' x2')
          have hFg6 := hFg6.far (g2 := g5) (by omega) (.bool xa) (.slice X x1 x2) (.slice X' x1' x2')
          have hFg5 := hFg5.put3 xa (.slice X x1 x2) (.slice X' x1' x2')
          simp only [put_lit, put_non, List.set_cons_zero, List.set_cons_succ]
          refine hk_one (i := 7) (by kernel_rfl) ?_
          refine op_skip none (stor3 (stor3 wz4 g5 (.bool xa) (.slice X x1 x2) (.slice X' x1' x2')) g6 (.bool ya) (.slice Y y1 y2) (.slice Y' y1' y2')) (by kernel_rfl) (by kernel_rfl) (by kernel_rfl) (exec_store3 6 17 hFg6 (by kernel_rfl) (by kernel_rfl) (by kernel_rfl)) ?_
          have hB := below_put3 (g := g6) hK (by omega) (.bool ya) (.slice Y y1 y2) (.slice Y' y1' y2')
          refine ⟨hB, ?_⟩
          have hK := hB
          have hx1 := hx1.put3 hFg6 (.bool ya) (.slice Y y1 y2) (.slice Y' y1' y2')
          have hx2 := hx2.put3 hFg6 (.bool ya) (.slice Y y1 y2) (.slice Y' y1' y2')
          have hy1 := hy1.put3 hFg6 (.bool ya) (.slice Y y1 y2) (.slice Y' y1' y2')
          have hy2 := hy2.put3 hFg6 (.bool ya) (.slice Y y1 y2) (.slice Y' y1' y2')
          have hFg5 := hFg5.far (g2 := g6) (by omega) (.bool ya) (.slice Y y1 y2) (.slice Y' y1' y2')
          have hFg6 := hFg6.put3 ya (.slice Y y1 y2) (.slice Y' y1' y2')
          simp only [put_lit, put_non, List.set_cons_zero, List.set_cons_succ]
          refine hk_done (by kernel_rfl) ?_
          have hl2 := hF2.lt
          go_wp2_with fail
          go_meet
          case rel => exact ⟨g5, g6, rfl, rfl, by omega, by omega, xa, X, x1, x2, X', x1', x2', n, d, ya, Y, y1, y2, Y', y1', y2', s, t, hFg5, hFg6, hF2.below hK, hx1, hx2, hx3, hx4, hy1, hy2, hy3, hy4, below_then hB0 hK⟩
        · skip
          have lhFg5g6 := hFg5.lt
          obtain ⟨wz3, g6, ewg6, egg6, hB, hFg6⟩ := var1 wz2 false (.slice none 0 0) (.slice none 0 0)
          refine op_do (some 6) (.pointer (some ⟨g6, 0, none⟩)) wz3 (by kernel_rfl) (by kernel_rfl) (by kernel_rfl) (by rw [← ewg6, ← egg6]; exact exec_new3 (by kernel_rfl)) ?_
          refine ⟨below_then hK hB, ?_⟩
          have ltg6 := hK.size
          have hK := below_then hK hB
          have hFg5 := hFg5.below hB
          have hx1 := hx1.below hB
          have hx2 := hx2.below hB
          clear hB
          simp only [put_lit, put_non, List.set_cons_zero, List.set_cons_succ]
          refine hk_one (i := 3) (by kernel_rfl) ?_
          refine op_call (some 17) 13 #[.agg #[.bool nb, .slice B i j, .slice B' i' j']] (by kernel_rfl) (by kernel_rfl) (by kernel_rfl) (fun w => by kernel_rfl) ?_
          refine (D2.out wz3 (below_then hB0 hK)).mono ?_
          rintro e wz4 ⟨uy, rfl, huy, hB⟩
          refine ⟨_, rfl, below_then hK hB, ?_⟩
          have hK := below_then hK hB
          have hFg5 := hFg5.below hB
          have hx1 := hx1.below hB
          have hx2 := hx2.below hB
          have hFg6 := hFg6.below hB
          clear hB
          obtain ⟨ya, Y, y1, y2, Y', y1', y2', s, t, rfl, hy1, hy2, hy3, hy4⟩ := huy.fracP
          simp only [put_lit, put_non, List.set_cons_zero, List.set_cons_succ]
          refine hk_one (i := 6) (by kernel_rfl) ?_
          refine op_skip none (stor3 wz4 g5 (.bool xa) (.slice X x1 x2) (.slice X' x1' x2')) (by kernel_rfl) (by kernel_rfl) (by kernel_rfl) (exec_store3 5 15 hFg5 (by kernel_rfl) (by kernel_rfl) (by kernel_rfl)) ?_
          have hB := below_put3 (g := g5) hK (by omega) (.bool xa) (.slice X x1 x2) (.slice X' x1' x2')
          refine ⟨hB, ?_⟩
          have hK := hB
          have hx1 := hx1.put3 hFg5 (.bool xa) (.slice X x1 x2) (.slice X' x1' x2')
          have hx2 := hx2.put3 hFg5 (.bool xa) (.slice X x1 x2) (.slice X' x1' x2')
          have hy1 := hy1.put3 hFg5 (.bool xa) (.slice X x1 x2) (.slice X' x1' x2')
          have hy2 := hy2.put3 hFg5 (.bool xa) (.slice X x1 x2) (.slice X' x1' x2')
          have hFg6 := hFg6.far (g2 := g5) (by omega) (.bool xa) (.slice X x1 x2) (.slice X' x1' x2')
          have hFg5 := hFg5.put3 xa (.slice X x1 x2) (.slice X' x1' x2')
          simp only [put_lit, put_non, List.set_cons_zero, List.set_cons_succ]
          refine hk_one (i := 7) (by kernel_rfl) ?_
          refine op_skip none (stor3 (stor3 wz4 g5 (.bool xa) (.slice X x1 x2) (.slice X' x1' x2')) g6 (.bool ya) (.slice Y y1 y2) (.slice Y' y1' y2')) (by kernel_rfl) (by kernel_rfl) (by kernel_rfl) (exec_store3 6 17 hFg6 (by kernel_rfl) (by kernel_rfl) (by kernel_rfl)) ?_
          have hB := below_put3 (g := g6) hK (by omega) (.bool ya) (.slice Y y1 y2) (.slice Y' y1' y2')
          refine ⟨hB, ?_⟩
          have hK := hB
          have hx1 := hx1.put3 hFg6 (.bool ya) (.slice Y y1 y2) (.slice Y' y1' y2')
          have hx2 := hx2.put3 hFg6 (.bool ya) (.slice Y y1 y2) (.slice Y' y1' y2')
          have hy1 := hy1.put3 hFg6 (.bool ya) (.slice Y y1 y2) (.slice Y' y1' y2')
          have hy2 := hy2.put3 hFg6 (.bool ya) (.slice Y y1 y2) (.slice Y' y1' y2')
          have hFg5 := hFg5.far (g2 := g6) (by omega) (.bool ya) (.slice Y y1 y2) (.slice Y' y1' y2')
          have hFg6 := hFg6.put3 ya (.slice Y y1 y2) (.slice Y' y1' y2')
          simp only [put_lit, put_non, List.set_cons_zero, List.set_cons_succ]
          refine hk_done (by kernel_rfl) ?_
          have hl2 := hF2.lt
          go_wp2_with fail
          go_meet
          case rel => exact ⟨g5, g6, rfl, rfl, by omega, by omega, xa, X, x1, x2, X', x1', x2', n, d, ya, Y, y1, y2, Y', y1', y2', s, t, hFg5, hFg6, hF2.below hK, hx1, hx2, hx3, hx4, hy1, hy2, hy3, hy4, below_then hB0 hK⟩
      · skip
        have lhFg5g6 := hFg5.lt
        obtain ⟨wz2, g6, ewg6, egg6, hB, hFg6⟩ := var1 wz1 false (.slice none 0 0) (.slice none 0 0)
        refine op_do (some 6) (.pointer (some ⟨g6, 0, none⟩)) wz2 (by kernel_rfl) (by kernel_rfl) (by kernel_rfl) (by rw [← ewg6, ← egg6]; exact exec_new3 (by kernel_rfl)) ?_
        refine ⟨below_then hK hB, ?_⟩
        have ltg6 := hK.size
        have hK := below_then hK hB
        have hFg5 := hFg5.below hB
        clear hB
        simp only [put_lit, put_non, List.set_cons_zero, List.set_cons_succ]
        refine hk_one (i := 1) (by kernel_rfl) ?_
        refine op_call (some 15) 13 #[.agg #[.bool na, .slice A m c, .slice A' m' c']] (by kernel_rfl) (by kernel_rfl) (by kernel_rfl) (fun w => by kernel_rfl) ?_
        refine (D1.out wz2 (below_then hB0 hK)).mono ?_
        rintro e wz3 ⟨ux, rfl, hux, hB⟩
        refine ⟨_, rfl, below_then hK hB, ?_⟩
        have hK := below_then hK hB
        have hFg5 := hFg5.below hB
        have hFg6 := hFg6.below hB
        clear hB
        obtain ⟨xa, X, x1, x2, X', x1', x2', n, d, rfl, hx1, hx2, hx3, hx4⟩ := hux.fracP
        simp only [put_lit, put_non, List.set_cons_zero, List.set_cons_succ]
        refine hk_one (i := 3) (by kernel_rfl) ?_
        refine op_call (some 17) 13 #[.agg #[.bool nb, .slice B i j, .slice B' i' j']] (by kernel_rfl) (by kernel_rfl) (by kernel_rfl) (fun w => by kernel_rfl) ?_
        refine (D2.out wz3 (below_then hB0 hK)).mono ?_
        rintro e wz4 ⟨uy, rfl, huy, hB⟩
        refine ⟨_, rfl, below_then hK hB, ?_⟩
        have hK := below_then hK hB
        have hFg5 := hFg5.below hB
        have hFg6 := hFg6.below hB
        have hx1 := hx1.below hB
        have hx2 := hx2.below hB
        clear hB
        obtain ⟨ya, Y, y1, y2, Y', y1', y2', s, t, rfl, hy1, hy2, hy3, hy4⟩ := huy.fracP
        simp only [put_lit, put_non, List.set_cons_zero, List.set_cons_succ]
        refine hk_one (i := 6) (by kernel_rfl) ?_
        refine op_skip none (stor3 wz4 g5 (.bool xa) (.slice X x1 x2) (.slice X' x1' x2')) (by kernel_rfl) (by kernel_rfl) (by kernel_rfl) (exec_store3 5 15 hFg5 (by kernel_rfl) (by kernel_rfl) (by kernel_rfl)) ?_
        have hB := below_put3 (g := g5) hK (by omega) (.bool xa) (.slice X x1 x2) (.slice X' x1' x2')
        refine ⟨hB, ?_⟩
        have hK := hB
        have hx1 := hx1.put3 hFg5 (.bool xa) (.slice X x1 x2) (.slice X' x1' x2')
        have hx2 := hx2.put3 hFg5 (.bool xa) (.slice X x1 x2) (.slice X' x1' x2')
        have hy1 := hy1.put3 hFg5 (.bool xa) (.slice X x1 x2) (.slice X' x1' x2')
        have hy2 := hy2.put3 hFg5 (.bool xa) (.slice X x1 x2) (.slice X' x1' x2')
        have hFg6 := hFg6.far (g2 := g5) (by omega) (.bool xa) (.slice X x1 x2) (.slice X' x1' x2')
        have hFg5 := hFg5.put3 xa (.slice X x1 x2) (.slice X' x1' x2')
        simp only [put_lit, put_non, List.set_cons_zero, List.set_cons_succ]
        refine hk_one (i := 7) (by kernel_rfl) ?_
        refine op_skip none (stor3 (stor3 wz4 g5 (.bool xa) (.slice X x1 x2) (.slice X' x1' x2')) g6 (.bool ya) (.slice Y y1 y2) (.slice Y' y1' y2')) (by kernel_rfl) (by kernel_rfl) (by kernel_rfl) (exec_store3 6 17 hFg6 (by kernel_rfl) (by kernel_rfl) (by kernel_rfl)) ?_
        have hB := below_put3 (g := g6) hK (by omega) (.bool ya) (.slice Y y1 y2) (.slice Y' y1' y2')
        refine ⟨hB, ?_⟩
        have hK := hB
        have hx1 := hx1.put3 hFg6 (.bool ya) (.slice Y y1 y2) (.slice Y' y1' y2')
        have hx2 := hx2.put3 hFg6 (.bool ya) (.slice Y y1 y2) (.slice Y' y1' y2')
        have hy1 := hy1.put3 hFg6 (.bool ya) (.slice Y y1 y2) (.slice Y' y1' y2')
        have hy2 := hy2.put3 hFg6 (.bool ya) (.slice Y y1 y2) (.slice Y' y1' y2')
        have hFg5 := hFg5.far (g2 := g6) (by omega) (.bool ya) (.slice Y y1 y2) (.slice Y' y1' y2')
        have hFg6 := hFg6.put3 ya (.slice Y y1 y2) (.slice Y' y1' y2')
        simp only [put_lit, put_non, List.set_cons_zero, List.set_cons_succ]
        refine hk_done (by kernel_rfl) ?_
        have hl2 := hF2.lt
        go_wp2_with fail
        go_meet
        case rel => exact ⟨g5, g6, rfl, rfl, by omega, by omega, xa, X, x1, x2, X', x1', x2', n, d, ya, Y, y1, y2, Y', y1', y2', s, t, hFg5, hFg6, hF2.below hK, hx1, hx2, hx3, hx4, hy1, hy2, hy3, hy4, below_then hB0 hK⟩
    · skip
      obtain ⟨wz1, g6, ewg6, egg6, hB, hFg6⟩ := var1 w2.drew false (.slice none 0 0) (.slice none 0 0)
      refine op_do (some 6) (.pointer (some ⟨g6, 0, none⟩)) wz1 (by kernel_rfl) (by kernel_rfl) (by kernel_rfl) (by rw [← ewg6, ← egg6]; exact exec_new3 (by kernel_rfl)) ?_
      refine ⟨below_then hK hB, ?_⟩
      have ltg6 := hK.size
      have hK := below_then hK hB
      clear hB
      simp only [put_lit, put_non, List.set_cons_zero, List.set_cons_succ]
      refine hk_two (i := 1) (j := 4) (by kernel_rfl) ?_ ?_
      · skip
        refine op_call (some 15) 13 #[.agg #[.bool na, .slice A m c, .slice A' m' c']] (by kernel_rfl) (by kernel_rfl) (by kernel_rfl) (fun w => by kernel_rfl) ?_
        refine (D1.out wz1 (below_then hB0 hK)).mono ?_
        rintro e wz2 ⟨ux, rfl, hux, hB⟩
        refine ⟨_, rfl, below_then hK hB, ?_⟩
        have hK := below_then hK hB
        have hFg6 := hFg6.below hB
        clear hB
        obtain ⟨xa, X, x1, x2, X', x1', x2', n, d, rfl, hx1, hx2, hx3, hx4⟩ := hux.fracP
        simp only [put_lit, put_non, List.set_cons_zero, List.set_cons_succ]
        refine hk_two (i := 3) (j := 4) (by kernel_rfl) ?_ ?_
        · skip
          refine op_call (some 17) 13 #[.agg #[.bool nb, .slice B i j, .slice B' i' j']] (by kernel_rfl) (by kernel_rfl) (by kernel_rfl) (fun w => by kernel_rfl) ?_
          refine (D2.out wz2 (below_then hB0 hK)).mono ?_
          rintro e wz3 ⟨uy, rfl, huy, hB⟩
          refine ⟨_, rfl, below_then hK hB, ?_⟩
          have hK := below_then hK hB
          have hFg6 := hFg6.below hB
          have hx1 := hx1.below hB
          have hx2 := hx2.below hB
          clear hB
          obtain ⟨ya, Y, y1, y2, Y', y1', y2', s, t, rfl, hy1, hy2, hy3, hy4⟩ := huy.fracP
          simp only [put_lit, put_non, List.set_cons_zero, List.set_cons_succ]
          refine hk_one (i := 4) (by kernel_rfl) ?_
          have lhFg6g5 := hFg6.lt
          obtain ⟨wz4, g5, ewg5, egg5, hB, hFg5⟩ := var1 wz3 false (.slice none 0 0) (.slice none 0 0)
          refine op_do (some 5) (.pointer (some ⟨g5, 0, none⟩)) wz4 (by kernel_rfl) (by kernel_rfl) (by kernel_rfl) (by rw [← ewg5, ← egg5]; exact exec_new3 (by kernel_rfl)) ?_
          refine ⟨below_then hK hB, ?_⟩
          have ltg5 := hK.size
          have hK := below_then hK hB
          have hFg6 := hFg6.below hB
          have hx1 := hx1.below hB
          have hx2 := hx2.below hB
          have hy1 := hy1.below hB
          have hy2 := hy2.below hB
          clear hB
          simp only [put_lit, put_non, List.set_cons_zero, List.set_cons_succ]
          refine hk_one (i := 6) (by kernel_rfl) ?_
          refine op_skip none (stor3 wz4 g5 (.bool xa) (.slice X x1 x2) (.slice X' x1' x2')) (by kernel_rfl) (by kernel_rfl) (by kernel_rfl) (exec_store3 5 15 hFg5 (by kernel_rfl) (by kernel_rfl) (by kernel_rfl)) ?_
          have hB := below_put3 (g := g5) hK (by omega) (.bool xa) (.slice X x1 x2) (.slice X' x1' x2')
          refine ⟨hB, ?_⟩
          have hK := hB
          have hx1 := hx1.put3 hFg5 (.bool xa) (.slice X x1 x2) (.slice X' x1' x2')
          have hx2 := hx2.put3 hFg5 (.bool xa) (.slice X x1 x2) (.slice X' x1' x2')
          have hy1 := hy1.put3 hFg5 (.bool xa) (.slice X x1 x2) (.slice X' x1' x2')
          have hy2 := hy2.put3 hFg5 (.bool xa) (.slice X x1 x2) (.slice X' x1' x2')
          have hFg6 := hFg6.far (g2 := g5) (by omega) (.bool xa) (.slice X x1 x2) (.slice X' x1' x2')
          have hFg5 := hFg5.put3 xa (.slice X x1 x2) (.slice X' x1' x2')
          simp only [put_lit, put_non, List.set_cons_zero, List.set_cons_succ]
          refine hk_one (i := 7) (by kernel_rfl) ?_
          refine op_skip none (stor3 (stor3 wz4 g5 (.bool xa) (.slice X x1 x2) (.slice X' x1' x2')) g6 (.bool ya) (.slice Y y1 y2) (.slice Y' y1' y2')) (by kernel_rfl) (by kernel_rfl) (by kernel_rfl) (exec_store3 6 17 hFg6 (by kernel_rfl) (by kernel_rfl) (by kernel_rfl)) ?_
          have hB := below_put3 (g := g6) hK (by omega) (.bool ya) (.slice Y y1 y2) (.slice Y' y1' y2')
          refine ⟨hB, ?_⟩
          have hK := hB
          have hx1 := hx1.put3 hFg6 (.bool ya) (.slice Y y1 y2) (.slice Y' y1' y2')
          have hx2 := hx2.put3 hFg6 (.bool ya) (.slice Y y1 y2) (.slice Y' y1' y2')
          have hy1 := hy1.put3 hFg6 (.bool ya) (.slice Y y1 y2) (.slice Y' y1' y2')
          have hy2 := hy2.put3 hFg6 (.bool ya) (.slice Y y1 y2) (.slice Y' y1' y2')
          have hFg5 := hFg5.far (g2 := g6) (by omega) (.bool ya) (.slice Y y1 y2) (.slice Y' y1' y2')
          have hFg6 := hFg6.put3 ya (.slice Y y1 y2) (.slice Y' y1' y2')
          simp only [put_lit, put_non, List.set_cons_zero, List.set_cons_succ]
          refine hk_done (by kernel_rfl) ?_
          have hl2 := hF2.lt
          go_wp2_with fail
          go_meet
          case rel => exact ⟨g5, g6, rfl, rfl, by omega, by omega, xa, X, x1, x2, X', x1', x2', n, d, ya, Y, y1, y2, Y', y1', y2', s, t, hFg5, hFg6, hF2.below hK, hx1, hx2, hx3, hx4, hy1, hy2, hy3, hy4, below_then hB0 hK⟩
        · skip
          have lhFg6g5 := hFg6.lt
          obtain ⟨wz3, g5, ewg5, egg5, hB, hFg5⟩ := var1 wz2 false (.slice none 0 0) (.slice none 0 0)
          refine op_do (some 5) (.pointer (some ⟨g5, 0, none⟩)) wz3 (by kernel_rfl) (by kernel_rfl) (by kernel_rfl) (by rw [← ewg5, ← egg5]; exact exec_new3 (by kernel_rfl)) ?_
          refine ⟨below_then hK hB, ?_⟩
          have ltg5 := hK.size
          have hK := below_then hK hB
          have hFg6 := hFg6.below hB
          have hx1 := hx1.below hB
          have hx2 := hx2.below hB
          clear hB
          simp only [put_lit, put_non, List.set_cons_zero, List.set_cons_succ]
          refine hk_one (i := 3) (by kernel_rfl) ?_
          refine op_call (some 17) 13 #[.agg #[.bool nb, .slice B i j, .slice B' i' j']] (by kernel_rfl) (by kernel_rfl) (by kernel_rfl) (fun w => by kernel_rfl) ?_
          refine (D2.out wz3 (below_then hB0 hK)).mono ?_
          rintro e wz4 ⟨uy, rfl, huy, hB⟩
          refine ⟨_, rfl, below_then hK hB, ?_⟩
          have hK := below_then hK hB
          have hFg6 := hFg6.below hB
          have hx1 := hx1.below hB
          have hx2 := hx2.below hB
          have hFg5 := hFg5.below hB
          clear hB
          obtain ⟨ya, Y, y1, y2, Y', y1', y2', s, t, rfl, hy1, hy2, hy3, hy4⟩ := huy.fracP
          simp only [put_lit, put_non, List.set_cons_zero, List.set_cons_succ]
          refine hk_one (i := 6) (by kernel_rfl) ?_
          refine op_skip none (stor3 wz4 g5 (.bool xa) (.slice X x1 x2) (.slice X' x1' x2')) (by kernel_rfl) (by kernel_rfl) (by kernel_rfl) (exec_store3 5 15 hFg5 (by kernel_rfl) (by kernel_rfl) (by kernel_rfl)) ?_
          have hB := below_put3 (g := g5) hK (by omega) (.bool xa) (.slice X x1 x2) (.slice X' x1' x2')
          refine ⟨hB, ?_⟩
          have hK := hB
          have hx1 := hx1.put3 hFg5 (.bool xa) (.slice X x1 x2) (.slice X' x1' x2')
          have hx2 := hx2.put3 hFg5 (.bool xa) (.slice X x1 x2) (.slice X' x1' x2')
          have hy1 := hy1.put3 hFg5 (.bool xa) (.slice X x1 x2) (.slice X' x1' x2')
          have hy2 := hy2.put3 hFg5 (.bool xa) (.slice X x1 x2) (.slice X' x1' x2')
          have hFg6 := hFg6.far (g2 := g5) (by omega) (.bool xa) (.slice X x1 x2) (.slice X' x1' x2')
          have hFg5 := hFg5.put3 xa (.slice X x1 x2) (.slice X' x1' x2')
          simp only [put_lit, put_non, List.set_cons_zero, List.set_cons_succ]
          refine hk_one (i := 7) (by kernel_rfl) ?_
          refine op_skip none (stor3 (stor3 wz4 g5 (.bool xa) (.slice X x1 x2) (.slice X' x1' x2')) g6 (.bool ya) (.slice Y y1 y2) (.slice Y' y1' y2')) (by kernel_rfl) (by kernel_rfl) (by kernel_rfl) (exec_store3 6 17 hFg6 (by kernel_rfl) (by kernel_rfl) (by kernel_rfl)) ?_
          have hB := below_put3 (g := g6) hK (by omega) (.bool ya) (.slice Y y1 y2) (.slice Y' y1' y2')
          refine ⟨hB, ?_⟩
          have hK := hB
          have hx1 := hx1.put3 hFg6 (.bool ya) (.slice Y y1 y2) (.slice Y' y1' y2')
          have hx2 := hx2.put3 hFg6 (.bool ya) (.slice Y y1 y2) (.slice Y' y1' y2')
          have hy1 := hy1.put3 hFg6 (.bool ya) (.slice Y y1 y2) (.slice Y' y1' y2')
          have hy2 := hy2.put3 hFg6 (.bool ya) (.slice Y y1 y2) (.slice Y' y1' y2')
          have hFg5 := hFg5.far (g2 := g6) (by omega) (.bool ya) (.slice Y y1 y2) (.slice Y' y1' y2')
          have hFg6 := hFg6.put3 ya (.slice Y y1 y2) (.slice Y' y1' y2')
          simp only [put_lit, put_non, List.set_cons_zero, List.set_cons_succ]
          refine hk_done (by kernel_rfl) ?_
          have hl2 := hF2.lt
          go_wp2_with fail
          go_meet
          case rel => exact ⟨g5, g6, rfl, rfl, by omega, by omega, xa, X, x1, x2, X', x1', x2', n, d, ya, Y, y1, y2, Y', y1', y2', s, t, hFg5, hFg6, hF2.below hK, hx1, hx2, hx3, hx4, hy1, hy2, hy3, hy4, below_then hB0 hK⟩
      · skip
        have lhFg6g5 := hFg6.lt
        obtain ⟨wz2, g5, ewg5, egg5, hB, hFg5⟩ := var1 wz1 false (.slice none 0 0) (.slice none 0 0)
        refine op_do (some 5) (.pointer (some ⟨g5, 0, none⟩)) wz2 (by kernel_rfl) (by kernel_rfl) (by kernel_rfl) (by rw [← ewg5, ← egg5]; exact exec_new3 (by kernel_rfl)) ?_
        refine ⟨below_then hK hB, ?_⟩
        have ltg5 := hK.size
        have hK := below_then hK hB
        have hFg6 := hFg6.below hB
        clear hB
        simp only [put_lit, put_non, List.set_cons_zero, List.set_cons_succ]
        refine hk_one (i := 1) (by kernel_rfl) ?_
        refine op_call (some 15) 13 #[.agg #[.bool na, .slice A m c, .slice A' m' c']] (by kernel_rfl) (by kernel_rfl) (by kernel_rfl) (fun w => by kernel_rfl) ?_
        refine (D1.out wz2 (below_then hB0 hK)).mono ?_
        rintro e wz3 ⟨ux, rfl, hux, hB⟩
        refine ⟨_, rfl, below_then hK hB, ?_⟩
        have hK := below_then hK hB
        have hFg6 := hFg6.below hB
        have hFg5 := hFg5.below hB
        clear hB
        obtain ⟨xa, X, x1, x2, X', x1', x2', n, d, rfl, hx1, hx2, hx3, hx4⟩ := hux.fracP
        simp only [put_lit, put_non, List.set_cons_zero, List.set_cons_succ]
        refine hk_one (i := 3) (by kernel_rfl) ?_
        refine op_call (some 17) 13 #[.agg #[.bool nb, .slice B i j, .slice B' i' j']] (by kernel_rfl) (by kernel_rfl) (by kernel_rfl) (fun w => by kernel_rfl) ?_
        refine (D2.out wz3 (below_then hB0 hK)).mono ?_
        rintro e wz4 ⟨uy, rfl, huy, hB⟩
        refine ⟨_, rfl, below_then hK hB, ?_⟩
        have hK := below_then hK hB
        have hFg6 := hFg6.below hB
        have hFg5 := hFg5.below hB
        have hx1 := hx1.below hB
        have hx2 := hx2.below hB
        clear hB
        obtain ⟨ya, Y, y1, y2, Y', y1', y2', s, t, rfl, hy1, hy2, hy3, hy4⟩ := huy.fracP
        simp only [put_lit, put_non, List.set_cons_zero, List.set_cons_succ]
        refine hk_one (i := 6) (by kernel_rfl) ?_
        refine op_skip none (stor3 wz4 g5 (.bool xa) (.slice X x1 x2) (.slice X' x1' x2')) (by kernel_rfl) (by kernel_rfl) (by kernel_rfl) (exec_store3 5 15 hFg5 (by kernel_rfl) (by kernel_rfl) (by kernel_rfl)) ?_
        have hB := below_put3 (g := g5) hK (by omega) (.bool xa) (.slice X x1 x2) (.slice X' x1' x2')
        refine ⟨hB, ?_⟩
        have hK := hB
        have hx1 := hx1.put3 hFg5 (.bool xa) (.slice X x1 x2) (.slice X' x1' x2')
        have hx2 := hx2.put3 hFg5 (.bool xa) (.slice X x1 x2) (.slice X' x1' x2')
        have hy1 := hy1.put3 hFg5 (.bool xa) (.slice X x1 x2) (.slice X' x1' x2')
        have hy2 := hy2.put3 hFg5 (.bool xa) (.slice X x1 x2) (.slice X' x1' x2')
        have hFg6 := hFg6.far (g2 := g5) (by omega) (.bool xa) (.slice X x1 x2) (.slice X' x1' x2')
        have hFg5 := hFg5.put3 xa (.slice X x1 x2) (.slice X' x1' x2')
        simp only [put_lit, put_non, List.set_cons_zero, List.set_cons_succ]
        refine hk_one (i := 7) (by kernel_rfl) ?_
        refine op_skip none (stor3 (stor3 wz4 g5 (.bool xa) (.slice X x1 x2) (.slice X' x1' x2')) g6 (.bool ya) (.slice Y y1 y2) (.slice Y' y1' y2')) (by kernel_rfl) (by kernel_rfl) (by kernel_rfl) (exec_store3 6 17 hFg6 (by kernel_rfl) (by kernel_rfl) (by kernel_rfl)) ?_
        have hB := below_put3 (g := g6) hK (by omega) (.bool ya) (.slice Y y1 y2) (.slice Y' y1' y2')
        refine ⟨hB, ?_⟩
        have hK := hB
        have hx1 := hx1.put3 hFg6 (.bool ya) (.slice Y y1 y2) (.slice Y' y1' y2')
        have hx2 := hx2.put3 hFg6 (.bool ya) (.slice Y y1 y2) (.slice Y' y1' y2')
        have hy1 := hy1.put3 hFg6 (.bool ya) (.slice Y y1 y2) (.slice Y' y1' y2')
        have hy2 := hy2.put3 hFg6 (.bool ya) (.slice Y y1 y2) (.slice Y' y1' y2')
        have hFg5 := hFg5.far (g2 := g6) (by omega) (.bool ya) (.slice Y y1 y2) (.slice Y' y1' y2')
        have hFg6 := hFg6.put3 ya (.slice Y y1 y2) (.slice Y' y1' y2')
        simp only [put_lit, put_non, List.set_cons_zero, List.set_cons_succ]
        refine hk_done (by kernel_rfl) ?_
        have hl2 := hF2.lt
        go_wp2_with fail
        go_meet
        case rel => exact ⟨g5, g6, rfl, rfl, by omega, by omega, xa, X, x1, x2, X', x1', x2', n, d, ya, Y, y1, y2, Y', y1', y2', s, t, hFg5, hFg6, hF2.below hK, hx1, hx2, hx3, hx4, hy1, hy2, hy3, hy4, below_then hB0 hK⟩
  case rest =>
    clear hF0 hF1 hF2 hB0 ew D1 D2
    obtain ⟨g5, g6, rfl, rfl, hne0, hne1, xa, X, x1, x2, X', x1', x2', n, d, yb, Y, y1, y2, Y', y1', y2', s, t, hF0, hF1, hF2, hn, hd, hd0, hp, hs, ht, ht0, hq, hB0⟩ := hcut
    have M1 := Lib.hid (fun w1 hB => natMul_v (w := w1) (hn.below hB) (ht.below hB) (by omega) (by omega))
    have M2 := fun w1 hB => natMul_v (w := w1) (hs.below hB) (hd.below hB) (by omega) (by omega)
    rw [Nat.add_comm l k] at M2
    have M2 := Lib.hid M2
    have M3 := fun w1 hB => natMul_v (w := w1) (hd.below hB) (ht.below hB) (by omega) (by omega)
    have M3 := Lib.hid M3
    have hS0 := conj_rr hF0 hF1
    have hK : Below wc.heap.size wc wc := Below.refl _ _
    have HK := Lib.hid (show k + l + 1 ≤ 400000 ∧ 2 ≤ k + l + 1 by omega)
    have HP := Lib.hid hp
    have HQ := Lib.hid hq
    have HD := Lib.hid hd0
    have HT := Lib.hid ht0
    clear hn hd hs ht hp hq hd0 ht0 eg0 eg1 eg2 hk hl h1 h2
    go_wp2_with fail
    go_region_held3 (fun w' => w'.cell? ⟨g5, 0, none⟩ = some (.bool xa) ∧ w'.cell? ⟨g5, 1, none⟩ = some (.slice X x1 x2) ∧ w'.cell? ⟨g5, 2, none⟩ = some (.slice X' x1' x2') ∧ w'.cell? ⟨g6, 0, none⟩ = some (.bool yb) ∧ w'.cell? ⟨g6, 1, none⟩ = some (.slice Y y1 y2) ∧ w'.cell? ⟨g6, 2, none⟩ = some (.slice Y' y1' y2')) (first | with_reducible exact conj_rr hF0 hF1 | with_reducible exact conj_rr (hF0.below hK) (hF1.below hK) | exact hS0) (first | (go_at_call_of 41 (Value.slice X x1 x2); refine (M1.out _ (Below.refl _ _).drew).mono ?_; rintro e w3 ⟨x, rfl, hx, _, hB3⟩; have hK := below_undrew hB3) | (go_at_call_of 41 (Value.slice X' x1' x2'); refine (M2.out _ hK).mono ?_; rintro e w4 ⟨y, rfl, hy, _, hB4⟩; have hK := below_then hK hB4))
    obtain ⟨c0, c1, c2⟩ := (hF0.below hK).cells
    obtain ⟨d0, d1, d2⟩ := (hF1.below hK).cells
    have hx := hx.below hB4
    clear hS0
    go_wp2_with fail
    refine (M3.out _ hK).mono ?_
    rintro e w5 ⟨z, rfl, hz, _, hB5⟩
    have hx := hx.below hB5
    have hy := hy.below hB5
    have hF0 := hF0.below (below_then hK hB5)
    have hF1 := hF1.below (below_then hK hB5)
    have hF2 := hF2.below (below_then hK hB5)
    have hB0 := below_then hB0 (below_then hK hB5)
    clear M1 M2 M3 hB3 hB4 hB5 hK c0 c1 c2 d0 d1 d2
    obtain ⟨c0, c1, c2⟩ := hF0.cells
    obtain ⟨d0, d1, d2⟩ := hF1.cells
    by_cases hs : xa = yb
    · subst hs
      have AD := Lib.hid (fun w1 hB => natAdd_same (w := w1) (hx.below hB).numV (hy.below hB).numV (by have := HK.out; omega))
      have RD := fun w1 x z (hx : Can w1 x (n * t + s * d) (k + l + 1)) (hz : Can w1 z (d * t) (k + l)) => frac_v (w := w1) xa hx.numV (hz.numV.le (Nat.le_succ _)) HK.out.1 HK.out.2
      rw [← fr_add HD.out HT.out, HP.out, HQ.out] at RD
      have RR := Lib.hid RD
      have hK : Below w5.heap.size w5 w5 := Below.refl _ _
      clear RD c1 c2 d1 d2 hF1
      go_wp2_with fail
      go_region_held3 (fun w' => w'.cell? ⟨g5, 0, none⟩ = some (.bool xa)) (first | with_reducible exact c0 | with_reducible exact (hF0.below hK).cells.1 | exact c0 | exact ((hF0.below hK).far hne0 _ _ _).cells.1) (first | (go_at_call 54; refine (AD.out _ (Below.refl _ _).drew).mono ?_; rintro e w6 ⟨u, rfl, hu, _, hB6⟩; have hK := below_undrew hB6) | (go_at_call 40; refine (RR.out _ _ _ hu (hz.below hK)).mono ?_; rintro e w7 ⟨v, rfl, hv, hB7⟩; obtain ⟨b, C, o, r, C', o', r', rfl, hb, hvx, hvy⟩ := hv.parts; have hK := below_then hK hB7; obtain ⟨k0, k1, k2⟩ := (hF2.below hK).cells; obtain ⟨f0, f1, f2⟩ := (hF2.below hK).frozen))
      go_wp2_with fail
      refine bodyPost_ret (v := .agg #[.bool b, .slice C o r, .slice C' o' r']) (by rw [results_one rfl]; go_simp) rfl ?_
      exact RCanF.stored hb hvx hvy (hF2.below hK) (below_then hB0 hK) HG.out _
    · have hbeq : (xa == yb) = false := by simpa using hs
      rcases Nat.lt_or_ge (n * t) (s * d) with hlt | hge
      · have SL := Lib.hid (natCmp_is hx.numV hy.numV (by have := HK.out; omega) (by have := HK.out; omega) (cmpI_lt hlt))
        have SU := Lib.hid (fun w1 hB => natSub_gev (w := w1) (hy.below hB).numV (hx.below hB).numV (by have := HK.out; omega) (by have := HK.out; omega) (Nat.le_of_lt hlt))
        have RD := fun w1 x z (hx : Can w1 x (s * d - n * t) (k + l)) (hz : Can w1 z (d * t) (k + l)) => frac_v (w := w1) yb (hx.numV.le (Nat.le_succ _)) (hz.numV.le (Nat.le_succ _)) HK.out.1 HK.out.2
        rw [← fr_sub2 HD.out HT.out hs (Nat.le_of_lt hlt), HP.out, HQ.out] at RD
        have RR := Lib.hid RD
        clear RD
        go_wp2_with fail
        refine (SL.out).mono ?_
        rintro e w6 ⟨rfl, hB6⟩
        go_wp2_with fail
        refine (SU.out _ hB6).mono ?_
        rintro e w7 ⟨u, rfl, hu, hB7⟩
        have hB7 := below_then hB6 hB7
        have hz := hz.below hB7
        have hF6 := hF1.below hB7
        have hF2 := hF2.below hB7
        have hB0 := below_then hB0 hB7
        obtain ⟨d0, d1, d2⟩ := hF6.cells
        go_wp2_with fail
        refine (RR.out _ _ _ hu hz).mono ?_
        rintro e w8 ⟨v, rfl, hv, hB8⟩
        have hF2 := hF2.below hB8
        have hB0 := below_then hB0 hB8
        obtain ⟨b, C, o, r, C', o', r', rfl, hb, hvx, hvy⟩ := hv.parts
        obtain ⟨k0, k1, k2⟩ := hF2.cells
        obtain ⟨f0, f1, f2⟩ := hF2.frozen
        clear c0 c1 c2 d0 d1 d2
        go_wp2_with fail
        refine bodyPost_ret (v := .agg #[.bool b, .slice C o r, .slice C' o' r']) (by rw [results_one rfl]; go_simp) rfl ?_
        exact RCanF.stored hb hvx hvy hF2 hB0 HG.out _
      · have SU := Lib.hid (fun w1 hB => natSub_gev (w := w1) (hx.below hB).numV (hy.below hB).numV (by have := HK.out; omega) (by have := HK.out; omega) hge)
        have RD := fun w1 x z (hx : Can w1 x (n * t - s * d) (k + l)) (hz : Can w1 z (d * t) (k + l)) => frac_v (w := w1) xa (hx.numV.le (Nat.le_succ _)) (hz.numV.le (Nat.le_succ _)) HK.out.1 HK.out.2
        rw [← fr_sub HD.out HT.out hs hge, HP.out, HQ.out] at RD
        have RR := Lib.hid RD
        clear RD
        rcases Nat.lt_or_ge (s * d) (n * t) with hgt | hle
        · have SL := Lib.hid (natCmp_is hx.numV hy.numV (by have := HK.out; omega) (by have := HK.out; omega) (cmpI_gt hgt))
          go_wp2_with fail
          refine (SL.out).mono ?_
          rintro e w6 ⟨rfl, hB6⟩
          have hF0 := hF0.below hB6
          have hF2 := hF2.below hB6
          have hz := hz.below hB6
          have hB0 := below_then hB0 hB6
          go_wp2_with fail
          refine (SU.out _ hB6).mono ?_
          rintro e w7 ⟨u, rfl, hu, hB7⟩
          have hz := hz.below hB7
          have hF0 := hF0.below hB7
          have hF2 := hF2.below hB7
          have hB0 := below_then hB0 hB7
          obtain ⟨c0, c1, c2⟩ := hF0.cells
          go_wp2_with fail
          refine (RR.out _ _ _ hu hz).mono ?_
          rintro e w8 ⟨v, rfl, hv, hB8⟩
          have hF2 := hF2.below hB8
          have hB0 := below_then hB0 hB8
          obtain ⟨b, C, o, r, C', o', r', rfl, hb, hvx, hvy⟩ := hv.parts
          obtain ⟨k0, k1, k2⟩ := hF2.cells
          obtain ⟨f0, f1, f2⟩ := hF2.frozen
          clear c0 c1 c2 d0 d1 d2
          go_wp2_with fail
          refine bodyPost_ret (v := .agg #[.bool b, .slice C o r, .slice C' o' r']) (by rw [results_one rfl]; go_simp) rfl ?_
          exact RCanF.stored hb hvx hvy hF2 hB0 HG.out _
        · have SL := Lib.hid (natCmp_is hx.numV hy.numV (by have := HK.out; omega) (by have := HK.out; omega) ((congrArg (cmpI (n * t)) (Nat.le_antisymm hge hle)).trans (cmpI_eq _)))
          go_wp2_with fail
          refine (SL.out).mono ?_
          rintro e w6 ⟨rfl, hB6⟩
          have hF0 := hF0.below hB6
          have hF2 := hF2.below hB6
          have hz := hz.below hB6
          have hB0 := below_then hB0 hB6
          go_wp2_with fail
          refine (SU.out _ hB6).mono ?_
          rintro e w7 ⟨u, rfl, hu, hB7⟩
          have hz := hz.below hB7
          have hF0 := hF0.below hB7
          have hF2 := hF2.below hB7
          have hB0 := below_then hB0 hB7
          obtain ⟨c0, c1, c2⟩ := hF0.cells
          go_wp2_with fail
          refine (RR.out _ _ _ hu hz).mono ?_
          rintro e w8 ⟨v, rfl, hv, hB8⟩
          have hF2 := hF2.below hB8
          have hB0 := below_then hB0 hB8
          obtain ⟨b, C, o, r, C', o', r', rfl, hb, hvx, hvy⟩ := hv.parts
          obtain ⟨k0, k1, k2⟩ := hF2.cells
          obtain ⟨f0, f1, f2⟩ := hF2.frozen
          clear c0 c1 c2 d0 d1 d2
          go_wp2_with fail
          refine bodyPost_ret (v := .agg #[.bool b, .slice C o r, .slice C' o' r']) (by rw [results_one rfl]; go_simp) rfl ?_
          exact RCanF.stored hb hvx hvy hF2 hB0 HG.out _
end
end Go.Proofs.YtgjhgpfjeoeojaaGreatDoor

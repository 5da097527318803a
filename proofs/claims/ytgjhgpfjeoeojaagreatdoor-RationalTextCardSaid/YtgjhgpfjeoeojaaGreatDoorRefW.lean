/- The contract of the reference function FracFormat. -/
import Derived.Test.YtgjhgpfjeoeojaaGreatDoorRefkn
import Derived.Test.YtgjhgpfjeoeojaaGreatDoorTxtB
namespace Go.Proofs.YtgjhgpfjeoeojaaGreatDoor
set_option linter.unusedSimpArgs false
open Go.RowKit Dig
set_option linter.unusedVariables false

theorem natFormat_v {w : World} {v : Value} {a k : Nat} (h : NumV w v a k) (hk : k ≤ 100000) : Calls Tryz.prog 65 #[v] w (RVal w (.string ⟨(dtext a).toArray⟩)) := by
  obtain ⟨L, h1, rfl, h3⟩ := h
  exact natFormat_c w v L h1 (by omega)
set_option maxRecDepth 20000 in
set_option maxHeartbeats 8000000 in
theorem fracFormat_v {w : World} {v : Value} {q : Rat} {k : Nat} (h : FracV w v q k) (hk : k ≤ 5) (h1 : 2 ≤ k) : Calls Tryz.prog 34 #[v] w (RVal w (.string ⟨(ftext q).toArray⟩)) := by
  have NM := Lib.hid (fun w1 hB => fracNorm_v (w := w1) (h.below hB) (by omega) h1)
  obtain ⟨neg, A, m, c, A', m', c', n, d, rfl, hn, hd, hq⟩ := h.parts
  obtain ⟨W, g0, ew, eg, hBW, hF0⟩ := var1 w neg (.slice A m c) (.slice A' m' c')
  obtain ⟨c0, c1, c2⟩ := hF0.cells
  clear hn hd hq h
  go_enter Tryz.func34, Tryz.ntmps34
  go_wp2_with fail
  refine (NM.out _ hBW).mono ?_
  rintro e w1 ⟨v, rfl, hv, hB1⟩
  obtain ⟨b, B, i, j, B', i', j', rfl, hb, hx, hy⟩ := hv.parts
  obtain ⟨w2, g1, ew2, eg2, hB2, hF1⟩ := var1 w1 b (.slice B i j) (.slice B' i' j')
  have hx := hx.below hB2
  have hy := hy.below hB2
  have hBw := below_then (below_then hBW hB1) hB2
  have F1 := Lib.hid (natFormat_v hx.numV (by omega))
  have F2 := Lib.hid (fun (w3 : World) (hB : Below w2.heap.size w2 w3) => natFormat_v (hy.below hB).numV (by omega))
  have hlen := dtext_length q.num.natAbs k hx.2 (by omega)
  have hlen2 := dtext_length q.den k hy.2 (by omega)
  have HF := Lib.hid (ftext_eq hb)
  have HD0 : q.den ≠ 0 := q.den_nz
  obtain ⟨d0, d1, d2⟩ := hF1.cells
  clear hx hv hb hB1 hBW c0 c1 c2 hF0
  generalize q.num.natAbs = N at *
  generalize q.den = D at *
  have HY := Lib.hid hy
  clear hy
  go_wp2_with fail
  refine (F1.out).mono ?_
  rintro e w3 ⟨rfl, hB3⟩
  have hF1 := hF1.below hB3
  have hBw := below_then hBw hB3
  have hY := Lib.hid (HY.out.below hB3)
  have F2 := Lib.hid (fun (w4 : World) (hB : Below w3.heap.size w3 w4) => F2.out w4 (below_then hB3 hB))
  obtain ⟨tl, htl⟩ : ∃ t, dtext N = t := ⟨_, rfl⟩
  rw [htl] at hlen HF ⊢
  clear htl d0 d1 d2 hB3
  obtain ⟨d0, d1, d2⟩ := hF1.cells
  have htli : (tl.length : Int) ≤ 50 := by omega
  by_cases hone : D = 1
  · subst hone
    have HF2 := Lib.hid (HF.out.trans (by rw [if_pos (rfl : (1 : Nat) = 1), List.append_nil]))
    have hCP := Lib.hid (cmpI_eq 1)
    clear HF hlen2
    cases b with
    | true =>
      go_wp2_with fail
      clear d0 d1 d2
      have hy := hY.out
      have hcp := hCP.out
      refine hk_begin (S := fun w' => Below w3.heap.size w3 w') 5 (by kernel_rfl) (by kernel_rfl) ?_
      have hK : Below w3.heap.size w3 w3.drew := (Below.refl w3.heap.size w3).drew
      have hy := hy.below (Below.refl _ _).drew
      refine hk_take (i := 0) (some 14) (.pointer (some ⟨g1, 2, none⟩)) (by kernel_rfl) (by kernel_rfl) (by kernel_rfl) (by kernel_rfl) (by kernel_rfl) (by kernel_rfl) (fun w hS => by kernel_rfl) (fun _ _ d _ _ h => by cases d <;> exact h) hK ?_
      simp only [put_lit, put_non, List.set_cons_zero, List.set_cons_succ]
      refine hk_take (i := 1) (some 15) (.slice B' i' j') (by kernel_rfl) (by kernel_rfl) (by kernel_rfl) (by kernel_rfl) (by kernel_rfl) (by kernel_rfl) (fun w hS => exec_part 23 14 (hF1.below hS).cells.2.2 (by kernel_rfl) (by kernel_rfl) (by kernel_rfl)) (fun _ _ d _ _ h => by cases d <;> exact h) hK ?_
      simp only [put_lit, put_non, List.set_cons_zero, List.set_cons_succ]
      refine hk_one (i := 2) (by kernel_rfl) ?_
      refine op_call (some 16) 63 #[.int .u64 1] (by kernel_rfl) (by kernel_rfl) (by kernel_rfl) (fun w => by kernel_rfl) ?_
      refine (natOf_v (w := w3.drew) 1 (by omega)).mono ?_
      rintro e wz1 ⟨u1, rfl, hu1, _, hB⟩
      refine ⟨_, rfl, below_then hK hB, ?_⟩
      have hK := below_then hK hB
      have hy := hy.below hB
      clear hB
      simp only [put_lit, put_non, List.set_cons_zero, List.set_cons_succ]
      refine hk_one (i := 3) (by kernel_rfl) ?_
      refine op_call (some 17) 55 #[.slice B' i' j', u1] (by kernel_rfl) (by kernel_rfl) (by kernel_rfl) (fun w => by kernel_rfl) ?_
      refine (natCmp_is hy.numV hu1.numV (by omega) (by omega) hcp).mono ?_
      rintro e wz2 ⟨rfl, hB⟩
      refine ⟨_, rfl, below_then hK hB, ?_⟩
      have hK := below_then hK hB
      have hy := hy.below hB
      have hu1 := hu1.below hB
      clear hB
      simp only [put_lit, put_non, List.set_cons_zero, List.set_cons_succ]
      refine hk_take (i := 4) (some 18) (.bool false) (by kernel_rfl) (by kernel_rfl) (by kernel_rfl) (by kernel_rfl) (by kernel_rfl) (by kernel_rfl) (fun w hS => by kernel_rfl) (fun _ _ d _ _ h => by cases d <;> exact h) hK ?_
      simp only [put_lit, put_non, List.set_cons_zero, List.set_cons_succ]
      refine hk_done (by kernel_rfl) ?_
      go_wp2_with fail
      go_ret
      exact ⟨ret_eq (show Value.string ((⟨[45].toArray⟩ : ByteArray) ++ ⟨tl.toArray⟩) = _ by rw [mk_app, HF2.out]; rfl), below_then hBw hK⟩
    | false =>
      go_wp2_with fail
      clear d0 d1 d2
      have hy := hY.out
      have hcp := hCP.out
      refine hk_begin (S := fun w' => Below w3.heap.size w3 w') 5 (by kernel_rfl) (by kernel_rfl) ?_
      have hK : Below w3.heap.size w3 w3.drew := (Below.refl w3.heap.size w3).drew
      have hy := hy.below (Below.refl _ _).drew
      refine hk_take (i := 0) (some 14) (.pointer (some ⟨g1, 2, none⟩)) (by kernel_rfl) (by kernel_rfl) (by kernel_rfl) (by kernel_rfl) (by kernel_rfl) (by kernel_rfl) (fun w hS => by kernel_rfl) (fun _ _ d _ _ h => by cases d <;> exact h) hK ?_
      simp only [put_lit, put_non, List.set_cons_zero, List.set_cons_succ]
      refine hk_take (i := 1) (some 15) (.slice B' i' j') (by kernel_rfl) (by kernel_rfl) (by kernel_rfl) (by kernel_rfl) (by kernel_rfl) (by kernel_rfl) (fun w hS => exec_part 23 14 (hF1.below hS).cells.2.2 (by kernel_rfl) (by kernel_rfl) (by kernel_rfl)) (fun _ _ d _ _ h => by cases d <;> exact h) hK ?_
      simp only [put_lit, put_non, List.set_cons_zero, List.set_cons_succ]
      refine hk_one (i := 2) (by kernel_rfl) ?_
      refine op_call (some 16) 63 #[.int .u64 1] (by kernel_rfl) (by kernel_rfl) (by kernel_rfl) (fun w => by kernel_rfl) ?_
      refine (natOf_v (w := w3.drew) 1 (by omega)).mono ?_
      rintro e wz1 ⟨u1, rfl, hu1, _, hB⟩
      refine ⟨_, rfl, below_then hK hB, ?_⟩
      have hK := below_then hK hB
      have hy := hy.below hB
      clear hB
      simp only [put_lit, put_non, List.set_cons_zero, List.set_cons_succ]
      refine hk_one (i := 3) (by kernel_rfl) ?_
      refine op_call (some 17) 55 #[.slice B' i' j', u1] (by kernel_rfl) (by kernel_rfl) (by kernel_rfl) (fun w => by kernel_rfl) ?_
      refine (natCmp_is hy.numV hu1.numV (by omega) (by omega) hcp).mono ?_
      rintro e wz2 ⟨rfl, hB⟩
      refine ⟨_, rfl, below_then hK hB, ?_⟩
      have hK := below_then hK hB
      have hy := hy.below hB
      have hu1 := hu1.below hB
      clear hB
      simp only [put_lit, put_non, List.set_cons_zero, List.set_cons_succ]
      refine hk_take (i := 4) (some 18) (.bool false) (by kernel_rfl) (by kernel_rfl) (by kernel_rfl) (by kernel_rfl) (by kernel_rfl) (by kernel_rfl) (fun w hS => by kernel_rfl) (fun _ _ d _ _ h => by cases d <;> exact h) hK ?_
      simp only [put_lit, put_non, List.set_cons_zero, List.set_cons_succ]
      refine hk_done (by kernel_rfl) ?_
      go_wp2_with fail
      go_ret
      exact ⟨ret_eq (show Value.string ⟨tl.toArray⟩ = _ by rw [HF2.out]; rfl), below_then hBw hK⟩
  · have HF2 := Lib.hid (HF.out.trans (by rw [if_neg hone]))
    have hCP := Lib.hid (cmpI_gt (show 1 < D by omega))
    clear HF hone
    obtain ⟨dl, hdl⟩ : ∃ t, dtext D = t := ⟨_, rfl⟩
    have HDL := Lib.hid hdl
    rw [hdl] at hlen2 HF2
    have hdli : (dl.length : Int) ≤ 50 := by omega
    clear hdl
    cases b with
    | true =>
      go_wp2_with fail
      clear d0 d1 d2
      have hy := hY.out
      have hcp := hCP.out
      refine hk_begin (S := fun w' => Below w3.heap.size w3 w') 5 (by kernel_rfl) (by kernel_rfl) ?_
      have hK : Below w3.heap.size w3 w3.drew := (Below.refl w3.heap.size w3).drew
      have hy := hy.below (Below.refl _ _).drew
      refine hk_take (i := 0) (some 14) (.pointer (some ⟨g1, 2, none⟩)) (by kernel_rfl) (by kernel_rfl) (by kernel_rfl) (by kernel_rfl) (by kernel_rfl) (by kernel_rfl) (fun w hS => by kernel_rfl) (fun _ _ d _ _ h => by cases d <;> exact h) hK ?_
      simp only [put_lit, put_non, List.set_cons_zero, List.set_cons_succ]
      refine hk_take (i := 1) (some 15) (.slice B' i' j') (by kernel_rfl) (by kernel_rfl) (by kernel_rfl) (by kernel_rfl) (by kernel_rfl) (by kernel_rfl) (fun w hS => exec_part 23 14 (hF1.below hS).cells.2.2 (by kernel_rfl) (by kernel_rfl) (by kernel_rfl)) (fun _ _ d _ _ h => by cases d <;> exact h) hK ?_
      simp only [put_lit, put_non, List.set_cons_zero, List.set_cons_succ]
      refine hk_one (i := 2) (by kernel_rfl) ?_
      refine op_call (some 16) 63 #[.int .u64 1] (by kernel_rfl) (by kernel_rfl) (by kernel_rfl) (fun w => by kernel_rfl) ?_
      refine (natOf_v (w := w3.drew) 1 (by omega)).mono ?_
      rintro e wz1 ⟨u1, rfl, hu1, _, hB⟩
      refine ⟨_, rfl, below_then hK hB, ?_⟩
      have hK := below_then hK hB
      have hy := hy.below hB
      clear hB
      simp only [put_lit, put_non, List.set_cons_zero, List.set_cons_succ]
      refine hk_one (i := 3) (by kernel_rfl) ?_
      refine op_call (some 17) 55 #[.slice B' i' j', u1] (by kernel_rfl) (by kernel_rfl) (by kernel_rfl) (fun w => by kernel_rfl) ?_
      refine (natCmp_is hy.numV hu1.numV (by omega) (by omega) hcp).mono ?_
      rintro e wz2 ⟨rfl, hB⟩
      refine ⟨_, rfl, below_then hK hB, ?_⟩
      have hK := below_then hK hB
      have hy := hy.below hB
      have hu1 := hu1.below hB
      clear hB
      simp only [put_lit, put_non, List.set_cons_zero, List.set_cons_succ]
      refine hk_take (i := 4) (some 18) (.bool true) (by kernel_rfl) (by kernel_rfl) (by kernel_rfl) (by kernel_rfl) (by kernel_rfl) (by kernel_rfl) (fun w hS => by kernel_rfl) (fun _ _ d _ _ h => by cases d <;> exact h) hK ?_
      simp only [put_lit, put_non, List.set_cons_zero, List.set_cons_succ]
      refine hk_done (by kernel_rfl) ?_
      obtain ⟨d0, d1, d2⟩ := (hF1.below hK).cells
      go_wp2_with fail
      refine (F2.out _ hK).mono ?_
      rintro e w5 ⟨rfl, hB5⟩
      rw [HDL.out]
      go_wp2_with fail
      go_ret
      exact ⟨ret_eq (show Value.string ((⟨[45].toArray⟩ : ByteArray) ++ ⟨tl.toArray⟩ ++ ⟨[47].toArray⟩ ++ ⟨dl.toArray⟩) = _ by rw [mk_app, mk_app, mk_app, HF2.out]; simp), below_then hBw (below_then hK hB5)⟩
    | false =>
      go_wp2_with fail
      clear d0 d1 d2
      have hy := hY.out
      have hcp := hCP.out
      refine hk_begin (S := fun w' => Below w3.heap.size w3 w') 5 (by kernel_rfl) (by kernel_rfl) ?_
      have hK : Below w3.heap.size w3 w3.drew := (Below.refl w3.heap.size w3).drew
      have hy := hy.below (Below.refl _ _).drew
      refine hk_take (i := 0) (some 14) (.pointer (some ⟨g1, 2, none⟩)) (by kernel_rfl) (by kernel_rfl) (by kernel_rfl) (by kernel_rfl) (by kernel_rfl) (by kernel_rfl) (fun w hS => by kernel_rfl) (fun _ _ d _ _ h => by cases d <;> exact h) hK ?_
      simp only [put_lit, put_non, List.set_cons_zero, List.set_cons_succ]
      refine hk_take (i := 1) (some 15) (.slice B' i' j') (by kernel_rfl) (by kernel_rfl) (by kernel_rfl) (by kernel_rfl) (by kernel_rfl) (by kernel_rfl) (fun w hS => exec_part 23 14 (hF1.below hS).cells.2.2 (by kernel_rfl) (by kernel_rfl) (by kernel_rfl)) (fun _ _ d _ _ h => by cases d <;> exact h) hK ?_
      simp only [put_lit, put_non, List.set_cons_zero, List.set_cons_succ]
      refine hk_one (i := 2) (by kernel_rfl) ?_
      refine op_call (some 16) 63 #[.int .u64 1] (by kernel_rfl) (by kernel_rfl) (by kernel_rfl) (fun w => by kernel_rfl) ?_
      refine (natOf_v (w := w3.drew) 1 (by omega)).mono ?_
      rintro e wz1 ⟨u1, rfl, hu1, _, hB⟩
      refine ⟨_, rfl, below_then hK hB, ?_⟩
      have hK := below_then hK hB
      have hy := hy.below hB
      clear hB
      simp only [put_lit, put_non, List.set_cons_zero, List.set_cons_succ]
      refine hk_one (i := 3) (by kernel_rfl) ?_
      refine op_call (some 17) 55 #[.slice B' i' j', u1] (by kernel_rfl) (by kernel_rfl) (by kernel_rfl) (fun w => by kernel_rfl) ?_
      refine (natCmp_is hy.numV hu1.numV (by omega) (by omega) hcp).mono ?_
      rintro e wz2 ⟨rfl, hB⟩
      refine ⟨_, rfl, below_then hK hB, ?_⟩
      have hK := below_then hK hB
      have hy := hy.below hB
      have hu1 := hu1.below hB
      clear hB
      simp only [put_lit, put_non, List.set_cons_zero, List.set_cons_succ]
      refine hk_take (i := 4) (some 18) (.bool true) (by kernel_rfl) (by kernel_rfl) (by kernel_rfl) (by kernel_rfl) (by kernel_rfl) (by kernel_rfl) (fun w hS => by kernel_rfl) (fun _ _ d _ _ h => by cases d <;> exact h) hK ?_
      simp only [put_lit, put_non, List.set_cons_zero, List.set_cons_succ]
      refine hk_done (by kernel_rfl) ?_
      obtain ⟨d0, d1, d2⟩ := (hF1.below hK).cells
      go_wp2_with fail
      refine (F2.out _ hK).mono ?_
      rintro e w5 ⟨rfl, hB5⟩
      rw [HDL.out]
      go_wp2_with fail
      go_ret
      exact ⟨ret_eq (show Value.string ((⟨tl.toArray⟩ : ByteArray) ++ ⟨[47].toArray⟩ ++ ⟨dl.toArray⟩) = _ by rw [mk_app, mk_app, HF2.out]; simp), below_then hBw (below_then hK hB5)⟩
end Go.Proofs.YtgjhgpfjeoeojaaGreatDoor

/- agree of the laws of stage 6: a disk looks like its model. -/
import Derived.Test.YthknlimhenbhfaaDka
namespace Go.Proofs.Ythknlimhenbhfaa
set_option linter.unusedSimpArgs false
open Go.RowKit Dig
set_option linter.unusedVariables false

section
variable {ev : Operand → Value} {o : Oper} {w : World}
theorem exec_neInt {T T' : TypeId} {k : IntKind} (t s : Tmp) (x : Int) (ho : o.op = .binOp .neq T (.tmp t) (.tmp s) T') (hx : ev (.tmp t) = .int k x) (hy : ev (.tmp s) = .int k x) :
    (execOp ev o).run Try.prog w = .ok (.value (.bool false)) w := by
  unfold execOp
  simp only [ho, hx, hy]
  cases k <;> go_simp
theorem exec_eqNot (t s : Tmp) (b : Bool) (ho : o.op = .binOp .eql 4 (.tmp t) (.tmp s) 4) (hx : ev (.tmp t) = .bool (!b)) (hy : ev (.tmp s) = .bool b) :
    (execOp ev o).run Try.prog w = .ok (.value (.bool false)) w := by
  unfold execOp
  simp only [ho, hx, hy]
  cases b <;> kernel_rfl
end
section
variable {D : World → Nat → DS → Prop} {fp : World → Nat → Nat → Prop} {w w' : World} {B g g1 g2 : Nat} {s s1 s2 : DS}
theorem Prog6.stay (P : Prog6 D fp) (h : D w g s) (hB : Below w.heap.size w w') : D w' g s := (P.keep h hB.size fun b hb _ => hB.block b hb).1
set_option maxRecDepth 20000 in
set_option maxHeartbeats 4000000 in
theorem agree_c (P : Prog6 D fp) (h : Two D fp w B g1 g2 s s) (hf : fewD s) :
    Calls Try.prog 13 #[.pointer (some ⟨g1, 0, none⟩), .pointer (some ⟨g2, 0, none⟩)] w (RVal w (.bool true)) := by
  obtain ⟨h0, v1, v2, h1, h2, h3, -⟩ := h.2.1
  obtain ⟨A1, c1, rfl⟩ := h2.form
  obtain ⟨A2, c2, rfl⟩ := h3.form
  have hDk := Lib.hid h1
  have T0 := Lib.hid h
  have hP := Lib.hid P
  have HF := Lib.hid hf
  have hK := Lib.hid (show Below w.heap.size w w.drew from (Below.refl _ _).drew)
  clear h0 h1 h2 h3 h P hf
  go_enter Try.func13, Try.ntmps13
  go_wp2_with fail
  refine wp_region_plan (S := fun W => Below w.heap.size w W) [(0, true), (2, true), (3, true), (4, true), (5, true), (6, true), (1, false), (7, true), (8, true), (9, true), (11, true), (12, true), (13, true), (14, true), (10, false), (15, true), (16, true), (17, true), (18, true), (20, true), (21, true), (22, true), (23, true), (24, true), (19, false), (25, true), (26, true)] (by kernel_rfl) (by kernel_rfl) (by kernel_rfl) (by kernel_rfl) (fun _ _ d _ _ h => by cases d <;> exact h) hK.out ?_
  refine wkS_take (some 10) (.pointer (some ⟨g1, 0, none⟩)) (by kernel_rfl) (by kernel_rfl) (by kernel_rfl) (fun W hS => by kernel_rfl) ?_
  simp only [put_lit, put_non, List.set_cons_zero, List.set_cons_succ]
  refine wkS_take (some 12) (.pointer (some ⟨g2, 0, none⟩)) (by kernel_rfl) (by kernel_rfl) (by kernel_rfl) (fun W hS => by kernel_rfl) ?_
  simp only [put_lit, put_non, List.set_cons_zero, List.set_cons_succ]
  refine wkS_take (some 13) (.pointer (some ⟨g2, 0, none⟩)) (by kernel_rfl) (by kernel_rfl) (by kernel_rfl) (fun W hS => by kernel_rfl) ?_
  simp only [put_lit, put_non, List.set_cons_zero, List.set_cons_succ]
  refine wkS_take (some 14) (.pointer (some ⟨g2, 0, none⟩)) (by kernel_rfl) (by kernel_rfl) (by kernel_rfl) (fun W hS => by kernel_rfl) ?_
  simp only [put_lit, put_non, List.set_cons_zero, List.set_cons_succ]
  refine wkS_take (some 15) (.slice A1 s.dur.length c1) (by kernel_rfl) (by kernel_rfl) (by kernel_rfl) (fun W hS => exec_loadCell 61 (.tmp 14) ⟨g2, 0, none⟩ _ _ (by kernel_rfl) (by kernel_rfl) ((hDk.out.below hS).cells.1) Try.underlying61 rfl) ?_
  simp only [put_lit, put_non, List.set_cons_zero, List.set_cons_succ]
  refine wkS_take (some 16) (.int .i64 (s.dur.length : Int)) (by kernel_rfl) (by kernel_rfl) (by kernel_rfl) (fun W hS => by kernel_rfl) ?_
  simp only [put_lit, put_non, List.set_cons_zero, List.set_cons_succ]
  refine wkS_call (some 11) 15 #[.pointer (some ⟨g1, 0, none⟩)] (by kernel_rfl) (by kernel_rfl) (by kernel_rfl) (fun w => (by kernel_rfl)) ?_
  refine (hP.out.size (hP.out.stay T0.out.1 hK.out)).mono ?_
  rintro e u ⟨rfl, hB⟩
  refine ⟨.int .i64 (s.dur.length : Int), rfl, below_then hK.out hB, ?_⟩
  have hK := Lib.hid (below_then hK.out hB)
  clear hB
  simp only [put_lit, put_non, List.set_cons_zero, List.set_cons_succ]
  refine wkS_take (some 17) (.bool false) (by kernel_rfl) (by kernel_rfl) (by kernel_rfl) (fun W hS => exec_neInt (T := 3) (T' := 3) (k := .i64) 11 16 (s.dur.length : Int) (by kernel_rfl) (by kernel_rfl) (by kernel_rfl)) ?_
  simp only [put_lit, put_non, List.set_cons_zero, List.set_cons_succ]
  refine wkS_take (some 18) (.bool false) (by kernel_rfl) (by kernel_rfl) (by kernel_rfl) (fun W hS => by kernel_rfl) ?_
  simp only [put_lit, put_non, List.set_cons_zero, List.set_cons_succ]
  refine wkS_take (some 19) (.pointer (some ⟨g1, 0, none⟩)) (by kernel_rfl) (by kernel_rfl) (by kernel_rfl) (fun W hS => by kernel_rfl) ?_
  simp only [put_lit, put_non, List.set_cons_zero, List.set_cons_succ]
  refine wkS_take (some 21) (.pointer (some ⟨g2, 0, none⟩)) (by kernel_rfl) (by kernel_rfl) (by kernel_rfl) (fun W hS => by kernel_rfl) ?_
  simp only [put_lit, put_non, List.set_cons_zero, List.set_cons_succ]
  refine wkS_take (some 22) (.pointer (some ⟨g2, 0, none⟩)) (by kernel_rfl) (by kernel_rfl) (by kernel_rfl) (fun W hS => by kernel_rfl) ?_
  simp only [put_lit, put_non, List.set_cons_zero, List.set_cons_succ]
  refine wkS_take (some 23) (.pointer (some ⟨g2, 2, none⟩)) (by kernel_rfl) (by kernel_rfl) (by kernel_rfl) (fun W hS => by kernel_rfl) ?_
  simp only [put_lit, put_non, List.set_cons_zero, List.set_cons_succ]
  refine wkS_take (some 24) (.bool s.off) (by kernel_rfl) (by kernel_rfl) (by kernel_rfl) (fun W hS => exec_loadCell 4 (.tmp 23) ⟨g2, 2, none⟩ _ _ (by kernel_rfl) (by kernel_rfl) ((hDk.out.below hS).cells.2.2.1) Try.underlying4 rfl) ?_
  simp only [put_lit, put_non, List.set_cons_zero, List.set_cons_succ]
  refine wkS_call (some 20) 24 #[.pointer (some ⟨g1, 0, none⟩)] (by kernel_rfl) (by kernel_rfl) (by kernel_rfl) (fun w => (by kernel_rfl)) ?_
  refine (hP.out.online (hP.out.stay T0.out.1 hK.out)).mono ?_
  rintro e u ⟨rfl, hB⟩
  refine ⟨.bool (!s.off), rfl, below_then hK.out hB, ?_⟩
  have hK := Lib.hid (below_then hK.out hB)
  clear hB
  simp only [put_lit, put_non, List.set_cons_zero, List.set_cons_succ]
  refine wkS_take (some 25) (.bool false) (by kernel_rfl) (by kernel_rfl) (by kernel_rfl) (fun W hS => exec_eqNot 20 24 s.off (by kernel_rfl) (by kernel_rfl) (by kernel_rfl)) ?_
  simp only [put_lit, put_non, List.set_cons_zero, List.set_cons_succ]
  refine wkS_take (some 26) (.bool false) (by kernel_rfl) (by kernel_rfl) (by kernel_rfl) (fun W hS => by kernel_rfl) ?_
  simp only [put_lit, put_non, List.set_cons_zero, List.set_cons_succ]
  refine wkS_take (some 27) (.bool false) (by kernel_rfl) (by kernel_rfl) (by kernel_rfl) (fun W hS => by kernel_rfl) ?_
  simp only [put_lit, put_non, List.set_cons_zero, List.set_cons_succ]
  refine wkS_take (some 28) (.pointer (some ⟨g1, 0, none⟩)) (by kernel_rfl) (by kernel_rfl) (by kernel_rfl) (fun W hS => by kernel_rfl) ?_
  simp only [put_lit, put_non, List.set_cons_zero, List.set_cons_succ]
  refine wkS_take (some 30) (.pointer (some ⟨g2, 0, none⟩)) (by kernel_rfl) (by kernel_rfl) (by kernel_rfl) (fun W hS => by kernel_rfl) ?_
  simp only [put_lit, put_non, List.set_cons_zero, List.set_cons_succ]
  refine wkS_take (some 31) (.pointer (some ⟨g2, 0, none⟩)) (by kernel_rfl) (by kernel_rfl) (by kernel_rfl) (fun W hS => by kernel_rfl) ?_
  simp only [put_lit, put_non, List.set_cons_zero, List.set_cons_succ]
  refine wkS_take (some 32) (.pointer (some ⟨g2, 1, none⟩)) (by kernel_rfl) (by kernel_rfl) (by kernel_rfl) (fun W hS => by kernel_rfl) ?_
  simp only [put_lit, put_non, List.set_cons_zero, List.set_cons_succ]
  refine wkS_take (some 33) (.slice A2 s.pend.length c2) (by kernel_rfl) (by kernel_rfl) (by kernel_rfl) (fun W hS => exec_loadCell 62 (.tmp 32) ⟨g2, 1, none⟩ _ _ (by kernel_rfl) (by kernel_rfl) ((hDk.out.below hS).cells.2.1) Try.underlying62 rfl) ?_
  simp only [put_lit, put_non, List.set_cons_zero, List.set_cons_succ]
  refine wkS_take (some 34) (.int .i64 (s.pend.length : Int)) (by kernel_rfl) (by kernel_rfl) (by kernel_rfl) (fun W hS => by kernel_rfl) ?_
  simp only [put_lit, put_non, List.set_cons_zero, List.set_cons_succ]
  refine wkS_call (some 29) 22 #[.pointer (some ⟨g1, 0, none⟩)] (by kernel_rfl) (by kernel_rfl) (by kernel_rfl) (fun w => (by kernel_rfl)) ?_
  refine (hP.out.pending (hP.out.stay T0.out.1 hK.out)).mono ?_
  rintro e u ⟨rfl, hB⟩
  refine ⟨.int .i64 (s.pend.length : Int), rfl, below_then hK.out hB, ?_⟩
  have hK := Lib.hid (below_then hK.out hB)
  clear hB
  simp only [put_lit, put_non, List.set_cons_zero, List.set_cons_succ]
  refine wkS_take (some 35) (.bool false) (by kernel_rfl) (by kernel_rfl) (by kernel_rfl) (fun W hS => exec_neInt (T := 3) (T' := 3) (k := .i64) 29 34 (s.pend.length : Int) (by kernel_rfl) (by kernel_rfl) (by kernel_rfl)) ?_
  simp only [put_lit, put_non, List.set_cons_zero, List.set_cons_succ]
  refine wkS_take (some 36) (.bool false) (by kernel_rfl) (by kernel_rfl) (by kernel_rfl) (fun W hS => by kernel_rfl) ?_
  simp only [put_lit, put_non, List.set_cons_zero, List.set_cons_succ]
  refine wkS_done ?_
  go_wp2_with fail
  have hn : (s.dur.length : Int) ≤ 10000 := by have := HF.out; unfold fewD at this; omega
  obtain ⟨n, en⟩ : ∃ n, s.dur.length = n := ⟨_, rfl⟩
  rw [en] at hn
  have EN := Lib.hid en
  go_loopw [5] (fun i wr => ∃ z : Int, -1 ≤ z ∧ z ≤ (n : Int) + 1 ∧ i = .int .i64 z ∧ Below w.heap.size w wr) (fun i _ => ((n : Int) + 1 - intOf i).toNat)
  case atStart => exact ⟨-1, by omega, by omega, rfl, hK.out⟩
  case round =>
    obtain ⟨z, hz1, hz2, rfl, hB⟩ := hrel
    have HB := Lib.hid hB
    obtain ⟨d0, -, -, -, -⟩ := (hDk.out.below hB).cells
    rw [en] at d0
    clear en hB
    by_cases hz : z ≤ (n : Int)
    · have HBr := Lib.hid (show ∀ y, Below w.heap.size w y → Calls Try.prog 30 #[.pointer (some ⟨g2, 0, none⟩), .int .i64 z] y (RRead y (readS s z)) from fun y hy => rread_c (T0.out.2.1.below hy) (by have := HF.out; unfold fewD at this; omega) (by have := HF.out; unfold fewD at this; omega) z)
      go_wp2_with fail
      refine (hP.out.read (hP.out.stay T0.out.1 HB.out) HF.out z).mono ?_
      generalize readS s z = q at *
      rintro e w3 ⟨r1, rfl, hr1, hB3⟩
      have HB3 := Lib.hid (below_then HB.out hB3)
      have HR1 := Lib.hid hr1.byt
      clear hr1 hB3 d0 HB
      go_wp2_with fail
      refine (HBr.out w3 HB3.out).mono ?_
      rintro e w4 ⟨r2, rfl, hr2, hB4⟩
      have HB4 := Lib.hid (below_then HB3.out hB4)
      have hc1 := run_stringB w4 r1 _ (HR1.out.below hB4)
      have hc2 := run_stringB w4 r2 _ hr2
      clear hB4 hr2
      obtain ⟨k, bs⟩ := q
      dsimp only at hc1 hc2
      have hz3 : z ≤ 10000 := by omega
      go_wp2_with fail
      go_roundw
      case rel => exact ⟨z + 1, by omega, by omega, by go_num, HB4.out⟩
      case measure => simp [intOf]; omega
    · go_wp2_with fail
      go_ret
      exact ⟨rfl, HB.out⟩
end
end Go.Proofs.Ythknlimhenbhfaa

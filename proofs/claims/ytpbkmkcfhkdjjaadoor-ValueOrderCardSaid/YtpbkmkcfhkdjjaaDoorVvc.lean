/- Package value as landed: Valid. -/
import Derived.Test.YtpbkmkcfhkdjjaaDoorVvb
namespace Go.Proofs.YtpbkmkcfhkdjjaaDoor
set_option linter.unusedSimpArgs false
open Go.RowKit Dig
set_option linter.unusedVariables false

set_option maxRecDepth 20000 in
set_option maxHeartbeats 2000000 in
theorem valid_c (w : World) (v : Vl) (hl : v.2.2.length ≤ 1000000) : Calls Tryd.prog 11 #[vV v] w (RVal w (.bool (vldB v))) := by
  obtain ⟨t, n, s⟩ := v
  dsimp only at hl
  have FI := fun w => newInt_c w n
  have FStr := fun w => newString_c w s
  have FT := fun w => validText_c w s hl
  have hr : ∀ w' : World, w'.heap[w.heap.size]? = some (.cells (vC (t, n, s)).toArray 26 (0, 0)) → w'.rangeAt w.heap.size 0 (vC (t, n, s)) := fun w' h => by
    refine range_three ?_ ?_ ?_ <;> exact cell_of_row w' _ _ _ _ (0, 0) h
  have hsz : w.heap.size < (w.alloc (.cells (vC (t, n, s)).toArray 26)).heap.size := by simp
  have BA : Below w.heap.size w (w.alloc (.cells (vC (t, n, s)).toArray 26)) := one_below w _
  have RA := hr _ (heap_alloc_new w (.cells (vC (t, n, s)).toArray 26))
  have step : ∀ w1 w2 : World, w.heap.size < w1.heap.size → Below w.heap.size w w1 ∧ w1.rangeAt w.heap.size 0 (vC (t, n, s)) → Below w1.heap.size w1 w2 → Below w.heap.size w w2 ∧ w2.rangeAt w.heap.size 0 (vC (t, n, s)) := fun w1 w2 h0 h1 h2 => ⟨below_then h1.1 h2, range_below h1.2 h0 h2⟩
  by_cases ha : (t, n, s) = (1, n, [])
  · obtain ⟨rfl, rfl⟩ : t = 1 ∧ s = [] := ⟨(Prod.mk.inj ha).1, (Prod.mk.inj (Prod.mk.inj ha).2).2⟩
    have E : vldB (1, n, []) = true := rfl
    rw [E]
    clear E ha
    unfold vV
    dsimp only
    go_enter Tryd.func11, Tryd.ntmps11
    go_wp2_with fail
    refine wp_region_plan (S := fun W => Below w.heap.size w W ∧ W.rangeAt w.heap.size 0 (vC (1, n, []))) [(0, true), (1, true), (2, true), (3, false), (4, true), (5, true), (6, true), (7, true), (8, true), (9, false), (10, true), (11, true), (12, true), (13, true), (14, false), (15, true), (16, true), (17, true)] (by kernel_rfl) (by kernel_rfl) (by kernel_rfl) (by kernel_rfl) (fun _ _ d _ _ h => by cases d <;> exact h) ⟨BA.drew, RA⟩ ?_
    refine wkS_take (some 3) (vV (1, n, [])) (by kernel_rfl) (by kernel_rfl) (by kernel_rfl) (fun W hS => exec_loadV 1 hS.2 (by kernel_rfl) (by kernel_rfl)) ?_
    simp only [put_lit, put_non, List.set_cons_zero, List.set_cons_succ]
    refine wkS_take (some 4) (.pointer (some ⟨w.heap.size, 1, none⟩)) (by kernel_rfl) (by kernel_rfl) (by kernel_rfl) (fun W hS => by kernel_rfl) ?_
    simp only [put_lit, put_non, List.set_cons_zero, List.set_cons_succ]
    refine wkS_take (some 5) (.int .i64 n) (by kernel_rfl) (by kernel_rfl) (by kernel_rfl) (fun W hS => exec_loadCell 2 (.tmp 4) ⟨w.heap.size, 1, none⟩ _ _ (by kernel_rfl) (by kernel_rfl) (range_cells hS.2).2.1 Tryd.underlying2 rfl) ?_
    simp only [put_lit, put_non, List.set_cons_zero, List.set_cons_succ]
    refine wkS_call (some 6) 17 #[.int .i64 n] (by kernel_rfl) (by kernel_rfl) (by kernel_rfl) (fun w => (by kernel_rfl)) ?_
    refine (FI _).mono ?_
    rintro e w3 ⟨rfl, hB3⟩
    have S3 := step _ w3 hsz ⟨BA, RA⟩ ((Below.refl _ _).drew.trans hB3)
    have z3 : w.heap.size < w3.heap.size := Nat.lt_of_lt_of_le hsz hB3.size
    refine ⟨_, rfl, S3, ?_⟩
    simp only [put_lit, put_non, List.set_cons_zero, List.set_cons_succ]
    refine wkS_take (some 7) (.bool true) (by kernel_rfl) (by kernel_rfl) (by kernel_rfl) (fun W hS => (exec_eqV (a := (1, n, [])) (b := (1, n, [])) 3 6 (by kernel_rfl) (by kernel_rfl) (by kernel_rfl)).trans (by rw [decide_eq_true rfl])) ?_
    simp only [put_lit, put_non, List.set_cons_zero, List.set_cons_succ]
    refine wkS_take (some 8) (.bool true) (by kernel_rfl) (by kernel_rfl) (by kernel_rfl) (fun W hS => by kernel_rfl) ?_
    simp only [put_lit, put_non, List.set_cons_zero, List.set_cons_succ]
    refine wkS_skip (some 9) (by kernel_rfl) (by kernel_rfl) (by kernel_rfl) ?_
    simp only [put_lit, put_non, List.set_cons_zero, List.set_cons_succ]
    refine wkS_skip (some 10) (by kernel_rfl) (by kernel_rfl) (by kernel_rfl) ?_
    simp only [put_lit, put_non, List.set_cons_zero, List.set_cons_succ]
    refine wkS_skip (some 11) (by kernel_rfl) (by kernel_rfl) (by kernel_rfl) ?_
    simp only [put_lit, put_non, List.set_cons_zero, List.set_cons_succ]
    refine wkS_skipC (some 12) (by kernel_rfl) (by kernel_rfl) (by kernel_rfl) S3 ?_
    simp only [put_lit, put_non, List.set_cons_zero, List.set_cons_succ]
    refine wkS_skip (some 13) (by kernel_rfl) (by kernel_rfl) (by kernel_rfl) ?_
    simp only [put_lit, put_non, List.set_cons_zero, List.set_cons_succ]
    refine wkS_skip (some 14) (by kernel_rfl) (by kernel_rfl) (by kernel_rfl) ?_
    simp only [put_lit, put_non, List.set_cons_zero, List.set_cons_succ]
    refine wkS_skip (some 15) (by kernel_rfl) (by kernel_rfl) (by kernel_rfl) ?_
    simp only [put_lit, put_non, List.set_cons_zero, List.set_cons_succ]
    refine wkS_skip (some 16) (by kernel_rfl) (by kernel_rfl) (by kernel_rfl) ?_
    simp only [put_lit, put_non, List.set_cons_zero, List.set_cons_succ]
    refine wkS_skipC (some 17) (by kernel_rfl) (by kernel_rfl) (by kernel_rfl) S3 ?_
    simp only [put_lit, put_non, List.set_cons_zero, List.set_cons_succ]
    refine wkS_skip (some 18) (by kernel_rfl) (by kernel_rfl) (by kernel_rfl) ?_
    simp only [put_lit, put_non, List.set_cons_zero, List.set_cons_succ]
    refine wkS_take (some 19) (.bool true) (by kernel_rfl) (by kernel_rfl) (by kernel_rfl) (fun W hS => by kernel_rfl) ?_
    simp only [put_lit, put_non, List.set_cons_zero, List.set_cons_succ]
    refine wkS_take (some 2) (.bool true) (by kernel_rfl) (by kernel_rfl) (by kernel_rfl) (fun W hS => by kernel_rfl) ?_
    simp only [put_lit, put_non, List.set_cons_zero, List.set_cons_succ]
    refine wkS_done ?_
    go_wp2_with fail
    go_ret
    exact ⟨rfl, S3.1⟩
  · by_cases hb : (t, n, s) = (2, 0, s)
    · obtain ⟨rfl, rfl⟩ : t = 2 ∧ n = 0 := ⟨(Prod.mk.inj hb).1, (Prod.mk.inj (Prod.mk.inj hb).2).1⟩
      have E : vldB (2, 0, s) = (s.all okb && decide (s.length ≤ 64)) := by
        show (s.all okb && (decide ((0 : Int) = 0) && decide (s.length ≤ 64))) = _
        simp
      rw [E]
      generalize (s.all okb && decide (s.length ≤ 64)) = R at FT ⊢
      clear E hb
      unfold vV
      dsimp only
      go_enter Tryd.func11, Tryd.ntmps11
      go_wp2_with fail
      refine wp_region_plan (S := fun W => Below w.heap.size w W ∧ W.rangeAt w.heap.size 0 (vC (2, 0, s))) [(0, true), (1, true), (2, true), (3, false), (4, true), (5, true), (6, true), (7, true), (8, true), (9, false), (10, true), (11, true), (12, true), (13, true), (14, false), (15, true), (16, true), (17, true)] (by kernel_rfl) (by kernel_rfl) (by kernel_rfl) (by kernel_rfl) (fun _ _ d _ _ h => by cases d <;> exact h) ⟨BA.drew, RA⟩ ?_
      refine wkS_take (some 3) (vV (2, 0, s)) (by kernel_rfl) (by kernel_rfl) (by kernel_rfl) (fun W hS => exec_loadV 1 hS.2 (by kernel_rfl) (by kernel_rfl)) ?_
      simp only [put_lit, put_non, List.set_cons_zero, List.set_cons_succ]
      refine wkS_take (some 4) (.pointer (some ⟨w.heap.size, 1, none⟩)) (by kernel_rfl) (by kernel_rfl) (by kernel_rfl) (fun W hS => by kernel_rfl) ?_
      simp only [put_lit, put_non, List.set_cons_zero, List.set_cons_succ]
      refine wkS_take (some 5) (.int .i64 0) (by kernel_rfl) (by kernel_rfl) (by kernel_rfl) (fun W hS => exec_loadCell 2 (.tmp 4) ⟨w.heap.size, 1, none⟩ _ _ (by kernel_rfl) (by kernel_rfl) (range_cells hS.2).2.1 Tryd.underlying2 rfl) ?_
      simp only [put_lit, put_non, List.set_cons_zero, List.set_cons_succ]
      refine wkS_call (some 6) 17 #[.int .i64 0] (by kernel_rfl) (by kernel_rfl) (by kernel_rfl) (fun w => (by kernel_rfl)) ?_
      refine (FI _).mono ?_
      rintro e w3 ⟨rfl, hB3⟩
      have S3 := step _ w3 hsz ⟨BA, RA⟩ ((Below.refl _ _).drew.trans hB3)
      have z3 : w.heap.size < w3.heap.size := Nat.lt_of_lt_of_le hsz hB3.size
      refine ⟨_, rfl, S3, ?_⟩
      simp only [put_lit, put_non, List.set_cons_zero, List.set_cons_succ]
      refine wkS_take (some 7) (.bool false) (by kernel_rfl) (by kernel_rfl) (by kernel_rfl) (fun W hS => (exec_eqV (a := (2, 0, s)) (b := (1, 0, [])) 3 6 (by kernel_rfl) (by kernel_rfl) (by kernel_rfl)).trans (by rw [decide_eq_false (by rintro h; cases h)])) ?_
      simp only [put_lit, put_non, List.set_cons_zero, List.set_cons_succ]
      refine wkS_take (some 8) (.bool false) (by kernel_rfl) (by kernel_rfl) (by kernel_rfl) (fun W hS => by kernel_rfl) ?_
      simp only [put_lit, put_non, List.set_cons_zero, List.set_cons_succ]
      refine wkS_take (some 9) (vV (2, 0, s)) (by kernel_rfl) (by kernel_rfl) (by kernel_rfl) (fun W hS => exec_loadV 1 hS.2 (by kernel_rfl) (by kernel_rfl)) ?_
      simp only [put_lit, put_non, List.set_cons_zero, List.set_cons_succ]
      refine wkS_take (some 10) (.pointer (some ⟨w.heap.size, 2, none⟩)) (by kernel_rfl) (by kernel_rfl) (by kernel_rfl) (fun W hS => by kernel_rfl) ?_
      simp only [put_lit, put_non, List.set_cons_zero, List.set_cons_succ]
      refine wkS_take (some 11) (.string ⟨((s : List UInt8)).toArray⟩) (by kernel_rfl) (by kernel_rfl) (by kernel_rfl) (fun W hS => exec_loadCell 9 (.tmp 10) ⟨w.heap.size, 2, none⟩ _ _ (by kernel_rfl) (by kernel_rfl) (range_cells hS.2).2.2 Tryd.underlying9 rfl) ?_
      simp only [put_lit, put_non, List.set_cons_zero, List.set_cons_succ]
      refine wkS_call (some 12) 19 #[.string ⟨s.toArray⟩] (by kernel_rfl) (by kernel_rfl) (by kernel_rfl) (fun w => (by kernel_rfl)) ?_
      refine (FStr _).mono ?_
      rintro e w4 ⟨rfl, hB4⟩
      have S4 := step _ w4 z3 S3 hB4
      have z4 : w.heap.size < w4.heap.size := Nat.lt_of_lt_of_le z3 hB4.size
      refine ⟨_, rfl, S4, ?_⟩
      simp only [put_lit, put_non, List.set_cons_zero, List.set_cons_succ]
      refine wkS_take (some 13) (.bool true) (by kernel_rfl) (by kernel_rfl) (by kernel_rfl) (fun W hS => (exec_eqV (a := (2, 0, s)) (b := (2, 0, s)) 9 12 (by kernel_rfl) (by kernel_rfl) (by kernel_rfl)).trans (by rw [decide_eq_true rfl])) ?_
      simp only [put_lit, put_non, List.set_cons_zero, List.set_cons_succ]
      refine wkS_take (some 14) (.bool true) (by kernel_rfl) (by kernel_rfl) (by kernel_rfl) (fun W hS => by kernel_rfl) ?_
      simp only [put_lit, put_non, List.set_cons_zero, List.set_cons_succ]
      refine wkS_take (some 15) (.pointer (some ⟨w.heap.size, 2, none⟩)) (by kernel_rfl) (by kernel_rfl) (by kernel_rfl) (fun W hS => by kernel_rfl) ?_
      simp only [put_lit, put_non, List.set_cons_zero, List.set_cons_succ]
      refine wkS_take (some 16) (.string ⟨((s : List UInt8)).toArray⟩) (by kernel_rfl) (by kernel_rfl) (by kernel_rfl) (fun W hS => exec_loadCell 9 (.tmp 15) ⟨w.heap.size, 2, none⟩ _ _ (by kernel_rfl) (by kernel_rfl) (range_cells hS.2).2.2 Tryd.underlying9 rfl) ?_
      simp only [put_lit, put_non, List.set_cons_zero, List.set_cons_succ]
      refine wkS_call (some 17) 33 #[.string ⟨s.toArray⟩] (by kernel_rfl) (by kernel_rfl) (by kernel_rfl) (fun w => (by kernel_rfl)) ?_
      refine (FT _).mono ?_
      rintro e w5 ⟨rfl, hB5⟩
      have S5 := step _ w5 z4 S4 hB5
      refine ⟨_, rfl, S5, ?_⟩
      simp only [put_lit, put_non, List.set_cons_zero, List.set_cons_succ]
      refine wkS_take (some 18) (.bool R) (by kernel_rfl) (by kernel_rfl) (by kernel_rfl) (fun W hS => by kernel_rfl) ?_
      simp only [put_lit, put_non, List.set_cons_zero, List.set_cons_succ]
      refine wkS_take (some 19) (.bool R) (by kernel_rfl) (by kernel_rfl) (by kernel_rfl) (fun W hS => by kernel_rfl) ?_
      simp only [put_lit, put_non, List.set_cons_zero, List.set_cons_succ]
      refine wkS_take (some 2) (.bool R) (by kernel_rfl) (by kernel_rfl) (by kernel_rfl) (fun W hS => by kernel_rfl) ?_
      simp only [put_lit, put_non, List.set_cons_zero, List.set_cons_succ]
      refine wkS_done ?_
      go_wp2_with fail
      go_ret
      exact ⟨rfl, S5.1⟩
    · have E : vldB (t, n, s) = false := by
        cases h : vldB (t, n, s) with
        | false => rfl
        | true =>
          rcases (vldB_iff _).1 h with ⟨h1, h2⟩ | ⟨h1, h2, _⟩
          · exact absurd (by rw [show t = 1 from h1, show s = [] from h2]) ha
          · exact absurd (by rw [show t = 2 from h1, show n = 0 from h2]) hb
      rw [E]
      clear E
      unfold vV
      dsimp only
      go_enter Tryd.func11, Tryd.ntmps11
      go_wp2_with fail
      refine wp_region_plan (S := fun W => Below w.heap.size w W ∧ W.rangeAt w.heap.size 0 (vC (t, n, s))) [(0, true), (1, true), (2, true), (3, false), (4, true), (5, true), (6, true), (7, true), (8, true), (9, false), (10, true), (11, true), (12, true), (13, true), (14, false), (15, true), (16, true), (17, true)] (by kernel_rfl) (by kernel_rfl) (by kernel_rfl) (by kernel_rfl) (fun _ _ d _ _ h => by cases d <;> exact h) ⟨BA.drew, RA⟩ ?_
      refine wkS_take (some 3) (vV (t, n, s)) (by kernel_rfl) (by kernel_rfl) (by kernel_rfl) (fun W hS => exec_loadV 1 hS.2 (by kernel_rfl) (by kernel_rfl)) ?_
      simp only [put_lit, put_non, List.set_cons_zero, List.set_cons_succ]
      refine wkS_take (some 4) (.pointer (some ⟨w.heap.size, 1, none⟩)) (by kernel_rfl) (by kernel_rfl) (by kernel_rfl) (fun W hS => by kernel_rfl) ?_
      simp only [put_lit, put_non, List.set_cons_zero, List.set_cons_succ]
      refine wkS_take (some 5) (.int .i64 n) (by kernel_rfl) (by kernel_rfl) (by kernel_rfl) (fun W hS => exec_loadCell 2 (.tmp 4) ⟨w.heap.size, 1, none⟩ _ _ (by kernel_rfl) (by kernel_rfl) (range_cells hS.2).2.1 Tryd.underlying2 rfl) ?_
      simp only [put_lit, put_non, List.set_cons_zero, List.set_cons_succ]
      refine wkS_call (some 6) 17 #[.int .i64 n] (by kernel_rfl) (by kernel_rfl) (by kernel_rfl) (fun w => (by kernel_rfl)) ?_
      refine (FI _).mono ?_
      rintro e w3 ⟨rfl, hB3⟩
      have S3 := step _ w3 hsz ⟨BA, RA⟩ ((Below.refl _ _).drew.trans hB3)
      have z3 : w.heap.size < w3.heap.size := Nat.lt_of_lt_of_le hsz hB3.size
      refine ⟨_, rfl, S3, ?_⟩
      simp only [put_lit, put_non, List.set_cons_zero, List.set_cons_succ]
      refine wkS_take (some 7) (.bool false) (by kernel_rfl) (by kernel_rfl) (by kernel_rfl) (fun W hS => (exec_eqV (a := (t, n, s)) (b := (1, n, [])) 3 6 (by kernel_rfl) (by kernel_rfl) (by kernel_rfl)).trans (by rw [decide_eq_false (by rintro h; exact ha h)])) ?_
      simp only [put_lit, put_non, List.set_cons_zero, List.set_cons_succ]
      refine wkS_take (some 8) (.bool false) (by kernel_rfl) (by kernel_rfl) (by kernel_rfl) (fun W hS => by kernel_rfl) ?_
      simp only [put_lit, put_non, List.set_cons_zero, List.set_cons_succ]
      refine wkS_take (some 9) (vV (t, n, s)) (by kernel_rfl) (by kernel_rfl) (by kernel_rfl) (fun W hS => exec_loadV 1 hS.2 (by kernel_rfl) (by kernel_rfl)) ?_
      simp only [put_lit, put_non, List.set_cons_zero, List.set_cons_succ]
      refine wkS_take (some 10) (.pointer (some ⟨w.heap.size, 2, none⟩)) (by kernel_rfl) (by kernel_rfl) (by kernel_rfl) (fun W hS => by kernel_rfl) ?_
      simp only [put_lit, put_non, List.set_cons_zero, List.set_cons_succ]
      refine wkS_take (some 11) (.string ⟨((s : List UInt8)).toArray⟩) (by kernel_rfl) (by kernel_rfl) (by kernel_rfl) (fun W hS => exec_loadCell 9 (.tmp 10) ⟨w.heap.size, 2, none⟩ _ _ (by kernel_rfl) (by kernel_rfl) (range_cells hS.2).2.2 Tryd.underlying9 rfl) ?_
      simp only [put_lit, put_non, List.set_cons_zero, List.set_cons_succ]
      refine wkS_call (some 12) 19 #[.string ⟨s.toArray⟩] (by kernel_rfl) (by kernel_rfl) (by kernel_rfl) (fun w => (by kernel_rfl)) ?_
      refine (FStr _).mono ?_
      rintro e w4 ⟨rfl, hB4⟩
      have S4 := step _ w4 z3 S3 hB4
      have z4 : w.heap.size < w4.heap.size := Nat.lt_of_lt_of_le z3 hB4.size
      refine ⟨_, rfl, S4, ?_⟩
      simp only [put_lit, put_non, List.set_cons_zero, List.set_cons_succ]
      refine wkS_take (some 13) (.bool false) (by kernel_rfl) (by kernel_rfl) (by kernel_rfl) (fun W hS => (exec_eqV (a := (t, n, s)) (b := (2, 0, s)) 9 12 (by kernel_rfl) (by kernel_rfl) (by kernel_rfl)).trans (by rw [decide_eq_false (by rintro h; exact hb h)])) ?_
      simp only [put_lit, put_non, List.set_cons_zero, List.set_cons_succ]
      refine wkS_take (some 14) (.bool false) (by kernel_rfl) (by kernel_rfl) (by kernel_rfl) (fun W hS => by kernel_rfl) ?_
      simp only [put_lit, put_non, List.set_cons_zero, List.set_cons_succ]
      refine wkS_skip (some 15) (by kernel_rfl) (by kernel_rfl) (by kernel_rfl) ?_
      simp only [put_lit, put_non, List.set_cons_zero, List.set_cons_succ]
      refine wkS_skip (some 16) (by kernel_rfl) (by kernel_rfl) (by kernel_rfl) ?_
      simp only [put_lit, put_non, List.set_cons_zero, List.set_cons_succ]
      refine wkS_skipC (some 17) (by kernel_rfl) (by kernel_rfl) (by kernel_rfl) S4 ?_
      simp only [put_lit, put_non, List.set_cons_zero, List.set_cons_succ]
      refine wkS_take (some 18) (.bool false) (by kernel_rfl) (by kernel_rfl) (by kernel_rfl) (fun W hS => by kernel_rfl) ?_
      simp only [put_lit, put_non, List.set_cons_zero, List.set_cons_succ]
      refine wkS_take (some 19) (.bool false) (by kernel_rfl) (by kernel_rfl) (by kernel_rfl) (fun W hS => by kernel_rfl) ?_
      simp only [put_lit, put_non, List.set_cons_zero, List.set_cons_succ]
      refine wkS_take (some 2) (.bool false) (by kernel_rfl) (by kernel_rfl) (by kernel_rfl) (fun W hS => by kernel_rfl) ?_
      simp only [put_lit, put_non, List.set_cons_zero, List.set_cons_succ]
      refine wkS_done ?_
      go_wp2_with fail
      go_ret
      exact ⟨rfl, S4.1⟩
end Go.Proofs.YtpbkmkcfhkdjjaaDoor

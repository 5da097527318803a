/- The reference's page store: Rollback, Find, Get, NewStore. -/
import Derived.Test.YtckomifecmemnaaGreatPsd
namespace Go.Proofs.YtckomifecmemnaaGreat
set_option linter.unusedSimpArgs false
open Go.RowKit Dig
set_option linter.unusedVariables false

theorem size_kp : (Tryz.prog.info? 76).map (·.size) = some 1 := by kernel_rfl
section
variable {P : Program} {ops : Array Oper} {Q : Exit → Act → World → Prop} {S : World → Prop}
/-- An operation that writes and yields nothing. -/
theorem wkS_skipV {i : Nat} {r : List (Nat × Bool)} {a : Act} {w w' : World} (d : Option Tmp) (hi : (ops[i]?).isSome = true) (hd : (opI ops i).dst = d)
    (hw : Region.wanted (opI ops i) (yielded ops a.tmps) = true) (he : (execOp a.eval (opI ops i)).run P w = .ok .skip w') (hS : S w') (h : wkS P ops Q S r (a.put d undef) w') :
    wkS P ops Q S ((i, false) :: r) a w :=
  op_skip d w' hi hd hw he ⟨hS, h⟩
end
section
variable {ev : Operand → Value} {o : Oper} {w : World}
theorem exec_storeP {p : Addr} {A : Option Addr} {n c : Nat} {y : Value} (t s : Tmp) (ho : o.op = .store 76 (.tmp t) (.tmp s)) (hx : ev (.tmp t) = .pointer (some p)) (hy : ev (.tmp s) = .slice A n c)
    (hz : w.frozen? p = false) (hc : w.cell? p = some y) : (execOp ev o).run Tryz.prog w = .ok .skip (w.setCell p (.slice A n c)) := by
  unfold execOp
  simp only [ho, hx, hy]
  go_simp
theorem exec_subI (x y : Operand) (a b : Int) (ho : o.op = .binOp .sub 3 x y 3) (hx : ev x = .int .i64 a) (hy : ev y = .int .i64 b) (h1 : -1000000000 ≤ a) (h2 : a ≤ 1000000000) (h3 : -1000000000 ≤ b) (h4 : b ≤ 1000000000) :
    (execOp ev o).run Tryz.prog w = .ok (.value (.int .i64 (a - b))) w := by
  unfold execOp
  simp only [ho, hx, hy]
  go_simp
  exact IntWalk.i64_in _ (by omega)
end
section
variable {w : World} {R : Nat → Prop} {m : Nat} {s : SS} {r vb : Value} {l : List Pg} {b : List UInt8}
set_option maxRecDepth 20000 in
set_option maxHeartbeats 4000000 in
theorem rrollback_c (h : RSto w R m s) : Calls Tryz.prog 16 #[.pointer (some ⟨m, 0, none⟩)] w (RSd w R m (.tuple #[]) (rollbackS s)) := by
  have H := Lib.hid h
  have hokr := rollback_ok h.1
  obtain ⟨h0, h1, h2, kv, wv, hc, hK, hW⟩ := h
  obtain ⟨Ak, ck, rfl⟩ := hK.form
  obtain ⟨Aw, cw, rfl⟩ := hW.form
  obtain ⟨-, c1, c2⟩ := hc.cells
  have z2 := hc.thaw 2
  obtain ⟨hk1, hk4, -⟩ := h0
  have hj : s.kept.length - 1 < s.kept.length := by omega
  obtain ⟨bk, ok, vl, rfl, hbk, hcl, hpl⟩ := hK.at' hj
  have hbm : bk ≠ m := fun e => by
    obtain ⟨ks, _, _, hr, _⟩ := hK
    have hks : 0 < ks.length := by
      have := congrArg List.length ‹ks.map (·.1) = s.kept›
      rw [List.length_map] at this
      omega
    exact (hr hks bk rfl).2 e
  have hlast : s.kept.getLastD [] = s.kept[s.kept.length - 1] := by
    have hne : s.kept ≠ [] := fun e => by rw [e] at hk1; simp at hk1
    rw [List.getLastD_eq_getLast?, List.getLast?_eq_some_getLast hne, Option.getD_some, List.getLast_eq_getElem]
  have hroll : rollbackS s = { s with work := s.kept[s.kept.length - 1] } := by unfold rollbackS; rw [hlast]
  rw [hroll] at hokr ⊢
  generalize s.kept[s.kept.length - 1] = E at *
  have hfin : RSd w R m (.tuple #[]) { s with work := E } (.returned (.tuple #[])) (w.drew.setCell ⟨m, 2, none⟩ vl) := by
    refine H.out.setWork (w2 := w.drew) (r := vl) (l := E) (Below.refl _ _).drew ?_ hokr (.tuple #[])
    exact (hpl.below (Below.refl _ _).drew).wide fun b hb => .inl hb
  obtain ⟨Al, cl, rfl⟩ := hpl.form
  have HFN := Lib.hid hfin
  have hcl2 : (w.drew.setCell ⟨m, 2, none⟩ (.slice Al E.length cl)).cell? ⟨bk, ok + (s.kept.length - 1), none⟩ = some (.slice Al E.length cl) := by
    rw [World.cell?_setCell_other _ _ _ _ (by intro e; injection e with e1 e2; first | exact hbm e1 | exact hbm e1.symm)]
    exact hcl
  have hc12 : (w.drew.setCell ⟨m, 2, none⟩ (.slice Al E.length cl)).cell? ⟨m, 1, none⟩ = some (.slice (some ⟨bk, ok, none⟩) s.kept.length ck) := by
    rw [World.cell?_setCell_other _ _ _ _ (by simp)]
    exact c1
  have HC1 := Lib.hid c1
  have HC2 := Lib.hid c2
  have HZ2 := Lib.hid z2
  have HCL := Lib.hid hcl
  have HCL2 := Lib.hid hcl2
  have HC12 := Lib.hid hc12
  clear hfin hlast hroll hK hW hc hpl hokr h1 h2 hbk hbm c1 c2 z2 hcl hcl2 hc12 hj
  generalize E.length = nl at *
  obtain ⟨k, ek⟩ : ∃ k, s.kept.length = k := ⟨_, rfl⟩
  rw [ek] at hk1 hk4 HC1 HCL HCL2 HC12
  clear ek
  rcases (by omega : k = 1 ∨ k = 2 ∨ k = 3 ∨ k = 4) with rfl | rfl | rfl | rfl
  all_goals
    clear hk1 hk4
    go_enter Tryz.func16, Tryz.ntmps16
  · skip
    refine wp_region_plan (S := fun W => W.cell? ⟨m, 1, none⟩ = some (.slice (some ⟨bk, ok, none⟩) 1 ck) ∧ W.cell? ⟨bk, ok + (1 - 1), none⟩ = some (.slice Al nl cl)) [(0, true), (1, true), (2, true), (3, true), (4, true), (5, true), (6, true), (7, true), (8, true), (9, true), (10, true), (11, true), (12, true), (13, true), (14, true), (15, false)] (by kernel_rfl) (by kernel_rfl) (by kernel_rfl) (by kernel_rfl) (fun _ _ d _ _ h => by cases d <;> exact h) ⟨HC1.out, HCL.out⟩ ?_
    refine wkS_take (some 2) (.pointer (some ⟨m, 0, none⟩)) (by kernel_rfl) (by kernel_rfl) (by kernel_rfl) (fun W hS => by kernel_rfl) ?_
    simp only [put_lit, put_non, List.set_cons_zero, List.set_cons_succ]
    refine wkS_take (some 3) (.pointer (some ⟨m, 0, none⟩)) (by kernel_rfl) (by kernel_rfl) (by kernel_rfl) (fun W hS => by kernel_rfl) ?_
    simp only [put_lit, put_non, List.set_cons_zero, List.set_cons_succ]
    refine wkS_take (some 4) (.pointer (some ⟨m, 0, none⟩)) (by kernel_rfl) (by kernel_rfl) (by kernel_rfl) (fun W hS => by kernel_rfl) ?_
    simp only [put_lit, put_non, List.set_cons_zero, List.set_cons_succ]
    refine wkS_take (some 5) (.pointer (some ⟨m, 1, none⟩)) (by kernel_rfl) (by kernel_rfl) (by kernel_rfl) (fun W hS => by kernel_rfl) ?_
    simp only [put_lit, put_non, List.set_cons_zero, List.set_cons_succ]
    refine wkS_take (some 6) (.slice (some ⟨bk, ok, none⟩) 1 ck) (by kernel_rfl) (by kernel_rfl) (by kernel_rfl) (fun W hS => exec_loadCell 75 (.tmp 5) ⟨m, 1, none⟩ _ _ (by kernel_rfl) (by kernel_rfl) hS.1 Tryz.underlying75 rfl) ?_
    simp only [put_lit, put_non, List.set_cons_zero, List.set_cons_succ]
    refine wkS_take (some 7) (.pointer (some ⟨m, 0, none⟩)) (by kernel_rfl) (by kernel_rfl) (by kernel_rfl) (fun W hS => by kernel_rfl) ?_
    simp only [put_lit, put_non, List.set_cons_zero, List.set_cons_succ]
    refine wkS_take (some 8) (.pointer (some ⟨m, 0, none⟩)) (by kernel_rfl) (by kernel_rfl) (by kernel_rfl) (fun W hS => by kernel_rfl) ?_
    simp only [put_lit, put_non, List.set_cons_zero, List.set_cons_succ]
    refine wkS_take (some 9) (.pointer (some ⟨m, 1, none⟩)) (by kernel_rfl) (by kernel_rfl) (by kernel_rfl) (fun W hS => by kernel_rfl) ?_
    simp only [put_lit, put_non, List.set_cons_zero, List.set_cons_succ]
    refine wkS_take (some 10) (.slice (some ⟨bk, ok, none⟩) 1 ck) (by kernel_rfl) (by kernel_rfl) (by kernel_rfl) (fun W hS => exec_loadCell 75 (.tmp 9) ⟨m, 1, none⟩ _ _ (by kernel_rfl) (by kernel_rfl) hS.1 Tryz.underlying75 rfl) ?_
    simp only [put_lit, put_non, List.set_cons_zero, List.set_cons_succ]
    refine wkS_take (some 11) (.int .i64 1) (by kernel_rfl) (by kernel_rfl) (by kernel_rfl) (fun W hS => by kernel_rfl) ?_
    simp only [put_lit, put_non, List.set_cons_zero, List.set_cons_succ]
    refine wkS_take (some 12) (.int .i64 0) (by kernel_rfl) (by kernel_rfl) (by kernel_rfl) (fun W hS => by kernel_rfl) ?_
    simp only [put_lit, put_non, List.set_cons_zero, List.set_cons_succ]
    refine wkS_take (some 13) (.pointer (some ⟨bk, ok + 0 * 1, none⟩)) (by kernel_rfl) (by kernel_rfl) (by kernel_rfl) (fun W hS => exec_indexC Tryz.underlying75 size_kp 6 12 (n := 1) (c := ck) (j := 0) (by kernel_rfl) (by kernel_rfl) (by kernel_rfl) (by omega)) ?_
    simp only [put_lit, put_non, List.set_cons_zero, List.set_cons_succ]
    refine wkS_take (some 14) (.slice Al nl cl) (by kernel_rfl) (by kernel_rfl) (by kernel_rfl) (fun W hS => exec_loadCell 76 (.tmp 13) ⟨bk, ok + 0 * 1, none⟩ _ _ (by kernel_rfl) (by kernel_rfl) hS.2 Tryz.underlying76 rfl) ?_
    simp only [put_lit, put_non, List.set_cons_zero, List.set_cons_succ]
    refine wkS_take (some 15) (.pointer (some ⟨m, 0, none⟩)) (by kernel_rfl) (by kernel_rfl) (by kernel_rfl) (fun W hS => by kernel_rfl) ?_
    simp only [put_lit, put_non, List.set_cons_zero, List.set_cons_succ]
    refine wkS_take (some 16) (.pointer (some ⟨m, 2, none⟩)) (by kernel_rfl) (by kernel_rfl) (by kernel_rfl) (fun W hS => by kernel_rfl) ?_
    simp only [put_lit, put_non, List.set_cons_zero, List.set_cons_succ]
    refine wkS_skipV none (by kernel_rfl) (by kernel_rfl) (by kernel_rfl) (exec_storeP 16 14 (by kernel_rfl) (by kernel_rfl) (by kernel_rfl) HZ2.out HC2.out) ⟨HC12.out, HCL2.out⟩ ?_
    simp only [put_lit, put_non, List.set_cons_zero, List.set_cons_succ]
    refine wkS_done ?_
    go_wp2_with fail
    go_end0
    exact HFN.out
  · skip
    refine wp_region_plan (S := fun W => W.cell? ⟨m, 1, none⟩ = some (.slice (some ⟨bk, ok, none⟩) 2 ck) ∧ W.cell? ⟨bk, ok + (2 - 1), none⟩ = some (.slice Al nl cl)) [(0, true), (1, true), (2, true), (3, true), (4, true), (5, true), (6, true), (7, true), (8, true), (9, true), (10, true), (11, true), (12, true), (13, true), (14, true), (15, false)] (by kernel_rfl) (by kernel_rfl) (by kernel_rfl) (by kernel_rfl) (fun _ _ d _ _ h => by cases d <;> exact h) ⟨HC1.out, HCL.out⟩ ?_
    refine wkS_take (some 2) (.pointer (some ⟨m, 0, none⟩)) (by kernel_rfl) (by kernel_rfl) (by kernel_rfl) (fun W hS => by kernel_rfl) ?_
    simp only [put_lit, put_non, List.set_cons_zero, List.set_cons_succ]
    refine wkS_take (some 3) (.pointer (some ⟨m, 0, none⟩)) (by kernel_rfl) (by kernel_rfl) (by kernel_rfl) (fun W hS => by kernel_rfl) ?_
    simp only [put_lit, put_non, List.set_cons_zero, List.set_cons_succ]
    refine wkS_take (some 4) (.pointer (some ⟨m, 0, none⟩)) (by kernel_rfl) (by kernel_rfl) (by kernel_rfl) (fun W hS => by kernel_rfl) ?_
    simp only [put_lit, put_non, List.set_cons_zero, List.set_cons_succ]
    refine wkS_take (some 5) (.pointer (some ⟨m, 1, none⟩)) (by kernel_rfl) (by kernel_rfl) (by kernel_rfl) (fun W hS => by kernel_rfl) ?_
    simp only [put_lit, put_non, List.set_cons_zero, List.set_cons_succ]
    refine wkS_take (some 6) (.slice (some ⟨bk, ok, none⟩) 2 ck) (by kernel_rfl) (by kernel_rfl) (by kernel_rfl) (fun W hS => exec_loadCell 75 (.tmp 5) ⟨m, 1, none⟩ _ _ (by kernel_rfl) (by kernel_rfl) hS.1 Tryz.underlying75 rfl) ?_
    simp only [put_lit, put_non, List.set_cons_zero, List.set_cons_succ]
    refine wkS_take (some 7) (.pointer (some ⟨m, 0, none⟩)) (by kernel_rfl) (by kernel_rfl) (by kernel_rfl) (fun W hS => by kernel_rfl) ?_
    simp only [put_lit, put_non, List.set_cons_zero, List.set_cons_succ]
    refine wkS_take (some 8) (.pointer (some ⟨m, 0, none⟩)) (by kernel_rfl) (by kernel_rfl) (by kernel_rfl) (fun W hS => by kernel_rfl) ?_
    simp only [put_lit, put_non, List.set_cons_zero, List.set_cons_succ]
    refine wkS_take (some 9) (.pointer (some ⟨m, 1, none⟩)) (by kernel_rfl) (by kernel_rfl) (by kernel_rfl) (fun W hS => by kernel_rfl) ?_
    simp only [put_lit, put_non, List.set_cons_zero, List.set_cons_succ]
    refine wkS_take (some 10) (.slice (some ⟨bk, ok, none⟩) 2 ck) (by kernel_rfl) (by kernel_rfl) (by kernel_rfl) (fun W hS => exec_loadCell 75 (.tmp 9) ⟨m, 1, none⟩ _ _ (by kernel_rfl) (by kernel_rfl) hS.1 Tryz.underlying75 rfl) ?_
    simp only [put_lit, put_non, List.set_cons_zero, List.set_cons_succ]
    refine wkS_take (some 11) (.int .i64 2) (by kernel_rfl) (by kernel_rfl) (by kernel_rfl) (fun W hS => by kernel_rfl) ?_
    simp only [put_lit, put_non, List.set_cons_zero, List.set_cons_succ]
    refine wkS_take (some 12) (.int .i64 1) (by kernel_rfl) (by kernel_rfl) (by kernel_rfl) (fun W hS => by kernel_rfl) ?_
    simp only [put_lit, put_non, List.set_cons_zero, List.set_cons_succ]
    refine wkS_take (some 13) (.pointer (some ⟨bk, ok + 1 * 1, none⟩)) (by kernel_rfl) (by kernel_rfl) (by kernel_rfl) (fun W hS => exec_indexC Tryz.underlying75 size_kp 6 12 (n := 2) (c := ck) (j := 1) (by kernel_rfl) (by kernel_rfl) (by kernel_rfl) (by omega)) ?_
    simp only [put_lit, put_non, List.set_cons_zero, List.set_cons_succ]
    refine wkS_take (some 14) (.slice Al nl cl) (by kernel_rfl) (by kernel_rfl) (by kernel_rfl) (fun W hS => exec_loadCell 76 (.tmp 13) ⟨bk, ok + 1 * 1, none⟩ _ _ (by kernel_rfl) (by kernel_rfl) hS.2 Tryz.underlying76 rfl) ?_
    simp only [put_lit, put_non, List.set_cons_zero, List.set_cons_succ]
    refine wkS_take (some 15) (.pointer (some ⟨m, 0, none⟩)) (by kernel_rfl) (by kernel_rfl) (by kernel_rfl) (fun W hS => by kernel_rfl) ?_
    simp only [put_lit, put_non, List.set_cons_zero, List.set_cons_succ]
    refine wkS_take (some 16) (.pointer (some ⟨m, 2, none⟩)) (by kernel_rfl) (by kernel_rfl) (by kernel_rfl) (fun W hS => by kernel_rfl) ?_
    simp only [put_lit, put_non, List.set_cons_zero, List.set_cons_succ]
    refine wkS_skipV none (by kernel_rfl) (by kernel_rfl) (by kernel_rfl) (exec_storeP 16 14 (by kernel_rfl) (by kernel_rfl) (by kernel_rfl) HZ2.out HC2.out) ⟨HC12.out, HCL2.out⟩ ?_
    simp only [put_lit, put_non, List.set_cons_zero, List.set_cons_succ]
    refine wkS_done ?_
    go_wp2_with fail
    go_end0
    exact HFN.out
  · skip
    refine wp_region_plan (S := fun W => W.cell? ⟨m, 1, none⟩ = some (.slice (some ⟨bk, ok, none⟩) 3 ck) ∧ W.cell? ⟨bk, ok + (3 - 1), none⟩ = some (.slice Al nl cl)) [(0, true), (1, true), (2, true), (3, true), (4, true), (5, true), (6, true), (7, true), (8, true), (9, true), (10, true), (11, true), (12, true), (13, true), (14, true), (15, false)] (by kernel_rfl) (by kernel_rfl) (by kernel_rfl) (by kernel_rfl) (fun _ _ d _ _ h => by cases d <;> exact h) ⟨HC1.out, HCL.out⟩ ?_
    refine wkS_take (some 2) (.pointer (some ⟨m, 0, none⟩)) (by kernel_rfl) (by kernel_rfl) (by kernel_rfl) (fun W hS => by kernel_rfl) ?_
    simp only [put_lit, put_non, List.set_cons_zero, List.set_cons_succ]
    refine wkS_take (some 3) (.pointer (some ⟨m, 0, none⟩)) (by kernel_rfl) (by kernel_rfl) (by kernel_rfl) (fun W hS => by kernel_rfl) ?_
    simp only [put_lit, put_non, List.set_cons_zero, List.set_cons_succ]
    refine wkS_take (some 4) (.pointer (some ⟨m, 0, none⟩)) (by kernel_rfl) (by kernel_rfl) (by kernel_rfl) (fun W hS => by kernel_rfl) ?_
    simp only [put_lit, put_non, List.set_cons_zero, List.set_cons_succ]
    refine wkS_take (some 5) (.pointer (some ⟨m, 1, none⟩)) (by kernel_rfl) (by kernel_rfl) (by kernel_rfl) (fun W hS => by kernel_rfl) ?_
    simp only [put_lit, put_non, List.set_cons_zero, List.set_cons_succ]
    refine wkS_take (some 6) (.slice (some ⟨bk, ok, none⟩) 3 ck) (by kernel_rfl) (by kernel_rfl) (by kernel_rfl) (fun W hS => exec_loadCell 75 (.tmp 5) ⟨m, 1, none⟩ _ _ (by kernel_rfl) (by kernel_rfl) hS.1 Tryz.underlying75 rfl) ?_
    simp only [put_lit, put_non, List.set_cons_zero, List.set_cons_succ]
    refine wkS_take (some 7) (.pointer (some ⟨m, 0, none⟩)) (by kernel_rfl) (by kernel_rfl) (by kernel_rfl) (fun W hS => by kernel_rfl) ?_
    simp only [put_lit, put_non, List.set_cons_zero, List.set_cons_succ]
    refine wkS_take (some 8) (.pointer (some ⟨m, 0, none⟩)) (by kernel_rfl) (by kernel_rfl) (by kernel_rfl) (fun W hS => by kernel_rfl) ?_
    simp only [put_lit, put_non, List.set_cons_zero, List.set_cons_succ]
    refine wkS_take (some 9) (.pointer (some ⟨m, 1, none⟩)) (by kernel_rfl) (by kernel_rfl) (by kernel_rfl) (fun W hS => by kernel_rfl) ?_
    simp only [put_lit, put_non, List.set_cons_zero, List.set_cons_succ]
    refine wkS_take (some 10) (.slice (some ⟨bk, ok, none⟩) 3 ck) (by kernel_rfl) (by kernel_rfl) (by kernel_rfl) (fun W hS => exec_loadCell 75 (.tmp 9) ⟨m, 1, none⟩ _ _ (by kernel_rfl) (by kernel_rfl) hS.1 Tryz.underlying75 rfl) ?_
    simp only [put_lit, put_non, List.set_cons_zero, List.set_cons_succ]
    refine wkS_take (some 11) (.int .i64 3) (by kernel_rfl) (by kernel_rfl) (by kernel_rfl) (fun W hS => by kernel_rfl) ?_
    simp only [put_lit, put_non, List.set_cons_zero, List.set_cons_succ]
    refine wkS_take (some 12) (.int .i64 2) (by kernel_rfl) (by kernel_rfl) (by kernel_rfl) (fun W hS => by kernel_rfl) ?_
    simp only [put_lit, put_non, List.set_cons_zero, List.set_cons_succ]
    refine wkS_take (some 13) (.pointer (some ⟨bk, ok + 2 * 1, none⟩)) (by kernel_rfl) (by kernel_rfl) (by kernel_rfl) (fun W hS => exec_indexC Tryz.underlying75 size_kp 6 12 (n := 3) (c := ck) (j := 2) (by kernel_rfl) (by kernel_rfl) (by kernel_rfl) (by omega)) ?_
    simp only [put_lit, put_non, List.set_cons_zero, List.set_cons_succ]
    refine wkS_take (some 14) (.slice Al nl cl) (by kernel_rfl) (by kernel_rfl) (by kernel_rfl) (fun W hS => exec_loadCell 76 (.tmp 13) ⟨bk, ok + 2 * 1, none⟩ _ _ (by kernel_rfl) (by kernel_rfl) hS.2 Tryz.underlying76 rfl) ?_
    simp only [put_lit, put_non, List.set_cons_zero, List.set_cons_succ]
    refine wkS_take (some 15) (.pointer (some ⟨m, 0, none⟩)) (by kernel_rfl) (by kernel_rfl) (by kernel_rfl) (fun W hS => by kernel_rfl) ?_
    simp only [put_lit, put_non, List.set_cons_zero, List.set_cons_succ]
    refine wkS_take (some 16) (.pointer (some ⟨m, 2, none⟩)) (by kernel_rfl) (by kernel_rfl) (by kernel_rfl) (fun W hS => by kernel_rfl) ?_
    simp only [put_lit, put_non, List.set_cons_zero, List.set_cons_succ]
    refine wkS_skipV none (by kernel_rfl) (by kernel_rfl) (by kernel_rfl) (exec_storeP 16 14 (by kernel_rfl) (by kernel_rfl) (by kernel_rfl) HZ2.out HC2.out) ⟨HC12.out, HCL2.out⟩ ?_
    simp only [put_lit, put_non, List.set_cons_zero, List.set_cons_succ]
    refine wkS_done ?_
    go_wp2_with fail
    go_end0
    exact HFN.out
  · skip
    refine wp_region_plan (S := fun W => W.cell? ⟨m, 1, none⟩ = some (.slice (some ⟨bk, ok, none⟩) 4 ck) ∧ W.cell? ⟨bk, ok + (4 - 1), none⟩ = some (.slice Al nl cl)) [(0, true), (1, true), (2, true), (3, true), (4, true), (5, true), (6, true), (7, true), (8, true), (9, true), (10, true), (11, true), (12, true), (13, true), (14, true), (15, false)] (by kernel_rfl) (by kernel_rfl) (by kernel_rfl) (by kernel_rfl) (fun _ _ d _ _ h => by cases d <;> exact h) ⟨HC1.out, HCL.out⟩ ?_
    refine wkS_take (some 2) (.pointer (some ⟨m, 0, none⟩)) (by kernel_rfl) (by kernel_rfl) (by kernel_rfl) (fun W hS => by kernel_rfl) ?_
    simp only [put_lit, put_non, List.set_cons_zero, List.set_cons_succ]
    refine wkS_take (some 3) (.pointer (some ⟨m, 0, none⟩)) (by kernel_rfl) (by kernel_rfl) (by kernel_rfl) (fun W hS => by kernel_rfl) ?_
    simp only [put_lit, put_non, List.set_cons_zero, List.set_cons_succ]
    refine wkS_take (some 4) (.pointer (some ⟨m, 0, none⟩)) (by kernel_rfl) (by kernel_rfl) (by kernel_rfl) (fun W hS => by kernel_rfl) ?_
    simp only [put_lit, put_non, List.set_cons_zero, List.set_cons_succ]
    refine wkS_take (some 5) (.pointer (some ⟨m, 1, none⟩)) (by kernel_rfl) (by kernel_rfl) (by kernel_rfl) (fun W hS => by kernel_rfl) ?_
    simp only [put_lit, put_non, List.set_cons_zero, List.set_cons_succ]
    refine wkS_take (some 6) (.slice (some ⟨bk, ok, none⟩) 4 ck) (by kernel_rfl) (by kernel_rfl) (by kernel_rfl) (fun W hS => exec_loadCell 75 (.tmp 5) ⟨m, 1, none⟩ _ _ (by kernel_rfl) (by kernel_rfl) hS.1 Tryz.underlying75 rfl) ?_
    simp only [put_lit, put_non, List.set_cons_zero, List.set_cons_succ]
    refine wkS_take (some 7) (.pointer (some ⟨m, 0, none⟩)) (by kernel_rfl) (by kernel_rfl) (by kernel_rfl) (fun W hS => by kernel_rfl) ?_
    simp only [put_lit, put_non, List.set_cons_zero, List.set_cons_succ]
    refine wkS_take (some 8) (.pointer (some ⟨m, 0, none⟩)) (by kernel_rfl) (by kernel_rfl) (by kernel_rfl) (fun W hS => by kernel_rfl) ?_
    simp only [put_lit, put_non, List.set_cons_zero, List.set_cons_succ]
    refine wkS_take (some 9) (.pointer (some ⟨m, 1, none⟩)) (by kernel_rfl) (by kernel_rfl) (by kernel_rfl) (fun W hS => by kernel_rfl) ?_
    simp only [put_lit, put_non, List.set_cons_zero, List.set_cons_succ]
    refine wkS_take (some 10) (.slice (some ⟨bk, ok, none⟩) 4 ck) (by kernel_rfl) (by kernel_rfl) (by kernel_rfl) (fun W hS => exec_loadCell 75 (.tmp 9) ⟨m, 1, none⟩ _ _ (by kernel_rfl) (by kernel_rfl) hS.1 Tryz.underlying75 rfl) ?_
    simp only [put_lit, put_non, List.set_cons_zero, List.set_cons_succ]
    refine wkS_take (some 11) (.int .i64 4) (by kernel_rfl) (by kernel_rfl) (by kernel_rfl) (fun W hS => by kernel_rfl) ?_
    simp only [put_lit, put_non, List.set_cons_zero, List.set_cons_succ]
    refine wkS_take (some 12) (.int .i64 3) (by kernel_rfl) (by kernel_rfl) (by kernel_rfl) (fun W hS => by kernel_rfl) ?_
    simp only [put_lit, put_non, List.set_cons_zero, List.set_cons_succ]
    refine wkS_take (some 13) (.pointer (some ⟨bk, ok + 3 * 1, none⟩)) (by kernel_rfl) (by kernel_rfl) (by kernel_rfl) (fun W hS => exec_indexC Tryz.underlying75 size_kp 6 12 (n := 4) (c := ck) (j := 3) (by kernel_rfl) (by kernel_rfl) (by kernel_rfl) (by omega)) ?_
    simp only [put_lit, put_non, List.set_cons_zero, List.set_cons_succ]
    refine wkS_take (some 14) (.slice Al nl cl) (by kernel_rfl) (by kernel_rfl) (by kernel_rfl) (fun W hS => exec_loadCell 76 (.tmp 13) ⟨bk, ok + 3 * 1, none⟩ _ _ (by kernel_rfl) (by kernel_rfl) hS.2 Tryz.underlying76 rfl) ?_
    simp only [put_lit, put_non, List.set_cons_zero, List.set_cons_succ]
    refine wkS_take (some 15) (.pointer (some ⟨m, 0, none⟩)) (by kernel_rfl) (by kernel_rfl) (by kernel_rfl) (fun W hS => by kernel_rfl) ?_
    simp only [put_lit, put_non, List.set_cons_zero, List.set_cons_succ]
    refine wkS_take (some 16) (.pointer (some ⟨m, 2, none⟩)) (by kernel_rfl) (by kernel_rfl) (by kernel_rfl) (fun W hS => by kernel_rfl) ?_
    simp only [put_lit, put_non, List.set_cons_zero, List.set_cons_succ]
    refine wkS_skipV none (by kernel_rfl) (by kernel_rfl) (by kernel_rfl) (exec_storeP 16 14 (by kernel_rfl) (by kernel_rfl) (by kernel_rfl) HZ2.out HC2.out) ⟨HC12.out, HCL2.out⟩ ?_
    simp only [put_lit, put_non, List.set_cons_zero, List.set_cons_succ]
    refine wkS_done ?_
    go_wp2_with fail
    go_end0
    exact HFN.out
/-- Nothing of pages. -/
theorem PgsV.none (w : World) (R : Nat → Prop) : PgsV w R (.slice Option.none 0 0) [] := ⟨[], rfl, Cel.nil _ 2, fun h => absurd h (by simp), fun e he => (List.not_mem_nil he).elim⟩
set_option maxRecDepth 20000 in
set_option maxHeartbeats 4000000 in
theorem rfind_c (h : RSto w R m s) (hlast : s.last ≤ 1000000) (v : Int) (hv1 : -1000000 ≤ v) (hv2 : v ≤ 2000000) :
    Calls Tryz.prog 42 #[.pointer (some ⟨m, 0, none⟩), .int .i64 v] w fun e w' => ∃ r, e = .returned (.tuple #[r, .bool (findS s v).isSome]) ∧ PgsV w (fun b => R b ∧ b ≠ m) r ((findS s v).getD []) ∧ Below w.heap.size w w' := by
  obtain ⟨h0, h1, h2, kv, wv, hc, hK, hW⟩ := h
  obtain ⟨Ak, ck, rfl⟩ := hK.form
  obtain ⟨Aw, cw, rfl⟩ := hW.form
  obtain ⟨c0, c1, c2⟩ := hc.cells
  obtain ⟨hk1, hk4, -⟩ := h0
  have HK := Lib.hid hK
  have HW := Lib.hid hW
  have hli : (s.last : Int) ≤ 1000000 := by omega
  have hki : (s.kept.length : Int) ≤ 4 := by omega
  clear hK hW hc h1 h2
  unfold findS
  by_cases hv : v = (s.last : Int) + 1
  · rw [if_pos hv]
    subst hv
    clear c1 hki
    go_enter Tryz.func42, Tryz.ntmps42
    go_wp2_with fail
    go_ret2
    exact ⟨_, rfl, HW.out, Below.refl _ _⟩
  · rw [if_neg hv]
    have HC0 := Lib.hid c0
    have HC1 := Lib.hid c1
    have hBd : Below w.heap.size w w.drew := (Below.refl _ _).drew
    have HBD := Lib.hid hBd
    clear c2 hBd
    by_cases hbad : v > s.last ∨ v < 0 ∨ (s.kept.length : Int) - 1 - (s.last - v) < 0
    · rw [if_pos hbad]
      have hcase : v > s.last ∨ (¬ v > s.last ∧ v < 0) ∨ (¬ v > s.last ∧ ¬ v < 0 ∧ (s.kept.length : Int) - 1 - (s.last - v) < 0) := by omega
      clear hbad
      go_enter Tryz.func42, Tryz.ntmps42
      go_wp2_with fail
      refine wp_region_plan (S := fun W => W = w.drew) [(0, true), (1, true), (2, true), (3, true), (4, true), (5, true), (6, true), (7, true), (8, true), (9, true), (10, true), (11, true), (12, true), (13, true)] (by kernel_rfl) (by kernel_rfl) (by kernel_rfl) (by kernel_rfl) (fun _ _ d _ _ h => by cases d <;> exact h) rfl ?_
      refine wkS_take (some 18) (.pointer (some ⟨m, 0, none⟩)) (by kernel_rfl) (by kernel_rfl) (by kernel_rfl) (fun W hS => by kernel_rfl) ?_
      simp only [put_lit, put_non, List.set_cons_zero, List.set_cons_succ]
      refine wkS_take (some 19) (.pointer (some ⟨m, 0, none⟩)) (by kernel_rfl) (by kernel_rfl) (by kernel_rfl) (fun W hS => by kernel_rfl) ?_
      simp only [put_lit, put_non, List.set_cons_zero, List.set_cons_succ]
      refine wkS_take (some 20) (.pointer (some ⟨m, 1, none⟩)) (by kernel_rfl) (by kernel_rfl) (by kernel_rfl) (fun W hS => by kernel_rfl) ?_
      simp only [put_lit, put_non, List.set_cons_zero, List.set_cons_succ]
      refine wkS_take (some 21) (.slice Ak s.kept.length ck) (by kernel_rfl) (by kernel_rfl) (by kernel_rfl) (fun W hS => by subst hS; exact exec_loadCell 75 (.tmp 20) ⟨m, 1, none⟩ _ _ (by kernel_rfl) (by kernel_rfl) HC1.out Tryz.underlying75 rfl) ?_
      simp only [put_lit, put_non, List.set_cons_zero, List.set_cons_succ]
      refine wkS_take (some 22) (.int .i64 (s.kept.length : Int)) (by kernel_rfl) (by kernel_rfl) (by kernel_rfl) (fun W hS => by kernel_rfl) ?_
      simp only [put_lit, put_non, List.set_cons_zero, List.set_cons_succ]
      refine wkS_take (some 23) (.int .i64 ((s.kept.length : Int) - 1)) (by kernel_rfl) (by kernel_rfl) (by kernel_rfl) (fun W hS => exec_subI (.tmp 22) (.const (.int .i64 1)) _ _ (by kernel_rfl) (by kernel_rfl) (by kernel_rfl) (by omega) (by omega) (by omega) (by omega)) ?_
      simp only [put_lit, put_non, List.set_cons_zero, List.set_cons_succ]
      refine wkS_take (some 24) (.pointer (some ⟨m, 0, none⟩)) (by kernel_rfl) (by kernel_rfl) (by kernel_rfl) (fun W hS => by kernel_rfl) ?_
      simp only [put_lit, put_non, List.set_cons_zero, List.set_cons_succ]
      refine wkS_take (some 25) (.pointer (some ⟨m, 0, none⟩)) (by kernel_rfl) (by kernel_rfl) (by kernel_rfl) (fun W hS => by kernel_rfl) ?_
      simp only [put_lit, put_non, List.set_cons_zero, List.set_cons_succ]
      refine wkS_take (some 26) (.pointer (some ⟨m, 0, none⟩)) (by kernel_rfl) (by kernel_rfl) (by kernel_rfl) (fun W hS => by kernel_rfl) ?_
      simp only [put_lit, put_non, List.set_cons_zero, List.set_cons_succ]
      refine wkS_take (some 27) (.int .i64 (s.last : Int)) (by kernel_rfl) (by kernel_rfl) (by kernel_rfl) (fun W hS => by subst hS; exact exec_loadCell 3 (.tmp 26) ⟨m, 0, none⟩ _ _ (by kernel_rfl) (by kernel_rfl) HC0.out Tryz.underlying3 rfl) ?_
      simp only [put_lit, put_non, List.set_cons_zero, List.set_cons_succ]
      refine wkS_take (some 28) (.int .i64 v) (by kernel_rfl) (by kernel_rfl) (by kernel_rfl) (fun W hS => by kernel_rfl) ?_
      simp only [put_lit, put_non, List.set_cons_zero, List.set_cons_succ]
      refine wkS_take (some 29) (.int .i64 ((s.last : Int) - v)) (by kernel_rfl) (by kernel_rfl) (by kernel_rfl) (fun W hS => exec_subI (.tmp 27) (.tmp 28) _ _ (by kernel_rfl) (by kernel_rfl) (by kernel_rfl) (by omega) (by omega) (by omega) (by omega)) ?_
      simp only [put_lit, put_non, List.set_cons_zero, List.set_cons_succ]
      refine wkS_take (some 30) (.int .i64 ((s.kept.length : Int) - 1 - ((s.last : Int) - v))) (by kernel_rfl) (by kernel_rfl) (by kernel_rfl) (fun W hS => exec_subI (.tmp 23) (.tmp 29) _ _ (by kernel_rfl) (by kernel_rfl) (by kernel_rfl) (by omega) (by omega) (by omega) (by omega)) ?_
      simp only [put_lit, put_non, List.set_cons_zero, List.set_cons_succ]
      refine wkS_take (some 6) (.int .i64 ((s.kept.length : Int) - 1 - ((s.last : Int) - v))) (by kernel_rfl) (by kernel_rfl) (by kernel_rfl) (fun W hS => by kernel_rfl) ?_
      simp only [put_lit, put_non, List.set_cons_zero, List.set_cons_succ]
      refine wkS_done ?_
      have c0 : w.drew.cell? ⟨m, 0, none⟩ = some (.int .i64 (s.last : Int)) := HC0.out
      have c1 : w.drew.cell? ⟨m, 1, none⟩ = some (.slice Ak s.kept.length ck) := HC1.out
      clear c1
      generalize w.drew = wd at *
      generalize (s.kept.length : Int) - 1 - ((s.last : Int) - v) = q at *
      rcases hcase with h | ⟨h, h'⟩ | ⟨h, h', h''⟩
      · go_wp2_with fail
        go_ret2
        exact ⟨_, rfl, PgsV.none _ _, HBD.out⟩
      · go_wp2_with fail
        go_ret2
        exact ⟨_, rfl, PgsV.none _ _, HBD.out⟩
      · go_wp2_with fail
        go_ret2
        exact ⟨_, rfl, PgsV.none _ _, HBD.out⟩
    · rw [if_neg hbad]
      have n1 : ¬ v > s.last := by omega
      have n2 : ¬ v < 0 := by omega
      have n3 : ¬ (s.kept.length : Int) - 1 - (s.last - v) < 0 := by omega
      obtain ⟨j, ej⟩ : ∃ j : Nat, (s.kept.length : Int) - 1 - ((s.last : Int) - v) = (j : Int) := ⟨((s.kept.length : Int) - 1 - ((s.last : Int) - v)).toNat, by omega⟩
      have hj : j < s.kept.length := by omega
      have hji : (j : Int) < s.kept.length := by omega
      obtain ⟨bk, ok, vl, rfl, hbk, hcl, hpl⟩ := HK.out.at' hj
      have hcld : w.drew.cell? ⟨bk, ok + j, none⟩ = some vl := hcl
      rw [ej, Int.toNat_natCast, List.getElem?_eq_getElem hj]
      generalize s.kept[j] = E at hpl ⊢
      obtain ⟨Al, cl, rfl⟩ := hpl.form
      have HPL := Lib.hid hpl
      have HEJ := Lib.hid ej
      clear hbad hcl hpl hbk hv
      rw [ej] at n3
      clear ej
      generalize E.length = nl at *
      go_enter Tryz.func42, Tryz.ntmps42
      go_wp2_with fail
      refine wp_region_plan (S := fun W => W = w.drew) [(0, true), (1, true), (2, true), (3, true), (4, true), (5, true), (6, true), (7, true), (8, true), (9, true), (10, true), (11, true), (12, true), (13, true)] (by kernel_rfl) (by kernel_rfl) (by kernel_rfl) (by kernel_rfl) (fun _ _ d _ _ h => by cases d <;> exact h) rfl ?_
      refine wkS_take (some 18) (.pointer (some ⟨m, 0, none⟩)) (by kernel_rfl) (by kernel_rfl) (by kernel_rfl) (fun W hS => by kernel_rfl) ?_
      simp only [put_lit, put_non, List.set_cons_zero, List.set_cons_succ]
      refine wkS_take (some 19) (.pointer (some ⟨m, 0, none⟩)) (by kernel_rfl) (by kernel_rfl) (by kernel_rfl) (fun W hS => by kernel_rfl) ?_
      simp only [put_lit, put_non, List.set_cons_zero, List.set_cons_succ]
      refine wkS_take (some 20) (.pointer (some ⟨m, 1, none⟩)) (by kernel_rfl) (by kernel_rfl) (by kernel_rfl) (fun W hS => by kernel_rfl) ?_
      simp only [put_lit, put_non, List.set_cons_zero, List.set_cons_succ]
      refine wkS_take (some 21) (.slice (some ⟨bk, ok, none⟩) s.kept.length ck) (by kernel_rfl) (by kernel_rfl) (by kernel_rfl) (fun W hS => by subst hS; exact exec_loadCell 75 (.tmp 20) ⟨m, 1, none⟩ _ _ (by kernel_rfl) (by kernel_rfl) HC1.out Tryz.underlying75 rfl) ?_
      simp only [put_lit, put_non, List.set_cons_zero, List.set_cons_succ]
      refine wkS_take (some 22) (.int .i64 (s.kept.length : Int)) (by kernel_rfl) (by kernel_rfl) (by kernel_rfl) (fun W hS => by kernel_rfl) ?_
      simp only [put_lit, put_non, List.set_cons_zero, List.set_cons_succ]
      refine wkS_take (some 23) (.int .i64 ((s.kept.length : Int) - 1)) (by kernel_rfl) (by kernel_rfl) (by kernel_rfl) (fun W hS => exec_subI (.tmp 22) (.const (.int .i64 1)) _ _ (by kernel_rfl) (by kernel_rfl) (by kernel_rfl) (by omega) (by omega) (by omega) (by omega)) ?_
      simp only [put_lit, put_non, List.set_cons_zero, List.set_cons_succ]
      refine wkS_take (some 24) (.pointer (some ⟨m, 0, none⟩)) (by kernel_rfl) (by kernel_rfl) (by kernel_rfl) (fun W hS => by kernel_rfl) ?_
      simp only [put_lit, put_non, List.set_cons_zero, List.set_cons_succ]
      refine wkS_take (some 25) (.pointer (some ⟨m, 0, none⟩)) (by kernel_rfl) (by kernel_rfl) (by kernel_rfl) (fun W hS => by kernel_rfl) ?_
      simp only [put_lit, put_non, List.set_cons_zero, List.set_cons_succ]
      refine wkS_take (some 26) (.pointer (some ⟨m, 0, none⟩)) (by kernel_rfl) (by kernel_rfl) (by kernel_rfl) (fun W hS => by kernel_rfl) ?_
      simp only [put_lit, put_non, List.set_cons_zero, List.set_cons_succ]
      refine wkS_take (some 27) (.int .i64 (s.last : Int)) (by kernel_rfl) (by kernel_rfl) (by kernel_rfl) (fun W hS => by subst hS; exact exec_loadCell 3 (.tmp 26) ⟨m, 0, none⟩ _ _ (by kernel_rfl) (by kernel_rfl) HC0.out Tryz.underlying3 rfl) ?_
      simp only [put_lit, put_non, List.set_cons_zero, List.set_cons_succ]
      refine wkS_take (some 28) (.int .i64 v) (by kernel_rfl) (by kernel_rfl) (by kernel_rfl) (fun W hS => by kernel_rfl) ?_
      simp only [put_lit, put_non, List.set_cons_zero, List.set_cons_succ]
      refine wkS_take (some 29) (.int .i64 ((s.last : Int) - v)) (by kernel_rfl) (by kernel_rfl) (by kernel_rfl) (fun W hS => exec_subI (.tmp 27) (.tmp 28) _ _ (by kernel_rfl) (by kernel_rfl) (by kernel_rfl) (by omega) (by omega) (by omega) (by omega)) ?_
      simp only [put_lit, put_non, List.set_cons_zero, List.set_cons_succ]
      refine wkS_take (some 30) (.int .i64 ((s.kept.length : Int) - 1 - ((s.last : Int) - v))) (by kernel_rfl) (by kernel_rfl) (by kernel_rfl) (fun W hS => exec_subI (.tmp 23) (.tmp 29) _ _ (by kernel_rfl) (by kernel_rfl) (by kernel_rfl) (by omega) (by omega) (by omega) (by omega)) ?_
      simp only [put_lit, put_non, List.set_cons_zero, List.set_cons_succ]
      refine wkS_take (some 6) (.int .i64 ((s.kept.length : Int) - 1 - ((s.last : Int) - v))) (by kernel_rfl) (by kernel_rfl) (by kernel_rfl) (fun W hS => by kernel_rfl) ?_
      simp only [put_lit, put_non, List.set_cons_zero, List.set_cons_succ]
      refine wkS_done ?_
      have c0 : w.drew.cell? ⟨m, 0, none⟩ = some (.int .i64 (s.last : Int)) := HC0.out
      have c1 : w.drew.cell? ⟨m, 1, none⟩ = some (.slice (some ⟨bk, ok, none⟩) s.kept.length ck) := HC1.out
      rw [HEJ.out]
      generalize w.drew = wd at *
      go_wp2_with fail
      go_ret2
      exact ⟨_, rfl, HPL.out, HBD.out⟩
end
end Go.Proofs.YtckomifecmemnaaGreat

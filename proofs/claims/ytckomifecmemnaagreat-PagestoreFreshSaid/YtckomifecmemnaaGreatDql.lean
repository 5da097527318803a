/- The program's disk: New. -/
import Derived.Test.YtckomifecmemnaaGreatDqk
namespace Go.Proofs.YtckomifecmemnaaGreat
set_option linter.unusedSimpArgs false
open Go.RowKit Dig
set_option linter.unusedVariables false

/-- A new row of m bytes. -/
theorem make_w (w : World) (m : Nat) (hm : m ≤ 1000000) : ∃ w', (∀ (ev : Operand → Value) (o : Oper) (l c : Operand), o.op = .makeSlice 33 l c → ev l = .int .i64 (m : Int) → ev c = .int .i64 (m : Int) → (execOp ev o).run Tryz.prog w = .ok (.value (.slice (some ⟨w.heap.size, 0, none⟩) m m)) w') ∧
    LetB w' w.heap.size (List.replicate m 0) ∧ Below w.heap.size w w' := by
  obtain ⟨i0, hi, hz0, hz1, hz2⟩ := info_parts info_byte
  obtain ⟨w', hrun, hO, hg⟩ := run_makeSlice_full (P := Tryz.prog) w w.heap.size 33 5 i0 (.int .u8 0) 1 Tryz.underlying33 hi hz0 hz1 .i64 .i64 m (by omega) (by rw [hz2]; omega) (by unfold maxLen; omega) (Nat.le_refl _)
  refine ⟨w', fun ev o l c ho hl hc => ?_, ?_, ⟨hg.os, hg.tape, hg.output, hg.size, fun k hk => hg.block k hk (by simp)⟩⟩
  · have hr : (Instr.makeSlice 33 (.int .i64 (m : Int)) (.int .i64 (m : Int))).run Tryz.prog w = .ok (.slice (some ⟨w.heap.size, 0, none⟩) m m) w' := hrun
    unfold execOp
    simp only [ho, hl, hc, hr, Sem.run_bind, Sem.run_pure, Result.andThen_ok]
  · rcases hO.2 with ⟨e, _⟩ | ⟨g, cap, cur, e, _, hh, _, _, hz, ht⟩
    · simp at e
    · simp only [Value.slice.injEq, Option.some.injEq, Addr.mk.injEq, and_true, true_and] at e
      obtain ⟨rfl, rfl⟩ := e
      have e1 : (madeCells (Value.int IntKind.u8 0).cells (m * 1)).toList = List.replicate m (.int .u8 0) := by
        rw [Nat.mul_one]; exact toList_madeCells_one _ _
      rw [e1, List.take_of_length_le (by simp; omega)] at ht
      have : cur = (List.replicate m (Value.int .u8 0)).toArray := by rw [← ht]
      unfold LetB
      rw [hh, this]
      simp [Y]
/-- A struct goes into a new block. -/
theorem exec_boxD {ev : Operand → Value} {o : Oper} {w : World} {t : Tmp} {cs : Array Value} (ho : o.op = .box 60 (.tmp t)) (hx : ev (.tmp t) = .agg cs) : (execOp ev o).run Tryz.prog w = .ok (.value (.pointer (some ⟨w.heap.size, 0, none⟩))) (w.alloc (.cells cs 60)) := by
  unfold execOp
  simp only [ho, hx]
  go_simp
theorem new_done {w y2 : World} {n N bd bv : Nat} (hN : n * 64 = N) (h1 : 1 ≤ n) (h2 : n ≤ 8192) (hB : Below w.heap.size w y2) (hd : LetB y2 bd (List.replicate N 0)) (hv : LetB y2 bv (List.replicate N 0)) (hne : bd ≠ bv) (hbd : w.heap.size ≤ bd) (hbv : w.heap.size ≤ bv) :
    Disk (y2.alloc (.cells #[.slice (some ⟨bd, 0, none⟩) N N, .slice (some ⟨bv, 0, none⟩) N N, .int .i64 0, .slice none 0 0, .int .i64 0, .slice none 0 0, .map none, .bool true, .int .i64 (-1)] 60)) (fun b => w.heap.size ≤ b ∧ b < (y2.alloc (.cells #[.slice (some ⟨bd, 0, none⟩) N N, .slice (some ⟨bv, 0, none⟩) N N, .int .i64 0, .slice none 0 0, .int .i64 0, .slice none 0 0, .map none, .bool true, .int .i64 (-1)] 60)).heap.size) y2.heap.size (newS n) ∧ Below w.heap.size w (y2.alloc (.cells #[.slice (some ⟨bd, 0, none⟩) N N, .slice (some ⟨bv, 0, none⟩) N N, .int .i64 0, .slice none 0 0, .int .i64 0, .slice none 0 0, .map none, .bool true, .int .i64 (-1)] 60)) := by
  subst hN
  have hlen : (newS n).dur.length = n := List.length_replicate
  have hBa : Below y2.heap.size y2 (y2.alloc (.cells #[.slice (some ⟨bd, 0, none⟩) (n * 64) (n * 64), .slice (some ⟨bv, 0, none⟩) (n * 64) (n * 64), .int .i64 0, .slice none 0 0, .int .i64 0, .slice none 0 0, .map none, .bool true, .int .i64 (-1)] 60)) := (Below.refl _ _).alloc (Nat.le_refl _) _
  have hdl := hd.lt
  have hvl := hv.lt
  have hs := hB.size
  have hF : FldG (y2.alloc (.cells #[.slice (some ⟨bd, 0, none⟩) (n * 64) (n * 64), .slice (some ⟨bv, 0, none⟩) (n * 64) (n * 64), .int .i64 0, .slice none 0 0, .int .i64 0, .slice none 0 0, .map none, .bool true, .int .i64 (-1)] 60)) y2.heap.size bd bv (.slice none 0 0) 0 t0 n true (-1) := by
    unfold FldG
    rw [heap_alloc_new]
    rfl
  have hl2 := hF.lt
  have hs2 := hBa.size
  have hM : MemG (y2.alloc (.cells #[.slice (some ⟨bd, 0, none⟩) (n * 64) (n * 64), .slice (some ⟨bv, 0, none⟩) (n * 64) (n * 64), .int .i64 0, .slice none 0 0, .int .i64 0, .slice none 0 0, .map none, .bool true, .int .i64 (-1)] 60)) (fun b => w.heap.size ≤ b ∧ b < (y2.alloc (.cells #[.slice (some ⟨bd, 0, none⟩) (n * 64) (n * 64), .slice (some ⟨bv, 0, none⟩) (n * 64) (n * 64), .int .i64 0, .slice none 0 0, .int .i64 0, .slice none 0 0, .map none, .bool true, .int .i64 (-1)] 60)).heap.size) y2.heap.size bd bv (.slice none 0 0) t0 n true (-1) [] [] (List.replicate n Z64) (List.replicate n Z64) :=
    ⟨hF, (hd.keepB (hBa.block _ hdl)).secs, (hv.keepB (hBa.block _ hvl)).secs, World.ownsRow_nil _ 0 _ 2, fun e he => (List.not_mem_nil he).elim, .inl ⟨rfl, rfl⟩, by omega, by omega, hne, by simp [Value.ownBlock], by simp [Value.ownBlock], by simp [Value.ownBlock], ⟨⟨hs, hl2⟩, ⟨hbd, by omega⟩, ⟨hbv, by omega⟩, fun b hb => by simp [Value.ownBlock] at hb⟩, fun b hb => hb.2⟩
  refine ⟨⟨⟨fun x hx => ?_, fun p hp => (List.not_mem_nil hp).elim, Nat.zero_le _⟩, bd, bv, .slice none 0 0, t0, -1, [], [], ?_, rfl, Nat.zero_le _, fun e => absurd rfl e, lnk_off rfl, by rw [hlen]; exact h2⟩, below_then hB hBa⟩
  · rw [List.eq_of_mem_replicate hx]
    exact List.length_replicate
  · rw [hlen]
    exact hM
set_option maxRecDepth 20000 in
set_option maxHeartbeats 4000000 in
theorem qnew_c (w : World) (n : Nat) (hn1 : 1 ≤ n) (hn2 : n ≤ 8192) : Calls Tryz.prog 9 #[.int .i64 (n : Int)] w fun e w' => ∃ g, e = .returned (.tuple #[.pointer (some ⟨g, 0, none⟩), .int .i64 0]) ∧ Disk w' (fun b => w.heap.size ≤ b ∧ b < w'.heap.size) g (newS n) ∧ Below w.heap.size w w' := by
  obtain ⟨N, hNN⟩ : ∃ N, n * 64 = N := ⟨_, rfl⟩
  have hN6 : N ≤ 1000000 := by omega
  have g1 : ¬ (n : Int) < 1 := by omega
  have g2 : ¬ (n : Int) > 8192 := by omega
  have g3 : (n : Int) * 64 = (N : Int) := by omega
  have HA := Lib.hid hNN
  have HB1 := Lib.hid hn1
  have HB2 := Lib.hid hn2
  have HB3 := Lib.hid hN6
  clear hNN hn1 hn2 hN6
  go_enter Tryz.func9, Tryz.ntmps9
  go_wp2_with fail
  have hNN := HA.out
  have hn1 := HB1.out
  have hn2 := HB2.out
  have hN6 := HB3.out
  refine hk_begin (S := fun _ => True) 8 (by kernel_rfl) (by kernel_rfl) ?_
  obtain ⟨y0, ey0⟩ : ∃ y, y = w.drew := ⟨_, rfl⟩
  rw [← ey0]
  have hB0 : Below w.heap.size w y0 := by rw [ey0]; exact (Below.refl _ _).drew
  clear ey0
  obtain ⟨y1, hr1, hL1, hB1⟩ := make_w y0 N hN6
  obtain ⟨y2, hr2, hL2, hB2⟩ := make_w y1 N hN6
  have hBt := below_then (below_then hB0 hB1) hB2
  have h12 := hL1.lt
  have h22 := hL2.lt
  have hb0 := hB0.size
  have hL12 := hL1.keepB (hB2.block _ hL1.lt)
  have FIN : Hid (∀ bd bv, (bd = y0.heap.size ∧ bv = y1.heap.size ∨ bd = y1.heap.size ∧ bv = y0.heap.size) → _) := Lib.hid fun bd bv hor => new_done (n := n) (N := N) (bd := bd) (bv := bv) (w := w) (y2 := y2) hNN hn1 hn2 hBt (by rcases hor with ⟨rfl, rfl⟩ | ⟨rfl, rfl⟩; exact hL12; exact hL2) (by rcases hor with ⟨rfl, rfl⟩ | ⟨rfl, rfl⟩; exact hL2; exact hL12) (by omega) (by omega) (by omega)
  clear hB0 hB1 hB2 hL1 hL2 hL12 hBt hn1 hn2 hNN
  refine hk_take (i := 0) (some 13) (.int .i64 (N : Int)) (by kernel_rfl) (by kernel_rfl) (by kernel_rfl) (by kernel_rfl) (by kernel_rfl) (by kernel_rfl) (fun W hS => by kernel_rfl) (fun _ _ d _ _ h => by cases d <;> exact h) trivial ?_
  simp only [put_lit, put_non, List.set_cons_zero, List.set_cons_succ]
  refine hk_take (i := 2) (some 15) (.int .i64 (N : Int)) (by kernel_rfl) (by kernel_rfl) (by kernel_rfl) (by kernel_rfl) (by kernel_rfl) (by kernel_rfl) (fun W hS => by kernel_rfl) (fun _ _ d _ _ h => by cases d <;> exact h) trivial ?_
  simp only [put_lit, put_non, List.set_cons_zero, List.set_cons_succ]
  refine hk_two (i := 1) (j := 3) (by kernel_rfl) ?_ ?_
  · skip
    refine op_do (some 14) (.slice (some ⟨y0.heap.size, 0, none⟩) N N) y1 (by kernel_rfl) (by kernel_rfl) (by kernel_rfl) (hr1 _ _ (.tmp 13) (.tmp 13) (by kernel_rfl) (by kernel_rfl) (by kernel_rfl)) ?_
    refine ⟨trivial, ?_⟩
    simp only [put_lit, put_non, List.set_cons_zero, List.set_cons_succ]
    refine hk_one (i := 3) (by kernel_rfl) ?_
    refine op_do (some 16) (.slice (some ⟨y1.heap.size, 0, none⟩) N N) y2 (by kernel_rfl) (by kernel_rfl) (by kernel_rfl) (hr2 _ _ (.tmp 15) (.tmp 15) (by kernel_rfl) (by kernel_rfl) (by kernel_rfl)) ?_
    refine ⟨trivial, ?_⟩
    simp only [put_lit, put_non, List.set_cons_zero, List.set_cons_succ]
    refine hk_take (i := 4) (some 17) (.agg #[.slice (some ⟨y0.heap.size, 0, none⟩) N N, .slice (some ⟨y1.heap.size, 0, none⟩) N N, .int .i64 0, .slice none 0 0, .int .i64 0, .slice none 0 0, .map none, .bool true, .int .i64 (-1)]) (by kernel_rfl) (by kernel_rfl) (by kernel_rfl) (by kernel_rfl) (by kernel_rfl) (by kernel_rfl) (fun W hS => by kernel_rfl) (fun _ _ d _ _ h => by cases d <;> exact h) trivial ?_
    simp only [put_lit, put_non, List.set_cons_zero, List.set_cons_succ]
    refine hk_one (i := 5) (by kernel_rfl) ?_
    refine op_do (some 18) (.pointer (some ⟨y2.heap.size, 0, none⟩)) (y2.alloc (.cells #[.slice (some ⟨y0.heap.size, 0, none⟩) N N, .slice (some ⟨y1.heap.size, 0, none⟩) N N, .int .i64 0, .slice none 0 0, .int .i64 0, .slice none 0 0, .map none, .bool true, .int .i64 (-1)] 60)) (by kernel_rfl) (by kernel_rfl) (by kernel_rfl) (exec_boxD (t := 17) (by kernel_rfl) (by kernel_rfl)) ?_
    refine ⟨trivial, ?_⟩
    simp only [put_lit, put_non, List.set_cons_zero, List.set_cons_succ]
    refine hk_take (i := 6) (some 2) (.pointer (some ⟨y2.heap.size, 0, none⟩)) (by kernel_rfl) (by kernel_rfl) (by kernel_rfl) (by kernel_rfl) (by kernel_rfl) (by kernel_rfl) (fun W hS => by kernel_rfl) (fun _ _ d _ _ h => by cases d <;> exact h) trivial ?_
    simp only [put_lit, put_non, List.set_cons_zero, List.set_cons_succ]
    refine hk_take (i := 7) (some 3) (.int .i64 0) (by kernel_rfl) (by kernel_rfl) (by kernel_rfl) (by kernel_rfl) (by kernel_rfl) (by kernel_rfl) (fun W hS => by kernel_rfl) (fun _ _ d _ _ h => by cases d <;> exact h) trivial ?_
    simp only [put_lit, put_non, List.set_cons_zero, List.set_cons_succ]
    refine hk_done (by kernel_rfl) ?_
    have HFN := Lib.hid (FIN.out y0.heap.size y1.heap.size (.inl ⟨rfl, rfl⟩))
    clear hr1 hr2
    generalize hy3 : y2.alloc (.cells #[.slice (some ⟨y0.heap.size, 0, none⟩) N N, .slice (some ⟨y1.heap.size, 0, none⟩) N N, .int .i64 0, .slice none 0 0, .int .i64 0, .slice none 0 0, .map none, .bool true, .int .i64 (-1)] 60) = y3 at *
    go_wp2_with fail
    go_ret2
    exact ⟨_, rfl, HFN.out⟩
  · skip
    refine op_do (some 16) (.slice (some ⟨y0.heap.size, 0, none⟩) N N) y1 (by kernel_rfl) (by kernel_rfl) (by kernel_rfl) (hr1 _ _ (.tmp 15) (.tmp 15) (by kernel_rfl) (by kernel_rfl) (by kernel_rfl)) ?_
    refine ⟨trivial, ?_⟩
    simp only [put_lit, put_non, List.set_cons_zero, List.set_cons_succ]
    refine hk_one (i := 1) (by kernel_rfl) ?_
    refine op_do (some 14) (.slice (some ⟨y1.heap.size, 0, none⟩) N N) y2 (by kernel_rfl) (by kernel_rfl) (by kernel_rfl) (hr2 _ _ (.tmp 13) (.tmp 13) (by kernel_rfl) (by kernel_rfl) (by kernel_rfl)) ?_
    refine ⟨trivial, ?_⟩
    simp only [put_lit, put_non, List.set_cons_zero, List.set_cons_succ]
    refine hk_take (i := 4) (some 17) (.agg #[.slice (some ⟨y1.heap.size, 0, none⟩) N N, .slice (some ⟨y0.heap.size, 0, none⟩) N N, .int .i64 0, .slice none 0 0, .int .i64 0, .slice none 0 0, .map none, .bool true, .int .i64 (-1)]) (by kernel_rfl) (by kernel_rfl) (by kernel_rfl) (by kernel_rfl) (by kernel_rfl) (by kernel_rfl) (fun W hS => by kernel_rfl) (fun _ _ d _ _ h => by cases d <;> exact h) trivial ?_
    simp only [put_lit, put_non, List.set_cons_zero, List.set_cons_succ]
    refine hk_one (i := 5) (by kernel_rfl) ?_
    refine op_do (some 18) (.pointer (some ⟨y2.heap.size, 0, none⟩)) (y2.alloc (.cells #[.slice (some ⟨y1.heap.size, 0, none⟩) N N, .slice (some ⟨y0.heap.size, 0, none⟩) N N, .int .i64 0, .slice none 0 0, .int .i64 0, .slice none 0 0, .map none, .bool true, .int .i64 (-1)] 60)) (by kernel_rfl) (by kernel_rfl) (by kernel_rfl) (exec_boxD (t := 17) (by kernel_rfl) (by kernel_rfl)) ?_
    refine ⟨trivial, ?_⟩
    simp only [put_lit, put_non, List.set_cons_zero, List.set_cons_succ]
    refine hk_take (i := 6) (some 2) (.pointer (some ⟨y2.heap.size, 0, none⟩)) (by kernel_rfl) (by kernel_rfl) (by kernel_rfl) (by kernel_rfl) (by kernel_rfl) (by kernel_rfl) (fun W hS => by kernel_rfl) (fun _ _ d _ _ h => by cases d <;> exact h) trivial ?_
    simp only [put_lit, put_non, List.set_cons_zero, List.set_cons_succ]
    refine hk_take (i := 7) (some 3) (.int .i64 0) (by kernel_rfl) (by kernel_rfl) (by kernel_rfl) (by kernel_rfl) (by kernel_rfl) (by kernel_rfl) (fun W hS => by kernel_rfl) (fun _ _ d _ _ h => by cases d <;> exact h) trivial ?_
    simp only [put_lit, put_non, List.set_cons_zero, List.set_cons_succ]
    refine hk_done (by kernel_rfl) ?_
    have HFN := Lib.hid (FIN.out y1.heap.size y0.heap.size (.inr ⟨rfl, rfl⟩))
    clear hr1 hr2
    generalize hy3 : y2.alloc (.cells #[.slice (some ⟨y1.heap.size, 0, none⟩) N N, .slice (some ⟨y0.heap.size, 0, none⟩) N N, .int .i64 0, .slice none 0 0, .int .i64 0, .slice none 0 0, .map none, .bool true, .int .i64 (-1)] 60) = y3 at *
    go_wp2_with fail
    go_ret2
    exact ⟨_, rfl, HFN.out⟩
set_option maxHeartbeats 1000000 in
theorem qnewBad_c (w : World) (n : Int) (hn : n < 1 ∨ 8192 < n) : Calls Tryz.prog 9 #[.int .i64 n] w (RVal w (.tuple #[.pointer none, .int .i64 1])) := by
  rcases hn with h | h
  · go_enter Tryz.func9, Tryz.ntmps9
    go_wp2_with fail
    go_ret2
    exact ⟨rfl, Below.refl _ _⟩
  · have h1 : ¬ n < 1 := by omega
    have h2 : n > 8192 := h
    clear h
    go_enter Tryz.func9, Tryz.ntmps9
    go_wp2_with fail
    go_ret2
    exact ⟨rfl, Below.refl _ _⟩
end Go.Proofs.YtckomifecmemnaaGreat

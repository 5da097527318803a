/- The contract of step: one reading, the program's reader and the model's. -/
import Derived.Test.YtkdnmmbnljaahaaKns
import Derived.Test.YtkdnmmbnljaahaaRfgs
namespace Go.Proofs.Ytkdnmmbnljaahaa
set_option linter.unusedSimpArgs false
open Go.RowKit Dig
set_option linter.unusedVariables false

def RStep (w : World) (g1 g2 : Nat) (s : RS) (e : Ending) (w' : World) : Prop := ∃ s', e = .returned (.bool true) ∧ s'.1.length ≤ s.1.length ∧ Rdr 66 w' g1 s' ∧ Rdr 42 w' g2 s' ∧ w.heap.size ≤ w'.heap.size ∧ ∀ B, B ≤ w.heap.size → B ≤ g1 → B ≤ g2 → Below B w w'
/-- The variable of the argument. -/
def HoldO (w : World) (g k n : Nat) (z : Int) : Prop := w.heap[g]? = some (.cells #[.int .u8 (k : Int), .int .u64 (n : Int), .int .i64 z] 47 (0, 0))
section
variable {w w' : World} {g g2 k n : Nat} {z : Int}
theorem HoldO.cells (h : HoldO w g k n z) : w.cell? ⟨g, 0, none⟩ = some (.int .u8 (k : Int)) ∧ w.cell? ⟨g, 1, none⟩ = some (.int .u64 (n : Int)) ∧ w.cell? ⟨g, 2, none⟩ = some (.int .i64 z) := by
  unfold HoldO at h
  refine ⟨?_, ?_, ?_⟩ <;> rw [cell_of_row w g _ _ _ (0, 0) h] <;> rfl
theorem HoldO.grown (h : HoldO w g k n z) (hG : w.grownBy w' (some g2)) (hne : g2 ≠ g) : HoldO w' g k n z := by
  have hlt : g < w.heap.size := lt_of_heap h
  unfold HoldO at h ⊢
  rw [hG.block g hlt (by simpa using Ne.symm hne)]
  exact h
theorem HoldO.new (w : World) (k n : Nat) (z : Int) : HoldO (w.alloc (.cells #[.int .u8 (k : Int), .int .u64 (n : Int), .int .i64 z] 47)) w.heap.size k n z := by
  unfold HoldO
  rw [heap_alloc_new]
theorem HoldO.below (h : HoldO w g k n z) (hB : Below w.heap.size w w') : HoldO w' g k n z := by
  have hlt : g < w.heap.size := lt_of_heap h
  unfold HoldO at h ⊢
  rw [hB.block g hlt]
  exact h
theorem Rdr.apart {T T' : TypeId} {g1 : Nat} {s s2 : RS} (h : Rdr T w g s) (hne : g ≠ g1) (hr : Rdr T' w g1 s2) (hG : w.grownBy w' (some g1)) : Rdr T w' g s := h.beside hr hne hG
end
theorem restS_len (K : Bool → Nat → Nat → Bool) (neg : Bool) (s : RS) : (restS K neg s).2.1.length ≤ s.1.length := by
  have h1 := natS_len s
  have h2 := natS_len (natS s).2
  unfold restS
  split
  · split
    · show (natS (natS s).2).2.1.length ≤ _
      omega
    · exact Nat.zero_le _
  · show (natS (natS s).2).2.1.length ≤ _
    omega
theorem fracS_len (K : Bool → Nat → Nat → Bool) (s : RS) : (fracS K s).2.1.length ≤ s.1.length := by
  have h1 := (rawS_len 1 s).1
  unfold fracS
  split
  · exact h1
  · split
    · exact Nat.zero_le _
    · exact Nat.le_trans (restS_len _ _ _) h1
section
variable {w w' : World} {g : Nat} {T : TypeId} {s : RS} {o : Option (Bool × Nat × Nat)} {v v2 : Value} {xs : List Nat}
theorem FxO.beside (h : FxO w v o) (hr : Rdr T w g s) (hG : w.grownBy w' (some g)) : FxO w' v o := by
  match o, h with
  | none, ⟨a, b, e, h1, h2⟩ => exact ⟨a, b, e, h1.beside hr hG, h2.beside hr hG⟩
  | some (p, n, d), ⟨a, b, e, h1, h2⟩ => exact ⟨a, b, e, h1.beside hr hG, h2.beside hr hG⟩
theorem fxo_same (h1 : FxO w v o) (h2 : FxO w v2 o) : Calls Try.prog 30 #[v, v2] w (RVal w (.bool true)) := by
  match o, h1, h2 with
  | none, h1, h2 =>
    have h := fracSame_v h1 h2
    simpa using h
  | some (p, n, d), h1, h2 =>
    have h := fracSame_v h1 h2
    simpa using h
theorem num_same (h1 : Num w v xs) (h2 : Num w v2 xs) : Calls Try.prog 28 #[v, v2] w (RVal w (.bool true)) := by
  have h := natSame_any w v v2 xs xs h1 h2
  simpa using h
end
set_option maxRecDepth 20000 in
set_option maxHeartbeats 16000000 in
theorem step_0 {w : World} {g1 g2 : Nat} {s : RS} (h1 : Rdr 66 w g1 s) (h2 : Rdr 42 w g2 s) (hne : g1 ≠ g2) (hz : s.1.length ≤ 1000000) (k n : Nat) (hk : k < 256) (hn : n < 18446744073709551616) (z : Int) (hb1 : -9223372036854775808 ≤ z) (hb2 : z ≤ 9223372036854775807) (hk5 : k % 5 = 0) :
    Calls Try.prog 23 #[.pointer (some ⟨g1, 0, none⟩), .pointer (some ⟨g2, 0, none⟩), .agg #[.int .u8 (k : Int), .int .u64 (n : Int), .int .i64 z]] w (RStep w g1 g2 s) := by
  have hki : Int.tmod (k : Int) 5 = 0 := by
    rw [Int.tmod_eq_emod_of_nonneg (by omega)]
    omega
  have hBa := Lib.hid ((Below.refl w.heap.size w).alloc (Nat.le_refl _) (.cells #[.int .u8 (k : Int), .int .u64 (n : Int), .int .i64 z] 47))
  have HK := HoldO.new w k n z
  have hgl1 := h1.lt
  have hgl2 := h2.lt
  have hO1 := Lib.hid (show g1 ≠ w.heap.size by omega)
  have hO2 := Lib.hid (show g2 ≠ w.heap.size by omega)
  have hne12 := Lib.hid hne
  have hne21 := Lib.hid (Ne.symm hne)
  have hR1a := h1.below hBa.out
  have hR2a := h2.below hBa.out
  obtain ⟨c0, c1, c2⟩ := HK.cells
  have HZ := Lib.hid hz
  have HN := Lib.hid hn
  have HZ1 := Lib.hid hb1
  have HZ2 := Lib.hid hb2
  have hks : (0 : Int) ≤ k := by omega
  clear h1 h2 hgl1 hgl2 hne hz hn hb1 hb2 hk hk5
  go_enter Try.func23, Try.ntmps23
  go_wp2_with fail
  have hD : Below (w.alloc (.cells #[.int .u8 (k : Int), .int .u64 (n : Int), .int .i64 z] 47)).heap.size (w.alloc (.cells #[.int .u8 (k : Int), .int .u64 (n : Int), .int .i64 z] 47)) (w.alloc (.cells #[.int .u8 (k : Int), .int .u64 (n : Int), .int .i64 z] 47)).drew := (Below.refl _ _).drew
  have HK0 := HK.below hD
  have hR10 := Lib.hid (hR1a.below hD)
  have hR20 := Lib.hid (hR2a.below hD)
  have hBa := Lib.hid hBa.out.drew
  refine hk_begin (S := fun w' => HoldO w' w.heap.size k n z) 10 (by kernel_rfl) (by kernel_rfl) ?_
  generalize (w.alloc (.cells #[.int .u8 (k : Int), .int .u64 (n : Int), .int .i64 z] 47)).drew = y0 at HK0 hR10 hR20 hBa ⊢
  generalize hgO : w.heap.size = gO at HK0 hO1 hO2 ⊢
  have HK0 := Lib.hid HK0
  clear hD HK hR1a hR2a c0 c1 c2 hki hks
  have C1 := uint_c hR10.out (by have := HZ.out; omega) n HN.out
  have C2 := Lib.hid (fun W (h : Rdr 42 W g2 s) => ruint_c h (by have := HZ.out; omega) n HN.out)
  have hLen := Lib.hid (uintS_len n s)
  generalize (uintS n s).1 = u at *
  generalize (uintS n s).2 = s2 at *
  have C1 := Lib.hid C1
  refine hk_take (i := 0) (some 24) (.pointer (some ⟨g1, 0, none⟩)) (by kernel_rfl) (by kernel_rfl) (by kernel_rfl) (by kernel_rfl) (by kernel_rfl) (by kernel_rfl) (fun W hS => by kernel_rfl) (fun _ _ d _ _ h => by cases d <;> exact h) HK0.out ?_
  simp only [put_lit, put_non, List.set_cons_zero, List.set_cons_succ]
  refine hk_take (i := 1) (some 25) (.pointer (some ⟨gO, 1, none⟩)) (by kernel_rfl) (by kernel_rfl) (by kernel_rfl) (by kernel_rfl) (by kernel_rfl) (by kernel_rfl) (fun W hS => by kernel_rfl) (fun _ _ d _ _ h => by cases d <;> exact h) HK0.out ?_
  simp only [put_lit, put_non, List.set_cons_zero, List.set_cons_succ]
  refine hk_take (i := 2) (some 26) (.int .u64 (n : Int)) (by kernel_rfl) (by kernel_rfl) (by kernel_rfl) (by kernel_rfl) (by kernel_rfl) (by kernel_rfl) (fun W hS => exec_part 22 25 (hS.cells.2.1) (by kernel_rfl) (by kernel_rfl) (by kernel_rfl)) (fun _ _ d _ _ h => by cases d <;> exact h) HK0.out ?_
  simp only [put_lit, put_non, List.set_cons_zero, List.set_cons_succ]
  refine hk_take (i := 4) (some 28) (.pointer (some ⟨g2, 0, none⟩)) (by kernel_rfl) (by kernel_rfl) (by kernel_rfl) (by kernel_rfl) (by kernel_rfl) (by kernel_rfl) (fun W hS => by kernel_rfl) (fun _ _ d _ _ h => by cases d <;> exact h) HK0.out ?_
  simp only [put_lit, put_non, List.set_cons_zero, List.set_cons_succ]
  refine hk_take (i := 5) (some 29) (.pointer (some ⟨gO, 1, none⟩)) (by kernel_rfl) (by kernel_rfl) (by kernel_rfl) (by kernel_rfl) (by kernel_rfl) (by kernel_rfl) (fun W hS => by kernel_rfl) (fun _ _ d _ _ h => by cases d <;> exact h) HK0.out ?_
  simp only [put_lit, put_non, List.set_cons_zero, List.set_cons_succ]
  refine hk_take (i := 6) (some 30) (.int .u64 (n : Int)) (by kernel_rfl) (by kernel_rfl) (by kernel_rfl) (by kernel_rfl) (by kernel_rfl) (by kernel_rfl) (fun W hS => exec_part 22 29 (hS.cells.2.1) (by kernel_rfl) (by kernel_rfl) (by kernel_rfl)) (fun _ _ d _ _ h => by cases d <;> exact h) HK0.out ?_
  simp only [put_lit, put_non, List.set_cons_zero, List.set_cons_succ]
  refine hk_one (i := 3) (by kernel_rfl) ?_
  refine op_call (some 27) 24 #[.pointer (some ⟨g1, 0, none⟩), .int .u64 (n : Int)] (by kernel_rfl) (by kernel_rfl) (by kernel_rfl) (fun w => by kernel_rfl) ?_
  refine (C1.out).mono ?_
  rintro e y1 ⟨rfl, hR1, hG1⟩
  have HK1 := Lib.hid (HK0.out.grown hG1 hO1.out)
  have hR2 := Lib.hid (hR20.out.beside hR10.out hne21.out hG1)
  have hR1 := Lib.hid hR1
  have hG1 := Lib.hid hG1
  refine ⟨_, rfl, HK1.out, ?_⟩
  simp only [put_lit, put_non, List.set_cons_zero, List.set_cons_succ]
  refine hk_one (i := 7) (by kernel_rfl) ?_
  refine op_call (some 31) 37 #[.pointer (some ⟨g2, 0, none⟩), .int .u64 (n : Int)] (by kernel_rfl) (by kernel_rfl) (by kernel_rfl) (fun w => by kernel_rfl) ?_
  refine (C2.out _ hR2.out).mono ?_
  rintro e y2 ⟨rfl, hR22, hG2⟩
  have HK2 := Lib.hid (HK1.out.grown hG2 hO2.out)
  have hR12 := Lib.hid (hR1.out.beside hR2.out hne12.out hG2)
  have hR22 := Lib.hid hR22
  have hG2 := Lib.hid hG2
  refine ⟨_, rfl, HK2.out, ?_⟩
  simp only [put_lit, put_non, List.set_cons_zero, List.set_cons_succ]
  refine hk_take (i := 8) (some 32) (.bool true) (by kernel_rfl) (by kernel_rfl) (by kernel_rfl) (by kernel_rfl) (by kernel_rfl) (by kernel_rfl) (fun W hS => exec_eqInt (T := 22) (T' := 22) (k := .u64) 27 31 (u : Int) (by kernel_rfl) (by kernel_rfl) (by kernel_rfl)) (fun _ _ d _ _ h => by cases d <;> exact h) HK2.out ?_
  simp only [put_lit, put_non, List.set_cons_zero, List.set_cons_succ]
  refine hk_take (i := 9) (some 7) (.bool true) (by kernel_rfl) (by kernel_rfl) (by kernel_rfl) (by kernel_rfl) (by kernel_rfl) (by kernel_rfl) (fun W hS => by kernel_rfl) (fun _ _ d _ _ h => by cases d <;> exact h) HK2.out ?_
  simp only [put_lit, put_non, List.set_cons_zero, List.set_cons_succ]
  refine hk_done (by kernel_rfl) ?_
  have BB := Lib.hid (fun B (h0 : B ≤ w.heap.size) (h3 : B ≤ g1) (h4 : B ≤ g2) => show Below B w y2 from below_of_grown (below_of_grown (hBa.out.mono h0) hG1.out (Nat.le_trans h0 hBa.out.size) h3) hG2.out (Nat.le_trans h0 (Nat.le_trans hBa.out.size hG1.out.size)) h4)
  have hSz := Lib.hid (Nat.le_trans hBa.out.size (Nat.le_trans hG1.out.size hG2.out.size))
  go_wp2_with fail
  refine hk_begin (S := fun w' => w' = y2.drew) 21 (by kernel_rfl) (by kernel_rfl) ?_
  have hD2 : Below y2.heap.size y2 y2.drew := (Below.refl _ _).drew
  have HA := Lib.hid (hR12.out.below hD2)
  have HB := Lib.hid (hR22.out.below hD2)
  have BE := Lib.hid (fun B h0 h3 h4 => (show Below B w y2.drew from (BB.out B h0 h3 h4).drew))
  have hsz := Lib.hid (show w.heap.size ≤ y2.drew.heap.size from hSz.out)
  clear hD2
  generalize y2.drew = yd at HA HB BE hsz ⊢
  obtain ⟨⟨A, m, c, hrow, hby⟩, _⟩ := HB.out
  have hn := hby.bounds.1
  have q0 := Lib.hid (show ∀ W, W = yd → W.cell? ⟨g2, 0, none⟩ = some (.slice A m c) from fun W h => by rw [h]; exact (row2_cells hrow).1)
  have q1 := Lib.hid (show ∀ W, W = yd → W.cell? ⟨g2, 1, none⟩ = some (.int .i64 s2.2) from fun W h => by rw [h]; exact (row2_cells hrow).2)
  have RE := Lib.hid (err_c HA.out)
  have RM := Lib.hid (show Calls Try.prog 21 #[.pointer (some ⟨g1, 0, none⟩)] yd (fun e w' => e = .returned (.int .i64 (m : Int)) ∧ yd = w') from by
    have h := remaining_c HA.out
    first | (rw [hn]; exact h) | (rw [← hn]; exact h))
  clear hrow hby hn
  refine hk_take (i := 0) (some 60) (.bool true) (by kernel_rfl) (by kernel_rfl) (by kernel_rfl) (by kernel_rfl) (by kernel_rfl) (by kernel_rfl) (fun W hS => by kernel_rfl) (fun _ _ d _ _ h => by cases d <;> exact h) (rfl : yd = yd) ?_
  simp only [put_lit, put_non, List.set_cons_zero, List.set_cons_succ]
  refine hk_take (i := 1) (some 61) (.bool true) (by kernel_rfl) (by kernel_rfl) (by kernel_rfl) (by kernel_rfl) (by kernel_rfl) (by kernel_rfl) (fun W hS => by kernel_rfl) (fun _ _ d _ _ h => by cases d <;> exact h) (rfl : yd = yd) ?_
  simp only [put_lit, put_non, List.set_cons_zero, List.set_cons_succ]
  refine hk_take (i := 2) (some 62) (.pointer (some ⟨g1, 0, none⟩)) (by kernel_rfl) (by kernel_rfl) (by kernel_rfl) (by kernel_rfl) (by kernel_rfl) (by kernel_rfl) (fun W hS => by kernel_rfl) (fun _ _ d _ _ h => by cases d <;> exact h) (rfl : yd = yd) ?_
  simp only [put_lit, put_non, List.set_cons_zero, List.set_cons_succ]
  refine hk_take (i := 4) (some 64) (.pointer (some ⟨g2, 0, none⟩)) (by kernel_rfl) (by kernel_rfl) (by kernel_rfl) (by kernel_rfl) (by kernel_rfl) (by kernel_rfl) (fun W hS => by kernel_rfl) (fun _ _ d _ _ h => by cases d <;> exact h) (rfl : yd = yd) ?_
  simp only [put_lit, put_non, List.set_cons_zero, List.set_cons_succ]
  refine hk_take (i := 5) (some 65) (.pointer (some ⟨g2, 0, none⟩)) (by kernel_rfl) (by kernel_rfl) (by kernel_rfl) (by kernel_rfl) (by kernel_rfl) (by kernel_rfl) (fun W hS => by kernel_rfl) (fun _ _ d _ _ h => by cases d <;> exact h) (rfl : yd = yd) ?_
  simp only [put_lit, put_non, List.set_cons_zero, List.set_cons_succ]
  refine hk_take (i := 6) (some 66) (.pointer (some ⟨g2, 1, none⟩)) (by kernel_rfl) (by kernel_rfl) (by kernel_rfl) (by kernel_rfl) (by kernel_rfl) (by kernel_rfl) (fun W hS => by kernel_rfl) (fun _ _ d _ _ h => by cases d <;> exact h) (rfl : yd = yd) ?_
  simp only [put_lit, put_non, List.set_cons_zero, List.set_cons_succ]
  refine hk_take (i := 7) (some 67) (.int .i64 s2.2) (by kernel_rfl) (by kernel_rfl) (by kernel_rfl) (by kernel_rfl) (by kernel_rfl) (by kernel_rfl) (fun W hS => exec_part 40 66 (q1.out W hS) (by kernel_rfl) (by kernel_rfl) (by kernel_rfl)) (fun _ _ d _ _ h => by cases d <;> exact h) (rfl : yd = yd) ?_
  simp only [put_lit, put_non, List.set_cons_zero, List.set_cons_succ]
  refine hk_one (i := 3) (by kernel_rfl) ?_
  refine op_call (some 63) 22 #[.pointer (some ⟨g1, 0, none⟩)] (by kernel_rfl) (by kernel_rfl) (by kernel_rfl) (fun w => by kernel_rfl) ?_
  refine (RE.out).mono ?_
  rintro e w9 ⟨rfl, rfl⟩
  refine ⟨_, rfl, (rfl : yd = yd), ?_⟩
  simp only [put_lit, put_non, List.set_cons_zero, List.set_cons_succ]
  refine hk_take (i := 8) (some 68) (.bool true) (by kernel_rfl) (by kernel_rfl) (by kernel_rfl) (by kernel_rfl) (by kernel_rfl) (by kernel_rfl) (fun W hS => exec_eqInt (T := 40) (T' := 40) (k := .i64) 63 67 s2.2 (by kernel_rfl) (by kernel_rfl) (by kernel_rfl)) (fun _ _ d _ _ h => by cases d <;> exact h) (rfl : yd = yd) ?_
  simp only [put_lit, put_non, List.set_cons_zero, List.set_cons_succ]
  refine hk_take (i := 9) (some 69) (.bool true) (by kernel_rfl) (by kernel_rfl) (by kernel_rfl) (by kernel_rfl) (by kernel_rfl) (by kernel_rfl) (fun W hS => by kernel_rfl) (fun _ _ d _ _ h => by cases d <;> exact h) (rfl : yd = yd) ?_
  simp only [put_lit, put_non, List.set_cons_zero, List.set_cons_succ]
  refine hk_take (i := 10) (some 70) (.bool true) (by kernel_rfl) (by kernel_rfl) (by kernel_rfl) (by kernel_rfl) (by kernel_rfl) (by kernel_rfl) (fun W hS => by kernel_rfl) (fun _ _ d _ _ h => by cases d <;> exact h) (rfl : yd = yd) ?_
  simp only [put_lit, put_non, List.set_cons_zero, List.set_cons_succ]
  refine hk_take (i := 11) (some 71) (.pointer (some ⟨g1, 0, none⟩)) (by kernel_rfl) (by kernel_rfl) (by kernel_rfl) (by kernel_rfl) (by kernel_rfl) (by kernel_rfl) (fun W hS => by kernel_rfl) (fun _ _ d _ _ h => by cases d <;> exact h) (rfl : yd = yd) ?_
  simp only [put_lit, put_non, List.set_cons_zero, List.set_cons_succ]
  refine hk_take (i := 13) (some 73) (.pointer (some ⟨g2, 0, none⟩)) (by kernel_rfl) (by kernel_rfl) (by kernel_rfl) (by kernel_rfl) (by kernel_rfl) (by kernel_rfl) (fun W hS => by kernel_rfl) (fun _ _ d _ _ h => by cases d <;> exact h) (rfl : yd = yd) ?_
  simp only [put_lit, put_non, List.set_cons_zero, List.set_cons_succ]
  refine hk_take (i := 14) (some 74) (.pointer (some ⟨g2, 0, none⟩)) (by kernel_rfl) (by kernel_rfl) (by kernel_rfl) (by kernel_rfl) (by kernel_rfl) (by kernel_rfl) (fun W hS => by kernel_rfl) (fun _ _ d _ _ h => by cases d <;> exact h) (rfl : yd = yd) ?_
  simp only [put_lit, put_non, List.set_cons_zero, List.set_cons_succ]
  refine hk_take (i := 15) (some 75) (.pointer (some ⟨g2, 0, none⟩)) (by kernel_rfl) (by kernel_rfl) (by kernel_rfl) (by kernel_rfl) (by kernel_rfl) (by kernel_rfl) (fun W hS => by kernel_rfl) (fun _ _ d _ _ h => by cases d <;> exact h) (rfl : yd = yd) ?_
  simp only [put_lit, put_non, List.set_cons_zero, List.set_cons_succ]
  refine hk_take (i := 16) (some 76) (.slice A m c) (by kernel_rfl) (by kernel_rfl) (by kernel_rfl) (by kernel_rfl) (by kernel_rfl) (by kernel_rfl) (fun W hS => exec_part 23 75 (q0.out W hS) (by kernel_rfl) (by kernel_rfl) (by kernel_rfl)) (fun _ _ d _ _ h => by cases d <;> exact h) (rfl : yd = yd) ?_
  simp only [put_lit, put_non, List.set_cons_zero, List.set_cons_succ]
  refine hk_take (i := 17) (some 77) (.int .i64 (m : Int)) (by kernel_rfl) (by kernel_rfl) (by kernel_rfl) (by kernel_rfl) (by kernel_rfl) (by kernel_rfl) (fun W hS => by kernel_rfl) (fun _ _ d _ _ h => by cases d <;> exact h) (rfl : yd = yd) ?_
  simp only [put_lit, put_non, List.set_cons_zero, List.set_cons_succ]
  refine hk_one (i := 12) (by kernel_rfl) ?_
  refine op_call (some 72) 21 #[.pointer (some ⟨g1, 0, none⟩)] (by kernel_rfl) (by kernel_rfl) (by kernel_rfl) (fun w => by kernel_rfl) ?_
  refine (RM.out).mono ?_
  rintro e w9 ⟨rfl, rfl⟩
  refine ⟨_, rfl, (rfl : yd = yd), ?_⟩
  simp only [put_lit, put_non, List.set_cons_zero, List.set_cons_succ]
  refine hk_take (i := 18) (some 78) (.bool true) (by kernel_rfl) (by kernel_rfl) (by kernel_rfl) (by kernel_rfl) (by kernel_rfl) (by kernel_rfl) (fun W hS => exec_eqInt (T := 3) (T' := 3) (k := .i64) 72 77 (m : Int) (by kernel_rfl) (by kernel_rfl) (by kernel_rfl)) (fun _ _ d _ _ h => by cases d <;> exact h) (rfl : yd = yd) ?_
  simp only [put_lit, put_non, List.set_cons_zero, List.set_cons_succ]
  refine hk_take (i := 19) (some 79) (.bool true) (by kernel_rfl) (by kernel_rfl) (by kernel_rfl) (by kernel_rfl) (by kernel_rfl) (by kernel_rfl) (fun W hS => by kernel_rfl) (fun _ _ d _ _ h => by cases d <;> exact h) (rfl : yd = yd) ?_
  simp only [put_lit, put_non, List.set_cons_zero, List.set_cons_succ]
  refine hk_take (i := 20) (some 6) (.bool true) (by kernel_rfl) (by kernel_rfl) (by kernel_rfl) (by kernel_rfl) (by kernel_rfl) (by kernel_rfl) (fun W hS => by kernel_rfl) (fun _ _ d _ _ h => by cases d <;> exact h) (rfl : yd = yd) ?_
  simp only [put_lit, put_non, List.set_cons_zero, List.set_cons_succ]
  refine hk_done (by kernel_rfl) ?_
  go_wp2_with fail
  go_ret
  exact ⟨s2, rfl, hLen.out, HA.out, HB.out, hsz.out, BE.out⟩
set_option maxRecDepth 20000 in
set_option maxHeartbeats 16000000 in
theorem step_1 {w : World} {g1 g2 : Nat} {s : RS} (h1 : Rdr 66 w g1 s) (h2 : Rdr 42 w g2 s) (hne : g1 ≠ g2) (hz : s.1.length ≤ 1000000) (k n : Nat) (hk : k < 256) (hn : n < 18446744073709551616) (z : Int) (hb1 : -9223372036854775808 ≤ z) (hb2 : z ≤ 9223372036854775807) (hk5 : k % 5 = 1) :
    Calls Try.prog 23 #[.pointer (some ⟨g1, 0, none⟩), .pointer (some ⟨g2, 0, none⟩), .agg #[.int .u8 (k : Int), .int .u64 (n : Int), .int .i64 z]] w (RStep w g1 g2 s) := by
  have hki : Int.tmod (k : Int) 5 = 1 := by
    rw [Int.tmod_eq_emod_of_nonneg (by omega)]
    omega
  have hBa := Lib.hid ((Below.refl w.heap.size w).alloc (Nat.le_refl _) (.cells #[.int .u8 (k : Int), .int .u64 (n : Int), .int .i64 z] 47))
  have HK := HoldO.new w k n z
  have hgl1 := h1.lt
  have hgl2 := h2.lt
  have hO1 := Lib.hid (show g1 ≠ w.heap.size by omega)
  have hO2 := Lib.hid (show g2 ≠ w.heap.size by omega)
  have hne12 := Lib.hid hne
  have hne21 := Lib.hid (Ne.symm hne)
  have hR1a := h1.below hBa.out
  have hR2a := h2.below hBa.out
  obtain ⟨c0, c1, c2⟩ := HK.cells
  have HZ := Lib.hid hz
  have HN := Lib.hid hn
  have HZ1 := Lib.hid hb1
  have HZ2 := Lib.hid hb2
  have hks : (0 : Int) ≤ k := by omega
  clear h1 h2 hgl1 hgl2 hne hz hn hb1 hb2 hk hk5
  go_enter Try.func23, Try.ntmps23
  go_wp2_with fail
  have hD : Below (w.alloc (.cells #[.int .u8 (k : Int), .int .u64 (n : Int), .int .i64 z] 47)).heap.size (w.alloc (.cells #[.int .u8 (k : Int), .int .u64 (n : Int), .int .i64 z] 47)) (w.alloc (.cells #[.int .u8 (k : Int), .int .u64 (n : Int), .int .i64 z] 47)).drew := (Below.refl _ _).drew
  have HK0 := HK.below hD
  have hR10 := Lib.hid (hR1a.below hD)
  have hR20 := Lib.hid (hR2a.below hD)
  have hBa := Lib.hid hBa.out.drew
  refine hk_begin (S := fun w' => HoldO w' w.heap.size k n z) 12 (by kernel_rfl) (by kernel_rfl) ?_
  generalize (w.alloc (.cells #[.int .u8 (k : Int), .int .u64 (n : Int), .int .i64 z] 47)).drew = y0 at HK0 hR10 hR20 hBa ⊢
  generalize hgO : w.heap.size = gO at HK0 hO1 hO2 ⊢
  have HK0 := Lib.hid HK0
  clear hD HK hR1a hR2a c0 c1 c2 hki hks
  have C1 := bytes_c hR10.out (by have := HZ.out; omega) z HZ1.out HZ2.out
  have C2 := fun W (h : Rdr 42 W g2 s) => rbytes_c h (by have := HZ.out; omega) z HZ1.out HZ2.out
  have hLen := (bytesS_len z.toNat s).1
  unfold RRB at C1 C2
  generalize (bytesS z.toNat s).1 = xs at *
  generalize (bytesS z.toNat s).2 = s2 at *
  have C1 := Lib.hid C1
  have C2 := Lib.hid C2
  have hLen := Lib.hid hLen
  refine hk_take (i := 0) (some 35) (.pointer (some ⟨g1, 0, none⟩)) (by kernel_rfl) (by kernel_rfl) (by kernel_rfl) (by kernel_rfl) (by kernel_rfl) (by kernel_rfl) (fun W hS => by kernel_rfl) (fun _ _ d _ _ h => by cases d <;> exact h) HK0.out ?_
  simp only [put_lit, put_non, List.set_cons_zero, List.set_cons_succ]
  refine hk_take (i := 1) (some 36) (.pointer (some ⟨gO, 2, none⟩)) (by kernel_rfl) (by kernel_rfl) (by kernel_rfl) (by kernel_rfl) (by kernel_rfl) (by kernel_rfl) (fun W hS => by kernel_rfl) (fun _ _ d _ _ h => by cases d <;> exact h) HK0.out ?_
  simp only [put_lit, put_non, List.set_cons_zero, List.set_cons_succ]
  refine hk_take (i := 2) (some 37) (.int .i64 z) (by kernel_rfl) (by kernel_rfl) (by kernel_rfl) (by kernel_rfl) (by kernel_rfl) (by kernel_rfl) (fun W hS => exec_part 3 36 (hS.cells.2.2) (by kernel_rfl) (by kernel_rfl) (by kernel_rfl)) (fun _ _ d _ _ h => by cases d <;> exact h) HK0.out ?_
  simp only [put_lit, put_non, List.set_cons_zero, List.set_cons_succ]
  refine hk_take (i := 5) (some 40) (.pointer (some ⟨g2, 0, none⟩)) (by kernel_rfl) (by kernel_rfl) (by kernel_rfl) (by kernel_rfl) (by kernel_rfl) (by kernel_rfl) (fun W hS => by kernel_rfl) (fun _ _ d _ _ h => by cases d <;> exact h) HK0.out ?_
  simp only [put_lit, put_non, List.set_cons_zero, List.set_cons_succ]
  refine hk_take (i := 6) (some 41) (.pointer (some ⟨gO, 2, none⟩)) (by kernel_rfl) (by kernel_rfl) (by kernel_rfl) (by kernel_rfl) (by kernel_rfl) (by kernel_rfl) (fun W hS => by kernel_rfl) (fun _ _ d _ _ h => by cases d <;> exact h) HK0.out ?_
  simp only [put_lit, put_non, List.set_cons_zero, List.set_cons_succ]
  refine hk_take (i := 7) (some 42) (.int .i64 z) (by kernel_rfl) (by kernel_rfl) (by kernel_rfl) (by kernel_rfl) (by kernel_rfl) (by kernel_rfl) (fun W hS => exec_part 3 41 (hS.cells.2.2) (by kernel_rfl) (by kernel_rfl) (by kernel_rfl)) (fun _ _ d _ _ h => by cases d <;> exact h) HK0.out ?_
  simp only [put_lit, put_non, List.set_cons_zero, List.set_cons_succ]
  refine hk_one (i := 3) (by kernel_rfl) ?_
  refine op_call (some 38) 25 #[.pointer (some ⟨g1, 0, none⟩), .int .i64 z] (by kernel_rfl) (by kernel_rfl) (by kernel_rfl) (fun w => by kernel_rfl) ?_
  refine (C1.out).mono ?_
  rintro e y1 ⟨r1, rfl, hc1, hR1, hG1⟩
  have HK1 := Lib.hid (HK0.out.grown hG1 hO1.out)
  have hR2 := Lib.hid (hR20.out.beside hR10.out hne21.out hG1)
  have hc1 := Lib.hid hc1
  have hR1 := Lib.hid hR1
  have hG1 := Lib.hid hG1
  refine ⟨_, rfl, HK1.out, ?_⟩
  refine hk_more (S2 := fun w' => HoldO w' gO k n z ∧ y1.grownBy w' (some g2)) (fun w' h => h.1) _ _ _ _ ?_
  simp only [put_lit, put_non, List.set_cons_zero, List.set_cons_succ]
  refine hk_take (i := 4) (some 39) (.string ⟨(xs).toArray⟩) (by kernel_rfl) (by kernel_rfl) (by kernel_rfl) (by kernel_rfl) (by kernel_rfl) (by kernel_rfl) (fun W hS => exec_strB 38 (hc1.out.beside hR2.out hS.2) (by kernel_rfl) (by kernel_rfl)) (fun _ _ d _ _ h => by cases d <;> exact h) ⟨HK1.out, World.grownBy.refl _ _⟩ ?_
  simp only [put_lit, put_non, List.set_cons_zero, List.set_cons_succ]
  refine hk_one (i := 8) (by kernel_rfl) ?_
  refine op_call (some 43) 38 #[.pointer (some ⟨g2, 0, none⟩), .int .i64 z] (by kernel_rfl) (by kernel_rfl) (by kernel_rfl) (fun w => by kernel_rfl) ?_
  refine (C2.out _ hR2.out).mono ?_
  rintro e y2 ⟨r2, rfl, hc2, hR22, hG2⟩
  have HK2 := Lib.hid (HK1.out.grown hG2 hO2.out)
  have hR12 := Lib.hid (hR1.out.beside hR2.out hne12.out hG2)
  have hc2 := Lib.hid hc2
  have hR22 := Lib.hid hR22
  have hG2 := Lib.hid hG2
  refine ⟨_, rfl, ⟨HK2.out, hG2.out⟩, ?_⟩
  simp only [put_lit, put_non, List.set_cons_zero, List.set_cons_succ]
  refine hk_one (i := 9) (by kernel_rfl) ?_
  refine op_do (some 44) (.string ⟨(xs).toArray⟩) _ (by kernel_rfl) (by kernel_rfl) (by kernel_rfl) (exec_strB 43 hc2.out (by kernel_rfl) (by kernel_rfl)) ?_
  refine ⟨⟨HK2.out, hG2.out⟩, ?_⟩
  simp only [put_lit, put_non, List.set_cons_zero, List.set_cons_succ]
  refine hk_take (i := 10) (some 45) (.bool true) (by kernel_rfl) (by kernel_rfl) (by kernel_rfl) (by kernel_rfl) (by kernel_rfl) (by kernel_rfl) (fun W hS => exec_eqStr 39 44 ⟨(xs).toArray⟩ (by kernel_rfl) (by kernel_rfl) (by kernel_rfl)) (fun _ _ d _ _ h => by cases d <;> exact h) ⟨HK2.out, hG2.out⟩ ?_
  simp only [put_lit, put_non, List.set_cons_zero, List.set_cons_succ]
  refine hk_take (i := 11) (some 7) (.bool true) (by kernel_rfl) (by kernel_rfl) (by kernel_rfl) (by kernel_rfl) (by kernel_rfl) (by kernel_rfl) (fun W hS => by kernel_rfl) (fun _ _ d _ _ h => by cases d <;> exact h) ⟨HK2.out, hG2.out⟩ ?_
  simp only [put_lit, put_non, List.set_cons_zero, List.set_cons_succ]
  refine hk_done (by kernel_rfl) ?_
  have BB := Lib.hid (fun B (h0 : B ≤ w.heap.size) (h3 : B ≤ g1) (h4 : B ≤ g2) => show Below B w y2 from below_of_grown (below_of_grown (hBa.out.mono h0) hG1.out (Nat.le_trans h0 hBa.out.size) h3) hG2.out (Nat.le_trans h0 (Nat.le_trans hBa.out.size hG1.out.size)) h4)
  have hSz := Lib.hid (Nat.le_trans hBa.out.size (Nat.le_trans hG1.out.size hG2.out.size))
  go_wp2_with fail
  refine hk_begin (S := fun w' => w' = y2.drew) 21 (by kernel_rfl) (by kernel_rfl) ?_
  have hD2 : Below y2.heap.size y2 y2.drew := (Below.refl _ _).drew
  have HA := Lib.hid (hR12.out.below hD2)
  have HB := Lib.hid (hR22.out.below hD2)
  have BE := Lib.hid (fun B h0 h3 h4 => (show Below B w y2.drew from (BB.out B h0 h3 h4).drew))
  have hsz := Lib.hid (show w.heap.size ≤ y2.drew.heap.size from hSz.out)
  clear hD2
  generalize y2.drew = yd at HA HB BE hsz ⊢
  obtain ⟨⟨A, m, c, hrow, hby⟩, _⟩ := HB.out
  have hn := hby.bounds.1
  have q0 := Lib.hid (show ∀ W, W = yd → W.cell? ⟨g2, 0, none⟩ = some (.slice A m c) from fun W h => by rw [h]; exact (row2_cells hrow).1)
  have q1 := Lib.hid (show ∀ W, W = yd → W.cell? ⟨g2, 1, none⟩ = some (.int .i64 s2.2) from fun W h => by rw [h]; exact (row2_cells hrow).2)
  have RE := Lib.hid (err_c HA.out)
  have RM := Lib.hid (show Calls Try.prog 21 #[.pointer (some ⟨g1, 0, none⟩)] yd (fun e w' => e = .returned (.int .i64 (m : Int)) ∧ yd = w') from by
    have h := remaining_c HA.out
    first | (rw [hn]; exact h) | (rw [← hn]; exact h))
  clear hrow hby hn
  refine hk_take (i := 0) (some 60) (.bool true) (by kernel_rfl) (by kernel_rfl) (by kernel_rfl) (by kernel_rfl) (by kernel_rfl) (by kernel_rfl) (fun W hS => by kernel_rfl) (fun _ _ d _ _ h => by cases d <;> exact h) (rfl : yd = yd) ?_
  simp only [put_lit, put_non, List.set_cons_zero, List.set_cons_succ]
  refine hk_take (i := 1) (some 61) (.bool true) (by kernel_rfl) (by kernel_rfl) (by kernel_rfl) (by kernel_rfl) (by kernel_rfl) (by kernel_rfl) (fun W hS => by kernel_rfl) (fun _ _ d _ _ h => by cases d <;> exact h) (rfl : yd = yd) ?_
  simp only [put_lit, put_non, List.set_cons_zero, List.set_cons_succ]
  refine hk_take (i := 2) (some 62) (.pointer (some ⟨g1, 0, none⟩)) (by kernel_rfl) (by kernel_rfl) (by kernel_rfl) (by kernel_rfl) (by kernel_rfl) (by kernel_rfl) (fun W hS => by kernel_rfl) (fun _ _ d _ _ h => by cases d <;> exact h) (rfl : yd = yd) ?_
  simp only [put_lit, put_non, List.set_cons_zero, List.set_cons_succ]
  refine hk_take (i := 4) (some 64) (.pointer (some ⟨g2, 0, none⟩)) (by kernel_rfl) (by kernel_rfl) (by kernel_rfl) (by kernel_rfl) (by kernel_rfl) (by kernel_rfl) (fun W hS => by kernel_rfl) (fun _ _ d _ _ h => by cases d <;> exact h) (rfl : yd = yd) ?_
  simp only [put_lit, put_non, List.set_cons_zero, List.set_cons_succ]
  refine hk_take (i := 5) (some 65) (.pointer (some ⟨g2, 0, none⟩)) (by kernel_rfl) (by kernel_rfl) (by kernel_rfl) (by kernel_rfl) (by kernel_rfl) (by kernel_rfl) (fun W hS => by kernel_rfl) (fun _ _ d _ _ h => by cases d <;> exact h) (rfl : yd = yd) ?_
  simp only [put_lit, put_non, List.set_cons_zero, List.set_cons_succ]
  refine hk_take (i := 6) (some 66) (.pointer (some ⟨g2, 1, none⟩)) (by kernel_rfl) (by kernel_rfl) (by kernel_rfl) (by kernel_rfl) (by kernel_rfl) (by kernel_rfl) (fun W hS => by kernel_rfl) (fun _ _ d _ _ h => by cases d <;> exact h) (rfl : yd = yd) ?_
  simp only [put_lit, put_non, List.set_cons_zero, List.set_cons_succ]
  refine hk_take (i := 7) (some 67) (.int .i64 s2.2) (by kernel_rfl) (by kernel_rfl) (by kernel_rfl) (by kernel_rfl) (by kernel_rfl) (by kernel_rfl) (fun W hS => exec_part 40 66 (q1.out W hS) (by kernel_rfl) (by kernel_rfl) (by kernel_rfl)) (fun _ _ d _ _ h => by cases d <;> exact h) (rfl : yd = yd) ?_
  simp only [put_lit, put_non, List.set_cons_zero, List.set_cons_succ]
  refine hk_one (i := 3) (by kernel_rfl) ?_
  refine op_call (some 63) 22 #[.pointer (some ⟨g1, 0, none⟩)] (by kernel_rfl) (by kernel_rfl) (by kernel_rfl) (fun w => by kernel_rfl) ?_
  refine (RE.out).mono ?_
  rintro e w9 ⟨rfl, rfl⟩
  refine ⟨_, rfl, (rfl : yd = yd), ?_⟩
  simp only [put_lit, put_non, List.set_cons_zero, List.set_cons_succ]
  refine hk_take (i := 8) (some 68) (.bool true) (by kernel_rfl) (by kernel_rfl) (by kernel_rfl) (by kernel_rfl) (by kernel_rfl) (by kernel_rfl) (fun W hS => exec_eqInt (T := 40) (T' := 40) (k := .i64) 63 67 s2.2 (by kernel_rfl) (by kernel_rfl) (by kernel_rfl)) (fun _ _ d _ _ h => by cases d <;> exact h) (rfl : yd = yd) ?_
  simp only [put_lit, put_non, List.set_cons_zero, List.set_cons_succ]
  refine hk_take (i := 9) (some 69) (.bool true) (by kernel_rfl) (by kernel_rfl) (by kernel_rfl) (by kernel_rfl) (by kernel_rfl) (by kernel_rfl) (fun W hS => by kernel_rfl) (fun _ _ d _ _ h => by cases d <;> exact h) (rfl : yd = yd) ?_
  simp only [put_lit, put_non, List.set_cons_zero, List.set_cons_succ]
  refine hk_take (i := 10) (some 70) (.bool true) (by kernel_rfl) (by kernel_rfl) (by kernel_rfl) (by kernel_rfl) (by kernel_rfl) (by kernel_rfl) (fun W hS => by kernel_rfl) (fun _ _ d _ _ h => by cases d <;> exact h) (rfl : yd = yd) ?_
  simp only [put_lit, put_non, List.set_cons_zero, List.set_cons_succ]
  refine hk_take (i := 11) (some 71) (.pointer (some ⟨g1, 0, none⟩)) (by kernel_rfl) (by kernel_rfl) (by kernel_rfl) (by kernel_rfl) (by kernel_rfl) (by kernel_rfl) (fun W hS => by kernel_rfl) (fun _ _ d _ _ h => by cases d <;> exact h) (rfl : yd = yd) ?_
  simp only [put_lit, put_non, List.set_cons_zero, List.set_cons_succ]
  refine hk_take (i := 13) (some 73) (.pointer (some ⟨g2, 0, none⟩)) (by kernel_rfl) (by kernel_rfl) (by kernel_rfl) (by kernel_rfl) (by kernel_rfl) (by kernel_rfl) (fun W hS => by kernel_rfl) (fun _ _ d _ _ h => by cases d <;> exact h) (rfl : yd = yd) ?_
  simp only [put_lit, put_non, List.set_cons_zero, List.set_cons_succ]
  refine hk_take (i := 14) (some 74) (.pointer (some ⟨g2, 0, none⟩)) (by kernel_rfl) (by kernel_rfl) (by kernel_rfl) (by kernel_rfl) (by kernel_rfl) (by kernel_rfl) (fun W hS => by kernel_rfl) (fun _ _ d _ _ h => by cases d <;> exact h) (rfl : yd = yd) ?_
  simp only [put_lit, put_non, List.set_cons_zero, List.set_cons_succ]
  refine hk_take (i := 15) (some 75) (.pointer (some ⟨g2, 0, none⟩)) (by kernel_rfl) (by kernel_rfl) (by kernel_rfl) (by kernel_rfl) (by kernel_rfl) (by kernel_rfl) (fun W hS => by kernel_rfl) (fun _ _ d _ _ h => by cases d <;> exact h) (rfl : yd = yd) ?_
  simp only [put_lit, put_non, List.set_cons_zero, List.set_cons_succ]
  refine hk_take (i := 16) (some 76) (.slice A m c) (by kernel_rfl) (by kernel_rfl) (by kernel_rfl) (by kernel_rfl) (by kernel_rfl) (by kernel_rfl) (fun W hS => exec_part 23 75 (q0.out W hS) (by kernel_rfl) (by kernel_rfl) (by kernel_rfl)) (fun _ _ d _ _ h => by cases d <;> exact h) (rfl : yd = yd) ?_
  simp only [put_lit, put_non, List.set_cons_zero, List.set_cons_succ]
  refine hk_take (i := 17) (some 77) (.int .i64 (m : Int)) (by kernel_rfl) (by kernel_rfl) (by kernel_rfl) (by kernel_rfl) (by kernel_rfl) (by kernel_rfl) (fun W hS => by kernel_rfl) (fun _ _ d _ _ h => by cases d <;> exact h) (rfl : yd = yd) ?_
  simp only [put_lit, put_non, List.set_cons_zero, List.set_cons_succ]
  refine hk_one (i := 12) (by kernel_rfl) ?_
  refine op_call (some 72) 21 #[.pointer (some ⟨g1, 0, none⟩)] (by kernel_rfl) (by kernel_rfl) (by kernel_rfl) (fun w => by kernel_rfl) ?_
  refine (RM.out).mono ?_
  rintro e w9 ⟨rfl, rfl⟩
  refine ⟨_, rfl, (rfl : yd = yd), ?_⟩
  simp only [put_lit, put_non, List.set_cons_zero, List.set_cons_succ]
  refine hk_take (i := 18) (some 78) (.bool true) (by kernel_rfl) (by kernel_rfl) (by kernel_rfl) (by kernel_rfl) (by kernel_rfl) (by kernel_rfl) (fun W hS => exec_eqInt (T := 3) (T' := 3) (k := .i64) 72 77 (m : Int) (by kernel_rfl) (by kernel_rfl) (by kernel_rfl)) (fun _ _ d _ _ h => by cases d <;> exact h) (rfl : yd = yd) ?_
  simp only [put_lit, put_non, List.set_cons_zero, List.set_cons_succ]
  refine hk_take (i := 19) (some 79) (.bool true) (by kernel_rfl) (by kernel_rfl) (by kernel_rfl) (by kernel_rfl) (by kernel_rfl) (by kernel_rfl) (fun W hS => by kernel_rfl) (fun _ _ d _ _ h => by cases d <;> exact h) (rfl : yd = yd) ?_
  simp only [put_lit, put_non, List.set_cons_zero, List.set_cons_succ]
  refine hk_take (i := 20) (some 6) (.bool true) (by kernel_rfl) (by kernel_rfl) (by kernel_rfl) (by kernel_rfl) (by kernel_rfl) (by kernel_rfl) (fun W hS => by kernel_rfl) (fun _ _ d _ _ h => by cases d <;> exact h) (rfl : yd = yd) ?_
  simp only [put_lit, put_non, List.set_cons_zero, List.set_cons_succ]
  refine hk_done (by kernel_rfl) ?_
  go_wp2_with fail
  go_ret
  exact ⟨s2, rfl, hLen.out, HA.out, HB.out, hsz.out, BE.out⟩
set_option maxRecDepth 20000 in
set_option maxHeartbeats 16000000 in
theorem step_4 {w : World} {g1 g2 : Nat} {s : RS} (h1 : Rdr 66 w g1 s) (h2 : Rdr 42 w g2 s) (hne : g1 ≠ g2) (hz : s.1.length ≤ 1000000) (k n : Nat) (hk : k < 256) (hn : n < 18446744073709551616) (z : Int) (hb1 : -9223372036854775808 ≤ z) (hb2 : z ≤ 9223372036854775807) (hk5 : k % 5 = 4) :
    Calls Try.prog 23 #[.pointer (some ⟨g1, 0, none⟩), .pointer (some ⟨g2, 0, none⟩), .agg #[.int .u8 (k : Int), .int .u64 (n : Int), .int .i64 z]] w (RStep w g1 g2 s) := by
  have hki : Int.tmod (k : Int) 5 = 4 := by
    rw [Int.tmod_eq_emod_of_nonneg (by omega)]
    omega
  have hBa := Lib.hid ((Below.refl w.heap.size w).alloc (Nat.le_refl _) (.cells #[.int .u8 (k : Int), .int .u64 (n : Int), .int .i64 z] 47))
  have HK := HoldO.new w k n z
  have hgl1 := h1.lt
  have hgl2 := h2.lt
  have hO1 := Lib.hid (show g1 ≠ w.heap.size by omega)
  have hO2 := Lib.hid (show g2 ≠ w.heap.size by omega)
  have hne12 := Lib.hid hne
  have hne21 := Lib.hid (Ne.symm hne)
  have hR1a := h1.below hBa.out
  have hR2a := h2.below hBa.out
  obtain ⟨c0, c1, c2⟩ := HK.cells
  have HZ := Lib.hid hz
  have HN := Lib.hid hn
  have HZ1 := Lib.hid hb1
  have HZ2 := Lib.hid hb2
  have hks : (0 : Int) ≤ k := by omega
  clear h1 h2 hgl1 hgl2 hne hz hn hb1 hb2 hk hk5
  go_enter Try.func23, Try.ntmps23
  go_wp2_with fail
  have hD : Below (w.alloc (.cells #[.int .u8 (k : Int), .int .u64 (n : Int), .int .i64 z] 47)).heap.size (w.alloc (.cells #[.int .u8 (k : Int), .int .u64 (n : Int), .int .i64 z] 47)) (w.alloc (.cells #[.int .u8 (k : Int), .int .u64 (n : Int), .int .i64 z] 47)).drew := (Below.refl _ _).drew
  have HK0 := HK.below hD
  have hR10 := Lib.hid (hR1a.below hD)
  have hR20 := Lib.hid (hR2a.below hD)
  have hBa := Lib.hid hBa.out.drew
  refine hk_begin (S := fun w' => HoldO w' w.heap.size k n z) 12 (by kernel_rfl) (by kernel_rfl) ?_
  generalize (w.alloc (.cells #[.int .u8 (k : Int), .int .u64 (n : Int), .int .i64 z] 47)).drew = y0 at HK0 hR10 hR20 hBa ⊢
  generalize hgO : w.heap.size = gO at HK0 hO1 hO2 ⊢
  have HK0 := Lib.hid HK0
  clear hD HK hR1a hR2a c0 c1 c2 hki hks
  have C1 := raw_c hR10.out (by have := HZ.out; omega) z HZ1.out HZ2.out
  have C2 := fun W (h : Rdr 42 W g2 s) => rraw_c h (by have := HZ.out; omega) z HZ1.out HZ2.out
  have hLen := (rawS_len z.toNat s).1
  unfold RRB at C1 C2
  generalize (rawS z.toNat s).1 = xs at *
  generalize (rawS z.toNat s).2 = s2 at *
  have C1 := Lib.hid C1
  have C2 := Lib.hid C2
  have hLen := Lib.hid hLen
  refine hk_take (i := 0) (some 11) (.pointer (some ⟨g1, 0, none⟩)) (by kernel_rfl) (by kernel_rfl) (by kernel_rfl) (by kernel_rfl) (by kernel_rfl) (by kernel_rfl) (fun W hS => by kernel_rfl) (fun _ _ d _ _ h => by cases d <;> exact h) HK0.out ?_
  simp only [put_lit, put_non, List.set_cons_zero, List.set_cons_succ]
  refine hk_take (i := 1) (some 12) (.pointer (some ⟨gO, 2, none⟩)) (by kernel_rfl) (by kernel_rfl) (by kernel_rfl) (by kernel_rfl) (by kernel_rfl) (by kernel_rfl) (fun W hS => by kernel_rfl) (fun _ _ d _ _ h => by cases d <;> exact h) HK0.out ?_
  simp only [put_lit, put_non, List.set_cons_zero, List.set_cons_succ]
  refine hk_take (i := 2) (some 13) (.int .i64 z) (by kernel_rfl) (by kernel_rfl) (by kernel_rfl) (by kernel_rfl) (by kernel_rfl) (by kernel_rfl) (fun W hS => exec_part 3 12 (hS.cells.2.2) (by kernel_rfl) (by kernel_rfl) (by kernel_rfl)) (fun _ _ d _ _ h => by cases d <;> exact h) HK0.out ?_
  simp only [put_lit, put_non, List.set_cons_zero, List.set_cons_succ]
  refine hk_take (i := 5) (some 16) (.pointer (some ⟨g2, 0, none⟩)) (by kernel_rfl) (by kernel_rfl) (by kernel_rfl) (by kernel_rfl) (by kernel_rfl) (by kernel_rfl) (fun W hS => by kernel_rfl) (fun _ _ d _ _ h => by cases d <;> exact h) HK0.out ?_
  simp only [put_lit, put_non, List.set_cons_zero, List.set_cons_succ]
  refine hk_take (i := 6) (some 17) (.pointer (some ⟨gO, 2, none⟩)) (by kernel_rfl) (by kernel_rfl) (by kernel_rfl) (by kernel_rfl) (by kernel_rfl) (by kernel_rfl) (fun W hS => by kernel_rfl) (fun _ _ d _ _ h => by cases d <;> exact h) HK0.out ?_
  simp only [put_lit, put_non, List.set_cons_zero, List.set_cons_succ]
  refine hk_take (i := 7) (some 18) (.int .i64 z) (by kernel_rfl) (by kernel_rfl) (by kernel_rfl) (by kernel_rfl) (by kernel_rfl) (by kernel_rfl) (fun W hS => exec_part 3 17 (hS.cells.2.2) (by kernel_rfl) (by kernel_rfl) (by kernel_rfl)) (fun _ _ d _ _ h => by cases d <;> exact h) HK0.out ?_
  simp only [put_lit, put_non, List.set_cons_zero, List.set_cons_succ]
  refine hk_one (i := 3) (by kernel_rfl) ?_
  refine op_call (some 14) 32 #[.pointer (some ⟨g1, 0, none⟩), .int .i64 z] (by kernel_rfl) (by kernel_rfl) (by kernel_rfl) (fun w => by kernel_rfl) ?_
  refine (C1.out).mono ?_
  rintro e y1 ⟨r1, rfl, hc1, hR1, hG1⟩
  have HK1 := Lib.hid (HK0.out.grown hG1 hO1.out)
  have hR2 := Lib.hid (hR20.out.beside hR10.out hne21.out hG1)
  have hc1 := Lib.hid hc1
  have hR1 := Lib.hid hR1
  have hG1 := Lib.hid hG1
  refine ⟨_, rfl, HK1.out, ?_⟩
  refine hk_more (S2 := fun w' => HoldO w' gO k n z ∧ y1.grownBy w' (some g2)) (fun w' h => h.1) _ _ _ _ ?_
  simp only [put_lit, put_non, List.set_cons_zero, List.set_cons_succ]
  refine hk_take (i := 4) (some 15) (.string ⟨(xs).toArray⟩) (by kernel_rfl) (by kernel_rfl) (by kernel_rfl) (by kernel_rfl) (by kernel_rfl) (by kernel_rfl) (fun W hS => exec_strB 14 (hc1.out.beside hR2.out hS.2) (by kernel_rfl) (by kernel_rfl)) (fun _ _ d _ _ h => by cases d <;> exact h) ⟨HK1.out, World.grownBy.refl _ _⟩ ?_
  simp only [put_lit, put_non, List.set_cons_zero, List.set_cons_succ]
  refine hk_one (i := 8) (by kernel_rfl) ?_
  refine op_call (some 19) 41 #[.pointer (some ⟨g2, 0, none⟩), .int .i64 z] (by kernel_rfl) (by kernel_rfl) (by kernel_rfl) (fun w => by kernel_rfl) ?_
  refine (C2.out _ hR2.out).mono ?_
  rintro e y2 ⟨r2, rfl, hc2, hR22, hG2⟩
  have HK2 := Lib.hid (HK1.out.grown hG2 hO2.out)
  have hR12 := Lib.hid (hR1.out.beside hR2.out hne12.out hG2)
  have hc2 := Lib.hid hc2
  have hR22 := Lib.hid hR22
  have hG2 := Lib.hid hG2
  refine ⟨_, rfl, ⟨HK2.out, hG2.out⟩, ?_⟩
  simp only [put_lit, put_non, List.set_cons_zero, List.set_cons_succ]
  refine hk_one (i := 9) (by kernel_rfl) ?_
  refine op_do (some 20) (.string ⟨(xs).toArray⟩) _ (by kernel_rfl) (by kernel_rfl) (by kernel_rfl) (exec_strB 19 hc2.out (by kernel_rfl) (by kernel_rfl)) ?_
  refine ⟨⟨HK2.out, hG2.out⟩, ?_⟩
  simp only [put_lit, put_non, List.set_cons_zero, List.set_cons_succ]
  refine hk_take (i := 10) (some 21) (.bool true) (by kernel_rfl) (by kernel_rfl) (by kernel_rfl) (by kernel_rfl) (by kernel_rfl) (by kernel_rfl) (fun W hS => exec_eqStr 15 20 ⟨(xs).toArray⟩ (by kernel_rfl) (by kernel_rfl) (by kernel_rfl)) (fun _ _ d _ _ h => by cases d <;> exact h) ⟨HK2.out, hG2.out⟩ ?_
  simp only [put_lit, put_non, List.set_cons_zero, List.set_cons_succ]
  refine hk_take (i := 11) (some 7) (.bool true) (by kernel_rfl) (by kernel_rfl) (by kernel_rfl) (by kernel_rfl) (by kernel_rfl) (by kernel_rfl) (fun W hS => by kernel_rfl) (fun _ _ d _ _ h => by cases d <;> exact h) ⟨HK2.out, hG2.out⟩ ?_
  simp only [put_lit, put_non, List.set_cons_zero, List.set_cons_succ]
  refine hk_done (by kernel_rfl) ?_
  have BB := Lib.hid (fun B (h0 : B ≤ w.heap.size) (h3 : B ≤ g1) (h4 : B ≤ g2) => show Below B w y2 from below_of_grown (below_of_grown (hBa.out.mono h0) hG1.out (Nat.le_trans h0 hBa.out.size) h3) hG2.out (Nat.le_trans h0 (Nat.le_trans hBa.out.size hG1.out.size)) h4)
  have hSz := Lib.hid (Nat.le_trans hBa.out.size (Nat.le_trans hG1.out.size hG2.out.size))
  go_wp2_with fail
  refine hk_begin (S := fun w' => w' = y2.drew) 21 (by kernel_rfl) (by kernel_rfl) ?_
  have hD2 : Below y2.heap.size y2 y2.drew := (Below.refl _ _).drew
  have HA := Lib.hid (hR12.out.below hD2)
  have HB := Lib.hid (hR22.out.below hD2)
  have BE := Lib.hid (fun B h0 h3 h4 => (show Below B w y2.drew from (BB.out B h0 h3 h4).drew))
  have hsz := Lib.hid (show w.heap.size ≤ y2.drew.heap.size from hSz.out)
  clear hD2
  generalize y2.drew = yd at HA HB BE hsz ⊢
  obtain ⟨⟨A, m, c, hrow, hby⟩, _⟩ := HB.out
  have hn := hby.bounds.1
  have q0 := Lib.hid (show ∀ W, W = yd → W.cell? ⟨g2, 0, none⟩ = some (.slice A m c) from fun W h => by rw [h]; exact (row2_cells hrow).1)
  have q1 := Lib.hid (show ∀ W, W = yd → W.cell? ⟨g2, 1, none⟩ = some (.int .i64 s2.2) from fun W h => by rw [h]; exact (row2_cells hrow).2)
  have RE := Lib.hid (err_c HA.out)
  have RM := Lib.hid (show Calls Try.prog 21 #[.pointer (some ⟨g1, 0, none⟩)] yd (fun e w' => e = .returned (.int .i64 (m : Int)) ∧ yd = w') from by
    have h := remaining_c HA.out
    first | (rw [hn]; exact h) | (rw [← hn]; exact h))
  clear hrow hby hn
  refine hk_take (i := 0) (some 60) (.bool true) (by kernel_rfl) (by kernel_rfl) (by kernel_rfl) (by kernel_rfl) (by kernel_rfl) (by kernel_rfl) (fun W hS => by kernel_rfl) (fun _ _ d _ _ h => by cases d <;> exact h) (rfl : yd = yd) ?_
  simp only [put_lit, put_non, List.set_cons_zero, List.set_cons_succ]
  refine hk_take (i := 1) (some 61) (.bool true) (by kernel_rfl) (by kernel_rfl) (by kernel_rfl) (by kernel_rfl) (by kernel_rfl) (by kernel_rfl) (fun W hS => by kernel_rfl) (fun _ _ d _ _ h => by cases d <;> exact h) (rfl : yd = yd) ?_
  simp only [put_lit, put_non, List.set_cons_zero, List.set_cons_succ]
  refine hk_take (i := 2) (some 62) (.pointer (some ⟨g1, 0, none⟩)) (by kernel_rfl) (by kernel_rfl) (by kernel_rfl) (by kernel_rfl) (by kernel_rfl) (by kernel_rfl) (fun W hS => by kernel_rfl) (fun _ _ d _ _ h => by cases d <;> exact h) (rfl : yd = yd) ?_
  simp only [put_lit, put_non, List.set_cons_zero, List.set_cons_succ]
  refine hk_take (i := 4) (some 64) (.pointer (some ⟨g2, 0, none⟩)) (by kernel_rfl) (by kernel_rfl) (by kernel_rfl) (by kernel_rfl) (by kernel_rfl) (by kernel_rfl) (fun W hS => by kernel_rfl) (fun _ _ d _ _ h => by cases d <;> exact h) (rfl : yd = yd) ?_
  simp only [put_lit, put_non, List.set_cons_zero, List.set_cons_succ]
  refine hk_take (i := 5) (some 65) (.pointer (some ⟨g2, 0, none⟩)) (by kernel_rfl) (by kernel_rfl) (by kernel_rfl) (by kernel_rfl) (by kernel_rfl) (by kernel_rfl) (fun W hS => by kernel_rfl) (fun _ _ d _ _ h => by cases d <;> exact h) (rfl : yd = yd) ?_
  simp only [put_lit, put_non, List.set_cons_zero, List.set_cons_succ]
  refine hk_take (i := 6) (some 66) (.pointer (some ⟨g2, 1, none⟩)) (by kernel_rfl) (by kernel_rfl) (by kernel_rfl) (by kernel_rfl) (by kernel_rfl) (by kernel_rfl) (fun W hS => by kernel_rfl) (fun _ _ d _ _ h => by cases d <;> exact h) (rfl : yd = yd) ?_
  simp only [put_lit, put_non, List.set_cons_zero, List.set_cons_succ]
  refine hk_take (i := 7) (some 67) (.int .i64 s2.2) (by kernel_rfl) (by kernel_rfl) (by kernel_rfl) (by kernel_rfl) (by kernel_rfl) (by kernel_rfl) (fun W hS => exec_part 40 66 (q1.out W hS) (by kernel_rfl) (by kernel_rfl) (by kernel_rfl)) (fun _ _ d _ _ h => by cases d <;> exact h) (rfl : yd = yd) ?_
  simp only [put_lit, put_non, List.set_cons_zero, List.set_cons_succ]
  refine hk_one (i := 3) (by kernel_rfl) ?_
  refine op_call (some 63) 22 #[.pointer (some ⟨g1, 0, none⟩)] (by kernel_rfl) (by kernel_rfl) (by kernel_rfl) (fun w => by kernel_rfl) ?_
  refine (RE.out).mono ?_
  rintro e w9 ⟨rfl, rfl⟩
  refine ⟨_, rfl, (rfl : yd = yd), ?_⟩
  simp only [put_lit, put_non, List.set_cons_zero, List.set_cons_succ]
  refine hk_take (i := 8) (some 68) (.bool true) (by kernel_rfl) (by kernel_rfl) (by kernel_rfl) (by kernel_rfl) (by kernel_rfl) (by kernel_rfl) (fun W hS => exec_eqInt (T := 40) (T' := 40) (k := .i64) 63 67 s2.2 (by kernel_rfl) (by kernel_rfl) (by kernel_rfl)) (fun _ _ d _ _ h => by cases d <;> exact h) (rfl : yd = yd) ?_
  simp only [put_lit, put_non, List.set_cons_zero, List.set_cons_succ]
  refine hk_take (i := 9) (some 69) (.bool true) (by kernel_rfl) (by kernel_rfl) (by kernel_rfl) (by kernel_rfl) (by kernel_rfl) (by kernel_rfl) (fun W hS => by kernel_rfl) (fun _ _ d _ _ h => by cases d <;> exact h) (rfl : yd = yd) ?_
  simp only [put_lit, put_non, List.set_cons_zero, List.set_cons_succ]
  refine hk_take (i := 10) (some 70) (.bool true) (by kernel_rfl) (by kernel_rfl) (by kernel_rfl) (by kernel_rfl) (by kernel_rfl) (by kernel_rfl) (fun W hS => by kernel_rfl) (fun _ _ d _ _ h => by cases d <;> exact h) (rfl : yd = yd) ?_
  simp only [put_lit, put_non, List.set_cons_zero, List.set_cons_succ]
  refine hk_take (i := 11) (some 71) (.pointer (some ⟨g1, 0, none⟩)) (by kernel_rfl) (by kernel_rfl) (by kernel_rfl) (by kernel_rfl) (by kernel_rfl) (by kernel_rfl) (fun W hS => by kernel_rfl) (fun _ _ d _ _ h => by cases d <;> exact h) (rfl : yd = yd) ?_
  simp only [put_lit, put_non, List.set_cons_zero, List.set_cons_succ]
  refine hk_take (i := 13) (some 73) (.pointer (some ⟨g2, 0, none⟩)) (by kernel_rfl) (by kernel_rfl) (by kernel_rfl) (by kernel_rfl) (by kernel_rfl) (by kernel_rfl) (fun W hS => by kernel_rfl) (fun _ _ d _ _ h => by cases d <;> exact h) (rfl : yd = yd) ?_
  simp only [put_lit, put_non, List.set_cons_zero, List.set_cons_succ]
  refine hk_take (i := 14) (some 74) (.pointer (some ⟨g2, 0, none⟩)) (by kernel_rfl) (by kernel_rfl) (by kernel_rfl) (by kernel_rfl) (by kernel_rfl) (by kernel_rfl) (fun W hS => by kernel_rfl) (fun _ _ d _ _ h => by cases d <;> exact h) (rfl : yd = yd) ?_
  simp only [put_lit, put_non, List.set_cons_zero, List.set_cons_succ]
  refine hk_take (i := 15) (some 75) (.pointer (some ⟨g2, 0, none⟩)) (by kernel_rfl) (by kernel_rfl) (by kernel_rfl) (by kernel_rfl) (by kernel_rfl) (by kernel_rfl) (fun W hS => by kernel_rfl) (fun _ _ d _ _ h => by cases d <;> exact h) (rfl : yd = yd) ?_
  simp only [put_lit, put_non, List.set_cons_zero, List.set_cons_succ]
  refine hk_take (i := 16) (some 76) (.slice A m c) (by kernel_rfl) (by kernel_rfl) (by kernel_rfl) (by kernel_rfl) (by kernel_rfl) (by kernel_rfl) (fun W hS => exec_part 23 75 (q0.out W hS) (by kernel_rfl) (by kernel_rfl) (by kernel_rfl)) (fun _ _ d _ _ h => by cases d <;> exact h) (rfl : yd = yd) ?_
  simp only [put_lit, put_non, List.set_cons_zero, List.set_cons_succ]
  refine hk_take (i := 17) (some 77) (.int .i64 (m : Int)) (by kernel_rfl) (by kernel_rfl) (by kernel_rfl) (by kernel_rfl) (by kernel_rfl) (by kernel_rfl) (fun W hS => by kernel_rfl) (fun _ _ d _ _ h => by cases d <;> exact h) (rfl : yd = yd) ?_
  simp only [put_lit, put_non, List.set_cons_zero, List.set_cons_succ]
  refine hk_one (i := 12) (by kernel_rfl) ?_
  refine op_call (some 72) 21 #[.pointer (some ⟨g1, 0, none⟩)] (by kernel_rfl) (by kernel_rfl) (by kernel_rfl) (fun w => by kernel_rfl) ?_
  refine (RM.out).mono ?_
  rintro e w9 ⟨rfl, rfl⟩
  refine ⟨_, rfl, (rfl : yd = yd), ?_⟩
  simp only [put_lit, put_non, List.set_cons_zero, List.set_cons_succ]
  refine hk_take (i := 18) (some 78) (.bool true) (by kernel_rfl) (by kernel_rfl) (by kernel_rfl) (by kernel_rfl) (by kernel_rfl) (by kernel_rfl) (fun W hS => exec_eqInt (T := 3) (T' := 3) (k := .i64) 72 77 (m : Int) (by kernel_rfl) (by kernel_rfl) (by kernel_rfl)) (fun _ _ d _ _ h => by cases d <;> exact h) (rfl : yd = yd) ?_
  simp only [put_lit, put_non, List.set_cons_zero, List.set_cons_succ]
  refine hk_take (i := 19) (some 79) (.bool true) (by kernel_rfl) (by kernel_rfl) (by kernel_rfl) (by kernel_rfl) (by kernel_rfl) (by kernel_rfl) (fun W hS => by kernel_rfl) (fun _ _ d _ _ h => by cases d <;> exact h) (rfl : yd = yd) ?_
  simp only [put_lit, put_non, List.set_cons_zero, List.set_cons_succ]
  refine hk_take (i := 20) (some 6) (.bool true) (by kernel_rfl) (by kernel_rfl) (by kernel_rfl) (by kernel_rfl) (by kernel_rfl) (by kernel_rfl) (fun W hS => by kernel_rfl) (fun _ _ d _ _ h => by cases d <;> exact h) (rfl : yd = yd) ?_
  simp only [put_lit, put_non, List.set_cons_zero, List.set_cons_succ]
  refine hk_done (by kernel_rfl) ?_
  go_wp2_with fail
  go_ret
  exact ⟨s2, rfl, hLen.out, HA.out, HB.out, hsz.out, BE.out⟩
set_option maxRecDepth 20000 in
set_option maxHeartbeats 16000000 in
theorem step_2 {w : World} {g1 g2 : Nat} {s : RS} (h1 : Rdr 66 w g1 s) (h2 : Rdr 42 w g2 s) (hne : g1 ≠ g2) (hz : s.1.length ≤ 1000000) (k n : Nat) (hk : k < 256) (hn : n < 18446744073709551616) (z : Int) (hb1 : -9223372036854775808 ≤ z) (hb2 : z ≤ 9223372036854775807) (hk5 : k % 5 = 2) :
    Calls Try.prog 23 #[.pointer (some ⟨g1, 0, none⟩), .pointer (some ⟨g2, 0, none⟩), .agg #[.int .u8 (k : Int), .int .u64 (n : Int), .int .i64 z]] w (RStep w g1 g2 s) := by
  have hki : Int.tmod (k : Int) 5 = 2 := by
    rw [Int.tmod_eq_emod_of_nonneg (by omega)]
    omega
  have hBa := Lib.hid ((Below.refl w.heap.size w).alloc (Nat.le_refl _) (.cells #[.int .u8 (k : Int), .int .u64 (n : Int), .int .i64 z] 47))
  have HK := HoldO.new w k n z
  have hgl1 := h1.lt
  have hgl2 := h2.lt
  have hO1 := Lib.hid (show g1 ≠ w.heap.size by omega)
  have hO2 := Lib.hid (show g2 ≠ w.heap.size by omega)
  have hne12 := Lib.hid hne
  have hne21 := Lib.hid (Ne.symm hne)
  have hR1a := h1.below hBa.out
  have hR2a := h2.below hBa.out
  obtain ⟨c0, c1, c2⟩ := HK.cells
  have HZ := Lib.hid hz
  have HN := Lib.hid hn
  have HZ1 := Lib.hid hb1
  have HZ2 := Lib.hid hb2
  have hks : (0 : Int) ≤ k := by omega
  clear h1 h2 hgl1 hgl2 hne hz hn hb1 hb2 hk hk5
  go_enter Try.func23, Try.ntmps23
  go_wp2_with fail
  generalize w.alloc (.cells #[.int .u8 (k : Int), .int .u64 (n : Int), .int .i64 z] 47) = y0 at hBa hR1a hR2a ⊢
  have hR10 := Lib.hid hR1a
  have hR20 := Lib.hid hR2a
  have C1 := nat_c hR10.out (by have := HZ.out; omega)
  have C2 := fun W (h : Rdr 42 W g2 s) => rnat_c h (by have := HZ.out; omega)
  have hLen := natS_len s
  unfold RRN at C1 C2
  generalize (natS s).1 = xs at *
  generalize (natS s).2 = s2 at *
  have C1 := Lib.hid C1
  have C2 := Lib.hid C2
  have hLen := Lib.hid hLen
  clear HK c0 c1 c2 hki hks hR1a hR2a
  refine (C1.out).mono ?_
  rintro e y1 ⟨r1, rfl, hc1, hR1, hG1⟩
  have hR2 := Lib.hid (hR20.out.beside hR10.out hne21.out hG1)
  have hc1 := Lib.hid hc1
  have hR1 := Lib.hid hR1
  have hG1 := Lib.hid hG1
  go_wp2_with fail
  refine (C2.out _ hR2.out).mono ?_
  rintro e yb ⟨r2, rfl, hc2, hR22, hG2⟩
  have hR12 := Lib.hid (hR1.out.beside hR2.out hne12.out hG2)
  have NS := Lib.hid (num_same (hc1.out.beside hR2.out hG2) hc2)
  have hR22 := Lib.hid hR22
  have hG2 := Lib.hid hG2
  clear hc1 hc2
  go_wp2_with fail
  refine (NS.out).mono ?_
  rintro e y2 ⟨rfl, hB⟩
  have hR12 := Lib.hid (hR12.out.below hB)
  have hR22 := Lib.hid (hR22.out.below hB)
  have hS0 := Lib.hid (Nat.le_trans hBa.out.size (Nat.le_trans hG1.out.size hG2.out.size))
  have BB := Lib.hid (fun B (h0 : B ≤ w.heap.size) (h3 : B ≤ g1) (h4 : B ≤ g2) => show Below B w y2 from (below_of_grown (below_of_grown (hBa.out.mono h0) hG1.out (Nat.le_trans h0 hBa.out.size) h3) hG2.out (Nat.le_trans h0 (Nat.le_trans hBa.out.size hG1.out.size)) h4).trans (hB.mono (Nat.le_trans h0 hS0.out)))
  have hSz := Lib.hid (Nat.le_trans hS0.out hB.size)
  clear hB
  go_wp2_with fail
  refine hk_begin (S := fun w' => w' = y2.drew) 21 (by kernel_rfl) (by kernel_rfl) ?_
  have hD2 : Below y2.heap.size y2 y2.drew := (Below.refl _ _).drew
  have HA := Lib.hid (hR12.out.below hD2)
  have HB := Lib.hid (hR22.out.below hD2)
  have BE := Lib.hid (fun B h0 h3 h4 => (show Below B w y2.drew from (BB.out B h0 h3 h4).drew))
  have hsz := Lib.hid (show w.heap.size ≤ y2.drew.heap.size from hSz.out)
  clear hD2
  generalize y2.drew = yd at HA HB BE hsz ⊢
  obtain ⟨⟨A, m, c, hrow, hby⟩, _⟩ := HB.out
  have hn := hby.bounds.1
  have q0 := Lib.hid (show ∀ W, W = yd → W.cell? ⟨g2, 0, none⟩ = some (.slice A m c) from fun W h => by rw [h]; exact (row2_cells hrow).1)
  have q1 := Lib.hid (show ∀ W, W = yd → W.cell? ⟨g2, 1, none⟩ = some (.int .i64 s2.2) from fun W h => by rw [h]; exact (row2_cells hrow).2)
  have RE := Lib.hid (err_c HA.out)
  have RM := Lib.hid (show Calls Try.prog 21 #[.pointer (some ⟨g1, 0, none⟩)] yd (fun e w' => e = .returned (.int .i64 (m : Int)) ∧ yd = w') from by
    have h := remaining_c HA.out
    first | (rw [hn]; exact h) | (rw [← hn]; exact h))
  clear hrow hby hn
  refine hk_take (i := 0) (some 60) (.bool true) (by kernel_rfl) (by kernel_rfl) (by kernel_rfl) (by kernel_rfl) (by kernel_rfl) (by kernel_rfl) (fun W hS => by kernel_rfl) (fun _ _ d _ _ h => by cases d <;> exact h) (rfl : yd = yd) ?_
  simp only [put_lit, put_non, List.set_cons_zero, List.set_cons_succ]
  refine hk_take (i := 1) (some 61) (.bool true) (by kernel_rfl) (by kernel_rfl) (by kernel_rfl) (by kernel_rfl) (by kernel_rfl) (by kernel_rfl) (fun W hS => by kernel_rfl) (fun _ _ d _ _ h => by cases d <;> exact h) (rfl : yd = yd) ?_
  simp only [put_lit, put_non, List.set_cons_zero, List.set_cons_succ]
  refine hk_take (i := 2) (some 62) (.pointer (some ⟨g1, 0, none⟩)) (by kernel_rfl) (by kernel_rfl) (by kernel_rfl) (by kernel_rfl) (by kernel_rfl) (by kernel_rfl) (fun W hS => by kernel_rfl) (fun _ _ d _ _ h => by cases d <;> exact h) (rfl : yd = yd) ?_
  simp only [put_lit, put_non, List.set_cons_zero, List.set_cons_succ]
  refine hk_take (i := 4) (some 64) (.pointer (some ⟨g2, 0, none⟩)) (by kernel_rfl) (by kernel_rfl) (by kernel_rfl) (by kernel_rfl) (by kernel_rfl) (by kernel_rfl) (fun W hS => by kernel_rfl) (fun _ _ d _ _ h => by cases d <;> exact h) (rfl : yd = yd) ?_
  simp only [put_lit, put_non, List.set_cons_zero, List.set_cons_succ]
  refine hk_take (i := 5) (some 65) (.pointer (some ⟨g2, 0, none⟩)) (by kernel_rfl) (by kernel_rfl) (by kernel_rfl) (by kernel_rfl) (by kernel_rfl) (by kernel_rfl) (fun W hS => by kernel_rfl) (fun _ _ d _ _ h => by cases d <;> exact h) (rfl : yd = yd) ?_
  simp only [put_lit, put_non, List.set_cons_zero, List.set_cons_succ]
  refine hk_take (i := 6) (some 66) (.pointer (some ⟨g2, 1, none⟩)) (by kernel_rfl) (by kernel_rfl) (by kernel_rfl) (by kernel_rfl) (by kernel_rfl) (by kernel_rfl) (fun W hS => by kernel_rfl) (fun _ _ d _ _ h => by cases d <;> exact h) (rfl : yd = yd) ?_
  simp only [put_lit, put_non, List.set_cons_zero, List.set_cons_succ]
  refine hk_take (i := 7) (some 67) (.int .i64 s2.2) (by kernel_rfl) (by kernel_rfl) (by kernel_rfl) (by kernel_rfl) (by kernel_rfl) (by kernel_rfl) (fun W hS => exec_part 40 66 (q1.out W hS) (by kernel_rfl) (by kernel_rfl) (by kernel_rfl)) (fun _ _ d _ _ h => by cases d <;> exact h) (rfl : yd = yd) ?_
  simp only [put_lit, put_non, List.set_cons_zero, List.set_cons_succ]
  refine hk_one (i := 3) (by kernel_rfl) ?_
  refine op_call (some 63) 22 #[.pointer (some ⟨g1, 0, none⟩)] (by kernel_rfl) (by kernel_rfl) (by kernel_rfl) (fun w => by kernel_rfl) ?_
  refine (RE.out).mono ?_
  rintro e w9 ⟨rfl, rfl⟩
  refine ⟨_, rfl, (rfl : yd = yd), ?_⟩
  simp only [put_lit, put_non, List.set_cons_zero, List.set_cons_succ]
  refine hk_take (i := 8) (some 68) (.bool true) (by kernel_rfl) (by kernel_rfl) (by kernel_rfl) (by kernel_rfl) (by kernel_rfl) (by kernel_rfl) (fun W hS => exec_eqInt (T := 40) (T' := 40) (k := .i64) 63 67 s2.2 (by kernel_rfl) (by kernel_rfl) (by kernel_rfl)) (fun _ _ d _ _ h => by cases d <;> exact h) (rfl : yd = yd) ?_
  simp only [put_lit, put_non, List.set_cons_zero, List.set_cons_succ]
  refine hk_take (i := 9) (some 69) (.bool true) (by kernel_rfl) (by kernel_rfl) (by kernel_rfl) (by kernel_rfl) (by kernel_rfl) (by kernel_rfl) (fun W hS => by kernel_rfl) (fun _ _ d _ _ h => by cases d <;> exact h) (rfl : yd = yd) ?_
  simp only [put_lit, put_non, List.set_cons_zero, List.set_cons_succ]
  refine hk_take (i := 10) (some 70) (.bool true) (by kernel_rfl) (by kernel_rfl) (by kernel_rfl) (by kernel_rfl) (by kernel_rfl) (by kernel_rfl) (fun W hS => by kernel_rfl) (fun _ _ d _ _ h => by cases d <;> exact h) (rfl : yd = yd) ?_
  simp only [put_lit, put_non, List.set_cons_zero, List.set_cons_succ]
  refine hk_take (i := 11) (some 71) (.pointer (some ⟨g1, 0, none⟩)) (by kernel_rfl) (by kernel_rfl) (by kernel_rfl) (by kernel_rfl) (by kernel_rfl) (by kernel_rfl) (fun W hS => by kernel_rfl) (fun _ _ d _ _ h => by cases d <;> exact h) (rfl : yd = yd) ?_
  simp only [put_lit, put_non, List.set_cons_zero, List.set_cons_succ]
  refine hk_take (i := 13) (some 73) (.pointer (some ⟨g2, 0, none⟩)) (by kernel_rfl) (by kernel_rfl) (by kernel_rfl) (by kernel_rfl) (by kernel_rfl) (by kernel_rfl) (fun W hS => by kernel_rfl) (fun _ _ d _ _ h => by cases d <;> exact h) (rfl : yd = yd) ?_
  simp only [put_lit, put_non, List.set_cons_zero, List.set_cons_succ]
  refine hk_take (i := 14) (some 74) (.pointer (some ⟨g2, 0, none⟩)) (by kernel_rfl) (by kernel_rfl) (by kernel_rfl) (by kernel_rfl) (by kernel_rfl) (by kernel_rfl) (fun W hS => by kernel_rfl) (fun _ _ d _ _ h => by cases d <;> exact h) (rfl : yd = yd) ?_
  simp only [put_lit, put_non, List.set_cons_zero, List.set_cons_succ]
  refine hk_take (i := 15) (some 75) (.pointer (some ⟨g2, 0, none⟩)) (by kernel_rfl) (by kernel_rfl) (by kernel_rfl) (by kernel_rfl) (by kernel_rfl) (by kernel_rfl) (fun W hS => by kernel_rfl) (fun _ _ d _ _ h => by cases d <;> exact h) (rfl : yd = yd) ?_
  simp only [put_lit, put_non, List.set_cons_zero, List.set_cons_succ]
  refine hk_take (i := 16) (some 76) (.slice A m c) (by kernel_rfl) (by kernel_rfl) (by kernel_rfl) (by kernel_rfl) (by kernel_rfl) (by kernel_rfl) (fun W hS => exec_part 23 75 (q0.out W hS) (by kernel_rfl) (by kernel_rfl) (by kernel_rfl)) (fun _ _ d _ _ h => by cases d <;> exact h) (rfl : yd = yd) ?_
  simp only [put_lit, put_non, List.set_cons_zero, List.set_cons_succ]
  refine hk_take (i := 17) (some 77) (.int .i64 (m : Int)) (by kernel_rfl) (by kernel_rfl) (by kernel_rfl) (by kernel_rfl) (by kernel_rfl) (by kernel_rfl) (fun W hS => by kernel_rfl) (fun _ _ d _ _ h => by cases d <;> exact h) (rfl : yd = yd) ?_
  simp only [put_lit, put_non, List.set_cons_zero, List.set_cons_succ]
  refine hk_one (i := 12) (by kernel_rfl) ?_
  refine op_call (some 72) 21 #[.pointer (some ⟨g1, 0, none⟩)] (by kernel_rfl) (by kernel_rfl) (by kernel_rfl) (fun w => by kernel_rfl) ?_
  refine (RM.out).mono ?_
  rintro e w9 ⟨rfl, rfl⟩
  refine ⟨_, rfl, (rfl : yd = yd), ?_⟩
  simp only [put_lit, put_non, List.set_cons_zero, List.set_cons_succ]
  refine hk_take (i := 18) (some 78) (.bool true) (by kernel_rfl) (by kernel_rfl) (by kernel_rfl) (by kernel_rfl) (by kernel_rfl) (by kernel_rfl) (fun W hS => exec_eqInt (T := 3) (T' := 3) (k := .i64) 72 77 (m : Int) (by kernel_rfl) (by kernel_rfl) (by kernel_rfl)) (fun _ _ d _ _ h => by cases d <;> exact h) (rfl : yd = yd) ?_
  simp only [put_lit, put_non, List.set_cons_zero, List.set_cons_succ]
  refine hk_take (i := 19) (some 79) (.bool true) (by kernel_rfl) (by kernel_rfl) (by kernel_rfl) (by kernel_rfl) (by kernel_rfl) (by kernel_rfl) (fun W hS => by kernel_rfl) (fun _ _ d _ _ h => by cases d <;> exact h) (rfl : yd = yd) ?_
  simp only [put_lit, put_non, List.set_cons_zero, List.set_cons_succ]
  refine hk_take (i := 20) (some 6) (.bool true) (by kernel_rfl) (by kernel_rfl) (by kernel_rfl) (by kernel_rfl) (by kernel_rfl) (by kernel_rfl) (fun W hS => by kernel_rfl) (fun _ _ d _ _ h => by cases d <;> exact h) (rfl : yd = yd) ?_
  simp only [put_lit, put_non, List.set_cons_zero, List.set_cons_succ]
  refine hk_done (by kernel_rfl) ?_
  go_wp2_with fail
  go_ret
  exact ⟨s2, rfl, hLen.out, HA.out, HB.out, hsz.out, BE.out⟩
set_option maxRecDepth 20000 in
set_option maxHeartbeats 16000000 in
theorem step_3 {w : World} {g1 g2 : Nat} {s : RS} (h1 : Rdr 66 w g1 s) (h2 : Rdr 42 w g2 s) (hne : g1 ≠ g2) (hz : s.1.length ≤ 1000000) (k n : Nat) (hk : k < 256) (hn : n < 18446744073709551616) (z : Int) (hb1 : -9223372036854775808 ≤ z) (hb2 : z ≤ 9223372036854775807) (hk5 : k % 5 = 3) :
    Calls Try.prog 23 #[.pointer (some ⟨g1, 0, none⟩), .pointer (some ⟨g2, 0, none⟩), .agg #[.int .u8 (k : Int), .int .u64 (n : Int), .int .i64 z]] w (RStep w g1 g2 s) := by
  have hki : Int.tmod (k : Int) 5 = 3 := by
    rw [Int.tmod_eq_emod_of_nonneg (by omega)]
    omega
  have hBa := Lib.hid ((Below.refl w.heap.size w).alloc (Nat.le_refl _) (.cells #[.int .u8 (k : Int), .int .u64 (n : Int), .int .i64 z] 47))
  have HK := HoldO.new w k n z
  have hgl1 := h1.lt
  have hgl2 := h2.lt
  have hO1 := Lib.hid (show g1 ≠ w.heap.size by omega)
  have hO2 := Lib.hid (show g2 ≠ w.heap.size by omega)
  have hne12 := Lib.hid hne
  have hne21 := Lib.hid (Ne.symm hne)
  have hR1a := h1.below hBa.out
  have hR2a := h2.below hBa.out
  obtain ⟨c0, c1, c2⟩ := HK.cells
  have HZ := Lib.hid hz
  have HN := Lib.hid hn
  have HZ1 := Lib.hid hb1
  have HZ2 := Lib.hid hb2
  have hks : (0 : Int) ≤ k := by omega
  clear h1 h2 hgl1 hgl2 hne hz hn hb1 hb2 hk hk5
  go_enter Try.func23, Try.ntmps23
  go_wp2_with fail
  generalize w.alloc (.cells #[.int .u8 (k : Int), .int .u64 (n : Int), .int .i64 z] 47) = y0 at hBa hR1a hR2a ⊢
  have hR10 := Lib.hid hR1a
  have hR20 := Lib.hid hR2a
  have C1 := frac_c hR10.out (by have := HZ.out; omega)
  have C2 := fun W (h : Rdr 42 W g2 s) => rfrac_c h (by have := HZ.out; omega)
  have hLen := fracS_len canonN s
  unfold RRF at C1 C2
  generalize (fracS canonN s).1 = xs at *
  generalize (fracS canonN s).2 = s2 at *
  have C1 := Lib.hid C1
  have C2 := Lib.hid C2
  have hLen := Lib.hid hLen
  clear HK c0 c1 c2 hki hks hR1a hR2a
  refine (C1.out).mono ?_
  rintro e y1 ⟨r1, rfl, hc1, hR1, hG1⟩
  have hR2 := Lib.hid (hR20.out.beside hR10.out hne21.out hG1)
  have hc1 := Lib.hid hc1
  have hR1 := Lib.hid hR1
  have hG1 := Lib.hid hG1
  go_wp2_with fail
  refine (C2.out _ hR2.out).mono ?_
  rintro e yb ⟨r2, rfl, hc2, hR22, hG2⟩
  have hR12 := Lib.hid (hR1.out.beside hR2.out hne12.out hG2)
  have NS := Lib.hid (fxo_same (hc1.out.beside hR2.out hG2) hc2)
  have hR22 := Lib.hid hR22
  have hG2 := Lib.hid hG2
  clear hc1 hc2
  go_wp2_with fail
  refine (NS.out).mono ?_
  rintro e y2 ⟨rfl, hB⟩
  have hR12 := Lib.hid (hR12.out.below hB)
  have hR22 := Lib.hid (hR22.out.below hB)
  have hS0 := Lib.hid (Nat.le_trans hBa.out.size (Nat.le_trans hG1.out.size hG2.out.size))
  have BB := Lib.hid (fun B (h0 : B ≤ w.heap.size) (h3 : B ≤ g1) (h4 : B ≤ g2) => show Below B w y2 from (below_of_grown (below_of_grown (hBa.out.mono h0) hG1.out (Nat.le_trans h0 hBa.out.size) h3) hG2.out (Nat.le_trans h0 (Nat.le_trans hBa.out.size hG1.out.size)) h4).trans (hB.mono (Nat.le_trans h0 hS0.out)))
  have hSz := Lib.hid (Nat.le_trans hS0.out hB.size)
  clear hB
  go_wp2_with fail
  refine hk_begin (S := fun w' => w' = y2.drew) 21 (by kernel_rfl) (by kernel_rfl) ?_
  have hD2 : Below y2.heap.size y2 y2.drew := (Below.refl _ _).drew
  have HA := Lib.hid (hR12.out.below hD2)
  have HB := Lib.hid (hR22.out.below hD2)
  have BE := Lib.hid (fun B h0 h3 h4 => (show Below B w y2.drew from (BB.out B h0 h3 h4).drew))
  have hsz := Lib.hid (show w.heap.size ≤ y2.drew.heap.size from hSz.out)
  clear hD2
  generalize y2.drew = yd at HA HB BE hsz ⊢
  obtain ⟨⟨A, m, c, hrow, hby⟩, _⟩ := HB.out
  have hn := hby.bounds.1
  have q0 := Lib.hid (show ∀ W, W = yd → W.cell? ⟨g2, 0, none⟩ = some (.slice A m c) from fun W h => by rw [h]; exact (row2_cells hrow).1)
  have q1 := Lib.hid (show ∀ W, W = yd → W.cell? ⟨g2, 1, none⟩ = some (.int .i64 s2.2) from fun W h => by rw [h]; exact (row2_cells hrow).2)
  have RE := Lib.hid (err_c HA.out)
  have RM := Lib.hid (show Calls Try.prog 21 #[.pointer (some ⟨g1, 0, none⟩)] yd (fun e w' => e = .returned (.int .i64 (m : Int)) ∧ yd = w') from by
    have h := remaining_c HA.out
    first | (rw [hn]; exact h) | (rw [← hn]; exact h))
  clear hrow hby hn
  refine hk_take (i := 0) (some 60) (.bool true) (by kernel_rfl) (by kernel_rfl) (by kernel_rfl) (by kernel_rfl) (by kernel_rfl) (by kernel_rfl) (fun W hS => by kernel_rfl) (fun _ _ d _ _ h => by cases d <;> exact h) (rfl : yd = yd) ?_
  simp only [put_lit, put_non, List.set_cons_zero, List.set_cons_succ]
  refine hk_take (i := 1) (some 61) (.bool true) (by kernel_rfl) (by kernel_rfl) (by kernel_rfl) (by kernel_rfl) (by kernel_rfl) (by kernel_rfl) (fun W hS => by kernel_rfl) (fun _ _ d _ _ h => by cases d <;> exact h) (rfl : yd = yd) ?_
  simp only [put_lit, put_non, List.set_cons_zero, List.set_cons_succ]
  refine hk_take (i := 2) (some 62) (.pointer (some ⟨g1, 0, none⟩)) (by kernel_rfl) (by kernel_rfl) (by kernel_rfl) (by kernel_rfl) (by kernel_rfl) (by kernel_rfl) (fun W hS => by kernel_rfl) (fun _ _ d _ _ h => by cases d <;> exact h) (rfl : yd = yd) ?_
  simp only [put_lit, put_non, List.set_cons_zero, List.set_cons_succ]
  refine hk_take (i := 4) (some 64) (.pointer (some ⟨g2, 0, none⟩)) (by kernel_rfl) (by kernel_rfl) (by kernel_rfl) (by kernel_rfl) (by kernel_rfl) (by kernel_rfl) (fun W hS => by kernel_rfl) (fun _ _ d _ _ h => by cases d <;> exact h) (rfl : yd = yd) ?_
  simp only [put_lit, put_non, List.set_cons_zero, List.set_cons_succ]
  refine hk_take (i := 5) (some 65) (.pointer (some ⟨g2, 0, none⟩)) (by kernel_rfl) (by kernel_rfl) (by kernel_rfl) (by kernel_rfl) (by kernel_rfl) (by kernel_rfl) (fun W hS => by kernel_rfl) (fun _ _ d _ _ h => by cases d <;> exact h) (rfl : yd = yd) ?_
  simp only [put_lit, put_non, List.set_cons_zero, List.set_cons_succ]
  refine hk_take (i := 6) (some 66) (.pointer (some ⟨g2, 1, none⟩)) (by kernel_rfl) (by kernel_rfl) (by kernel_rfl) (by kernel_rfl) (by kernel_rfl) (by kernel_rfl) (fun W hS => by kernel_rfl) (fun _ _ d _ _ h => by cases d <;> exact h) (rfl : yd = yd) ?_
  simp only [put_lit, put_non, List.set_cons_zero, List.set_cons_succ]
  refine hk_take (i := 7) (some 67) (.int .i64 s2.2) (by kernel_rfl) (by kernel_rfl) (by kernel_rfl) (by kernel_rfl) (by kernel_rfl) (by kernel_rfl) (fun W hS => exec_part 40 66 (q1.out W hS) (by kernel_rfl) (by kernel_rfl) (by kernel_rfl)) (fun _ _ d _ _ h => by cases d <;> exact h) (rfl : yd = yd) ?_
  simp only [put_lit, put_non, List.set_cons_zero, List.set_cons_succ]
  refine hk_one (i := 3) (by kernel_rfl) ?_
  refine op_call (some 63) 22 #[.pointer (some ⟨g1, 0, none⟩)] (by kernel_rfl) (by kernel_rfl) (by kernel_rfl) (fun w => by kernel_rfl) ?_
  refine (RE.out).mono ?_
  rintro e w9 ⟨rfl, rfl⟩
  refine ⟨_, rfl, (rfl : yd = yd), ?_⟩
  simp only [put_lit, put_non, List.set_cons_zero, List.set_cons_succ]
  refine hk_take (i := 8) (some 68) (.bool true) (by kernel_rfl) (by kernel_rfl) (by kernel_rfl) (by kernel_rfl) (by kernel_rfl) (by kernel_rfl) (fun W hS => exec_eqInt (T := 40) (T' := 40) (k := .i64) 63 67 s2.2 (by kernel_rfl) (by kernel_rfl) (by kernel_rfl)) (fun _ _ d _ _ h => by cases d <;> exact h) (rfl : yd = yd) ?_
  simp only [put_lit, put_non, List.set_cons_zero, List.set_cons_succ]
  refine hk_take (i := 9) (some 69) (.bool true) (by kernel_rfl) (by kernel_rfl) (by kernel_rfl) (by kernel_rfl) (by kernel_rfl) (by kernel_rfl) (fun W hS => by kernel_rfl) (fun _ _ d _ _ h => by cases d <;> exact h) (rfl : yd = yd) ?_
  simp only [put_lit, put_non, List.set_cons_zero, List.set_cons_succ]
  refine hk_take (i := 10) (some 70) (.bool true) (by kernel_rfl) (by kernel_rfl) (by kernel_rfl) (by kernel_rfl) (by kernel_rfl) (by kernel_rfl) (fun W hS => by kernel_rfl) (fun _ _ d _ _ h => by cases d <;> exact h) (rfl : yd = yd) ?_
  simp only [put_lit, put_non, List.set_cons_zero, List.set_cons_succ]
  refine hk_take (i := 11) (some 71) (.pointer (some ⟨g1, 0, none⟩)) (by kernel_rfl) (by kernel_rfl) (by kernel_rfl) (by kernel_rfl) (by kernel_rfl) (by kernel_rfl) (fun W hS => by kernel_rfl) (fun _ _ d _ _ h => by cases d <;> exact h) (rfl : yd = yd) ?_
  simp only [put_lit, put_non, List.set_cons_zero, List.set_cons_succ]
  refine hk_take (i := 13) (some 73) (.pointer (some ⟨g2, 0, none⟩)) (by kernel_rfl) (by kernel_rfl) (by kernel_rfl) (by kernel_rfl) (by kernel_rfl) (by kernel_rfl) (fun W hS => by kernel_rfl) (fun _ _ d _ _ h => by cases d <;> exact h) (rfl : yd = yd) ?_
  simp only [put_lit, put_non, List.set_cons_zero, List.set_cons_succ]
  refine hk_take (i := 14) (some 74) (.pointer (some ⟨g2, 0, none⟩)) (by kernel_rfl) (by kernel_rfl) (by kernel_rfl) (by kernel_rfl) (by kernel_rfl) (by kernel_rfl) (fun W hS => by kernel_rfl) (fun _ _ d _ _ h => by cases d <;> exact h) (rfl : yd = yd) ?_
  simp only [put_lit, put_non, List.set_cons_zero, List.set_cons_succ]
  refine hk_take (i := 15) (some 75) (.pointer (some ⟨g2, 0, none⟩)) (by kernel_rfl) (by kernel_rfl) (by kernel_rfl) (by kernel_rfl) (by kernel_rfl) (by kernel_rfl) (fun W hS => by kernel_rfl) (fun _ _ d _ _ h => by cases d <;> exact h) (rfl : yd = yd) ?_
  simp only [put_lit, put_non, List.set_cons_zero, List.set_cons_succ]
  refine hk_take (i := 16) (some 76) (.slice A m c) (by kernel_rfl) (by kernel_rfl) (by kernel_rfl) (by kernel_rfl) (by kernel_rfl) (by kernel_rfl) (fun W hS => exec_part 23 75 (q0.out W hS) (by kernel_rfl) (by kernel_rfl) (by kernel_rfl)) (fun _ _ d _ _ h => by cases d <;> exact h) (rfl : yd = yd) ?_
  simp only [put_lit, put_non, List.set_cons_zero, List.set_cons_succ]
  refine hk_take (i := 17) (some 77) (.int .i64 (m : Int)) (by kernel_rfl) (by kernel_rfl) (by kernel_rfl) (by kernel_rfl) (by kernel_rfl) (by kernel_rfl) (fun W hS => by kernel_rfl) (fun _ _ d _ _ h => by cases d <;> exact h) (rfl : yd = yd) ?_
  simp only [put_lit, put_non, List.set_cons_zero, List.set_cons_succ]
  refine hk_one (i := 12) (by kernel_rfl) ?_
  refine op_call (some 72) 21 #[.pointer (some ⟨g1, 0, none⟩)] (by kernel_rfl) (by kernel_rfl) (by kernel_rfl) (fun w => by kernel_rfl) ?_
  refine (RM.out).mono ?_
  rintro e w9 ⟨rfl, rfl⟩
  refine ⟨_, rfl, (rfl : yd = yd), ?_⟩
  simp only [put_lit, put_non, List.set_cons_zero, List.set_cons_succ]
  refine hk_take (i := 18) (some 78) (.bool true) (by kernel_rfl) (by kernel_rfl) (by kernel_rfl) (by kernel_rfl) (by kernel_rfl) (by kernel_rfl) (fun W hS => exec_eqInt (T := 3) (T' := 3) (k := .i64) 72 77 (m : Int) (by kernel_rfl) (by kernel_rfl) (by kernel_rfl)) (fun _ _ d _ _ h => by cases d <;> exact h) (rfl : yd = yd) ?_
  simp only [put_lit, put_non, List.set_cons_zero, List.set_cons_succ]
  refine hk_take (i := 19) (some 79) (.bool true) (by kernel_rfl) (by kernel_rfl) (by kernel_rfl) (by kernel_rfl) (by kernel_rfl) (by kernel_rfl) (fun W hS => by kernel_rfl) (fun _ _ d _ _ h => by cases d <;> exact h) (rfl : yd = yd) ?_
  simp only [put_lit, put_non, List.set_cons_zero, List.set_cons_succ]
  refine hk_take (i := 20) (some 6) (.bool true) (by kernel_rfl) (by kernel_rfl) (by kernel_rfl) (by kernel_rfl) (by kernel_rfl) (by kernel_rfl) (fun W hS => by kernel_rfl) (fun _ _ d _ _ h => by cases d <;> exact h) (rfl : yd = yd) ?_
  simp only [put_lit, put_non, List.set_cons_zero, List.set_cons_succ]
  refine hk_done (by kernel_rfl) ?_
  go_wp2_with fail
  go_ret
  exact ⟨s2, rfl, hLen.out, HA.out, HB.out, hsz.out, BE.out⟩
theorem step_c {w : World} {g1 g2 : Nat} {s : RS} (h1 : Rdr 66 w g1 s) (h2 : Rdr 42 w g2 s) (hne : g1 ≠ g2) (hz : s.1.length ≤ 1000000) (k n : Nat) (hk : k < 256) (hn : n < 18446744073709551616) (z : Int) (hb1 : -9223372036854775808 ≤ z) (hb2 : z ≤ 9223372036854775807) :
    Calls Try.prog 23 #[.pointer (some ⟨g1, 0, none⟩), .pointer (some ⟨g2, 0, none⟩), .agg #[.int .u8 (k : Int), .int .u64 (n : Int), .int .i64 z]] w (RStep w g1 g2 s) := by
  have h5 : k % 5 = 0 ∨ k % 5 = 1 ∨ k % 5 = 2 ∨ k % 5 = 3 ∨ k % 5 = 4 := by omega
  rcases h5 with h | h | h | h | h
  · exact step_0 h1 h2 hne hz k n hk hn z hb1 hb2 h
  · exact step_1 h1 h2 hne hz k n hk hn z hb1 hb2 h
  · exact step_2 h1 h2 hne hz k n hk hn z hb1 hb2 h
  · exact step_3 h1 h2 hne hz k n hk hn z hb1 hb2 h
  · exact step_4 h1 h2 hne hz k n hk hn z hb1 hb2 h
end Go.Proofs.Ytkdnmmbnljaahaa

/- The walk of DiskSizes. -/
import Derived.Laws.OwnMore
import Derived.Test.YthknlimhenbhfaaDkq
import Derived.Test.YthknlimhenbhfaaHkm
namespace Go.Proofs.Ythknlimhenbhfaa
set_option linter.unusedSimpArgs false
open Go.RowKit Dig
set_option linter.unusedVariables false

section
variable {P : Program} {ops : Array Oper} {Q : Exit → Act → World → Prop} {S : World → Prop}
/-- An operation that makes memory. -/
theorem wkS_doW {i : Nat} {r : List (Nat × Bool)} {a : Act} {w w' : World} (d : Option Tmp) (v : Value) (hi : (ops[i]?).isSome = true) (hd : (opI ops i).dst = d)
    (hw : Region.wanted (opI ops i) (yielded ops a.tmps) = true) (he : (execOp a.eval (opI ops i)).run P w = .ok (.value v) w') (hS : S w') (h : wkS P ops Q S r (a.put d v) w') :
    wkS P ops Q S ((i, false) :: r) a w :=
  op_do d v w' hi hd hw he ⟨hS, h⟩
end
theorem made64 : (madeCells (Value.int .u8 0).cells (64 * 1)).toList = Y (List.replicate 64 0) := by kernel_rfl
/-- A new row of 64 bytes. -/
theorem make64 (w : World) : ∃ w', (∀ (ev : Operand → Value) (o : Oper), o.op = .makeSlice 32 (.const (.int .i64 64)) (.const (.int .i64 64)) → ev (.const (.int .i64 64)) = .int .i64 64 → (execOp ev o).run Try.prog w = .ok (.value (.slice (some ⟨w.heap.size, 0, none⟩) 64 64)) w') ∧
    Byt w' (.slice (some ⟨w.heap.size, 0, none⟩) 64 64) (List.replicate 64 0) ∧ Below w.heap.size w w' := by
  obtain ⟨i0, hi, hz0, hz1, hz2⟩ := info_parts info_byte
  obtain ⟨w', hrun, hO, hg⟩ := run_makeSlice_full (P := Try.prog) w w.heap.size 32 5 i0 (.int .u8 0) 1 Try.underlying32 hi hz0 hz1 .i64 .i64 64 (by omega) (by rw [hz2]; omega) (by unfold maxLen; omega) (Nat.le_refl _)
  rw [made64] at hO
  refine ⟨w', fun ev o ho hx => ?_, (OwB.of_ownsRow (base := w.heap.size) (by rw [List.length_replicate]; exact hO)).byt, ⟨hg.os, hg.tape, hg.output, hg.size, fun k hk => hg.block k hk (by simp)⟩⟩
  have hr : (Instr.makeSlice 32 (.int .i64 64) (.int .i64 64)).run Try.prog w = .ok (.slice (some ⟨w.heap.size, 0, none⟩) 64 64) w' := hrun
  unfold execOp
  simp only [ho, hx, hr, Sem.run_bind, Sem.run_pure, Result.andThen_ok]
theorem new_len (n : Nat) : (newS n).dur.length = n := List.length_replicate
theorem read_new {n : Nat} {at' : Int} {k : Nat} (hn : 1 ≤ n) (ha : at' = (k : Int)) (hk : k < n) : readS (newS n) at' = (0, List.replicate 64 0) := by
  subst ha
  have hb : badS (newS n) (k : Int) 0 = 0 := by
    unfold badS
    rw [if_neg (by show ¬ (false = true); simp), new_len, if_neg (by omega), if_neg (by omega)]
  unfold readS
  rw [hb, if_neg (by simp)]
  have e : (secs (newS n)).getD ((k : Int)).toNat [] = List.replicate 64 0 := by
    show (List.replicate n (List.replicate 64 (0 : UInt8))).getD ((k : Int)).toNat [] = _
    rw [Int.toNat_natCast, List.getD_eq_getElem?_getD, List.getElem?_replicate, if_pos hk]
    rfl
  rw [e]
section
variable {D : World → Nat → DS → Prop} {fp : World → Nat → Nat → Prop} {w : World}
theorem new_few {n : Nat} (h : n ≤ 8192) : fewD (newS n) := ⟨by rw [new_len]; omega, Nat.zero_le _⟩
/-- What New hands back, at a place of its own. -/
def NewAt (D : World → Nat → DS → Prop) (fp : World → Nat → Nat → Prop) (n : Nat) (v : Value) : Prop := ∀ y, Calls Try.prog 10 #[v] y fun e w' => ∃ g, e = .returned (.tuple #[.pointer (some ⟨g, 0, none⟩), .int .i64 0]) ∧ D w' g (newS n) ∧ Below y.heap.size y w'
theorem Prog6.newAt (P : Prog6 D fp) {n : Nat} {z : Int} (h1 : 1 ≤ n) (h2 : n ≤ 8192) (hz : z = (n : Int)) : NewAt D fp n (.int .i64 z) := fun y => by
  subst hz
  refine (P.new y n h1 h2).mono ?_
  rintro e w' ⟨g, he, hD, hB, -⟩
  exact ⟨g, he, hD, hB⟩
set_option maxRecDepth 20000 in
set_option maxHeartbeats 4000000 in
theorem sizes_bad (P : Prog6 D fp) (n : Int) (hn : n < 1 ∨ 8192 < n) (h1 : -9223372036854775808 ≤ n) (h2 : n ≤ 9223372036854775807) : Calls Try.prog 4 #[.int .i64 n] w (RVal w (.bool true)) := by
  have a1 := and_low n 6 63 (by decide) (by omega)
  obtain ⟨m, em⟩ : ∃ m : Nat, n % 64 = (m : Int) := ⟨(n % 64).toNat, by omega⟩
  have hm : m < 64 := by omega
  rw [show ((2 ^ 6 : Nat) : Int) = 64 from rfl, em] at a1
  have NB := Lib.hid (fun y => P.newBad y n hn)
  have NK := Lib.hid (P.newAt (n := 1 + m) (z := 1 + (m : Int)) (by omega) (by omega) (by omega))
  have NM := Lib.hid (P.newAt (n := 8192) (z := 8192) (by omega) (by omega) rfl)
  have NX := Lib.hid (fun y => P.newBad y 8193 (by omega))
  have RD := Lib.hid (read_new (n := 1 + m) (at' := 1 + (m : Int) - 1) (k := m) (by omega) (by omega) (by omega))
  have HW := Lib.hid (new_few (n := 1 + m) (by omega))
  have hP := Lib.hid P
  clear P em
  have hm2 : (m : Int) < 64 := by omega
  rcases hn with hn | hn
  all_goals
    go_enter Try.func4, Try.ntmps4
    go_wp2_with fail
    refine (NB.out w).mono ?_
    rintro e w1 ⟨rfl, hB1⟩
    have B1 := Lib.hid hB1
    clear hB1 NB
    go_wp2_with fail
    refine (NK.out w1).mono ?_
    rintro e w2 ⟨g2, rfl, hD2, hB2⟩
    have B2 := Lib.hid (below_then B1.out hB2)
    have D2 := Lib.hid hD2
    clear hD2 hB2 B1 NK
    go_wp2_with fail
    refine (NX.out w2).mono ?_
    rintro e w3 ⟨rfl, hB3⟩
    have B3 := Lib.hid (below_then B2.out hB3)
    have D3 := Lib.hid (hP.out.stay D2.out hB3)
    clear hB3 B2 D2 NX
    go_wp2_with fail
    refine (NM.out w3).mono ?_
    rintro e w4 ⟨g3, rfl, hD4, hB4⟩
    have B4 := Lib.hid (below_then B3.out hB4)
    have D4 := Lib.hid (hP.out.stay D3.out hB4)
    have SZ := Lib.hid (hP.out.size hD4)
    clear hD4 hB4 B3 D3 NM
    rw [new_len] at SZ
    go_wp2_with fail
    refine (SZ.out).mono ?_
    rintro e w5 ⟨rfl, hB5⟩
    have B5 := Lib.hid (below_then B4.out hB5)
    have D5 := Lib.hid (hP.out.stay D4.out hB5)
    clear hB5 B4 D4 SZ
    go_wp2_with fail
    have C := hP.out.read D5.out HW.out (1 + (m : Int) - 1)
    rw [RD.out] at C
    refine C.mono ?_
    rintro e w6 ⟨r, rfl, hr, hB6⟩
    have B6 := Lib.hid (below_then B5.out hB6)
    clear hr hB6 B5 D5 C
    go_wp2_with fail
    refine (known6_c hP.out w6).mono ?_
    rintro e w7 ⟨rfl, hB7⟩
    have B7 := Lib.hid (below_then B6.out hB7)
    clear hB7 B6
    go_wp2_with fail
    go_ret
    exact ⟨rfl, B7.out⟩
set_option maxRecDepth 20000 in
set_option maxHeartbeats 4000000 in
theorem sizes_good (P : Prog6 D fp) (n : Nat) (hn1 : 1 ≤ n) (hn2 : n ≤ 8192) : Calls Try.prog 4 #[.int .i64 (n : Int)] w (RVal w (.bool true)) := by
  have a1 := and_low n 6 63 (by decide) (by omega)
  obtain ⟨m, em⟩ : ∃ m : Nat, (n : Int) % 64 = (m : Int) := ⟨n % 64, by omega⟩
  have hm : m < 64 := by omega
  rw [show ((2 ^ 6 : Nat) : Int) = 64 from rfl, em] at a1
  have NB := Lib.hid (P.newAt (n := n) (z := (n : Int)) hn1 hn2 rfl)
  have NK := Lib.hid (P.newAt (n := 1 + m) (z := 1 + (m : Int)) (by omega) (by omega) (by omega))
  have NM := Lib.hid (P.newAt (n := 8192) (z := 8192) (by omega) (by omega) rfl)
  have NX := Lib.hid (fun y => P.newBad y 8193 (by omega))
  have RD := Lib.hid (read_new (n := 1 + m) (at' := 1 + (m : Int) - 1) (k := m) (by omega) (by omega) (by omega))
  have HW := Lib.hid (new_few (n := 1 + m) (by omega))
  have hP := Lib.hid P
  clear P em
  have hm2 : (m : Int) < 64 := by omega
  have hna : ¬ (n : Int) < 1 := by omega
  have hnb : ¬ (n : Int) > 8192 := by omega
  go_enter Try.func4, Try.ntmps4
  go_wp2_with fail
  refine (NB.out w).mono ?_
  rintro e w1 ⟨g1, rfl, hD1, hB1⟩
  have B1 := Lib.hid hB1
  have E1 := Lib.hid hD1
  clear hB1 hD1 NB
  go_wp2_with fail
  refine (NK.out w1).mono ?_
  rintro e w2 ⟨g2, rfl, hD2, hB2⟩
  have B2 := Lib.hid (below_then B1.out hB2)
  have E2 := Lib.hid (hP.out.stay E1.out hB2)
  have D2 := Lib.hid hD2
  clear hD2 hB2 B1 E1 NK
  go_wp2_with fail
  refine (NX.out w2).mono ?_
  rintro e w3 ⟨rfl, hB3⟩
  have B3 := Lib.hid (below_then B2.out hB3)
  have E3 := Lib.hid (hP.out.stay E2.out hB3)
  have D3 := Lib.hid (hP.out.stay D2.out hB3)
  clear hB3 B2 D2 E2 NX
  go_wp2_with fail
  refine (NM.out w3).mono ?_
  rintro e w4 ⟨g3, rfl, hD4, hB4⟩
  have B4 := Lib.hid (below_then B3.out hB4)
  have E4 := Lib.hid (hP.out.stay E3.out hB4)
  have D4 := Lib.hid (hP.out.stay D3.out hB4)
  have SZ := Lib.hid (hP.out.size hD4)
  clear hD4 hB4 B3 D3 E3 NM
  rw [new_len] at SZ
  go_wp2_with fail
  refine (SZ.out).mono ?_
  rintro e w5 ⟨rfl, hB5⟩
  have B5 := Lib.hid (below_then B4.out hB5)
  have E5 := Lib.hid (hP.out.stay E4.out hB5)
  have D5 := Lib.hid (hP.out.stay D4.out hB5)
  clear hB5 B4 D4 E4 SZ
  go_wp2_with fail
  have C := hP.out.read D5.out HW.out (1 + (m : Int) - 1)
  rw [RD.out] at C
  refine C.mono ?_
  rintro e w6 ⟨r, rfl, hr, hB6⟩
  have B6 := Lib.hid (below_then B5.out hB6)
  have E6 := Lib.hid (hP.out.stay E5.out hB6)
  have HB := Lib.hid hr.byt
  clear hr hB6 B5 D5 E5 C
  go_wp2_with fail
  have HZ := Lib.hid (show ∀ y, Below w6.heap.size w6 y → Calls Try.prog 15 #[.pointer (some ⟨g1, 0, none⟩)] y (RVal y (.int .i64 (n : Int))) from fun y hy => by
    have := hP.out.size (hP.out.stay E6.out hy)
    rwa [new_len] at this)
  have hK := Lib.hid (show Below w6.heap.size w6 w6.drew from (Below.refl _ _).drew)
  refine wp_region_plan (S := fun W => Below w6.heap.size w6 W) [(0, true), (1, true), (2, true), (3, true), (4, true), (5, true), (6, true), (7, true), (9, true), (8, false), (10, true), (11, true), (12, true), (13, true), (14, true), (15, true), (16, true), (17, true), (18, true), (19, false), (20, false), (21, true), (22, true), (23, true), (24, false), (25, true), (26, true)] (by kernel_rfl) (by kernel_rfl) (by kernel_rfl) (by kernel_rfl) (fun _ _ d _ _ h => by cases d <;> exact h) hK.out ?_
  refine wkS_take (some 80) (.int .i64 0) (by kernel_rfl) (by kernel_rfl) (by kernel_rfl) (fun W hS => by kernel_rfl) ?_
  simp only [put_lit, put_non, List.set_cons_zero, List.set_cons_succ]
  refine wkS_take (some 81) (.bool true) (by kernel_rfl) (by kernel_rfl) (by kernel_rfl) (fun W hS => by kernel_rfl) ?_
  simp only [put_lit, put_non, List.set_cons_zero, List.set_cons_succ]
  refine wkS_take (some 82) (.bool true) (by kernel_rfl) (by kernel_rfl) (by kernel_rfl) (fun W hS => by kernel_rfl) ?_
  simp only [put_lit, put_non, List.set_cons_zero, List.set_cons_succ]
  refine wkS_take (some 83) (.pointer (some ⟨g1, 0, none⟩)) (by kernel_rfl) (by kernel_rfl) (by kernel_rfl) (fun W hS => by kernel_rfl) ?_
  simp only [put_lit, put_non, List.set_cons_zero, List.set_cons_succ]
  refine wkS_take (some 84) (.bool true) (by kernel_rfl) (by kernel_rfl) (by kernel_rfl) (fun W hS => by kernel_rfl) ?_
  simp only [put_lit, put_non, List.set_cons_zero, List.set_cons_succ]
  refine wkS_take (some 85) (.bool true) (by kernel_rfl) (by kernel_rfl) (by kernel_rfl) (fun W hS => by kernel_rfl) ?_
  simp only [put_lit, put_non, List.set_cons_zero, List.set_cons_succ]
  refine wkS_take (some 86) (.bool true) (by kernel_rfl) (by kernel_rfl) (by kernel_rfl) (fun W hS => by kernel_rfl) ?_
  simp only [put_lit, put_non, List.set_cons_zero, List.set_cons_succ]
  refine wkS_take (some 87) (.pointer (some ⟨g1, 0, none⟩)) (by kernel_rfl) (by kernel_rfl) (by kernel_rfl) (fun W hS => by kernel_rfl) ?_
  simp only [put_lit, put_non, List.set_cons_zero, List.set_cons_succ]
  refine wkS_take (some 89) (.int .i64 (n : Int)) (by kernel_rfl) (by kernel_rfl) (by kernel_rfl) (fun W hS => by kernel_rfl) ?_
  simp only [put_lit, put_non, List.set_cons_zero, List.set_cons_succ]
  refine wkS_call (some 88) 15 #[.pointer (some ⟨g1, 0, none⟩)] (by kernel_rfl) (by kernel_rfl) (by kernel_rfl) (fun w => (by kernel_rfl)) ?_
  refine (HZ.out _ hK.out).mono ?_
  rintro e u ⟨rfl, hB⟩
  refine ⟨.int .i64 (n : Int), rfl, below_then hK.out hB, ?_⟩
  have hK := Lib.hid (below_then hK.out hB)
  clear hB
  simp only [put_lit, put_non, List.set_cons_zero, List.set_cons_succ]
  refine wkS_take (some 90) (.bool true) (by kernel_rfl) (by kernel_rfl) (by kernel_rfl) (fun W hS => exec_eqInt (T := 3) (T' := 3) (k := .i64) 88 89 (n : Int) (by kernel_rfl) (by kernel_rfl) (by kernel_rfl)) ?_
  simp only [put_lit, put_non, List.set_cons_zero, List.set_cons_succ]
  refine wkS_take (some 91) (.bool true) (by kernel_rfl) (by kernel_rfl) (by kernel_rfl) (fun W hS => by kernel_rfl) ?_
  simp only [put_lit, put_non, List.set_cons_zero, List.set_cons_succ]
  refine wkS_take (some 92) (.bool true) (by kernel_rfl) (by kernel_rfl) (by kernel_rfl) (fun W hS => by kernel_rfl) ?_
  simp only [put_lit, put_non, List.set_cons_zero, List.set_cons_succ]
  refine wkS_take (some 93) (.int .i64 0) (by kernel_rfl) (by kernel_rfl) (by kernel_rfl) (fun W hS => by kernel_rfl) ?_
  simp only [put_lit, put_non, List.set_cons_zero, List.set_cons_succ]
  refine wkS_take (some 94) (.bool true) (by kernel_rfl) (by kernel_rfl) (by kernel_rfl) (fun W hS => by kernel_rfl) ?_
  simp only [put_lit, put_non, List.set_cons_zero, List.set_cons_succ]
  refine wkS_take (some 95) (.bool true) (by kernel_rfl) (by kernel_rfl) (by kernel_rfl) (fun W hS => by kernel_rfl) ?_
  simp only [put_lit, put_non, List.set_cons_zero, List.set_cons_succ]
  refine wkS_take (some 96) (.bool true) (by kernel_rfl) (by kernel_rfl) (by kernel_rfl) (fun W hS => by kernel_rfl) ?_
  simp only [put_lit, put_non, List.set_cons_zero, List.set_cons_succ]
  refine wkS_take (some 97) (r) (by kernel_rfl) (by kernel_rfl) (by kernel_rfl) (fun W hS => by kernel_rfl) ?_
  simp only [put_lit, put_non, List.set_cons_zero, List.set_cons_succ]
  refine wkS_take (some 98) (.string ⟨(List.replicate 64 (0 : UInt8)).toArray⟩) (by kernel_rfl) (by kernel_rfl) (by kernel_rfl) (fun W hS => exec_strB 97 (HB.out.below hS) (by kernel_rfl) (by kernel_rfl)) ?_
  simp only [put_lit, put_non, List.set_cons_zero, List.set_cons_succ]
  obtain ⟨um, hrun, hbm, hBm⟩ := make64 u
  have hKm := Lib.hid (below_then hK.out hBm)
  have hbm := Lib.hid hbm
  refine wkS_doW (some 99) (.slice (some ⟨u.heap.size, 0, none⟩) 64 64) (by kernel_rfl) (by kernel_rfl) (by kernel_rfl) (hrun _ _ (by kernel_rfl) (by kernel_rfl)) hKm.out ?_
  clear hrun hBm
  simp only [put_lit, put_non, List.set_cons_zero, List.set_cons_succ]
  refine wkS_do (some 100) (.string ⟨(List.replicate 64 (0 : UInt8)).toArray⟩) (by kernel_rfl) (by kernel_rfl) (by kernel_rfl) (exec_strB 99 hbm.out (by kernel_rfl) (by kernel_rfl)) hKm.out ?_
  simp only [put_lit, put_non, List.set_cons_zero, List.set_cons_succ]
  refine wkS_take (some 101) (.bool true) (by kernel_rfl) (by kernel_rfl) (by kernel_rfl) (fun W hS => exec_eqStr 98 100 ⟨(List.replicate 64 (0 : UInt8)).toArray⟩ (by kernel_rfl) (by kernel_rfl) (by kernel_rfl)) ?_
  simp only [put_lit, put_non, List.set_cons_zero, List.set_cons_succ]
  refine wkS_take (some 102) (.bool true) (by kernel_rfl) (by kernel_rfl) (by kernel_rfl) (fun W hS => by kernel_rfl) ?_
  simp only [put_lit, put_non, List.set_cons_zero, List.set_cons_succ]
  refine wkS_take (some 103) (.bool true) (by kernel_rfl) (by kernel_rfl) (by kernel_rfl) (fun W hS => by kernel_rfl) ?_
  simp only [put_lit, put_non, List.set_cons_zero, List.set_cons_succ]
  refine wkS_call (some 104) 14 #[] (by kernel_rfl) (by kernel_rfl) (by kernel_rfl) (fun w => (by kernel_rfl)) ?_
  refine (known6_c hP.out _).mono ?_
  rintro e u2 ⟨rfl, hB⟩
  refine ⟨.bool true, rfl, below_then hKm.out hB, ?_⟩
  have hK2 := Lib.hid (below_then hKm.out hB)
  clear hB
  simp only [put_lit, put_non, List.set_cons_zero, List.set_cons_succ]
  refine wkS_take (some 105) (.bool true) (by kernel_rfl) (by kernel_rfl) (by kernel_rfl) (fun W hS => by kernel_rfl) ?_
  simp only [put_lit, put_non, List.set_cons_zero, List.set_cons_succ]
  refine wkS_take (some 2) (.bool true) (by kernel_rfl) (by kernel_rfl) (by kernel_rfl) (fun W hS => by kernel_rfl) ?_
  simp only [put_lit, put_non, List.set_cons_zero, List.set_cons_succ]
  refine wkS_done ?_
  go_wp2_with fail
  go_ret
  exact ⟨rfl, below_then B6.out hK2.out⟩
theorem sizes_walk (P : Prog6 D fp) (n : Int) (h1 : -9223372036854775808 ≤ n) (h2 : n ≤ 9223372036854775807) : Calls Try.prog 4 #[.int .i64 n] w (RVal w (.bool true)) := by
  by_cases hn : n < 1 ∨ 8192 < n
  · exact sizes_bad P n hn h1 h2
  · obtain ⟨k, rfl⟩ : ∃ k : Nat, n = (k : Int) := ⟨n.toNat, by omega⟩
    exact sizes_good P k (by omega) (by omega)
end
end Go.Proofs.Ythknlimhenbhfaa

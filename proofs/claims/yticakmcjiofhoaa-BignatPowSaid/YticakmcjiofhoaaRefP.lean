/- The contract of the reference function NatPow. -/
import Derived.Test.YticakmcjiofhoaaRefM
import Derived.Test.YticakmcjiofhoaaPow
namespace Go.Proofs.Yticakmcjiofhoaa
open Go.RowKit Dig
set_option linter.unusedVariables false

set_option maxHeartbeats 2000000 in
theorem natPow_zero (w : World) (va : Value) (xs : List Nat) (ha : Num w va xs) (hza : xs.length ≤ 1000000) :
    Calls Try.prog 36 #[va, .int .i64 0] w (RPow w 1) := by
  have Na := Lib.hid (natNorm_c w va xs ha (by omega))
  go_enter Try.func36, Try.ntmps36
  go_wp2_with fail
  refine (Na.out).mono ?_
  rintro e w1 ⟨x, rfl, hO, hB⟩
  go_wp2_with fail
  refine (natOf_c w1 1 (by omega)).mono ?_
  rintro e w2 ⟨y, rfl, hO2, hB2⟩
  go_wp2_with fail
  go_ret2
  exact ⟨_, rfl, hO2.mono hB.size, below_then hB hB2⟩

set_option maxHeartbeats 2000000 in
theorem natPow_one (w : World) (va : Value) (xs : List Nat) (n : Nat) (ha : Num w va xs) (hza : xs.length ≤ 1000000) (hn : 1 ≤ n) (hn2 : n < 9223372036854775808) (h1 : val xs = 1) :
    Calls Try.prog 36 #[va, .int .i64 (n : Int)] w (RPow w 1) := by
  have Na := Lib.hid (natNorm_c w va xs ha (by omega))
  have H1 := Lib.hid h1
  have hn0 : ((n : Int) == 0) = false := by rw [beq_eq_false_iff_ne]; omega
  clear h1
  go_enter Try.func36, Try.ntmps36
  go_wp2_with fail
  refine (Na.out).mono ?_
  rintro e w1 ⟨x, rfl, hO, hB⟩
  go_wp2_with fail
  refine (natOf_c w1 1 (by omega)).mono ?_
  rintro e w2 ⟨y, rfl, hO2, hB2⟩
  have C := natCmp_c w2 x y _ _ (hO.num.below hB2) hO2.num (by have := dg_length_val xs ha.small; omega) (by decide)
  rw [val_dg, val_dg, H1.out, cmpI_eq] at C
  have HC := Lib.hid C
  clear C
  go_wp2_with fail
  refine (HC.out).mono ?_
  rintro e w3 ⟨rfl, hB3⟩
  have hO3 := hO2.below hB3 (Nat.le_refl _)
  go_wp2_with fail
  go_ret2
  exact ⟨_, rfl, hO3.mono hB.size, below_then (below_then hB hB2) hB3⟩

set_option maxHeartbeats 2000000 in
theorem natPow_nil (w : World) (va : Value) (xs : List Nat) (n : Nat) (ha : Num w va xs) (hza : xs.length ≤ 1000000) (hn : 1 ≤ n) (hn2 : n < 9223372036854775808) (h1 : val xs = 0) :
    Calls Try.prog 36 #[va, .int .i64 (n : Int)] w (RPow w 0) := by
  have N0 := natNorm_c w va xs ha (by omega)
  rw [h1] at N0
  have Na := Lib.hid N0
  have hn0 : ((n : Int) == 0) = false := by rw [beq_eq_false_iff_ne]; omega
  clear N0
  go_enter Try.func36, Try.ntmps36
  go_wp2_with fail
  refine (Na.out).mono ?_
  rintro e w1 ⟨x, rfl, hO, hB⟩
  go_wp2_with fail
  refine (natOf_c w1 1 (by omega)).mono ?_
  rintro e w2 ⟨y, rfl, hO2, hB2⟩
  have C := natCmp_c w2 x y _ _ (hO.num.below hB2) hO2.num (by decide) (by decide)
  rw [val_dg, val_dg, cmpI_lt (by omega)] at C
  have HC := Lib.hid C
  clear C
  obtain ⟨A, c, e0⟩ := hO.num.form
  rw [show (dg 0).length = 0 from rfl] at e0
  subst e0
  go_wp2_with fail
  refine (HC.out).mono ?_
  rintro e w3 ⟨rfl, hB3⟩
  go_wp2_with fail
  go_ret2
  exact ⟨_, rfl, Own.nil _ _, below_then (below_then hB hB2) hB3⟩

set_option maxHeartbeats 4000000 in
theorem natPow_many (w : World) (va : Value) (xs : List Nat) (a n : Nat) (ha : Num w va xs) (hza : xs.length ≤ 1000000) (hn : 1 ≤ n) (hn2 : n < 9223372036854775808) (hv : val xs = a) (h2 : 2 ≤ a) (hP : nbits (a ^ n) ≤ 65536) :
    Calls Try.prog 36 #[va, .int .i64 (n : Int)] w (RPow w (a ^ n)) := by
  have hla := dg_length_val xs ha.small
  have N0 := natNorm_c w va xs ha (by omega)
  rw [hv] at N0 hla
  have Na := Lib.hid N0
  have hn0 : ((n : Int) == 0) = false := by rw [beq_eq_false_iff_ne]; omega
  have hsm : ∀ i, i ≤ n → nbits (a ^ i) ≤ 65536 := fun i hi => Nat.le_trans (nbits_mono (Nat.pow_le_pow_right (by omega) hi)) hP
  have HSM := Lib.hid hsm
  clear N0 hv hP hsm
  go_enter Try.func36, Try.ntmps36
  go_wp2_with fail
  refine (Na.out).mono ?_
  rintro e w1 ⟨x, rfl, hO, hB⟩
  go_wp2_with fail
  refine (natOf_c w1 1 (by omega)).mono ?_
  rintro e w2 ⟨y, rfl, hO2, hB2⟩
  have C := natCmp_c w2 x y _ _ (hO.num.below hB2) hO2.num (by omega) (by decide)
  rw [val_dg, val_dg, cmpI_gt (by omega)] at C
  have HC := Lib.hid C
  clear C
  have hl0 : 0 < (dg a).length := by
    rcases Nat.eq_zero_or_pos (dg a).length with h | h
    · have := dg_len0 h; omega
    · exact h
  obtain ⟨m, hm⟩ : ∃ m, (dg a).length = m := ⟨_, rfl⟩
  have hNx := hO.num.below hB2
  obtain ⟨A, c, e0⟩ := hNx.form
  rw [hm] at e0 hl0 hla
  subst e0
  have hmi : ((m : Int) == 0) = false := by rw [beq_eq_false_iff_ne]; omega
  have HM := Lib.hid hm
  have hB4 := below_then hB hB2
  have hO4 := hO2.mono hB.size
  clear hm hO hO2 hB hB2
  go_wp2_with fail
  refine (HC.out).mono ?_
  rintro e w3 ⟨rfl, hB3⟩
  have hNx3 := hNx.below hB3
  have hO5 := hO4.below hB3 (Nat.le_refl _)
  have hB5 := below_then hB4 hB3
  clear hNx hO4 hB4 hB3
  go_wp2_with fail
  go_loopw [7, 8] (fun out i wr => ∃ k : Nat, k ≤ n ∧ i = .int .i64 k ∧ Own w.heap.size wr out (dg (a ^ k)) ∧ Num wr (.slice A m c) (dg a) ∧ Below w.heap.size w wr) (fun _ i _ => n - (intOf i).toNat)
  case atStart => exact ⟨0, Nat.zero_le _, rfl, by rw [Nat.pow_zero]; exact hO5, hNx3, hB5⟩
  case round =>
    obtain ⟨k, hk, rfl, hOw, hN, hBw⟩ := hrel
    clear hNx3 hO5 hB5
    by_cases hlt : k < n
    · have hb0 := HSM.out k hk
      have hb1 := HSM.out (k + 1) hlt
      have hlt0 := lt_of_nbits hb0
      have hlt1 := lt_of_nbits hb1
      have hlen := dg_length_le (a ^ k) 2048 (pow_room (m := 65536) (k := 2048) (K := 2048) hlt0 (by decide) (by decide))
      have hlen1 := dg_length_le (a ^ (k + 1)) 2048 (pow_room (m := 65536) (k := 2048) (K := 2048) hlt1 (by decide) (by decide))
      have M := natMul_c wr _ _ _ _ hOw.num hN (by omega) (by rw [HM.out]; omega)
      rw [val_dg, val_dg, show a ^ k * a = a ^ (k + 1) from rfl] at M
      have HMM := Lib.hid M
      have hki : (k : Int) < n := by omega
      clear hlt0 hlt1 M hlen
      go_wp2_with fail
      refine (HMM.out).mono ?_
      rintro e w4 ⟨r, rfl, hO6, hB6⟩
      have NB := natBits_c w4 r _ hO6.num (by omega)
      rw [val_dg] at NB
      have HNB := Lib.hid NB
      have hO7 := hO6.mono hBw.size
      have hN7 := hN.below hB6
      have hB7 := below_then hBw hB6
      have hbi : (nbits (a ^ (k + 1)) : Int) ≤ 65536 := by omega
      generalize nbits (a ^ (k + 1)) = b1 at *
      clear NB hO6 hN hB6 hBw hOw
      go_wp2_with fail
      refine (HNB.out).mono ?_
      rintro e w5 ⟨rfl, hB8⟩
      have hO9 := hO7.below hB8 (Nat.le_refl _)
      have hN9 := hN7.below hB8
      have hB9 := below_then hB7 hB8
      clear hO7 hN7 hB7 hB8
      go_wp2_with fail
      go_roundw
      case rel => exact ⟨k + 1, by omega, by go_num, hO9, hN9, hB9⟩
      case measure => simp [intOf]; omega
    · have : k = n := by omega
      subst this
      go_wp2_with fail
      go_ret2
      exact ⟨_, rfl, hOw, hBw⟩

theorem natPow_c (w : World) (va : Value) (xs : List Nat) (a n : Nat) (ha : Num w va xs) (hza : xs.length ≤ 1000000) (hn2 : n < 9223372036854775808) (hv : val xs = a) (hP : nbits (a ^ n) ≤ 65536) :
    Calls Try.prog 36 #[va, .int .i64 (n : Int)] w (RPow w (a ^ n)) := by
  rcases Nat.eq_zero_or_pos n with h0 | h0
  · subst h0
    rw [Nat.pow_zero]
    exact natPow_zero w va xs ha hza
  · rcases Nat.lt_or_ge a 2 with h2 | h2
    · rcases (show a = 0 ∨ a = 1 by omega) with h | h
      · rw [h, Nat.zero_pow h0]
        exact natPow_nil w va xs n ha hza h0 hn2 (by omega)
      · rw [h, Nat.one_pow]
        exact natPow_one w va xs n ha hza h0 hn2 (by omega)
    · exact natPow_many w va xs a n ha hza h0 hn2 hv h2 hP
end Go.Proofs.Yticakmcjiofhoaa

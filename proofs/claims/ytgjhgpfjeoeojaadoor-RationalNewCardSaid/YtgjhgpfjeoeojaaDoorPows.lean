/- The contracts of power and Pow. -/
import Derived.Test.YtgjhgpfjeoeojaaDoorKarats
import Derived.Test.YtgjhgpfjeoeojaaDoorVals
namespace Go.Proofs.YtgjhgpfjeoeojaaDoor
open Go.RowKit Dig
set_option linter.unusedVariables false

namespace Dig
theorem pow_half (a n k : Nat) : a ^ (n / 2 ^ k) = a ^ (n / 2 ^ (k + 1)) * a ^ (n / 2 ^ (k + 1)) * (if n / 2 ^ k % 2 = 1 then a else 1) := by
  have e : n / 2 ^ (k + 1) = n / 2 ^ k / 2 := by rw [Nat.pow_succ, Nat.div_div_eq_div_mul]
  rw [e]
  generalize n / 2 ^ k = m
  rw [← Nat.pow_add]
  split
  · next h => rw [← Nat.pow_succ]; congr 1; omega
  · next h => rw [Nat.mul_one]; congr 1; omega
theorem pow_le_top (a n k : Nat) (ha : 0 < a) : a ^ (n / 2 ^ k) ≤ a ^ n := Nat.pow_le_pow_right ha (Nat.div_le_self _ _)
end Dig
theorem and1 (m : Nat) (h : m < 9223372036854775808) : bits .and .i64 (m : Int) 1 = ((m % 2 : Nat) : Int) := by
  show IntKind.i64.wrap ((BitVec.ofInt 64 (m : Int) &&& BitVec.ofInt 64 1).toNat : Int) = _
  have e1 : (BitVec.ofInt 64 (m : Int)).toNat = m := by
    rw [BitVec.ofInt_natCast, BitVec.toNat_ofNat]; exact Nat.mod_eq_of_lt (by omega)
  have e2 : (BitVec.ofInt 64 1).toNat = 1 := by decide
  rw [BitVec.toNat_and, e1, e2, show m &&& 1 = m % 2 from Nat.and_one_is_mod m, IntKind.wrap_i64]
  omega

set_option maxHeartbeats 2000000 in
theorem power_c (w : World) (va : Value) (xs : List Nat) (a n : Nat) (ha : Num w va xs) (hv : val xs = a) (hz : xs.length ≤ 1000000) (ha0 : 0 < a) (hn : 1 ≤ n) (hn2 : n < 9223372036854775808) (hP : a ^ n < 4294967296 ^ 1000000) :
    Calls Tryd.prog 86 #[va, .int .i64 (n : Int)] w (RNat w (a ^ n)) := by
  have NN := normalize_c w va xs ha (by omega)
  rw [hv] at NN
  have HNN := Lib.hid NN
  have hL := bitLen_eq n (by omega)
  have BL := fun W => Tryd.bits_Len (n : Int) W (by omega) (by omega)
  simp only [Int.toNat_natCast, hL] at BL
  have HBL := Lib.hid BL
  obtain ⟨l1, l2⟩ := nbits_le n hn
  have l3 := nbits_lt n
  have l4 : nbits n ≤ 63 := by
    rcases Nat.lt_or_ge 63 (nbits n) with h | h
    · have : 2 ^ 63 ≤ 2 ^ (nbits n - 1) := Nat.pow_le_pow_right (by omega) (by omega)
      omega
    · exact h
  have hst : n / 2 ^ (nbits n - 1) = 1 := by
    have e1 : 1 ≤ n / 2 ^ (nbits n - 1) := (Nat.le_div_iff_mul_le (Nat.pow_pos (by omega))).2 (by omega)
    have e2 : n / 2 ^ (nbits n - 1) < 2 := by
      rw [Nat.div_lt_iff_lt_mul (Nat.pow_pos (by omega)), ← Nat.pow_succ']
      rw [show (nbits n - 1).succ = nbits n by omega]
      exact l3
    omega
  have HST := Lib.hid hst
  generalize hLL : nbits n = L at *
  have HV := Lib.hid hv
  have HP := Lib.hid hP
  have hni : (n : Int) < 9223372036854775808 := by omega
  clear NN BL hL hst l2 l3 hLL hv hP
  go_enter Tryd.func86, Tryd.ntmps86
  go_wp2_with fail
  refine (HNN.out).mono ?_
  rintro e w1 ⟨r, rfl, hr, hB1⟩
  go_wp2_with fail
  refine (HBL.out _).mono ?_
  rintro e w2 ⟨rfl, hw⟩
  obtain rfl : w1 = w2 := hw.symm
  clear hw
  go_wp2_with fail
  go_loopw [5, 6] (fun out i wr => ∃ k : Nat, k + 1 ≤ L ∧ i = .int .i64 ((k : Int) - 1) ∧ Own w.heap.size wr out (dg (a ^ (n / 2 ^ k))) ∧ Below w.heap.size w wr) (fun _ i _ => (intOf i + 1).toNat)
  case atStart => exact ⟨L - 1, by omega, by go_num, by rw [HST.out, Nat.pow_one]; exact hr, hB1⟩
  case round =>
    obtain ⟨k, hk, rfl, hO, hB⟩ := hrel
    clear hr hB1
    rcases Nat.eq_zero_or_pos k with h0 | h0
    · subst h0
      rw [Nat.pow_zero, Nat.div_one] at hO
      go_wp2_with fail
      go_ret
      exact ⟨_, rfl, hO, hB⟩
    · obtain ⟨j, rfl⟩ : ∃ j, k = j + 1 := ⟨k - 1, by omega⟩
      rw [show (((j + 1 : Nat) : Int) - 1) = (j : Int) by omega]
      have hpl : (dg (a ^ (n / 2 ^ (j + 1)))).length ≤ 1000000 := dg_length_le _ _ (Nat.lt_of_le_of_lt (pow_le_top a n (j + 1) ha0) HP.out)
      have hsq : a ^ (n / 2 ^ (j + 1)) * a ^ (n / 2 ^ (j + 1)) ≤ a ^ n := by
        have h1 := pow_half a n j
        have h2 := pow_le_top a n j ha0
        have h3 : a ^ (n / 2 ^ (j + 1)) * a ^ (n / 2 ^ (j + 1)) * 1 ≤ a ^ (n / 2 ^ (j + 1)) * a ^ (n / 2 ^ (j + 1)) * (if n / 2 ^ j % 2 = 1 then a else 1) := Nat.mul_le_mul_left _ (by split <;> omega)
        omega
      have hsl : (dg (a ^ (n / 2 ^ (j + 1)) * a ^ (n / 2 ^ (j + 1)))).length ≤ 1000000 := dg_length_le _ _ (Nat.lt_of_le_of_lt hsq HP.out)
      have M1 := mul_c wr _ _ _ _ hO.num hO.num (by omega)
      rw [val_dg] at M1
      have HM1 := Lib.hid M1
      have HH := Lib.hid (pow_half a n j)
      have hmb : n / 2 ^ j < 9223372036854775808 := Nat.lt_of_le_of_lt (Nat.div_le_self _ _) hn2
      have hand := and1 (n / 2 ^ j) hmb
      have e2 : ((n / 2 ^ j : Nat) : Int) = (n : Int) / 2 ^ j := by rw [Int.natCast_ediv, Int.natCast_pow]; rfl
      rw [e2] at hand
      have hj : (j : Int) < 64 := by omega
      by_cases hbit : n / 2 ^ j % 2 = 1
      · have hb1 : (bits .and .i64 ((n : Int) / 2 ^ j) 1 == 1) = true := by rw [hand, hbit]; rfl
        rw [hbit] at hand
        clear M1 hO hsq hpl e2 hmb hand
        go_wp2_with fail
        refine (HM1.out).mono ?_
        rintro e w3 ⟨s, rfl, hs, hB3⟩
        have hB4 := below_then hB hB3
        have M2 := mul_c w3 _ _ _ _ hs.num (ha.below hB4) (by omega)
        rw [val_dg, HV.out] at M2
        have HM2 := Lib.hid M2
        clear M2 hs hB3 hsl
        go_wp2_with fail
        refine (HM2.out).mono ?_
        rintro e w4 ⟨t, rfl, ht, hB5⟩
        have hB6 := below_then hB4 hB5
        have ht2 : Own w.heap.size w4 t (dg (a ^ (n / 2 ^ j))) := by
          rw [HH.out, if_pos hbit]
          exact ht.mono hB4.size
        clear ht hB5
        go_wp2_with fail
        go_roundw
        case rel => exact ⟨j, by omega, by go_num, ht2, hB6⟩
        case measure => simp [intOf]
      · have hb1 : (bits .and .i64 ((n : Int) / 2 ^ j) 1 == 1) = false := by rw [hand, beq_eq_false_iff_ne]; omega
        clear M1 hO hsq hpl e2 hmb hand
        go_wp2_with fail
        refine (HM1.out).mono ?_
        rintro e w3 ⟨s, rfl, hs, hB3⟩
        have hB4 := below_then hB hB3
        have ht2 : Own w.heap.size w3 s (dg (a ^ (n / 2 ^ j))) := by
          rw [HH.out, if_neg hbit, Nat.mul_one]
          exact hs.mono hB.size
        clear hs hB3 hsl
        go_wp2_with fail
        go_roundw
        case rel => exact ⟨j, by omega, by go_num, ht2, hB4⟩
        case measure => simp [intOf]

namespace Dig
theorem nbits_pow_le (a n : Nat) : a ^ n < 2 ^ (nbits a * n + 1) := by
  have h := Nat.pow_le_pow_left (Nat.le_of_lt (nbits_lt a)) n
  rw [← Nat.pow_mul] at h
  have : 2 ^ (nbits a * n) < 2 ^ (nbits a * n + 1) := Nat.pow_lt_pow_right (by omega) (by omega)
  omega
theorem nbits_pow_ge (a n : Nat) (ha : 0 < a) : (nbits a - 1) * n + 1 ≤ nbits (a ^ n) := by
  have h := Nat.pow_le_pow_left (nbits_le a ha).2 n
  rw [← Nat.pow_mul] at h
  have h2 := nbits_mono h
  have h3 : nbits (2 ^ ((nbits a - 1) * n)) = (nbits a - 1) * n + 1 := nbits_unique _ _ (Nat.le_refl _) (Nat.pow_lt_pow_right (by omega) (by omega))
  omega
theorem lt_of_nbits {a k : Nat} (h : nbits a ≤ k) : a < 2 ^ k := Nat.lt_of_lt_of_le (nbits_lt a) (Nat.pow_le_pow_right (by omega) h)
theorem nbits_le_of {a k : Nat} (h : a < 2 ^ k) : nbits a ≤ k := by
  rcases Nat.eq_zero_or_pos a with h0 | h0
  · subst h0; simp [nbits_zero]
  · obtain ⟨h1, h2⟩ := nbits_le a h0
    have := (Nat.pow_lt_pow_iff_right (by omega : 1 < 2)).1 (Nat.lt_of_le_of_lt h2 h)
    omega
end Dig

theorem pow_room {x m k K : Nat} (h : x < 2 ^ m) (hm : m ≤ 32 * k) (hK : k ≤ K) : x < 4294967296 ^ K := by
  have e : (2 ^ 32 : Nat) = 4294967296 := by decide
  have h1 : (2 : Nat) ^ m ≤ 2 ^ (32 * K) := Nat.pow_le_pow_right (by omega) (by omega)
  rw [Nat.pow_mul, e] at h1
  exact Nat.lt_of_lt_of_le h h1

/-- Pow hands back a number of its own and no error. -/
def RPow (w : World) (n : Nat) (e : Ending) (w' : World) : Prop := ∃ r, e = .returned (.tuple #[r, .int .i64 0]) ∧ Own w.heap.size w' r (dg n) ∧ Below w.heap.size w w'
theorem bitLen_b (w : World) (v : Value) (xs : List Nat) (h : Num w v xs) (hz : xs.length ≤ 8796093022208) :
    Calls Tryd.prog 58 #[v] w fun e w' => e = .returned (.int .i64 (nbits (val xs))) ∧ w = w' := by
  obtain ⟨A, c, rfl⟩ := h.form
  exact bitLen_c w A _ c xs h (by omega)

set_option maxHeartbeats 1000000 in
theorem pow_zero_c (w : World) (va : Value) : Calls Tryd.prog 73 #[va, .int .i64 0] w (RPow w 1) := by
  have F := Lib.hid (from_c w 1 (by omega))
  go_enter Tryd.func73, Tryd.ntmps73
  go_wp2_with fail
  refine (F.out).mono ?_
  rintro e w1 ⟨r, rfl, hr, hB⟩
  go_wp2_with fail
  go_ret2
  exact ⟨_, rfl, hr, hB⟩

set_option maxHeartbeats 1000000 in
theorem pow_one_c (w : World) (va : Value) (xs : List Nat) (n : Nat) (ha : Num w va xs) (hz : xs.length ≤ 1000000) (h1 : nbits (val xs) ≤ 1) (hn : 1 ≤ n) (hn2 : n < 9223372036854775808) : Calls Tryd.prog 73 #[va, .int .i64 (n : Int)] w (RPow w (val xs)) := by
  have BL := Lib.hid (bitLen_b w va xs ha (by omega))
  have NN := Lib.hid (normalize_c w va xs ha (by omega))
  have hn0 : ((n : Int) == 0) = false := by rw [beq_eq_false_iff_ne]; omega
  have hni : (1 : Int) ≤ n := by omega
  go_enter Tryd.func73, Tryd.ntmps73
  go_wp2_with fail
  refine (BL.out).mono ?_
  rintro e w1 ⟨rfl, rfl⟩
  generalize nbits (val xs) = b at *
  go_wp2_with fail
  refine (NN.out).mono ?_
  rintro e w1 ⟨r, rfl, hr, hB⟩
  go_wp2_with fail
  go_ret2
  exact ⟨_, rfl, hr, hB⟩

theorem pow_guard {b n : Nat} (hn : 1 ≤ n) : b - 1 ≤ 65535 / n ↔ (b - 1) * n ≤ 65535 := Nat.le_div_iff_mul_le hn

set_option maxHeartbeats 2000000 in
theorem pow_many_c (w : World) (va : Value) (xs : List Nat) (a n : Nat) (ha : Num w va xs) (hv : val xs = a) (hz : xs.length ≤ 1000000) (h2 : 2 ≤ nbits a) (hn : 1 ≤ n) (hn2 : n < 9223372036854775808) (hP : nbits (a ^ n) ≤ 65536) : Calls Tryd.prog 73 #[va, .int .i64 (n : Int)] w (RPow w (a ^ n)) := by
  have ha0 : 0 < a := by
    rcases Nat.eq_zero_or_pos a with h | h
    · subst h; simp [nbits_zero] at h2
    · exact h
  have hg := nbits_pow_ge a n ha0
  have hlt := lt_of_nbits hP
  have hl6 : a ^ n < 4294967296 ^ 1000000 := pow_room (m := 65536) (k := 2048) (K := 1000000) hlt (by omega) (by omega)
  have PW := Lib.hid (power_c w va xs a n ha hv hz ha0 hn hn2 hl6)
  have BL := bitLen_b w va xs ha (by omega)
  rw [hv] at BL
  have HBL := Lib.hid BL
  have hgd : nbits a - 1 ≤ 65535 / n := (pow_guard hn).2 (by omega)
  generalize hb : nbits a = b at *
  have hn0 : ((n : Int) == 0) = false := by rw [beq_eq_false_iff_ne]; omega
  have hni : (1 : Int) ≤ n := by omega
  have hdi : (65535 : Int) / (n : Int) = ((65535 / n : Nat) : Int) := rfl
  have hgi : (b : Int) - 1 ≤ (65535 : Int) / (n : Int) := by rw [hdi]; omega
  have hd0 : 0 ≤ (65535 : Int) / (n : Int) := by rw [hdi]; exact Int.natCast_nonneg _
  have hd1 : (65535 : Int) / (n : Int) ≤ 65535 := by
    rw [hdi]
    have := Nat.div_le_self 65535 n
    omega
  have hpl : (dg (a ^ n)).length ≤ 1000000 := dg_length_le _ _ hl6
  generalize hp : a ^ n = p at *
  have hpi : (nbits p : Int) ≤ 65536 := by omega
  have hbb : b ≤ 9223372036854775807 := by
    have := Nat.div_le_self 65535 n
    omega
  have hb2 : (2 : Int) ≤ b := by omega
  clear BL hb hg hlt hl6 hgd hdi hp
  go_enter Tryd.func73, Tryd.ntmps73
  go_wp2_with fail
  refine (HBL.out).mono ?_
  rintro e w1 ⟨rfl, rfl⟩
  go_wp2_with fail
  refine (PW.out).mono ?_
  rintro e w1 ⟨r, rfl, hr, hB⟩
  have B2 := bitLen_b w1 r _ hr.num (by omega)
  rw [val_dg] at B2
  have HB2 := Lib.hid B2
  generalize nbits p = np at *
  clear B2
  go_wp2_with fail
  refine (HB2.out).mono ?_
  rintro e w2 ⟨rfl, rfl⟩
  go_wp2_with fail
  go_ret2
  exact ⟨_, rfl, hr, hB⟩

theorem pow_c (w : World) (va : Value) (xs : List Nat) (a n : Nat) (ha : Num w va xs) (hv : val xs = a) (hz : xs.length ≤ 1000000) (hn2 : n < 9223372036854775808) (hP : nbits (a ^ n) ≤ 65536) : Calls Tryd.prog 73 #[va, .int .i64 (n : Int)] w (RPow w (a ^ n)) := by
  rcases Nat.eq_zero_or_pos n with h0 | h0
  · subst h0
    rw [Nat.pow_zero]
    exact pow_zero_c w va
  · rcases Nat.lt_or_ge (nbits a) 2 with h2 | h2
    · have h := pow_one_c w va xs n ha hz (by rw [hv]; omega) h0 hn2
      have e : a ^ n = val xs := by
        rw [hv]
        have hl := lt_of_nbits (show nbits a ≤ 1 by omega)
        have : a = 0 ∨ a = 1 := by omega
        rcases this with rfl | rfl
        · exact Nat.zero_pow h0
        · exact Nat.one_pow n
      rw [e]
      exact h
    · exact pow_many_c w va xs a n ha hv hz h2 h0 hn2 hP

theorem pow_neg_c (w : World) (va : Value) (i : Int) (hi : i < 0) : Calls Tryd.prog 73 #[va, .int .i64 i] w fun e w' => e = .returned (.tuple #[.slice none 0 0, .int .i64 1]) ∧ w = w' := by
  have h1 : ¬ (0 : Int) ≤ i := by omega
  go_enter Tryd.func73, Tryd.ntmps73
  go_wp2_with fail
  go_ret2
  exact ⟨rfl, rfl⟩

set_option maxHeartbeats 1000000 in
theorem pow_large_c (w : World) (va : Value) (xs : List Nat) (a n : Nat) (ha : Num w va xs) (hv : val xs = a) (hz : xs.length ≤ 1000000) (h2 : 2 ≤ nbits a) (hn : 1 ≤ n) (hn2 : n < 9223372036854775808) (hP : 65535 / n < nbits a - 1) : Calls Tryd.prog 73 #[va, .int .i64 (n : Int)] w fun e w' => e = .returned (.tuple #[.slice none 0 0, .int .i64 4]) ∧ w = w' := by
  have BL := bitLen_b w va xs ha (by omega)
  rw [hv] at BL
  have HBL := Lib.hid BL
  have hbb : nbits a ≤ 32000000 := by
    have h1 := val_lt xs ha.small
    rw [hv] at h1
    have e : (2 ^ 32 : Nat) = 4294967296 := by decide
    rw [← e, ← Nat.pow_mul] at h1
    have := nbits_le_of h1
    omega
  generalize hb : nbits a = b at *
  have hn0 : ((n : Int) == 0) = false := by rw [beq_eq_false_iff_ne]; omega
  have hni : (1 : Int) ≤ n := by omega
  have hdi : (65535 : Int) / (n : Int) = ((65535 / n : Nat) : Int) := rfl
  have hgi : ¬ (b : Int) - 1 ≤ (65535 : Int) / (n : Int) := by rw [hdi]; omega
  have hgj : (65535 : Int) / (n : Int) < (b : Int) - 1 := by rw [hdi]; omega
  have hd0 : 0 ≤ (65535 : Int) / (n : Int) := by rw [hdi]; exact Int.natCast_nonneg _
  have hd1 : (65535 : Int) / (n : Int) ≤ 65535 := by
    rw [hdi]
    have := Nat.div_le_self 65535 n
    omega
  have hb2 : (2 : Int) ≤ b := by omega
  clear BL hb hdi hP
  go_enter Tryd.func73, Tryd.ntmps73
  go_wp2_with fail
  refine (HBL.out).mono ?_
  rintro e w1 ⟨rfl, rfl⟩
  go_wp2_with fail
  go_ret2
  exact ⟨rfl, rfl⟩
end Go.Proofs.YtgjhgpfjeoeojaaDoor

/- The contract of Pow in the form in which the laws use it. -/
namespace Go.Proofs.YtgjhgpfjeoeojaaDoor
open Go.RowKit Dig
set_option linter.unusedVariables false

namespace Dig
theorem cmpI_ge {a b : Nat} (h : b ≤ a) : 0 ≤ cmpI a b ∧ cmpI a b ≤ 1 ∧ cmpI b a = - cmpI a b := by
  rcases Nat.lt_or_ge b a with h1 | h1
  · rw [cmpI_gt h1, cmpI_lt h1]; omega
  · have : a = b := by omega
    subst this
    rw [cmpI_eq]; omega
theorem nbits_lim {x : Nat} (h : x < 4294967296 ^ 8) : nbits x ≤ 256 := by
  have e : (4294967296 ^ 8 : Nat) = 2 ^ 256 := by decide
  exact nbits_le_of (by rw [← e]; exact h)
theorem pow2_bits {n k : Nat} (h : n + 1 ≤ k) : nbits (2 ^ n) ≤ k := by
  have : nbits (2 ^ n) = n + 1 := nbits_unique _ _ (Nat.le_refl _) (Nat.pow_lt_pow_right (by omega) (by omega))
  omega
end Dig

section
variable {w : World} {va : Value} {a k n : Nat}
theorem pow_v (ha : NumV w va a k) (hk : k ≤ 1000000) (hn : n < 9223372036854775808) (hP : nbits (a ^ n) ≤ 65536) :
    Calls Tryd.prog 73 #[va, .int .i64 (n : Int)] w fun e w' => ∃ r, e = .returned (.tuple #[r, .int .i64 0]) ∧ Can w' r (a ^ n) 2048 ∧ Below w.heap.size w w' := by
  obtain ⟨L, h1, h2, h3⟩ := ha
  have hlt := lt_of_nbits hP
  have hr := pow_room (m := 65536) (k := 2048) (K := 2048) hlt (by decide) (by decide)
  exact (pow_c w va L a n h1 h2 (by omega) hn hP).mono fun e w' ⟨r, x, y, z⟩ => ⟨r, x, ⟨y.num, hr⟩, z⟩
theorem pow2_max (ha : NumV w va 2 k) (hk : k ≤ 1000000) :
    Calls Tryd.prog 73 #[va, .int .i64 65535] w fun e w' => ∃ r P, e = .returned (.tuple #[r, .int .i64 0]) ∧ Can w' r P 2048 ∧ nbits P = 65536 ∧ Below w.heap.size w w' := by
  have H : ∀ n : Nat, n + 1 = 65536 → Calls Tryd.prog 73 #[va, .int .i64 (n : Int)] w fun e w' => ∃ r P, e = .returned (.tuple #[r, .int .i64 0]) ∧ Can w' r P 2048 ∧ nbits P = 65536 ∧ Below w.heap.size w w' := by
    intro n hn
    exact (pow_v (n := n) ha hk (by omega) (pow2_bits (by omega))).mono fun e w' ⟨r, x, y, z⟩ => ⟨r, _, x, y, (nbits_unique _ _ (Nat.le_refl _) (Nat.pow_lt_pow_right (by omega) (by omega))).trans hn, z⟩
  exact H 65535 rfl
theorem pow2_over (ha : NumV w va 2 k) (hk : k ≤ 1000000) :
    Calls Tryd.prog 73 #[va, .int .i64 65536] w fun e w' => e = .returned (.tuple #[.slice none 0 0, .int .i64 4]) ∧ Below w.heap.size w w' := by
  have hb : nbits 2 = 2 := by decide
  obtain ⟨L, h1, h2, h3⟩ := ha
  exact (pow_large_c w va L 2 65536 h1 h2 (by omega) (by omega) (by omega) (by omega) (by rw [hb]; decide)).mono fun e w' ⟨x, y⟩ => ⟨x, by rw [← y]; exact Below.refl _ _⟩
theorem pow_one_v (ha : NumV w va 1 k) (hk : k ≤ 1000000) (hn : n < 9223372036854775808) :
    Calls Tryd.prog 73 #[va, .int .i64 (n : Int)] w fun e w' => ∃ r, e = .returned (.tuple #[r, .int .i64 0]) ∧ Can w' r 1 2048 ∧ Below w.heap.size w w' := by
  have h := pow_v (n := n) ha hk hn (by rw [Nat.one_pow]; decide)
  rw [Nat.one_pow] at h
  exact h
theorem pow_nil_v (ha : NumV w va 0 k) (hk : k ≤ 1000000) (hn : n < 9223372036854775808) (h0 : 0 < n) :
    Calls Tryd.prog 73 #[va, .int .i64 (n : Int)] w fun e w' => ∃ A c, e = .returned (.tuple #[.slice A 0 c, .int .i64 0]) ∧ Below w.heap.size w w' := by
  have h := pow_v (n := n) ha hk hn (by rw [Nat.zero_pow h0]; decide)
  rw [Nat.zero_pow h0] at h
  refine h.mono ?_
  rintro e w' ⟨r, x, y, z⟩
  obtain ⟨A, c, e2⟩ := y.1.form
  rw [show (dg 0).length = 0 from rfl] at e2
  subst e2
  exact ⟨A, c, x, z⟩
theorem pow_neg_v (w : World) (va : Value) (i : Int) (hi : i < 0) : Calls Tryd.prog 73 #[va, .int .i64 i] w (RVal w (.tuple #[.slice none 0 0, .int .i64 1])) :=
  (pow_neg_c w va i hi).mono fun e w' ⟨x, y⟩ => ⟨x, by rw [← y]; exact Below.refl _ _⟩
end
end Go.Proofs.YtgjhgpfjeoeojaaDoor

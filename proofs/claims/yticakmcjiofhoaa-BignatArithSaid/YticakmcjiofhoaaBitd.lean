/- Plain lemmas: division bit by bit, and the bits of a number in its digits. -/
import Derived.Test.YticakmcjiofhoaaSum
namespace Go.Proofs.Yticakmcjiofhoaa
namespace Dig

theorem digit_of_val (xs : List Nat) (hs : Small xs) (j : Nat) (h : j < xs.length) : xs.getD j 0 = val xs / 4294967296 ^ j % 4294967296 := by
  have h1 := val_take_drop xs j (by omega)
  have h2 := val_lt (xs.take j) (hs.take j)
  rw [List.length_take, Nat.min_eq_left (by omega)] at h2
  have h3 : xs.drop j = xs.getD j 0 :: xs.drop (j + 1) := by
    rw [List.drop_eq_getElem_cons h]
    simp [List.getD_eq_getElem?_getD, h]
  have h4 : val (xs.drop j) = xs.getD j 0 + 4294967296 * val (xs.drop (j + 1)) := by rw [h3]; rfl
  have h5 : val xs / 4294967296 ^ j = val (xs.drop j) := by
    rw [h1, Nat.add_mul_div_left _ _ (Nat.pow_pos (by omega)), Nat.div_eq_of_lt h2, Nat.zero_add]
  rw [h5, h4]
  have := hs.get j
  omega
theorem pow_base (j : Nat) : (4294967296 : Nat) ^ j = 2 ^ (32 * j) := by
  rw [Nat.pow_mul]
theorem bit_of_digit (m s : Nat) (hs : s < 32) : m % 4294967296 / 2 ^ s % 2 = m / 2 ^ s % 2 := by
  have h := Nat.testBit_mod_two_pow m 32 s
  have e : (2 : Nat) ^ 32 = 4294967296 := by decide
  rw [e] at h
  simp only [hs, decide_true, Bool.true_and] at h
  have h1 : (m % 4294967296).testBit s = decide (m % 4294967296 / 2 ^ s % 2 = 1) := Nat.testBit_eq_decide_div_mod_eq
  have h2 : m.testBit s = decide (m / 2 ^ s % 2 = 1) := Nat.testBit_eq_decide_div_mod_eq
  rw [h1, h2] at h
  have := decide_eq_decide.1 h
  omega
/-- Bit i of a number is bit i mod 32 of its digit i / 32. -/
theorem bit_of (xs : List Nat) (hs : Small xs) (i : Nat) (h : i / 32 < xs.length) : xs.getD (i / 32) 0 / 2 ^ (i % 32) % 2 = val xs / 2 ^ i % 2 := by
  rw [digit_of_val xs hs _ h, bit_of_digit _ _ (Nat.mod_lt _ (by omega)), pow_base, Nat.div_div_eq_div_mul, ← Nat.pow_add]
  congr 3
  omega
/-- A digit whose number is divisible by 2 ^ (i + 1). -/
theorem low_of (xs : List Nat) (hs : Small xs) (i : Nat) (h : i / 32 < xs.length) (hd : 2 ^ (i + 1) ∣ val xs) : xs.getD (i / 32) 0 % 2 ^ (i % 32 + 1) = 0 := by
  obtain ⟨q, hq⟩ := hd
  have hsl : i % 32 < 32 := Nat.mod_lt _ (by omega)
  rw [digit_of_val xs hs _ h, hq, pow_base]
  have e : 2 ^ (i + 1) * q = 2 ^ (32 * (i / 32)) * (2 ^ (i % 32 + 1) * q) := by
    rw [← Nat.mul_assoc, ← Nat.pow_add]
    congr 2
    omega
  rw [e, Nat.mul_div_cancel_left _ (Nat.pow_pos (by omega))]
  have e2 : (4294967296 : Nat) = 2 ^ (i % 32 + 1) * 2 ^ (31 - i % 32) := by
    rw [← Nat.pow_add, show i % 32 + 1 + (31 - i % 32) = 32 by omega]
  rw [e2, Nat.mod_mul_right_mod]
  exact Nat.mul_mod_right _ _
/-- Setting a bit that is 0. -/
theorem or_low (d s : Nat) (h : d % 2 ^ (s + 1) = 0) : d ||| 2 ^ s = d + 2 ^ s := by
  obtain ⟨q, hq⟩ := Nat.dvd_of_mod_eq_zero h
  have := Nat.shiftLeft_add_eq_or_of_lt (i := s + 1) (b := 2 ^ s) (Nat.pow_lt_pow_right (by omega) (by omega)) q
  rw [Nat.shiftLeft_eq, Nat.mul_comm, ← hq] at this
  exact this.symm
theorem set_fits (d s : Nat) (h : d % 2 ^ (s + 1) = 0) (hs : s < 32) (hd : d < 4294967296) : d + 2 ^ s < 4294967296 := by
  have e2 : (4294967296 : Nat) = 2 ^ (s + 1) * 2 ^ (31 - s) := by
    rw [← Nat.pow_add, show s + 1 + (31 - s) = 32 by omega]
  obtain ⟨q, hq⟩ := Nat.dvd_of_mod_eq_zero h
  rw [hq, e2] at hd
  have hq2 : q < 2 ^ (31 - s) := Nat.lt_of_mul_lt_mul_left hd
  have h3 : 2 ^ (s + 1) * (q + 1) ≤ 2 ^ (s + 1) * 2 ^ (31 - s) := Nat.mul_le_mul_left _ hq2
  rw [Nat.mul_add, Nat.mul_one, ← hq, ← e2] at h3
  have h4 : 2 ^ s < 2 ^ (s + 1) := Nat.pow_lt_pow_right (by omega) (by omega)
  omega
theorem pow_split (i : Nat) : 4294967296 ^ (i / 32) * 2 ^ (i % 32) = 2 ^ i := by
  rw [pow_base, ← Nat.pow_add]
  congr 1
  omega
/-- The value after a bit has been set. -/
theorem val_set_bit (xs : List Nat) (i : Nat) (h : i / 32 < xs.length) : val (xs.set (i / 32) (xs.getD (i / 32) 0 + 2 ^ (i % 32))) = val xs + 2 ^ i := by
  have h1 := val_set xs (i / 32) (xs.getD (i / 32) 0 + 2 ^ (i % 32)) h
  rw [Nat.mul_add, pow_split] at h1
  omega

/-- One step of the division of X by y. -/
theorem div_step (X y i : Nat) (hy : 0 < y) :
    (2 * (X / 2 ^ (i + 1) % y) + X / 2 ^ i % 2 < 2 * y) ∧
    (y ≤ 2 * (X / 2 ^ (i + 1) % y) + X / 2 ^ i % 2 → X / 2 ^ i % y = 2 * (X / 2 ^ (i + 1) % y) + X / 2 ^ i % 2 - y ∧ 2 ^ i * (X / 2 ^ i / y) = 2 ^ (i + 1) * (X / 2 ^ (i + 1) / y) + 2 ^ i) ∧
    (2 * (X / 2 ^ (i + 1) % y) + X / 2 ^ i % 2 < y → X / 2 ^ i % y = 2 * (X / 2 ^ (i + 1) % y) + X / 2 ^ i % 2 ∧ 2 ^ i * (X / 2 ^ i / y) = 2 ^ (i + 1) * (X / 2 ^ (i + 1) / y)) := by
  have e : X / 2 ^ (i + 1) = X / 2 ^ i / 2 := by rw [Nat.pow_succ, Nat.div_div_eq_div_mul]
  rw [e]
  generalize X / 2 ^ i = m
  have hm := Nat.div_add_mod m 2
  have hq := Nat.div_add_mod (m / 2) y
  have hr := Nat.mod_lt (m / 2) hy
  have hb := Nat.mod_lt m (show 2 > 0 by omega)
  generalize m / 2 / y = Q at *
  generalize m / 2 % y = R at *
  generalize hM : m / 2 = h2 at *
  generalize hB : m % 2 = b at *
  have e1 : m = y * (2 * Q) + (2 * R + b) := by
    rw [Nat.mul_left_comm, ← hm, ← hq]
    omega
  refine ⟨by omega, fun hge => ?_, fun hlt => ?_⟩
  · have e2 : m = y * (2 * Q + 1) + (2 * R + b - y) := by
      rw [Nat.mul_add, Nat.mul_one]; omega
    have hd : m / y = 2 * Q + 1 := by
      rw [e2, Nat.mul_add_div hy, Nat.div_eq_of_lt (by omega), Nat.add_zero]
    have hmod : m % y = 2 * R + b - y := by
      rw [e2, Nat.mul_add_mod]
      exact Nat.mod_eq_of_lt (by omega)
    refine ⟨hmod, ?_⟩
    rw [hd, Nat.mul_add, Nat.mul_one, Nat.pow_succ, Nat.mul_assoc]
  · have hd : m / y = 2 * Q := by
      rw [e1, Nat.mul_add_div hy, Nat.div_eq_of_lt hlt, Nat.add_zero]
    have hmod : m % y = 2 * R + b := by
      rw [e1, Nat.mul_add_mod]
      exact Nat.mod_eq_of_lt hlt
    refine ⟨hmod, ?_⟩
    rw [hd, Nat.pow_succ, Nat.mul_assoc]
end Dig
end Go.Proofs.Yticakmcjiofhoaa

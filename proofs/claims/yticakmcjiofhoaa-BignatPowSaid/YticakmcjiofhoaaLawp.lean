/- The contract of Pow in the form in which the laws use it. -/
import Derived.Test.YticakmcjiofhoaaLawv
import Derived.Test.YticakmcjiofhoaaPow
namespace Go.Proofs.Yticakmcjiofhoaa
open Go.RowKit Dig
set_option linter.unusedVariables false

namespace Dig
theorem cmpI_ge {a b : Nat} (h : b ≤ a) : 0 ≤ cmpI a b ∧ cmpI a b ≤ 1 ∧ cmpI b a = - cmpI a b := by
  rcases Nat.lt_or_ge b a with h1 | h1
  · rw [cmpI_gt h1, cmpI_lt h1]; omega
  · have : a = b := by omega
    subst this
    rw [cmpI_eq]; omega
theorem nbits_lim {x : Nat} (h : x < 4294967296 ^ 8) : nbits x ≤ 256 := by
  have e : (4294967296 ^ 8 : Nat) = 2 ^ 256 := by decide
  exact nbits_le_of (by rw [← e]; exact h)
theorem pow2_bits {n k : Nat} (h : n + 1 ≤ k) : nbits (2 ^ n) ≤ k := by
  have : nbits (2 ^ n) = n + 1 := nbits_unique _ _ (Nat.le_refl _) (Nat.pow_lt_pow_right (by omega) (by omega))
  omega
end Dig

section
variable {w : World} {va : Value} {a k n : Nat}
theorem pow_v (ha : NumV w va a k) (hk : k ≤ 1000000) (hn : n < 9223372036854775808) (hP : nbits (a ^ n) ≤ 65536) :
    Calls Try.prog 35 #[va, .int .i64 (n : Int)] w fun e w' => ∃ r, e = .returned (.tuple #[r, .int .i64 0]) ∧ Can w' r (a ^ n) 2048 ∧ Below w.heap.size w w' := by
  obtain ⟨L, h1, h2, h3⟩ := ha
  have hlt := lt_of_nbits hP
  have hr := pow_room (m := 65536) (k := 2048) (K := 2048) hlt (by decide) (by decide)
  exact (pow_c w va L a n h1 h2 (by omega) hn hP).mono fun e w' ⟨r, x, y, z⟩ => ⟨r, x, ⟨y.num, hr⟩, z⟩
theorem pow2_max (ha : NumV w va 2 k) (hk : k ≤ 1000000) :
    Calls Try.prog 35 #[va, .int .i64 65535] w fun e w' => ∃ r P, e = .returned (.tuple #[r, .int .i64 0]) ∧ Can w' r P 2048 ∧ nbits P = 65536 ∧ Below w.heap.size w w' := by
  have H : ∀ n : Nat, n + 1 = 65536 → Calls Try.prog 35 #[va, .int .i64 (n : Int)] w fun e w' => ∃ r P, e = .returned (.tuple #[r, .int .i64 0]) ∧ Can w' r P 2048 ∧ nbits P = 65536 ∧ Below w.heap.size w w' := by
    intro n hn
    exact (pow_v (n := n) ha hk (by omega) (pow2_bits (by omega))).mono fun e w' ⟨r, x, y, z⟩ => ⟨r, _, x, y, (nbits_unique _ _ (Nat.le_refl _) (Nat.pow_lt_pow_right (by omega) (by omega))).trans hn, z⟩
  exact H 65535 rfl
theorem pow2_over (ha : NumV w va 2 k) (hk : k ≤ 1000000) :
    Calls Try.prog 35 #[va, .int .i64 65536] w fun e w' => e = .returned (.tuple #[.slice none 0 0, .int .i64 4]) ∧ Below w.heap.size w w' := by
  have hb : nbits 2 = 2 := by decide
  obtain ⟨L, h1, h2, h3⟩ := ha
  exact (pow_large_c w va L 2 65536 h1 h2 (by omega) (by omega) (by omega) (by omega) (by rw [hb]; decide)).mono fun e w' ⟨x, y⟩ => ⟨x, by rw [← y]; exact Below.refl _ _⟩
theorem pow_one_v (ha : NumV w va 1 k) (hk : k ≤ 1000000) (hn : n < 9223372036854775808) :
    Calls Try.prog 35 #[va, .int .i64 (n : Int)] w fun e w' => ∃ r, e = .returned (.tuple #[r, .int .i64 0]) ∧ Can w' r 1 2048 ∧ Below w.heap.size w w' := by
  have h := pow_v (n := n) ha hk hn (by rw [Nat.one_pow]; decide)
  rw [Nat.one_pow] at h
  exact h
theorem pow_nil_v (ha : NumV w va 0 k) (hk : k ≤ 1000000) (hn : n < 9223372036854775808) (h0 : 0 < n) :
    Calls Try.prog 35 #[va, .int .i64 (n : Int)] w fun e w' => ∃ A c, e = .returned (.tuple #[.slice A 0 c, .int .i64 0]) ∧ Below w.heap.size w w' := by
  have h := pow_v (n := n) ha hk hn (by rw [Nat.zero_pow h0]; decide)
  rw [Nat.zero_pow h0] at h
  refine h.mono ?_
  rintro e w' ⟨r, x, y, z⟩
  obtain ⟨A, c, e2⟩ := y.1.form
  rw [show (dg 0).length = 0 from rfl] at e2
  subst e2
  exact ⟨A, c, x, z⟩
theorem pow_neg_v (w : World) (va : Value) (i : Int) (hi : i < 0) : Calls Try.prog 35 #[va, .int .i64 i] w (RVal w (.tuple #[.slice none 0 0, .int .i64 1])) :=
  (pow_neg_c w va i hi).mono fun e w' ⟨x, y⟩ => ⟨x, by rw [← y]; exact Below.refl _ _⟩
end
end Go.Proofs.Yticakmcjiofhoaa

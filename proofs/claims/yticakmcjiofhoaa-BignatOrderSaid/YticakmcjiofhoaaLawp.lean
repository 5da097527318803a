/- The contract of Pow in the form in which the laws use it. -/
import Derived.Test.YticakmcjiofhoaaLawv
import Derived.Test.YticakmcjiofhoaaPow
namespace Go.Proofs.Yticakmcjiofhoaa
open Go.RowKit Dig
set_option linter.unusedVariables false

namespace Dig
theorem cmpI_ge {a b : Nat} (h : b ≤ a) : 0 ≤ cmpI a b ∧ cmpI a b ≤ 1 ∧ cmpI b a = - cmpI a b := by
  rcases Nat.lt_or_ge b a with h1 | h1
  · rw [cmpI_gt h1, cmpI_lt h1]; omega
  · have : a = b := by omega
    subst this
    rw [cmpI_eq]; omega
theorem nbits_lim {x : Nat} (h : x < 4294967296 ^ 8) : nbits x ≤ 256 := by
  have e : (4294967296 ^ 8 : Nat) = 2 ^ 256 := by decide
  exact nbits_le_of (by rw [← e]; exact h)
theorem pow2_bits {n k : Nat} (h : n + 1 ≤ k) : nbits (2 ^ n) ≤ k := by
  have : nbits (2 ^ n) = n + 1 := nbits_unique _ _ (Nat.le_refl _) (Nat.pow_lt_pow_right (by omega) (by omega))
  omega
end Dig

section
variable {w : World} {va : Value} {a k n : Nat}
theorem pow_v (ha : NumV w va a k) (hk : k ≤ 1000000) (hn : n < 9223372036854775808) (hP : nbits (a ^ n) ≤ 65536) :
    Calls Try.prog 35 #[va, .int .i64 (n : Int)] w fun e w' => ∃ r, e = .returned (.tuple #[r, .int .i64 0]) ∧ Can w' r (a ^ n) 2048 ∧ Below w.heap.size w w' := by
  obtain ⟨L, h1, h2, h3⟩ := ha
  have hlt := lt_of_nbits hP
  have hr := pow_room (m := 65536) (k := 2048) (K := 2048) hlt (by decide) (by decide)
  exact (pow_c w va L a n h1 h2 (by omega) hn hP).mono fun e w' ⟨r, x, y, z⟩ => ⟨r, x, ⟨y.num, hr⟩, z⟩
end
end Go.Proofs.Yticakmcjiofhoaa

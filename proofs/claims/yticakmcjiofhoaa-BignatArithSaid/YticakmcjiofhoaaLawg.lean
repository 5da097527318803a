/- The contract of GCD in the form in which the laws use it. -/
import Derived.Test.YticakmcjiofhoaaLawd
import Derived.Test.YticakmcjiofhoaaGcd
namespace Go.Proofs.Yticakmcjiofhoaa
open Go.RowKit Dig
set_option linter.unusedVariables false

namespace Dig
theorem gcd_lt_pow {a b k l : Nat} (ha : a < 4294967296 ^ k) (hb : b < 4294967296 ^ l) : Nat.gcd a b < 4294967296 ^ (k + l) := by
  rcases Nat.eq_zero_or_pos a with h | h
  · rw [h, Nat.gcd_zero_left]; exact Nat.lt_of_lt_of_le hb (pow_le (by omega))
  · exact Nat.lt_of_le_of_lt (Nat.le_of_dvd h (Nat.gcd_dvd_left a b)) (Nat.lt_of_lt_of_le ha (pow_le (by omega)))
theorem gcd_facts {x y z : Nat} (hx : 0 < x) : 0 < Nat.gcd x y ∧ x % Nat.gcd x y = 0 ∧ y % Nat.gcd x y = 0 ∧ Nat.gcd (x / Nat.gcd x y) (y / Nat.gcd x y) = 1 ∧ Nat.gcd (x * z) (y * z) = Nat.gcd x y * z := by
  have h := Nat.gcd_pos_of_pos_left y hx
  refine ⟨h, Nat.mod_eq_zero_of_dvd (Nat.gcd_dvd_left x y), Nat.mod_eq_zero_of_dvd (Nat.gcd_dvd_right x y), ?_, Nat.gcd_mul_right x z y⟩
  rw [Nat.gcd_div (Nat.gcd_dvd_left x y) (Nat.gcd_dvd_right x y), Nat.div_self h]
end Dig
section
variable {w : World} {va vb : Value} {a b k l : Nat}
theorem gcd_v (ha : NumV w va a k) (hb : NumV w vb b l) (hk : k ≤ 1000000) (hl : l ≤ 1000000) : Calls Try.prog 32 #[va, vb] w (RCan w (Nat.gcd a b) (k + l)) := by
  have hf := gcd_lt_pow ha.lt hb.lt
  obtain ⟨L, h1, h2, h3⟩ := ha
  obtain ⟨M, g1, g2, g3⟩ := hb
  subst h2
  subst g2
  exact (gcd_c w va vb L M h1 g1 (by omega) (by omega)).mono fun e w' h => RCan.of h hf
end
end Go.Proofs.Yticakmcjiofhoaa

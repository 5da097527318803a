/- The contracts of the reference functions in the form in which the laws use them. -/
import Derived.Test.YticakmcjiofhoaaLawp
import Derived.Test.YticakmcjiofhoaaRefP
namespace Go.Proofs.Yticakmcjiofhoaa
open Go.RowKit Dig
set_option linter.unusedVariables false

theorem and31 (z : Int) : ∃ k : Nat, k < 32 ∧ bits .and .i64 z 31 = (k : Int) := by
  refine ⟨((BitVec.ofInt 64 z).toNat % 32), Nat.mod_lt _ (by omega), ?_⟩
  show IntKind.i64.wrap ((BitVec.ofInt 64 z &&& BitVec.ofInt 64 31).toNat : Int) = _
  have e2 : (BitVec.ofInt 64 31).toNat = 31 := by decide
  have h := Nat.and_two_pow_sub_one_eq_mod (BitVec.ofInt 64 z).toNat 5
  rw [BitVec.toNat_and, e2, show (BitVec.ofInt 64 z).toNat &&& 31 = (BitVec.ofInt 64 z).toNat % 32 from h, IntKind.wrap_i64]
  omega
namespace Dig
theorem pow_bits {x n : Nat} (h : x < 4294967296 ^ 8) (hn : n ≤ 31) : nbits (x ^ n) ≤ 65536 := by
  have h1 := Nat.pow_le_pow_left (Nat.le_of_lt h) n
  have e : (2 ^ 256 : Nat) = 4294967296 ^ 8 := by decide
  rw [← e, ← Nat.pow_mul] at h1
  have h2 : (2 : Nat) ^ (256 * n) < 2 ^ (256 * n + 1) := Nat.pow_lt_pow_right (by omega) (by omega)
  have := nbits_le_of (Nat.lt_of_le_of_lt h1 h2)
  omega
end Dig

section
variable {w : World} {va vb : Value} {a b k l n : Nat}
theorem natPow_v (ha : NumV w va a k) (hk : k ≤ 1000000) (hn : n < 9223372036854775808) (hP : nbits (a ^ n) ≤ 65536) :
    Calls Try.prog 36 #[va, .int .i64 (n : Int)] w fun e w' => ∃ r, e = .returned (.tuple #[r, .int .i64 0]) ∧ Can w' r (a ^ n) 2048 ∧ Below w.heap.size w w' := by
  obtain ⟨L, h1, h2, h3⟩ := ha
  have hlt := lt_of_nbits hP
  have hr := pow_room (m := 65536) (k := 2048) (K := 2048) hlt (by decide) (by decide)
  exact (natPow_c w va L a n h1 (by omega) hn h2 hP).mono fun e w' ⟨r, x, y, z⟩ => ⟨r, x, ⟨y.num, hr⟩, z⟩
end
end Go.Proofs.Yticakmcjiofhoaa

/- The contracts of the reference: CRC-32C and FNV-1a. -/
import Derived.Laws.BitsAllLaws
import Derived.Test.YtckomifecmemnaaGreatBytes
import Derived.Test.YtckomifecmemnaaGreatCrc
namespace Go.Proofs.YtckomifecmemnaaGreat
open Go.RowKit Dig
set_option linter.unusedVariables false
theorem not32 (r : Nat) (h : r < 4294967296) : bits .xor .u32 IntKind.u32.max (r : Int) = (cpl r : Int) := by
  have e : IntKind.u32.max = ((4294967295 : Nat) : Int) := by decide
  rw [e, u32_xor_nat _ _ (by omega) h, Nat.xor_comm]
  rfl
/-- What one more bit does, in the words of the walk. -/
theorem st_odd {x : Nat} (h : x < 4294967296) (h1 : x % 2 = 1) : bits .and .u32 (x : Int) 1 = 1 ∧ bits .xor .u32 ((x : Int) / 2) 2197175160 = (st x : Int) := by
  refine ⟨?_, ?_⟩
  · have := u32_and_nat x 1 h (by omega)
    rw [Nat.and_one_is_mod, h1] at this
    exact this
  · have e := u32_xor_nat (x / 2) 2197175160 (by omega) (by omega)
    unfold st
    rw [if_pos h1, ← e]
    rfl
theorem st_zero {x : Nat} (h : x < 4294967296) (h1 : ¬ x % 2 = 1) : bits .and .u32 (x : Int) 1 = 0 ∧ (x : Int) / 2 = (st x : Int) := by
  refine ⟨?_, ?_⟩
  · have := u32_and_nat x 1 h (by omega)
    rw [Nat.and_one_is_mod, show x % 2 = 0 by omega] at this
    exact this
  · unfold st
    rw [if_neg h1]
    rfl
theorem take_more (F : Nat) (ts : List UInt8) {j : Nat} (hj : j < ts.length) : ext F (ts.take (j + 1)) = sts 8 (ext F (ts.take j) ^^^ (ts.getD j 0).toNat) := by
  rw [List.take_add_one, List.getElem?_eq_getElem hj]
  show ext F (ts.take j ++ [ts[j]]) = _
  rw [ext_snoc, List.getD_eq_getElem?_getD, List.getElem?_eq_getElem hj]
  rfl
section
variable {w : World} {v : Value} {ts : List UInt8}
theorem hash_more (F : Nat) (ts : List UInt8) {j : Nat} (hj : j < ts.length) : fnv F (ts.take (j + 1)) = (fnv F (ts.take j) ^^^ (ts.getD j 0).toNat) * 1099511628211 % 18446744073709551616 := by
  rw [List.take_add_one, List.getElem?_eq_getElem hj]
  show fnv F (ts.take j ++ [ts[j]]) = _
  rw [fnv_snoc, fst1_eq, List.getD_eq_getElem?_getD, List.getElem?_eq_getElem hj]
  rfl
end
end Go.Proofs.YtckomifecmemnaaGreat

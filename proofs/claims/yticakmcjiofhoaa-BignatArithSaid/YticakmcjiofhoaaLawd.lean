/- The contract of DivMod in the form in which the laws use it. -/
import Derived.Test.YticakmcjiofhoaaLawv
import Derived.Test.YticakmcjiofhoaaDiv
namespace Go.Proofs.Yticakmcjiofhoaa
open Go.RowKit Dig
set_option linter.unusedVariables false

section
variable {w : World} {va vb : Value} {a b k l : Nat}
theorem div_v (ha : NumV w va a k) (hb : NumV w vb b l) (hk : k ≤ 1000000) (h0 : 0 < b) :
    Calls Try.prog 17 #[va, vb] w fun e w' => ∃ q r, e = .returned (.tuple #[q, r, .bool true]) ∧ Can w' q (a / b) k ∧ Can w' r (a % b) k ∧ Own w.heap.size w' q (dg (a / b)) ∧ Own w.heap.size w' r (dg (a % b)) ∧ Below w.heap.size w w' := by
  have hf := ha.lt
  obtain ⟨L, h1, h2, h3⟩ := ha
  obtain ⟨M, g1, g2, g3⟩ := hb
  subst h2
  subst g2
  exact (div_c w va vb L M h1 g1 (by omega) h0).mono fun e w' ⟨q, r, x, y, z, t⟩ => ⟨q, r, x, ⟨y.num, Nat.lt_of_le_of_lt (Nat.div_le_self _ _) hf⟩, ⟨z.num, Nat.lt_of_le_of_lt (Nat.mod_le _ _) hf⟩, y, z, t⟩
theorem div0_v (ha : NumV w va a k) (hb : NumV w vb 0 l) :
    Calls Try.prog 17 #[va, vb] w fun e w' => e = .returned (.tuple #[.slice none 0 0, .slice none 0 0, .bool false]) ∧ Below w.heap.size w w' := by
  obtain ⟨L, h1, h2, h3⟩ := ha
  obtain ⟨M, g1, g2, g3⟩ := hb
  exact (div_zero w va vb L M h1 g1 g2).mono fun e w' ⟨x, y⟩ => ⟨x, by rw [← y]; exact Below.refl _ _⟩
end
end Go.Proofs.Yticakmcjiofhoaa

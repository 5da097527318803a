/- The contracts of the reference functions FracDiv, FracSub, FracSign, FracCmp, FracComplement, FracIsCanonical. -/
import Derived.Test.YtkdnmmbnljaahaaRefkn
import Derived.Test.YtkdnmmbnljaahaaRatF
import Derived.Test.YtkdnmmbnljaahaaRefL
namespace Go.Proofs.Ytkdnmmbnljaahaa
open Go.RowKit Dig
set_option linter.unusedVariables false

theorem canF_len0 {w : World} {b : Bool} {A A' : Option Addr} {m c m' c' k : Nat} {q : Rat} (h : CanF w (.agg #[.bool b, .slice A m c, .slice A' m' c']) q k) : m = 0 ↔ q = 0 := by
  obtain ⟨vn, vd, e, h1, h2⟩ := h
  simp only [Value.agg.injEq, Array.mk.injEq, List.cons.injEq, and_true] at e
  obtain ⟨_, rfl, _⟩ := e
  obtain ⟨B, d, e⟩ := h1.1.form
  cases e
  rw [List.length_eq_zero_iff, dg_nil_iff, Int.natAbs_eq_zero, Rat.num_eq_zero]
section
variable {w : World} {va vb : Value} {p q : Rat} {k l : Nat}
/-- As Ready, and the second numerator is empty just where the fraction is 0. -/
def ReadyD (w w' : World) (p q : Rat) (k l g0 g1 g2 : Nat) : Prop :=
  ∃ na A m c A' m' c' n d nb B i j B' i' j' s t, Fcl w' g0 na (.slice A m c) (.slice A' m' c') ∧ Fcl w' g1 nb (.slice B i j) (.slice B' i' j') ∧ Fcl w' g2 false (.slice none 0 0) (.slice none 0 0) ∧
    NumV w' (.slice A m c) n k ∧ NumV w' (.slice A' m' c') d k ∧ d ≠ 0 ∧ fr na n d = p ∧ NumV w' (.slice B i j) s l ∧ NumV w' (.slice B' i' j') t l ∧ t ≠ 0 ∧ fr nb s t = q ∧ Below w.heap.size w w' ∧ (i = 0 ↔ q = 0)
end
end Go.Proofs.Ytkdnmmbnljaahaa

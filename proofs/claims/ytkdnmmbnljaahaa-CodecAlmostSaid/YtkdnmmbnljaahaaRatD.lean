/- The contracts of Sub, Complement, Sign, Div of package rational. -/
import Derived.Test.YtkdnmmbnljaahaaRatC
namespace Go.Proofs.Ytkdnmmbnljaahaa
open Go.RowKit Dig
set_option linter.unusedVariables false

section
variable {w : World} {va vb : Value} {p q : Rat} {k l : Nat}

/-- The boxes of an argument and of the result. -/
theorem two_boxes (w : World) (b0 : Bool) (x0 y0 : Value) :
    ∃ w2 g0 g2, (w.alloc (.cells #[.bool b0, x0, y0] 28)).alloc (.cells #[.bool false, .slice none 0 0, .slice none 0 0] 28) = w2 ∧
      w.heap.size = g0 ∧ g0 + 1 = g2 ∧ Below w.heap.size w w2 ∧ Fcl w2 g0 b0 x0 y0 ∧ Fcl w2 g2 false (.slice none 0 0) (.slice none 0 0) :=
  ⟨_, _, _, rfl, rfl, rfl, below_alloc2 w _ _, (Fcl.new w b0 x0 y0).alloc _, Fcl.new2 w _ false _ _⟩
theorem conj_r {w : World} {g0 : Nat} {b0 : Bool} {x0 y0 : Value} (h0 : Fcl w g0 b0 x0 y0) :
    w.cell? ⟨g0, 0, none⟩ = some (.bool b0) ∧ w.cell? ⟨g0, 1, none⟩ = some x0 ∧ w.cell? ⟨g0, 2, none⟩ = some y0 := h0.cells

end
end Go.Proofs.Ytkdnmmbnljaahaa

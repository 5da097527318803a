/- The contracts of the reference functions frac, FracNorm, FracNeg. -/
import Derived.Test.YtpmjhkpjhfpfpaaDoorRefI
import Derived.Test.YtpmjhkpjhfpfpaaDoorRefhh
namespace Go.Proofs.YtpmjhkpjhfpfpaaDoor
open Go.RowKit Dig
set_option linter.unusedVariables false

theorem Can.form0 {w : World} {v : Value} {k : Nat} (h : Can w v 0 k) : ∃ A c, v = .slice A 0 c := by
  obtain ⟨A, c, e⟩ := h.1.form
  exact ⟨A, c, e⟩
theorem Can.formP {w : World} {v : Value} {n k : Nat} (h : Can w v n k) (hn : n ≠ 0) : ∃ A l c, v = .slice A l c ∧ ((l : Int) == 0) = false := by
  obtain ⟨A, c, e⟩ := h.1.form
  refine ⟨A, _, c, e, ?_⟩
  rw [beq_eq_false_iff_ne]
  intro h0
  exact hn (dg_len0 (by omega))
theorem RCanF.zero {w w2 : World} {y : Value} {k g : Nat} {p : Bool} {A A' : Option Addr} {m m' e e' : Nat} (hy : Can w2 y 1 k) (hF : Fcl w2 g p (.slice A m e) (.slice A' m' e')) (hB : Below w.heap.size w w2) (hg : w.heap.size ≤ g) (z : Value) :
    RCanF w 0 k (.returned (.agg #[.bool false, .slice none 0 0, y])) (stor3 w2 g z (.slice none 0 0) y) :=
  RCanF.stored (q := 0) rfl (show Can w2 _ 0 k from ⟨Num.nil _, pow_pos' k⟩) (show Can w2 _ 1 k from hy) hF hB hg z
section
variable {w : World} {vn vd : Value} {n d k : Nat}

end

section
variable {w w' : World} {v : Value} {q : Rat} {k : Nat}

end
end Go.Proofs.YtpmjhkpjhfpfpaaDoor

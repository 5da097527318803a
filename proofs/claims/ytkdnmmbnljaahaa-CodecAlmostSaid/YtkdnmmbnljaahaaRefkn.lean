/- The contracts of the reference functions FracMul and FracAdd. -/
import Derived.Test.YtkdnmmbnljaahaaRefJ
import Derived.Test.YtkdnmmbnljaahaaBown
import Derived.Test.YtkdnmmbnljaahaaPlans
namespace Go.Proofs.Ytkdnmmbnljaahaa
open Go.RowKit Dig
set_option linter.unusedVariables false

section
variable {w : World} {va vb : Value} {p q : Rat} {k l : Nat}

end
end Go.Proofs.Ytkdnmmbnljaahaa

/- The contract of the reference function FracAdd. -/
namespace Go.Proofs.Ytkdnmmbnljaahaa
open Go.RowKit Dig
set_option linter.unusedVariables false

theorem natCmp_is {w : World} {va vb : Value} {a b k l : Nat} {z : Int} (ha : NumV w va a k) (hb : NumV w vb b l) (hk : k ≤ 1000000) (hl : l ≤ 1000000) (h : cmpI a b = z) :
    Calls Try.prog 67 #[va, vb] w (RVal w (.int .i64 z)) := h ▸ natCmp_v ha hb hk hl
section
variable {w : World} {va vb : Value} {p q : Rat} {k l : Nat}
end
end Go.Proofs.Ytkdnmmbnljaahaa

/- The walk of DiskKeeps over the program's disk. -/
import Derived.Test.YthknlimhenbhfaaDpm
import Derived.Test.YthknlimhenbhfaaDkk
namespace Go.Proofs.Ythknlimhenbhfaa
open Go.RowKit Dig
theorem keeps6 (w : World) (v1 : Value) (l1 : List Op6) (v2 : Value) (l2 : List Op6) (h1 : Ops6 w v1 l1) (h2 : Ops6 w v2 l2) : Calls Try.prog 6 #[v1, v2] w fun e w' => e = .returned (.bool true) ∧ Below w.heap.size w w' :=
  keeps_walk prog6 h1 h2
end Go.Proofs.Ythknlimhenbhfaa

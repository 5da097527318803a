/- The walk of DiskPlays over the program's disk. -/
import Derived.Test.YthknlimhenbhfaaDpm
import Derived.Test.YthknlimhenbhfaaDkq
namespace Go.Proofs.Ythknlimhenbhfaa
open Go.RowKit Dig
theorem plays6 (w : World) (v : Value) (l : List Op6) (h : Ops6 w v l) : Calls Try.prog 3 #[v] w fun e w' => e = .returned (.bool true) ∧ Below w.heap.size w w' :=
  plays_walk prog6 h
end Go.Proofs.Ythknlimhenbhfaa

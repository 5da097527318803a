/- The walk of DiskFresh over the program's disk. -/
import Derived.Test.YthknlimhenbhfaaDpm
import Derived.Test.YthknlimhenbhfaaDkg
import Derived.Test.YthknlimhenbhfaaBytes
namespace Go.Proofs.Ythknlimhenbhfaa
open Go.RowKit Dig
set_option linter.unusedVariables false
theorem fresh6 (w : World) (v : Value) (ts : List UInt8) (hv : Byt w v ts) {q : Int} (h : (Lit.int .u8 q).wf = true) : Calls Try.prog 8 #[v, .int .u8 q] w fun e w' => e = .returned (.bool true) ∧ Below w.heap.size w w' :=
  fresh_walk prog6 hv q
end Go.Proofs.Ythknlimhenbhfaa

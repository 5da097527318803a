/- The walk of DiskSizes over the program's disk. -/
import Derived.Test.YthknlimhenbhfaaDpm
import Derived.Test.YthknlimhenbhfaaDkz
import Derived.Test.YthknlimhenbhfaaBytes
namespace Go.Proofs.Ythknlimhenbhfaa
open Go.RowKit Dig
theorem sizes6 (w : World) {n : Int} (h : (Lit.int .i64 n).wf = true) : Calls Try.prog 4 #[.int .i64 n] w fun e w' => e = .returned (.bool true) ∧ Below w.heap.size w w' :=
  sizes_walk prog6 n (wf_i64 h).1 (wf_i64 h).2
end Go.Proofs.Ythknlimhenbhfaa

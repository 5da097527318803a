/- The walk of DiskDurable over the program's disk. -/
import Derived.Test.YthknlimhenbhfaaDpm
import Derived.Test.YthknlimhenbhfaaDkd
import Derived.Test.YthknlimhenbhfaaBytes
namespace Go.Proofs.Ythknlimhenbhfaa
open Go.RowKit Dig
set_option linter.unusedVariables false
theorem durable6 (w : World) (v1 : Value) (l1 : List Op6) (v2 : Value) (l2 : List Op6) {keep torn : Int} (h1 : Ops6 w v1 l1) (h2 : Ops6 w v2 l2) (hk : (Lit.int .u64 keep).wf = true) (ht : (Lit.int .i64 torn).wf = true) : Calls Try.prog 5 #[v1, v2, .int .u64 keep, .int .i64 torn] w fun e w' => e = .returned (.bool true) ∧ Below w.heap.size w w' := by
  have hb := wf_u64 hk
  obtain ⟨k, rfl⟩ := Int.eq_ofNat_of_zero_le hb.1
  exact durable_walk prog6 h1 h2 k (by omega) torn
end Go.Proofs.Ythknlimhenbhfaa

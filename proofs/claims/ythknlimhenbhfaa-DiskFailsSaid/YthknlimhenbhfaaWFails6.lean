/- The walk of DiskFails over the program's disk. -/
import Derived.Test.YthknlimhenbhfaaDpm
import Derived.Test.YthknlimhenbhfaaDkf
import Derived.Test.YthknlimhenbhfaaBytes
namespace Go.Proofs.Ythknlimhenbhfaa
open Go.RowKit Dig
theorem fails6 (w : World) (v : Value) (ts : List UInt8) {n : Int} (h : (Lit.int .u8 n).wf = true) (hv : Byt w v ts) : Calls Try.prog 7 #[.int .u8 n, v] w fun e w' => e = .returned (.bool true) ∧ Below w.heap.size w w' := by
  have hb := wf_byte h
  obtain ⟨k, rfl⟩ := Int.eq_ofNat_of_zero_le hb.1
  exact fails_walk prog6 (by omega) hv
end Go.Proofs.Ythknlimhenbhfaa

/- PagestoreFresh returns true for every input. -/
import Derived.Test.YtckomifecmemnaaGreatPkm
import Derived.Test.YtckomifecmemnaaGreatPmge
namespace Go.Proofs.YtckomifecmemnaaGreat
open Go.RowKit Dig
set_option linter.unusedVariables false

theorem fresh7 (w : World) (va vb : Value) (as0 bs : List UInt8) (ha : Byt w va as0) (hb : Byt w vb bs) : Calls Tryz.prog 7 #[va, vb] w (RVal w (.bool true)) := fresh7_walk prog7 w va vb as0 bs ha hb
end Go.Proofs.YtckomifecmemnaaGreat

/- PagestoreFull returns true for every input. -/
import Derived.Test.YtckomifecmemnaaGreatPkh
import Derived.Test.YtckomifecmemnaaGreatPmge
namespace Go.Proofs.YtckomifecmemnaaGreat
open Go.RowKit Dig
set_option linter.unusedVariables false

theorem full7 (w : World) (v : Value) (l : List Op7) {n : Int} (h : Ops7 w v l) (hn : (Lit.int .i64 n).wf = true) : Calls Tryz.prog 4 #[v, .int .i64 n] w (RVal w (.bool true)) := full7_walk prog7 h n
end Go.Proofs.YtckomifecmemnaaGreat

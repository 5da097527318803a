/- PagestorePlays returns true for every input. -/
import Derived.Test.YtckomifecmemnaaGreatPkfg
import Derived.Test.YtckomifecmemnaaGreatPmge
namespace Go.Proofs.YtckomifecmemnaaGreat
open Go.RowKit Dig
set_option linter.unusedVariables false

theorem plays7 (w : World) (v : Value) (l : List Op7) (h : Ops7 w v l) : Calls Tryz.prog 3 #[v] w (RVal w (.bool true)) := plays7_walk prog7 h
end Go.Proofs.YtckomifecmemnaaGreat

/- PagestoreApart returns true for every input. -/
import Derived.Test.YtckomifecmemnaaGreatPkl
import Derived.Test.YtckomifecmemnaaGreatPmge
namespace Go.Proofs.YtckomifecmemnaaGreat
open Go.RowKit Dig
set_option linter.unusedVariables false

theorem apart7 (w : World) (v : Value) (l : List Op7) (h : Ops7 w v l) : Calls Tryz.prog 6 #[v] w (RVal w (.bool true)) := apart7_walk prog7 h
end Go.Proofs.YtckomifecmemnaaGreat

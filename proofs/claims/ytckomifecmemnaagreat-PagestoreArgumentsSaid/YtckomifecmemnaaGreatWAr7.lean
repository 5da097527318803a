/- PagestoreArguments returns true for every input. -/
import Derived.Test.YtckomifecmemnaaGreatPkd
import Derived.Test.YtckomifecmemnaaGreatPmge
namespace Go.Proofs.YtckomifecmemnaaGreat
open Go.RowKit Dig
set_option linter.unusedVariables false

theorem args7 (w : World) {n k : Int} {b : Bool} (hn : (Lit.int .i64 n).wf = true) (hk : (Lit.int .i64 k).wf = true) : Calls Tryz.prog 5 #[.int .i64 n, .int .i64 k, .bool b] w (RVal w (.bool true)) := arguments_walk prog7 w n k (wf_i64 hn).1 (wf_i64 hn).2 (wf_i64 hk).1 (wf_i64 hk).2 b
end Go.Proofs.YtckomifecmemnaaGreat

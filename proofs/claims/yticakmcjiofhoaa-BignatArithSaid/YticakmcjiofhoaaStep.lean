/- Steps of 'nothing below turned', one after another. -/
import Derived.Test.YticakmcjiofhoaaSub
namespace Go.Proofs.Yticakmcjiofhoaa
open Go.RowKit Dig

theorem below_then {w w1 w2 : World} (h : Below w.heap.size w w1) (h2 : Below w1.heap.size w1 w2) : Below w.heap.size w w2 := h.trans (h2.mono h.size)
theorem below_undrew {w w' : World} (h : Below w.drew.heap.size w.drew w') : Below w.heap.size w w' := ⟨h.os, h.tape, h.output, h.size, h.block⟩
end Go.Proofs.Yticakmcjiofhoaa

/- Typed values: operations with guards. -/
import Derived.BigFrame
import Derived.Test.YtpbkmkcfhkdjjaaDoorVve
namespace Go.Proofs.YtpbkmkcfhkdjjaaDoor
open Go.RowKit Dig
set_option linter.unusedVariables false

section
variable {w : World} {ops : Array Oper} {rest : List Oper} {o : Oper} {a : Act} {Q : Exit → Act → World → Prop}
theorem wp_readG {v : Value} (hw : Region.wanted o (yielded ops a.tmps) = true) (he : (execOp a.eval o).run Tryd.prog w = .ok (.value v) w) (h : wpList Tryd.prog ops Q rest (a.put o.dst v) w) : wpList Tryd.prog ops Q (o :: rest) a w := by
  refine wpList_step fun K hK => ?_
  rw [if_pos hw]
  unfold Oper.wp
  rw [he]
  exact hK _ _ h
theorem wp_loadG (hw : Region.wanted o (yielded ops a.tmps) = true) (t : Tmp) (ho : o.op = .load 26 (.tmp t)) (b off : Nat) (x : Vl) (hx : a.eval (.tmp t) = .pointer (some ⟨b, off, none⟩)) (hr : w.rangeAt b off (vC x))
    (h : wpList Tryd.prog ops Q rest (a.put o.dst (vV x)) w) : wpList Tryd.prog ops Q (o :: rest) a w :=
  wp_readG hw (exec_loadV t hr ho hx) h
/-- Two values compared, with or without a guard. -/
theorem wp_eqG (hw : Region.wanted o (yielded ops a.tmps) = true) (t s : Tmp) (ho : o.op = .binOp .eql 26 (.tmp t) (.tmp s) 26) (x y : Vl) (D : Bool) (hx : a.eval (.tmp t) = vV x) (hy : a.eval (.tmp s) = vV y) (hd : decide (x = y) = D)
    (h : wpList Tryd.prog ops Q rest (a.put o.dst (.bool D)) w) : wpList Tryd.prog ops Q (o :: rest) a w := by
  subst hd
  exact wp_readG hw (exec_eqV t s ho hx hy) h
end
end Go.Proofs.YtpbkmkcfhkdjjaaDoor

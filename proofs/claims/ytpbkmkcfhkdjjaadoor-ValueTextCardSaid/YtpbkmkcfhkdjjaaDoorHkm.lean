/- Walks through drawn regions: the condition may be made stronger on the way; conversions of bytes, equality of strings and integers. -/
import Derived.Test.YtpbkmkcfhkdjjaaDoorSched
import Derived.Test.YtpbkmkcfhkdjjaaDoorBytes
namespace Go.Proofs.YtpbkmkcfhkdjjaaDoor
open Go.RowKit Dig
set_option linter.unusedVariables false

section
variable {P : Program} {ops : Array Oper} {Q : Exit → Act → World → Prop} {md : Region.Mode} {S S2 : World → Prop}
theorem hk_more (h : ∀ w, S2 w → S w) : ∀ (n : Nat) (L : Array Bool) (a : Act) (w : World), wpAnyH P md ops Q S2 n L a w → wpAnyH P md ops Q S n L a w
  | 0, _, _, _, H => H
  | n + 1, L, a, w, H => ⟨H.1, fun i hi => wpOp_mono (fun a' w' h' => ⟨h w' h'.1, hk_more h n _ a' w' h'.2⟩) (H.2 i hi)⟩
end
section
variable {ev : Operand → Value} {o : Oper} {w : World}
theorem exec_strB (t : Tmp) {u : Value} {ts : List UInt8} (h : Byt w u ts) (ho : o.op = .convert 33 9 (.tmp t)) (hx : ev (.tmp t) = u) : (execOp ev o).run Tryd.prog w = .ok (.value (.string ⟨ts.toArray⟩)) w := by
  have hrun := run_stringB w u ts h
  unfold execOp
  simp only [ho, hx, hrun, Sem.run_bind, Sem.run_pure, Result.andThen_ok]
theorem exec_eqStr (t s : Tmp) (x : ByteArray) (ho : o.op = .binOp .eql 9 (.tmp t) (.tmp s) 9) (hx : ev (.tmp t) = .string x) (hy : ev (.tmp s) = .string x) :
    (execOp ev o).run Tryd.prog w = .ok (.value (.bool true)) w := by
  unfold execOp
  simp only [ho, hx, hy]
  go_simp
theorem exec_eqLit (t : Tmp) (x : ByteArray) (ho : o.op = .binOp .eql 9 (.tmp t) (.const (.string x)) 9) (hx : ev (.tmp t) = .string x) (hy : ev (.const (.string x)) = .string x) :
    (execOp ev o).run Tryd.prog w = .ok (.value (.bool true)) w := by
  unfold execOp
  simp only [ho, hx, hy]
  go_simp
theorem exec_eqInt {T T' : TypeId} {k : IntKind} (t s : Tmp) (x : Int) (ho : o.op = .binOp .eql T (.tmp t) (.tmp s) T') (hx : ev (.tmp t) = .int k x) (hy : ev (.tmp s) = .int k x) :
    (execOp ev o).run Tryd.prog w = .ok (.value (.bool true)) w := by
  unfold execOp
  simp only [ho, hx, hy]
  cases k <;> go_simp
theorem exec_eqNum {T T' : TypeId} {k : IntKind} (t : Tmp) (x : Int) (ho : o.op = .binOp .eql T (.tmp t) (.const (.int k x)) T') (hx : ev (.tmp t) = .int k x) (hy : ev (.const (.int k x)) = .int k x) :
    (execOp ev o).run Tryd.prog w = .ok (.value (.bool true)) w := by
  unfold execOp
  simp only [ho, hx, hy]
  cases k <;> go_simp
theorem exec_low15 (t : Tmp) (n : Nat) (hn : n < 18446744073709551616) (ho : o.op = .binOp .and 59 (.tmp t) (.const (.int .u64 32767)) 59) (hx : ev (.tmp t) = .int .u64 (n : Int)) (hy : ev (.const (.int .u64 32767)) = .int .u64 32767) :
    (execOp ev o).run Tryd.prog w = .ok (.value (.int .u64 ((n % 32768 : Nat) : Int))) w := by
  have hb : bits .and .u64 (n : Int) 32767 = ((n % 32768 : Nat) : Int) := by
    have h := u64_and_nat n 32767 hn (by omega)
    rw [Nat.and_two_pow_sub_one_eq_mod n 15] at h
    exact h
  unfold execOp
  simp only [ho, hx, hy]
  go_simp
end
end Go.Proofs.YtpbkmkcfhkdjjaaDoor

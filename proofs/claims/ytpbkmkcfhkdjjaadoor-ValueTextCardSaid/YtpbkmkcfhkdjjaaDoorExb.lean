/- Operations on bytes in regions that draw their order: the address of a byte, a load, a cut, exclusive or, a store. -/
import Derived.Test.YtpbkmkcfhkdjjaaDoorHkm
namespace Go.Proofs.YtpbkmkcfhkdjjaaDoor
open Go.RowKit Dig
set_option linter.unusedVariables false

section
variable {ev : Operand → Value} {o : Oper} {w : World}
theorem exec_indexB (x i : Tmp) {b off n c j : Nat} (ho : o.op = .indexAddr 33 (.tmp x) (.tmp i)) (hx : ev (.tmp x) = .slice (some ⟨b, off, none⟩) n c) (hi : ev (.tmp i) = .int .i64 (j : Int)) (hj : j < n) :
    (execOp ev o).run Tryd.prog w = .ok (.value (.pointer (some ⟨b, off + j, none⟩))) w := by
  obtain ⟨i0, hi0, hz0, hz1, hz2⟩ := info_parts info_byte
  have hr : (Instr.indexAt 33 (.slice (some ⟨b, off, none⟩) n c) (.int .i64 (j : Int))).run Tryd.prog w = .ok (.pointer (some ⟨b, off + j, none⟩)) w := by
    simp [Instr.indexAt, run_underlying Tryd.underlying33, asIntOf, hj, sizeOf, typeInfo, hi0, hz1, Sem.run_bind, Addr.add]
  unfold execOp
  simp only [ho, hx, hi, Sem.run_bind, hr, Result.andThen_ok, Sem.run_pure]
theorem exec_indexB0 (x i : Tmp) {b n c j : Nat} (ho : o.op = .indexAddr 33 (.tmp x) (.tmp i)) (hx : ev (.tmp x) = .slice (some ⟨b, 0, none⟩) n c) (hi : ev (.tmp i) = .int .i64 (j : Int)) (hj : j < n) :
    (execOp ev o).run Tryd.prog w = .ok (.value (.pointer (some ⟨b, j, none⟩))) w := by
  have h := exec_indexB (w := w) x i ho hx hi hj
  rw [Nat.zero_add] at h
  exact h
theorem exec_loadB (t : Tmp) {p : Addr} {v : Value} (hc : w.cell? p = some v) (ho : o.op = .load 5 (.tmp t)) (hx : ev (.tmp t) = .pointer (some p)) : (execOp ev o).run Tryd.prog w = .ok (.value v) w :=
  exec_loadCell 5 (.tmp t) p v (.int .u8) ho hx hc Tryd.underlying5 rfl
theorem exec_cutB (t x : Tmp) {A : Option Addr} {n c k : Nat} (ho : o.op = .slice 33 (.tmp t) none (some (.tmp x)) none) (hx : ev (.tmp t) = .slice A n c) (hh : ev (.tmp x) = .int .i64 (k : Int)) (hk : k ≤ n) (hn : n ≤ c) :
    (execOp ev o).run Tryd.prog w = .ok (.value (.slice A k c)) w := by
  have hpi : (k : Int) ≤ (c : Int) := by omega
  unfold execOp
  simp only [ho, hx, hh, Option.map]
  go_simp
theorem exec_xorK {k : IntKind} {T T' : TypeId} (t s : Tmp) (x y z : Int) (ho : o.op = .binOp .xor T (.tmp t) (.tmp s) T') (hx : ev (.tmp t) = .int k x) (hy : ev (.tmp s) = .int k y) (hz : bits .xor k x y = z) :
    (execOp ev o).run Tryd.prog w = .ok (.value (.int k z)) w := by
  subst hz
  unfold execOp
  simp only [ho, hx, hy]
  cases k <;> go_simp
theorem exec_storeB {p : Addr} {x : Int} {y : Value} (t s : Tmp) (ho : o.op = .store 5 (.tmp t) (.tmp s)) (hx : ev (.tmp t) = .pointer (some p)) (hy : ev (.tmp s) = .int .u8 x)
    (hz : w.frozen? p = false) (hc : w.cell? p = some y) : (execOp ev o).run Tryd.prog w = .ok .skip (w.setCell p (.int .u8 x)) := by
  unfold execOp
  simp only [ho, hx, hy]
  go_simp
end
end Go.Proofs.YtpbkmkcfhkdjjaaDoor

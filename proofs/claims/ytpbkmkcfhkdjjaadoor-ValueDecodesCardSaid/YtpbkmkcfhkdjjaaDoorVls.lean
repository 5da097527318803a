/- Stage 8: lists made valid, appends of values in drawn regions. -/
import Derived.Lib.MinMax
import Derived.Test.YtpbkmkcfhkdjjaaDoorVvk
import Derived.Test.YtpbkmkcfhkdjjaaDoorVlr
namespace Go.Proofs.YtpbkmkcfhkdjjaaDoor
open Go.RowKit Dig
set_option linter.unusedVariables false

section
variable {ev : Operand → Value} {o : Oper} {w : World}
theorem exec_noneV (ho : o.op = .buildSlice 22 0 #[]) : (execOp ev o).run Tryd.prog w = .ok (.value (.slice (some ⟨w.heap.size, 0, none⟩) 0 0)) (w.alloc (.cells #[] 26)) := by
  obtain ⟨i0, hi, hz0, hz1, hz2⟩ := info_parts info_val
  have hr : (Instr.buildSlice 22 0 #[]).run Tryd.prog w = .ok (.slice (some ⟨w.heap.size, 0, none⟩) 0 0) (w.alloc (.cells #[] 26)) := by
    simp [Instr.buildSlice, run_underlying Tryd.underlying22, sizeOf, typeInfo, hi, newRow, Instr.fill]
    rw [show (Array.range 0 : Array Nat) = #[] from Array.eq_empty_of_size_eq_zero (by simp), Array.map_empty]
  unfold execOp
  simp only [ho, Sem.run_bind, Array.map_empty, hr, Result.andThen_ok, Sem.run_pure]
theorem ownV_none (w : World) : OwV w.heap.size (w.alloc (.cells #[] 26)) (.slice (some ⟨w.heap.size, 0, none⟩) 0 0) [] := World.ownsRow_made w #[] 0 (Nat.le_refl _) (by unfold maxLen; omega) (by simp)
theorem exec_minK {T : TypeId} (t : Tmp) (x : Int) (ho : o.op = .call { callee := .builtin .min, args := #[.tmp t, .const (.int .i64 1)], argTypes := #[T, T] }) (hx : ev (.tmp t) = .int .i64 x) (hk : ev (.const (.int .i64 1)) = .int .i64 1) : (execOp ev o).run Tryd.prog w = .ok (.value (.int .i64 (min x 1))) w := by
  unfold execOp
  simp [ho, resolve, invoke, builtin, hx, hk, Lib.run_min_ints, Result.andThen]
theorem exec_negI {T : TypeId} (t : Tmp) (x : Int) (ho : o.op = .unOp .neg T (.tmp t)) (hx : ev (.tmp t) = .int .i64 x) : (execOp ev o).run Tryd.prog w = .ok (.value (.int .i64 (IntKind.i64.wrap (-x)))) w := by
  unfold execOp
  simp only [ho, hx]
  go_simp
variable {ops : Array Oper} {rest : List Oper} {a : Act} {Q : Exit → Act → World → Prop} {S : World → Prop}
theorem wkS_appendV {i : Nat} {r : List (Nat × Bool)} (d : Option Tmp) (s x : Tmp) (hi : (ops[i]?).isSome = true) (hd : (opI ops i).dst = d)
    (hw : Region.wanted (opI ops i) (yielded ops a.tmps) = true) (ho : (opI ops i).op = .call { callee := .builtin .append, args := #[.tmp s, .tmp x], argTypes := #[22, 22] })
    (base : Nat) (v : Value) (l : List Vl) (hs : a.eval (.tmp s) = v) (hown : OwV base w v l) (u : Value) (m : List Vl) (hx : a.eval (.tmp x) = u) (hr : Vls w u m) (hb : l.length + m.length ≤ 1000000) (hbase : base ≤ w.heap.size)
    (h : ∀ v' w', OwV base w' v' (l ++ m) → w.grownBy w' v.ownBlock → S w' ∧ wkS Tryd.prog ops Q S r (a.put d v') w') : wkS Tryd.prog ops Q S ((i, false) :: r) a w := by
  obtain ⟨v', w', h1, h2, h3⟩ := exec_appendC (w := w) (ev := a.eval) (o := opI ops i) Tryd.underlying22 info_val rfl (by decide) s x ho base v l.length (vsC l) hs hown u m.length (vsC m) hx hr (vsC_oneCell m) hb (by decide) hbase
  have h4 := h v' w' (by unfold OwV; rw [List.length_append, vsC_append]; exact h2) h3
  exact wkS_doW d v' hi hd hw h1 h4.1 h4.2
end
/-- A list whose values are valid. -/
def OkL (l : List Vl) : Prop := l.length ≤ 16 ∧ ∀ y ∈ l, okV y ∧ OkVl y ∧ y.2.2.length ≤ 64
theorem OkL.few {l : List Vl} (h : OkL l) : Few l := ⟨by have := h.1; omega, fun y hy => ⟨(h.2 y hy).2.1, by have := (h.2 y hy).2.2; omega⟩⟩
theorem OkL.enc {l : List Vl} (h : OkL l) : encL l = keyL l := by
  unfold encL
  rw [if_pos (List.all_eq_true.2 fun y hy => (vldB_iff y).2 (h.2 y hy).1.1)]
theorem okL_make {l : List Vl} (h : fitB l = true) (ho : ∀ y ∈ l, OkVl y) : OkL (l.map mkV) ∧ (l.map mkV).length = l.length ∧ (l.map mkV).length ≤ 8 := by
  have hf := (fitB_iff l).1 h
  refine ⟨⟨by rw [List.length_map]; omega, fun y hy => ?_⟩, List.length_map _, by rw [List.length_map]; exact hf.1⟩
  obtain ⟨x, hx, rfl⟩ := List.mem_map.1 hy
  exact mkV_ok (ho x hx)
theorem okL_append {l m : List Vl} (h : OkL l) (h2 : OkL m) (hl : l.length ≤ 8) (hm : m.length ≤ 8) : OkL (l ++ m) := by
  refine ⟨by rw [List.length_append]; omega, fun y hy => ?_⟩
  rcases List.mem_append.1 hy with h' | h'
  · exact h.2 y h'
  · exact h2.2 y h'
theorem OkL.key {l : List Vl} (h : OkL l) : (keyL l).length ≤ 1056 := by
  have h1 := keyL_length (l := l) fun x hx => (h.2 x hx).1
  have := h.1
  omega
end Go.Proofs.YtpbkmkcfhkdjjaaDoor

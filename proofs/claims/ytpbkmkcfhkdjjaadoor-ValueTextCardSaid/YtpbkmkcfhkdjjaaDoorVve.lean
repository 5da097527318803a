/- Typed values: variables that hold a value, operations on them. -/
import Derived.Test.YtpbkmkcfhkdjjaaDoorVvb
namespace Go.Proofs.YtpbkmkcfhkdjjaaDoor
open Go.RowKit Dig
set_option linter.unusedVariables false

/-- Block g is a variable that holds x. -/
def VarV (w : World) (g : Nat) (x : Vl) : Prop := w.heap[g]? = some (.cells (vC x).toArray 26 (0, 0))
section
variable {w w' : World} {g B : Nat} {x y : Vl}
theorem VarV.lt (h : VarV w g x) : g < w.heap.size := lt_of_heap h
theorem VarV.cells (h : VarV w g x) : w.cell? ⟨g, 0, none⟩ = some (.int .i64 x.1) ∧ w.cell? ⟨g, 1, none⟩ = some (.int .i64 x.2.1) ∧ w.cell? ⟨g, 2, none⟩ = some (.string ⟨x.2.2.toArray⟩) :=
  ⟨cell_of_row w g 0 _ _ (0, 0) h, cell_of_row w g 1 _ _ (0, 0) h, cell_of_row w g 2 _ _ (0, 0) h⟩
theorem VarV.range (h : VarV w g x) : w.rangeAt g 0 (vC x) := range_three h.cells.1 h.cells.2.1 h.cells.2.2
theorem VarV.keepB (h : VarV w g x) (hk : w'.heap[g]? = w.heap[g]?) : VarV w' g x := by
  unfold VarV at h ⊢
  rw [hk]
  exact h
theorem VarV.below (h : VarV w g x) (hB : Below w.heap.size w w') : VarV w' g x := h.keepB (hB.block g h.lt)
theorem VarV.frozen (h : VarV w g x) (i : Nat) : w.frozen? ⟨g, i, none⟩ = false := by
  unfold VarV at h
  simp [World.frozen?, h]
theorem below_store {w2 w3 : World} (h : Below B w w2) (h2 : w2.grownBy w3 (some g)) (hg : B ≤ g) (hB : B ≤ w2.heap.size) : Below B w w3 := h.grown h2 hB fun k e => by injection e with e; omega
end
section
variable {w : World} {ops : Array Oper} {rest : List Oper} {o : Oper} {a : Act} {Q : Exit → Act → World → Prop}
theorem wp_loadV (hgd : o.guard = none) (t : Tmp) (ho : o.op = .load 26 (.tmp t)) (b off : Nat) (x : Vl) (hx : a.eval (.tmp t) = .pointer (some ⟨b, off, none⟩)) (hr : w.rangeAt b off (vC x))
    (h : wpList Tryd.prog ops Q rest (a.put o.dst (vV x)) w) : wpList Tryd.prog ops Q (o :: rest) a w := by
  refine wpList_plain hgd fun K hK => ?_
  have hrun := exec_loadV (w := w) (ev := a.eval) (o := o) t hr ho hx
  unfold Oper.wp
  rw [hrun]
  exact hK _ _ h
theorem wp_allocV (d : Tmp) (hgd : o.guard = none) (hd : o.dst = some d) (ho : o.op = .alloc 26)
    (h : ∀ w', VarV w' w.heap.size (0, 0, []) → Below w.heap.size w w' → wpList Tryd.prog ops Q rest (a.put o.dst (.pointer (some ⟨w.heap.size, 0, none⟩))) w') : wpList Tryd.prog ops Q (o :: rest) a w :=
  wp_allocC info_val hgd ho h
theorem wp_storeV (hgd : o.guard = none) (t s : Tmp) (ho : o.op = .store 26 (.tmp t) (.tmp s)) (g : Nat) (x y : Vl) (hx : a.eval (.tmp t) = .pointer (some ⟨g, 0, none⟩)) (hy : a.eval (.tmp s) = vV x) (hv : VarV w g y)
    (h : ∀ w', VarV w' g x → w.grownBy w' (some g) → wpList Tryd.prog ops Q rest (a.put o.dst undef) w') : wpList Tryd.prog ops Q (o :: rest) a w :=
  wp_storeC (cs := vC x) size_val hv rfl (fun v hv => by
    simp only [vC, List.mem_cons, List.not_mem_nil, or_false] at hv
    rcases hv with rfl | rfl | rfl <;> rfl) hgd t s ho hx hy h
theorem wp_boxV (d : Tmp) (hgd : o.guard = none) (hd : o.dst = some d) (t : Tmp) (ho : o.op = .box 26 (.tmp t)) (x : Vl) (hx : a.eval (.tmp t) = vV x)
    (h : ∀ w', VarV w' w.heap.size x → Below w.heap.size w w' → wpList Tryd.prog ops Q rest (a.put o.dst (.pointer (some ⟨w.heap.size, 0, none⟩))) w') : wpList Tryd.prog ops Q (o :: rest) a w := by
  refine wpList_plain hgd fun K hK => ?_
  have hr : (execOp a.eval o).run Tryd.prog w = .ok (.value (.pointer (some ⟨w.heap.size, 0, none⟩))) (w.alloc (.cells (vC x).toArray 26)) := by
    unfold execOp
    simp only [ho, hx]
    unfold vV
    go_simp
    rfl
  unfold Oper.wp
  rw [hr]
  exact hK _ _ (h _ (heap_alloc_new w _) ((Below.refl _ _).alloc (Nat.le_refl _) _))
end
end Go.Proofs.YtpbkmkcfhkdjjaaDoor

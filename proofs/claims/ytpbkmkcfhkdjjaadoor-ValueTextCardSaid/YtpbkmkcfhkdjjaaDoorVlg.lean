/- Typed values: lists of values in memory (stage 8). -/
import Derived.Deep.Slices
import Derived.ChangeSame
import Derived.Test.YtpbkmkcfhkdjjaaDoorDqo
import Derived.Test.YtpbkmkcfhkdjjaaDoorVle
namespace Go.Proofs.YtpbkmkcfhkdjjaaDoor
open Go.RowKit Go.ChangeShapes Go.WideShapes Go.Deep Dig
set_option linter.unusedVariables false

section
variable {ev : Operand → Value} {o : Oper} {w w' : World}
theorem exec_allocC {T : TypeId} {z : Value} {k by' : Nat} (hI : (Tryd.prog.info? T).map (fun i => (i.zero, i.size, i.bytes)) = some (some z, k, by')) (ho : o.op = .alloc T) :
    (execOp ev o).run Tryd.prog w = .ok (.value (.pointer (some ⟨w.heap.size, 0, none⟩))) (w.alloc (.cells z.cells T)) := by
  cases hq : Tryd.prog.info? T with
  | none => simp [hq] at hI
  | some i0 =>
    simp [hq] at hI
    have hr : (Instr.alloc T true (.tuple #[])).run Tryd.prog w = .ok (.pointer (some ⟨w.heap.size, 0, none⟩)) (w.alloc (.cells z.cells T)) := by
      simp [Instr.alloc, zeroValue, typeInfo, hq, hI.1, newVar, newRow]
    unfold execOp
    simp only [ho, Sem.run_bind, hr, Result.andThen_ok, Sem.run_pure]
theorem splice_all {cur cs : List Value} (h : cs.length = cur.length) : splice cur 0 cs = cs := by
  unfold splice
  rw [List.take_zero, List.nil_append, List.drop_eq_nil_of_le (by omega), List.append_nil]
theorem exec_storeX {T e : TypeId} {g : Nat} {cur : Array Value} {cs : List Value} (hi : (Tryd.prog.info? T).map (·.size) = some cs.length) (hg : w.heap[g]? = some (.cells cur e (0, 0))) (hl : cs.length = cur.size) (h1 : ∀ v ∈ cs, v.oneCell' = true) :
    ∃ w', (∀ (ev : Operand → Value) (o : Oper) (t s : Tmp), o.op = .store T (.tmp t) (.tmp s) → ev (.tmp t) = .pointer (some ⟨g, 0, none⟩) → ev (.tmp s) = .agg cs.toArray → (execOp ev o).run Tryd.prog w = .ok .skip w') ∧ w'.heap[g]? = some (.cells cs.toArray e (0, 0)) ∧ w.grownBy w' (some g) := by
  refine ⟨spl w g 0 cs, fun ev o t s ho hx hy => exec_storeC t s hi hg (by omega) h1 ho hx hy, ?_, grown_spl (World.grownBy.refl _ _)⟩
  unfold spl
  rw [hg]
  show (w.setRow g (splice cur.toList 0 cs).toArray).heap[g]? = _
  rw [splice_all (by simpa using hl)]
  exact setRow_heap w g cur _ e (0, 0) hg
theorem range_three {b q : Nat} {x y z : Value} (h0 : w.cell? ⟨b, q, none⟩ = some x) (h1 : w.cell? ⟨b, q + 1, none⟩ = some y) (h2 : w.cell? ⟨b, q + 2, none⟩ = some z) : w.rangeAt b q [x, y, z] := by
  intro j v hj
  match j, hj with
  | 0, hj =>
    obtain rfl : x = v := by simpa using hj
    exact h0
  | 1, hj =>
    obtain rfl : y = v := by simpa using hj
    exact h1
  | 2, hj =>
    obtain rfl : z = v := by simpa using hj
    exact h2
end
section
variable {w w1 : World} {ops : Array Oper} {rest : List Oper} {o : Oper} {a : Act} {Q : Exit → Act → World → Prop}
/-- The load of a whole row. -/
theorem wp_loadR {T : TypeId} (hgd : o.guard = none) (t : Tmp) (ho : o.op = .load T (.tmp t)) (b off : Nat) (cs : List Value) (hx : a.eval (.tmp t) = .pointer (some ⟨b, off, none⟩)) (hr : w.rangeAt b off cs) (hu : (Tryd.prog.underlying T).map (·.isRow) = some true) (hi : (Tryd.prog.info? T).map (·.size) = some cs.length)
    (h : wpList Tryd.prog ops Q rest (a.put o.dst (.agg cs.toArray)) w) : wpList Tryd.prog ops Q (o :: rest) a w := by
  refine wpList_plain hgd fun K hK => ?_
  cases hq : Tryd.prog.underlying T with
  | none => rw [hq] at hu; cases hu
  | some dd =>
    rw [hq] at hu
    have hrun := exec_loadC (w := w) (ev := a.eval) (o := o) t hq (by simpa using hu) (cs := cs) hi hr ho hx
    unfold Oper.wp
    rw [hrun]
    exact hK _ _ h
end
/-- The cells of a value, of a list of values. -/
def vC (v : Vl) : List Value := [.int .i64 v.1, .int .i64 v.2.1, .string ⟨v.2.2.toArray⟩]
def vsC (l : List Vl) : List Value := (l.map vC).flatten
theorem vV_cells (v : Vl) : vV v = .agg (vC v).toArray := rfl
theorem vC_length (v : Vl) : (vC v).length = 3 := rfl
theorem vsC_length (l : List Vl) : (vsC l).length = l.length * 3 := flat_length vC l fun v _ => vC_length v
theorem vsC_append (l m : List Vl) : vsC (l ++ m) = vsC l ++ vsC m := by
  unfold vsC
  rw [List.map_append, List.flatten_append]
theorem vsC_one (v : Vl) : vsC [v] = vC v := by
  unfold vsC
  simp
theorem vsC_oneCell (l : List Vl) : ∀ u ∈ vsC l, u.oneCell' = true := by
  intro u hu
  obtain ⟨m, hm, hu⟩ := List.mem_flatten.1 hu
  obtain ⟨v, _, rfl⟩ := List.mem_map.1 hm
  simp only [vC, List.mem_cons, List.not_mem_nil, or_false] at hu
  rcases hu with rfl | rfl | rfl <;> rfl
/-- A slice of values that can be read. -/
def Vls (w : World) (v : Value) (l : List Vl) : Prop := Cel w v 3 l.length (vsC l)
/-- A slice that owns its values. -/
def OwV (base : Nat) (w : World) (v : Value) (l : List Vl) : Prop := w.ownsRow base 26 3 v l.length (vsC l)
section
variable {w w' : World} {v : Value} {l : List Vl} {base : Nat}
theorem Vls.nil (w : World) : Vls w (.slice none 0 0) [] := Cel.nil w 3
theorem Vls.below (h : Vls w v l) (hB : Below w.heap.size w w') : Vls w' v l := Cel.below h hB
theorem Vls.form (h : Vls w v l) : ∃ A c, v = .slice A l.length c := Cel.form h
theorem Vls.bounds {A : Option Addr} {m c : Nat} (h : Vls w (.slice A m c) l) : m = l.length ∧ l.length ≤ c ∧ c ≤ maxLen := ⟨(Cel.bounds h).1, (Cel.bounds h).2.1, (Cel.bounds h).2.2.1⟩
/-- A value of the list. -/
theorem Vls.at {A : Option Addr} {m c : Nat} (h : Vls w (.slice A m c) l) {j : Nat} (hj : j < l.length) : ∃ b off, A = some ⟨b, off, none⟩ ∧ b < w.heap.size ∧ w.rangeAt b (off + j * 3) (vC l[j]) := by
  obtain ⟨b, off, e, hb, hr⟩ := Cel.range h (by omega)
  refine ⟨b, off, e, hb, ?_⟩
  have := range_part hr (j * 3) 3
  unfold vsC at this
  rwa [flat_part vC l j hj fun v _ => vC_length v] at this
theorem range_cells {b o : Nat} {x : Vl} (h : w.rangeAt b o (vC x)) : w.cell? ⟨b, o, none⟩ = some (.int .i64 x.1) ∧ w.cell? ⟨b, o + 1, none⟩ = some (.int .i64 x.2.1) ∧ w.cell? ⟨b, o + 2, none⟩ = some (.string ⟨x.2.2.toArray⟩) := ⟨h 0 _ rfl, h 1 _ rfl, h 2 _ rfl⟩
theorem OwV.nil (base : Nat) (w : World) : OwV base w (.slice none 0 0) [] := World.ownsRow_nil w base _ 3
theorem OwV.vls (h : OwV base w v l) : Vls w v l := own_cel h
theorem OwV.mono {base' : Nat} (h : OwV base w v l) (hb : base' ≤ base) : OwV base' w v l := World.ownsRow.mono h hb
theorem OwV.below {B : Nat} (h : OwV base w v l) (hb : Below B w w') (hB : w.heap.size ≤ B) : OwV base w' v l := own_below h hb hB
theorem OwV.block (h : OwV base w v l) : ∀ g, v.ownBlock = some g → base ≤ g ∧ g < w.heap.size := fun g hg => World.ownsRow.lt h g hg
theorem below_ownV {w1 : World} (h : Below w.heap.size w w1) (hg : w1.grownBy w' v.ownBlock) (hb : OwV base w1 v l) (hbase : w.heap.size ≤ base) : Below w.heap.size w w' := below_own h hg hb hbase
end
theorem info_val : (Tryd.prog.info? 26).map (fun i => (i.zero, i.size, i.bytes)) = some (some (.agg #[.int .i64 0, .int .i64 0, .string ⟨#[]⟩]), 3, 32) := by kernel_rfl
theorem size_val : (Tryd.prog.info? 26).map (·.size) = some 3 := by kernel_rfl
theorem row_val : (Tryd.prog.underlying 26).map (·.isRow) = some true := by kernel_rfl
section
variable {w : World} {ops : Array Oper} {rest : List Oper} {o : Oper} {a : Act} {Q : Exit → Act → World → Prop}
theorem wp_appendV (hgd : o.guard = none) (s x : Operand) (ho : o.op = .call { callee := .builtin .append, args := #[s, x], argTypes := #[22, 22] })
    (base : Nat) (v : Value) (l : List Vl) (hs : a.eval s = v) (hown : OwV base w v l) (u : Value) (m : List Vl) (hx : a.eval x = u) (hr : Vls w u m) (h63 : l.length + m.length ≤ 1000000) (hbase : base ≤ w.heap.size)
    (h : ∀ v' w', OwV base w' v' (l ++ m) → w.grownBy w' v.ownBlock → wpList Tryd.prog ops Q rest (a.put o.dst v') w') : wpList Tryd.prog ops Q (o :: rest) a w := by
  refine wp_appendC Tryd.underlying22 info_val rfl (by decide) hgd s x ho base v l.length (vsC l) hs hown u m.length (vsC m) hx hr (vsC_oneCell m) h63 (by decide) hbase fun v' w' h1 h2 => h v' w' ?_ h2
  unfold OwV
  rw [List.length_append, vsC_append]
  exact h1
theorem wp_noneV (hg : o.guard = none) (ho : o.op = .buildSlice 22 0 #[])
    (h : ∀ w', OwV w.heap.size w' (.slice (some ⟨w.heap.size, 0, none⟩) 0 0) [] → Below w.heap.size w w' → wpList Tryd.prog ops Q rest (a.put o.dst (.slice (some ⟨w.heap.size, 0, none⟩) 0 0)) w') : wpList Tryd.prog ops Q (o :: rest) a w :=
  wp_noneC Tryd.underlying22 info_val hg ho h
theorem vls_one (w : World) (x : Vl) : Vls (w.alloc (.cells (vC x).toArray 26)) (.slice (some ⟨w.heap.size, 0, none⟩) 1 1) [x] := by
  unfold Vls
  rw [vsC_one]
  exact cel_one w 26 rfl
end
section
variable {ev : Operand → Value} {o : Oper} {w : World}
theorem exec_oneV {x : Vl} (t : Tmp) (ho : o.op = .buildSlice 22 1 #[(0, .tmp t)]) (hx : ev (.tmp t) = vV x) :
    (execOp ev o).run Tryd.prog w = .ok (.value (.slice (some ⟨w.heap.size, 0, none⟩) 1 1)) (w.alloc (.cells (vC x).toArray 26)) :=
  exec_oneC Tryd.underlying22 info_val (by decide) (by decide) (cs := vC x) rfl t ho hx
theorem exec_loadV {x : Vl} (t : Tmp) {b off : Nat} (hc : w.rangeAt b off (vC x)) (ho : o.op = .load 26 (.tmp t)) (hx : ev (.tmp t) = .pointer (some ⟨b, off, none⟩)) : (execOp ev o).run Tryd.prog w = .ok (.value (vV x)) w := by
  cases hq : Tryd.prog.underlying 26 with
  | none => have := row_val; rw [hq] at this; cases this
  | some d =>
    have := row_val
    rw [hq] at this
    exact exec_loadC t hq (by simpa using this) (cs := vC x) size_val hc ho hx
theorem exec_indexV (x i : Tmp) {b off n c j : Nat} (ho : o.op = .indexAddr 22 (.tmp x) (.tmp i)) (hx : ev (.tmp x) = .slice (some ⟨b, off, none⟩) n c) (hi : ev (.tmp i) = .int .i64 (j : Int)) (hj : j < n) :
    (execOp ev o).run Tryd.prog w = .ok (.value (.pointer (some ⟨b, off + j * 3, none⟩))) w := exec_indexC Tryd.underlying22 size_val x i ho hx hi hj
end
section
variable {w : World}
/-- A value whose parts are within their kinds. -/
def OkVl (y : Vl) : Prop := (-9223372036854775808 ≤ y.1 ∧ y.1 ≤ 9223372036854775807) ∧ (-9223372036854775808 ≤ y.2.1 ∧ y.2.1 ≤ 9223372036854775807) ∧ y.2.2.length ≤ 9223372036854775807
/-- An argument of values. -/
theorem vls_of_trod {H : Type} {enc : TypeId × Value → H} {P : Program} {w : World} {base fuel : Nat} {spare : Nat → Bool} {held : Bool} {t e : TypeId} {f0 f1 f2 : Field} {v : Value} {x : DataW H × List MemPlace}
    (ht : P.underlying t = some (.slice e)) (he : P.underlying e = some (.struct #[f0, f1, f2])) (hC : P.cellsOf e = 3) (o : f0.offset = 0 ∧ f1.offset = 1 ∧ f2.offset = 2) (c : P.cellsOf f0.type = 1 ∧ P.cellsOf f1.type = 1 ∧ P.cellsOf f2.type = 1)
    (i0 : P.underlying f0.type = some (.int .i64)) (i1 : P.underlying f1.type = some (.int .i64)) (i2 : P.underlying f2.type = some .string)
    (h : DataW.trod enc P w base spare held fuel t [v] = some x) : ∃ l, Vls w v l ∧ ∀ y ∈ l, OkVl y := by
  obtain ⟨o0, o1, o2⟩ := o
  obtain ⟨c0, c1, c2⟩ := c
  rcases open_slice ht h with ⟨hcs, _⟩ | ⟨a, len, cap, m, n, D, Pl, hcs, _, hl, hm, hmm, _, hi⟩
  · obtain rfl : v = .slice none 0 0 := by simpa using hcs
    exact ⟨[], Vls.nil w, fun y hy => (List.not_mem_nil hy).elim⟩
  · obtain rfl : v = .slice (some a) len cap := by simpa using hcs
    have hlm : len ≤ m := by rw [hmm]; split <;> omega
    have key : ∀ j, j < len → ∃ q : Vl, OkVl q ∧ w.cell? (a.add (j * 3)) = some (.int .i64 q.1) ∧ w.cell? ((a.add (j * 3)).add 1) = some (.int .i64 q.2.1) ∧ w.cell? ((a.add (j * 3)).add 2) = some (.string ⟨q.2.2.toArray⟩) := by
      intro j hj
      obtain ⟨cs, hc, hd⟩ := hi j (by omega)
      rw [hC] at hc
      obtain ⟨_, hcl, hat⟩ := World.cells?_some hc
      obtain ⟨ys, k, _, _, _, hyl, hf⟩ := DataW.trod_struct he hd
      match cs, hcl, ys, hyl with
      | [x0, x1, x2], _, [y0, y1, y2], _ =>
        have d0 := hf 0 f0 rfl
        rw [o0, c0] at d0
        have d1 := hf 1 f1 rfl
        rw [o1, c1] at d1
        have d2 := hf 2 f2 rfl
        rw [o2, c2] at d2
        obtain ⟨z0, e0, _, g0⟩ := DataW.trod_int i0 d0
        obtain rfl : x0 = .int .i64 z0 := by simpa using e0
        have b0 := wf_i64 g0
        obtain ⟨z1, e1, _, g1⟩ := DataW.trod_int i1 d1
        obtain rfl : x1 = .int .i64 z1 := by simpa using e1
        have b1 := wf_i64 g1
        obtain ⟨z2, e2, _, g2⟩ := DataW.trod_string i2 d2
        obtain rfl : x2 = .string z2 := by simpa using e2
        have a0 := hat 0 (by omega)
        have a1 := hat 1 (by omega)
        have a2 := hat 2 (by omega)
        refine ⟨(z0, z1, z2.data.toList), ⟨b0, b1, by unfold maxLen at g2; simpa [← ByteArray.size_data] using g2⟩, ?_, a1, ?_⟩
        · have e : (a.add (j * 3)).add 0 = a.add (j * 3) := by rw [add_add, Nat.add_zero]
          rw [e] at a0
          exact a0
        · rw [a2]
          rfl
    have hex : ∀ j : Nat, ∃ q : Vl, j < len → (OkVl q ∧ w.cell? (a.add (j * 3)) = some (.int .i64 q.1) ∧ w.cell? ((a.add (j * 3)).add 1) = some (.int .i64 q.2.1) ∧ w.cell? ((a.add (j * 3)).add 2) = some (.string ⟨q.2.2.toArray⟩)) := by
      intro j
      by_cases hj : j < len
      · obtain ⟨q, hq⟩ := key j hj
        exact ⟨q, fun _ => hq⟩
      · exact ⟨(0, 0, []), fun h => absurd h hj⟩
    obtain ⟨Q, hQ⟩ := Classical.axiomOfChoice hex
    have hlen : ((List.range len).map Q).length = len := by simp
    have hget : ∀ j (hj : j < ((List.range len).map Q).length), ((List.range len).map Q)[j] = Q j := by
      intro j hj
      simp
    refine ⟨(List.range len).map Q, ⟨vsC_length _, some a, cap, by rw [hlen], ⟨by rw [hlen]; exact hl, fun e => by cases e⟩, hm, fun hp => ?_⟩, ?_⟩
    · rw [hlen] at hp
      obtain ⟨b, off, spot⟩ := a
      obtain ⟨_, hc, _⟩ := hQ 0 hp
      have hspot : spot = none := by simpa [Addr.add] using World.cell?_spot hc
      subst hspot
      have e : ∀ o j, (⟨b, o, none⟩ : Addr).add j = ⟨b, o + j, none⟩ := by intro o j; unfold Addr.add; split <;> simp_all
      refine ⟨b, off, rfl, ?_, fun i u hu => ?_⟩
      · have := World.block_lt_of_cell? w _ hc
        rwa [e] at this
      · have hi : i < len * 3 := by
          have := (List.getElem?_eq_some_iff.1 hu).1
          rw [vsC_length, hlen] at this
          exact this
        have hjl : i / 3 < len := by omega
        have hj : i / 3 < ((List.range len).map Q).length := by omega
        have hp := flat_part vC ((List.range len).map Q) (i / 3) hj fun v _ => vC_length v
        rw [hget _ hj] at hp
        have hi2 : (vC (Q (i / 3)))[i % 3]? = some u := by
          rw [← hp, List.getElem?_take, if_pos (Nat.mod_lt i (by decide)), List.getElem?_drop, show i / 3 * 3 + i % 3 = i by omega]
          exact hu
        obtain ⟨_, h0, h1, h2⟩ := hQ (i / 3) hjl
        simp only [e] at h0 h1 h2
        have hr := range_three (w := w) h0 h1 h2 (i % 3) u hi2
        rwa [show off + i / 3 * 3 + i % 3 = off + i by omega] at hr
    · intro q hq
      obtain ⟨j, hj, rfl⟩ := List.mem_map.1 hq
      exact (hQ j (List.mem_range.1 hj)).1
end
end Go.Proofs.YtpbkmkcfhkdjjaaDoor

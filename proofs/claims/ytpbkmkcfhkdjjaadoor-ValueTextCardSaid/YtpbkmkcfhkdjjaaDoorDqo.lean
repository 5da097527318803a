/- Rows of bytes and of structs, operations on them; what turns: what every text on disks leans on. -/
import Derived.Great.BuildSlice
import Derived.Laws.IdiomCopy
import Derived.Lib.BufferMore
import Derived.Test.YtpbkmkcfhkdjjaaDoorCel
import Derived.Test.YtpbkmkcfhkdjjaaDoorDkp
import Derived.Test.YtpbkmkcfhkdjjaaDoorExb
namespace Go.Proofs.YtpbkmkcfhkdjjaaDoor
open Go.RowKit Dig
set_option linter.unusedVariables false

/-- Sectors as cells. -/
def secC (L : List (List UInt8)) : List Value := (L.map Y).flatten
section
variable {w w' : World} {T : TypeId} {g : Nat} {v1 v2 x : Value} {off armed b : Bool} {z y : Int}
theorem grown_put' (w : World) (g i : Nat) (u : Value) : w.grownBy (w.setCell ⟨g, i, none⟩ u) (some g) := grown_set (World.grownBy.refl w _) i u
end
/-- vs with ys in the place of what begins at o. -/
def splice (vs : List Value) (o : Nat) (ys : List Value) : List Value := vs.take o ++ ys ++ vs.drop (o + ys.length)
theorem splice_length {vs ys : List Value} {o : Nat} (h : o + ys.length ≤ vs.length) : (splice vs o ys).length = vs.length := by
  unfold splice
  simp only [List.length_append, List.length_take, List.length_drop]
  omega
section
variable {α : Type} (f : α → List Value) {k : Nat}
theorem flat_length : ∀ (L : List α), (∀ x ∈ L, (f x).length = k) → (L.map f).flatten.length = L.length * k
  | [], _ => by simp
  | x :: L, h => by
    simp only [List.map_cons, List.flatten_cons, List.length_append, List.length_cons]
    rw [h x (by simp), flat_length L (fun y hy => h y (by simp [hy])), Nat.add_mul, Nat.one_mul, Nat.add_comm]
theorem flat_part : ∀ (L : List α) (i : Nat) (hi : i < L.length), (∀ x ∈ L, (f x).length = k) → (((L.map f).flatten.drop (i * k)).take k) = f L[i]
  | [], _, hi, _ => by simp at hi
  | x :: L, 0, _, h => by
    simp only [List.map_cons, List.flatten_cons, Nat.zero_mul, List.drop_zero, List.getElem_cons_zero]
    rw [List.take_left' (h x (by simp))]
  | x :: L, i + 1, hi, h => by
    have := flat_part L i (by simpa using hi) (fun y hy => h y (by simp [hy]))
    simp only [List.map_cons, List.flatten_cons, List.getElem_cons_succ]
    rw [Nat.add_mul, Nat.one_mul, Nat.add_comm, ← List.drop_drop, List.drop_left' (h x (by simp))]
    exact this
theorem flat_splice : ∀ (L : List α) (i : Nat) (y : α), i < L.length → (∀ x ∈ L, (f x).length = k) → (f y).length = k → splice (L.map f).flatten (i * k) (f y) = ((L.set i y).map f).flatten
  | [], _, _, hi, _, _ => by simp at hi
  | x :: L, 0, y, _, h, hy => by
    unfold splice
    simp only [List.map_cons, List.flatten_cons, Nat.zero_mul, List.take_zero, List.nil_append, Nat.zero_add, List.set_cons_zero]
    rw [hy, List.drop_left' (h x (by simp))]
  | x :: L, i + 1, y, hi, h, hy => by
    have := flat_splice L i y (by simpa using hi) (fun y hy => h y (by simp [hy])) hy
    unfold splice at this ⊢
    simp only [List.map_cons, List.flatten_cons, List.set_cons_succ]
    rw [← this, hy, show (i + 1) * k = k + i * k by rw [Nat.add_mul, Nat.one_mul, Nat.add_comm]]
    have hx := h x (by simp)
    rw [List.take_append, List.drop_append, List.take_of_length_le (by omega), List.drop_eq_nil_of_le (by omega), List.nil_append, hx]
    rw [show k + i * k - k = i * k by omega, show k + i * k + k - k = i * k + k by omega]
    simp
end
theorem secC_length {L : List (List UInt8)} (h : ∀ x ∈ L, x.length = 64) : (secC L).length = L.length * 64 := flat_length Y L fun x hx => by rw [Y_length]; exact h x hx
theorem secC_set {L : List (List UInt8)} {i : Nat} {y : List UInt8} (hi : i < L.length) (h : ∀ x ∈ L, x.length = 64) (hy : y.length = 64) : splice (secC L) (i * 64) (Y y) = secC (L.set i y) :=
  flat_splice Y L i y hi (fun x hx => by rw [Y_length]; exact h x hx) (by rw [Y_length]; exact hy)
theorem secC_part {L : List (List UInt8)} {i : Nat} (hi : i < L.length) (h : ∀ x ∈ L, x.length = 64) : ((secC L).drop (i * 64)).take 64 = Y L[i] := flat_part Y L i hi fun x hx => by rw [Y_length]; exact h x hx
theorem secC_one (L : List (List UInt8)) : ∀ u ∈ secC L, u.oneCell' = true := by
  intro u hu
  obtain ⟨l, hl, hu⟩ := List.mem_flatten.1 hu
  obtain ⟨x, _, rfl⟩ := List.mem_map.1 hl
  exact Y_oneCell x u hu
section
variable {w : World} {base n k : Nat} {e : TypeId} {g cap : Nat} {vs : List Value}
/-- What a row of one's own is. -/
theorem own_block {v : Value} (h : w.ownsRow base e k v n vs) (hn : 0 < n) : ∃ g cap, v = .slice (some ⟨g, 0, none⟩) n cap := by
  obtain ⟨_, h⟩ := h
  rcases h with ⟨_, h0⟩ | ⟨g, cap, cur, e1, _⟩
  · omega
  · exact ⟨g, cap, e1⟩
theorem own_cur (h : w.ownsRow base e k (.slice (some ⟨g, 0, none⟩) n cap) n vs) : ∃ cur, base ≤ g ∧ w.heap[g]? = some (.cells cur e (0, 0)) ∧ n ≤ cap ∧ cap ≤ maxLen ∧ cur.size = cap * k ∧ cur.toList.take (n * k) = vs ∧ vs.length = n * k := by
  obtain ⟨hl, h⟩ := h
  rcases h with ⟨h0, _⟩ | ⟨g', cap', cur, e1, h1, h2, h3, h4, h5, h6⟩
  · cases h0
  · simp only [Value.slice.injEq, Option.some.injEq, Addr.mk.injEq, and_true, true_and] at e1
    obtain ⟨rfl, rfl⟩ := e1
    exact ⟨cur, h1, h2, h3, h4, h5, h6, hl⟩
/-- The world behind the store of ys at place o of block g. -/
def spl (w : World) (g o : Nat) (ys : List Value) : World := match w.heap[g]? with
  | some (.cells cur _ _) => w.setRow g (splice cur.toList o ys).toArray
  | _ => w
theorem own_spl (h : w.ownsRow base e k (.slice (some ⟨g, 0, none⟩) n cap) n vs) {o : Nat} {ys : List Value} (ho : o + ys.length ≤ n * k) :
    (spl w g o ys).ownsRow base e k (.slice (some ⟨g, 0, none⟩) n cap) n (splice vs o ys) := by
  obtain ⟨cur, h1, h2, h3, h4, h5, h6, h7⟩ := own_cur h
  have hk : n * k ≤ cap * k := Nat.mul_le_mul_right k h3
  have hc : cur.toList.length = cap * k := by simpa using h5
  refine ⟨by rw [splice_length (by omega)]; exact h7, .inr ⟨g, cap, (splice cur.toList o ys).toArray, rfl, h1, ?_, h3, h4, ?_, ?_⟩⟩
  · unfold spl
    rw [h2]
    exact setRow_heap w g cur _ e (0, 0) h2
  · have := splice_length (vs := cur.toList) (o := o) (ys := ys) (by omega)
    simpa [hc] using this
  · show (splice cur.toList o ys).take (n * k) = splice vs o ys
    rw [← h6]
    unfold splice
    rw [List.take_take, Nat.min_eq_left (by omega), List.drop_take]
    rw [List.take_append, List.take_of_length_le (by simp; omega)]
    congr 1
    simp only [List.length_append, List.length_take]
    congr 1
    omega
theorem below_spl {B o : Nat} {w0 : World} {ys : List Value} (h : Below B w0 w) (hg : B ≤ g) : Below B w0 (spl w g o ys) := by
  unfold spl
  split
  · exact ⟨h.os, h.tape, h.output, by simpa using h.size, fun j hj => (setRow_other w g j _ (by omega)).trans (h.block j hj)⟩
  · exact h
theorem grown_spl {w0 : World} {o : Nat} {ys : List Value} (h : w0.grownBy w (some g)) : w0.grownBy (spl w g o ys) (some g) := by
  unfold spl
  split
  · exact ⟨h.os, h.tape, h.output, by simpa using h.size, fun j hj hne => (setRow_other w g j _ (fun e => hne (by rw [e]))).trans (h.block j hj hne)⟩
  · exact h
end
section
variable {ev : Operand → Value} {o : Oper} {w : World}
/-- The address of an element of several cells. -/
theorem exec_indexC {T e : TypeId} {k : Nat} (hT : Tryd.prog.underlying T = some (.slice e)) (hI : (Tryd.prog.info? e).map (·.size) = some k)
    (x i : Tmp) {b off n c j : Nat} (ho : o.op = .indexAddr T (.tmp x) (.tmp i)) (hx : ev (.tmp x) = .slice (some ⟨b, off, none⟩) n c) (hi : ev (.tmp i) = .int .i64 (j : Int)) (hj : j < n) :
    (execOp ev o).run Tryd.prog w = .ok (.value (.pointer (some ⟨b, off + j * k, none⟩))) w := by
  cases hq : Tryd.prog.info? e with
  | none => simp [hq] at hI
  | some i0 =>
    have hz1 : i0.size = k := by simpa [hq] using hI
    have hr : (Instr.indexAt T (.slice (some ⟨b, off, none⟩) n c) (.int .i64 (j : Int))).run Tryd.prog w = .ok (.pointer (some ⟨b, off + j * k, none⟩)) w := by
      simp [Instr.indexAt, run_underlying hT, asIntOf, hj, sizeOf, typeInfo, hq, hz1, Sem.run_bind, Addr.add]
    unfold execOp
    simp only [ho, hx, hi, Sem.run_bind, hr, Result.andThen_ok, Sem.run_pure]
/-- The load of a whole element. -/
theorem exec_loadC {T : TypeId} {d : TypeDesc} (t : Tmp) {b off : Nat} {cs : List Value} (hu : Tryd.prog.underlying T = some d) (hd : d.isRow = true) (hi : (Tryd.prog.info? T).map (·.size) = some cs.length) (hc : w.rangeAt b off cs)
    (ho : o.op = .load T (.tmp t)) (hx : ev (.tmp t) = .pointer (some ⟨b, off, none⟩)) : (execOp ev o).run Tryd.prog w = .ok (.value (.agg cs.toArray)) w := by
  unfold execOp
  simp only [ho, hx, Instr.loadAt, Instr.sureAddr, Sem.run_bind, Sem.run_pure, Result.andThen_ok, run_loadVar_mid w b off T cs d hc hu hd hi]
/-- The store of a whole element. -/
theorem exec_storeC {T e : TypeId} (t s : Tmp) {g off : Nat} {cur : Array Value} {cs : List Value} (hi : (Tryd.prog.info? T).map (·.size) = some cs.length) (hg : w.heap[g]? = some (.cells cur e (0, 0))) (hl : off + cs.length ≤ cur.size) (h1 : ∀ v ∈ cs, v.oneCell' = true)
    (ho : o.op = .store T (.tmp t) (.tmp s)) (hx : ev (.tmp t) = .pointer (some ⟨g, off, none⟩)) (hy : ev (.tmp s) = .agg cs.toArray) : (execOp ev o).run Tryd.prog w = .ok .skip (spl w g off cs) := by
  have hst := run_storeCells_at Tryd.prog g off e cs 0 cur w hg (by simpa using hl) h1
  have hv : (storeVar T ⟨g, off, none⟩ (.agg cs.toArray)).run Tryd.prog w = .ok () (spl w g off cs) := by
    cases hq : Tryd.prog.info? T with
    | none => simp [hq] at hi
    | some i =>
      have hs : i.size = cs.length := by simpa [hq] using hi
      have e1 : spl w g off cs = w.setRow g (cur.toList.take off ++ cs ++ cur.toList.drop (off + cs.length)).toArray := by
        unfold spl splice
        rw [hg]
      rw [e1]
      simp only [Nat.add_zero] at hst
      simp [storeVar, sizeOf, typeInfo, hq, Value.cells, hs, hst]
  unfold execOp
  simp only [ho, hx, hy, Instr.storeAt, Instr.sureAddr, Sem.run_bind, Sem.run_pure, Result.andThen_ok, hv]
end
theorem range_below {w W : World} {B b o : Nat} {cs : List Value} (h : w.rangeAt b o cs) (hb : b < B) (hS : Below B w W) : W.rangeAt b o cs := fun j u hj => by
  rw [hS.cell (p := ⟨b, o + j, none⟩) hb]
  exact h j u hj
section
variable {w : World} {ops : Array Oper} {rest : List Oper} {o : Oper} {a : Act} {Q : Exit → Act → World → Prop}
/-- A new variable. -/
theorem wp_allocC {T : TypeId} {z : Value} {k by' : Nat} (hI : (Tryd.prog.info? T).map (fun i => (i.zero, i.size, i.bytes)) = some (some z, k, by')) (hg : o.guard = none) (ho : o.op = .alloc T)
    (h : ∀ w', w'.heap[w.heap.size]? = some (.cells z.cells T (0, 0)) → Below w.heap.size w w' → wpList Tryd.prog ops Q rest (a.put o.dst (.pointer (some ⟨w.heap.size, 0, none⟩))) w') :
    wpList Tryd.prog ops Q (o :: rest) a w := by
  cases hq : Tryd.prog.info? T with
  | none => simp [hq] at hI
  | some i0 =>
    simp [hq] at hI
    refine wpList_plain hg fun K hK => ?_
    have hr : (Instr.alloc T true (.tuple #[])).run Tryd.prog w = .ok (.pointer (some ⟨w.heap.size, 0, none⟩)) (w.alloc (.cells z.cells T)) := by
      simp [Instr.alloc, zeroValue, typeInfo, hq, hI.1, newVar, newRow]
    unfold Oper.wp execOp
    simp only [ho, Sem.run_bind, hr, Result.andThen_ok]
    exact hK _ _ (h _ (heap_alloc_new w _) ((Below.refl _ _).alloc (Nat.le_refl _) _))
/-- A whole value is stored in a variable of its own. -/
theorem wp_storeC {T e : TypeId} {g : Nat} {cur : Array Value} {cs : List Value} (hi : (Tryd.prog.info? T).map (·.size) = some cs.length) (hg : w.heap[g]? = some (.cells cur e (0, 0))) (hl : cs.length = cur.size) (h1 : ∀ v ∈ cs, v.oneCell' = true)
    (hgd : o.guard = none) (t s : Tmp) (ho : o.op = .store T (.tmp t) (.tmp s)) (hx : a.eval (.tmp t) = .pointer (some ⟨g, 0, none⟩)) (hy : a.eval (.tmp s) = .agg cs.toArray)
    (h : ∀ w', w'.heap[g]? = some (.cells cs.toArray e (0, 0)) → w.grownBy w' (some g) → wpList Tryd.prog ops Q rest (a.put o.dst undef) w') :
    wpList Tryd.prog ops Q (o :: rest) a w := by
  refine wpList_plain hgd fun K hK => ?_
  have hr := exec_storeC (w := w) (ev := a.eval) (o := o) t s hi hg (by omega : 0 + cs.length ≤ cur.size) h1 ho hx hy
  unfold Oper.wp
  rw [hr]
  simp only [Oper.upon]
  refine hK _ _ (h _ ?_ (grown_spl (World.grownBy.refl _ _)))
  unfold spl
  rw [hg]
  have : (splice cur.toList 0 cs).toArray = cs.toArray := by
    unfold splice
    rw [List.take_zero, List.nil_append, List.drop_eq_nil_of_le (by simp; omega), List.append_nil]
  show (w.setRow g (splice cur.toList 0 cs).toArray).heap[g]? = _
  rw [this]
  exact setRow_heap w g cur _ e (0, 0) hg
end
/-- The bytes of an empty sector. -/
def Z64 : List UInt8 := List.replicate 64 0
theorem Z64_length : Z64.length = 64 := List.length_replicate
theorem fold_set : ∀ (cs : List Value) (k : Nat) (A : Array Value), k + cs.length = A.size → (cs.zipIdx k).foldl (fun a (x : Value × Nat) => a.setIfInBounds (0 + x.2) x.1) A = (A.toList.take k ++ cs).toArray
  | [], k, A, h => by
    simp at h
    subst h
    rw [List.append_nil, List.take_of_length_le (by simp)]
    rfl
  | c :: cs, k, A, h => by
    simp only [List.length_cons] at h
    rw [List.zipIdx_cons, List.foldl_cons, fold_set cs (k + 1) _ (by simp; omega)]
    have hk : k < A.toList.length := by simp; omega
    have : (A.setIfInBounds (0 + k) c).toList.take (k + 1) = A.toList.take k ++ [c] := by
      rw [Nat.zero_add, Array.toList_setIfInBounds, List.take_add_one, List.getElem?_set_self hk, List.take_set]
      rw [List.set_eq_of_length_le (by simp; omega)]
      rfl
    rw [this, List.append_assoc]
    rfl
section
variable {ev : Operand → Value} {o : Oper} {w : World}
/-- A row of one element. -/
theorem exec_oneC {T e : TypeId} {z : Value} {k by' : Nat} {cs : List Value} (hT : Tryd.prog.underlying T = some (.slice e)) (hI : (Tryd.prog.info? e).map (fun i => (i.zero, i.size, i.bytes)) = some (some z, k, by')) (hk : 0 < k) (hk2 : k ≤ 1000) (hc : cs.length = k)
    (t : Tmp) (ho : o.op = .buildSlice T 1 #[(0, .tmp t)]) (hx : ev (.tmp t) = .agg cs.toArray) :
    (execOp ev o).run Tryd.prog w = .ok (.value (.slice (some ⟨w.heap.size, 0, none⟩) 1 1)) (w.alloc (.cells cs.toArray e)) := by
  cases hq : Tryd.prog.info? e with
  | none => simp [hq] at hI
  | some i0 =>
    simp [hq] at hI
    obtain ⟨hz, hs, _⟩ := hI
    have hr := run_buildSlice (P := Tryd.prog) w T e 1 #[(0, .agg cs.toArray)] cs.toArray i0 z hT hq hz (by rw [hs]; omega) (by rw [hs]; omega) (by
      have hsz : ((Array.range (1 * i0.size)).map (z.cells[· % z.cells.size]!)).size = k := by simp [hs]
      generalize (Array.range (1 * i0.size)).map (z.cells[· % z.cells.size]!) = A0 at hsz ⊢
      have hf := fold_set cs 0 A0 (by rw [hsz]; omega)
      rw [List.take_zero, List.nil_append] at hf
      unfold Instr.fill
      simp only [Value.cells, Nat.zero_mul]
      rw [if_neg (by simp [hs, hc, hsz])]
      unfold Instr.fill
      refine congrArg some (Eq.trans ?_ hf)
      rw [← Array.foldl_toList]
      simp)
    unfold execOp
    simp only [ho, List.map_toArray, List.map_cons, List.map_nil, hx, Sem.run_bind, hr, Result.andThen_ok, Sem.run_pure]
end
section
variable {ops : Array Oper} {Q : Exit → Act → World → Prop} {w : World}
theorem cel_one (w : World) (e : TypeId) {cs : List Value} {k : Nat} (hl : cs.length = k) : Cel (w.alloc (.cells cs.toArray e)) (.slice (some ⟨w.heap.size, 0, none⟩) 1 1) k 1 cs := by
  refine ⟨by omega, some ⟨w.heap.size, 0, none⟩, 1, rfl, ⟨Nat.le_refl _, fun e => by cases e⟩, by unfold maxLen; omega, fun _ => ⟨w.heap.size, 0, rfl, ?_, fun j u hj => ?_⟩⟩
  · show w.heap.size < (w.heap.push _).size
    simp
  · rw [cell_of_row _ _ _ _ _ (0, 0) (heap_alloc_new w _), Nat.zero_add]
    simpa using hj
end
theorem Y_Z64 : Y Z64 = List.replicate 64 (.int .u8 0) := by
  unfold Y Z64
  rw [List.map_replicate]
  rfl
theorem secC_empty (n : Nat) : secC (List.replicate n Z64) = List.replicate (n * 64) (.int .u8 0) := by
  unfold secC
  rw [List.map_replicate, Y_Z64, List.flatten_replicate_replicate]
section
variable {P : Program} {ops : Array Oper} {Q : Exit → Act → World → Prop} {S : World → Prop}
/-- An operation that makes memory. -/
theorem wkS_doW {i : Nat} {r : List (Nat × Bool)} {a : Act} {w w' : World} (d : Option Tmp) (v : Value) (hi : (ops[i]?).isSome = true) (hd : (opI ops i).dst = d)
    (hw : Region.wanted (opI ops i) (yielded ops a.tmps) = true) (he : (execOp a.eval (opI ops i)).run P w = .ok (.value v) w') (hS : S w') (h : wkS P ops Q S r (a.put d v) w') :
    wkS P ops Q S ((i, false) :: r) a w :=
  op_do d v w' hi hd hw he ⟨hS, h⟩
end
/-- Nothing turns but what lies in the blocks F; there may be new blocks. -/
def Turn (F : Nat → Prop) (w w' : World) : Prop := w'.os = w.os ∧ w'.tape = w.tape ∧ w'.output = w.output ∧ w.heap.size ≤ w'.heap.size ∧ ∀ b, b < w.heap.size → ¬ F b → w'.heap[b]? = w.heap[b]?
section
variable {w w1 w2 : World} {F F' : Nat → Prop}
theorem Turn.refl (F : Nat → Prop) (w : World) : Turn F w w := ⟨rfl, rfl, rfl, Nat.le_refl _, fun _ _ _ => rfl⟩
theorem Turn.of_below (F : Nat → Prop) (h : Below w.heap.size w w1) : Turn F w w1 := ⟨h.os, h.tape, h.output, h.size, fun b hb _ => h.block b hb⟩
theorem Turn.of_grown {row : Option Nat} (h : w.grownBy w1 row) (hF : ∀ k, row = some k → F k) : Turn F w w1 := ⟨h.os, h.tape, h.output, h.size, fun b hb hn => h.block b hb fun e => hn (hF b e.symm)⟩
theorem Turn.then (h : Turn F w w1) (h2 : Turn F' w1 w2) (hF : ∀ k, k < w.heap.size → F' k → F k) : Turn F w w2 := by
  obtain ⟨a1, a2, a3, a4, a5⟩ := h
  obtain ⟨b1, b2, b3, b4, b5⟩ := h2
  exact ⟨b1.trans a1, b2.trans a2, b3.trans a3, Nat.le_trans a4 b4, fun b hb hn => (b5 b (Nat.lt_of_lt_of_le hb a4) fun h => hn (hF b hb h)).trans (a5 b hb hn)⟩
end
end Go.Proofs.YtpbkmkcfhkdjjaaDoor

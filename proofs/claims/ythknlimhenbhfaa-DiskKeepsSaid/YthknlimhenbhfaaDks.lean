/- The reference's disk: Sectors and survives. Elements of rows, loads and stores of whole elements. -/
import Derived.Test.YthknlimhenbhfaaDkr
import Derived.Test.YthknlimhenbhfaaExb
namespace Go.Proofs.Ythknlimhenbhfaa
open Go.RowKit Dig
set_option linter.unusedVariables false

/-! ### Lists of equal parts -/
/-- vs with ys in the place of what begins at o. -/
def splice (vs : List Value) (o : Nat) (ys : List Value) : List Value := vs.take o ++ ys ++ vs.drop (o + ys.length)
theorem splice_length {vs ys : List Value} {o : Nat} (h : o + ys.length ≤ vs.length) : (splice vs o ys).length = vs.length := by
  unfold splice
  simp only [List.length_append, List.length_take, List.length_drop]
  omega
section
variable {α : Type} (f : α → List Value) {k : Nat}
theorem flat_length : ∀ (L : List α), (∀ x ∈ L, (f x).length = k) → (L.map f).flatten.length = L.length * k
  | [], _ => by simp
  | x :: L, h => by
    simp only [List.map_cons, List.flatten_cons, List.length_append, List.length_cons]
    rw [h x (by simp), flat_length L (fun y hy => h y (by simp [hy])), Nat.add_mul, Nat.one_mul, Nat.add_comm]
theorem flat_part : ∀ (L : List α) (i : Nat) (hi : i < L.length), (∀ x ∈ L, (f x).length = k) → (((L.map f).flatten.drop (i * k)).take k) = f L[i]
  | [], _, hi, _ => by simp at hi
  | x :: L, 0, _, h => by
    simp only [List.map_cons, List.flatten_cons, Nat.zero_mul, List.drop_zero, List.getElem_cons_zero]
    rw [List.take_left' (h x (by simp))]
  | x :: L, i + 1, hi, h => by
    have := flat_part L i (by simpa using hi) (fun y hy => h y (by simp [hy]))
    simp only [List.map_cons, List.flatten_cons, List.getElem_cons_succ]
    rw [Nat.add_mul, Nat.one_mul, Nat.add_comm, ← List.drop_drop, List.drop_left' (h x (by simp))]
    exact this
theorem flat_splice : ∀ (L : List α) (i : Nat) (y : α), i < L.length → (∀ x ∈ L, (f x).length = k) → (f y).length = k → splice (L.map f).flatten (i * k) (f y) = ((L.set i y).map f).flatten
  | [], _, _, hi, _, _ => by simp at hi
  | x :: L, 0, y, _, h, hy => by
    unfold splice
    simp only [List.map_cons, List.flatten_cons, Nat.zero_mul, List.take_zero, List.nil_append, Nat.zero_add, List.set_cons_zero]
    rw [hy, List.drop_left' (h x (by simp))]
  | x :: L, i + 1, y, hi, h, hy => by
    have := flat_splice L i y (by simpa using hi) (fun y hy => h y (by simp [hy])) hy
    unfold splice at this ⊢
    simp only [List.map_cons, List.flatten_cons, List.set_cons_succ]
    rw [← this, hy, show (i + 1) * k = k + i * k by rw [Nat.add_mul, Nat.one_mul, Nat.add_comm]]
    have hx := h x (by simp)
    rw [List.take_append, List.drop_append, List.take_of_length_le (by omega), List.drop_eq_nil_of_le (by omega), List.nil_append, hx]
    rw [show k + i * k - k = i * k by omega, show k + i * k + k - k = i * k + k by omega]
    simp
end
theorem secC_length {L : List (List UInt8)} (h : ∀ x ∈ L, x.length = 64) : (secC L).length = L.length * 64 := flat_length Y L fun x hx => by rw [Y_length]; exact h x hx
theorem penC_length {P : List (Nat × List UInt8)} (h : ∀ p ∈ P, p.2.length = 64) : (penC P).length = P.length * 65 :=
  flat_length (fun p : Nat × List UInt8 => Value.int .i64 (p.1 : Int) :: Y p.2) P fun p hp => by simp [Y_length, h p hp]
theorem secC_set {L : List (List UInt8)} {i : Nat} {y : List UInt8} (hi : i < L.length) (h : ∀ x ∈ L, x.length = 64) (hy : y.length = 64) : splice (secC L) (i * 64) (Y y) = secC (L.set i y) :=
  flat_splice Y L i y hi (fun x hx => by rw [Y_length]; exact h x hx) (by rw [Y_length]; exact hy)
theorem secC_part {L : List (List UInt8)} {i : Nat} (hi : i < L.length) (h : ∀ x ∈ L, x.length = 64) : ((secC L).drop (i * 64)).take 64 = Y L[i] := flat_part Y L i hi fun x hx => by rw [Y_length]; exact h x hx
theorem penC_part {P : List (Nat × List UInt8)} {i : Nat} (hi : i < P.length) (h : ∀ p ∈ P, p.2.length = 64) : ((penC P).drop (i * 65)).take 65 = Value.int .i64 (P[i].1 : Int) :: Y P[i].2 :=
  flat_part (fun p : Nat × List UInt8 => Value.int .i64 (p.1 : Int) :: Y p.2) P i hi fun p hp => by simp [Y_length, h p hp]
theorem secC_one (L : List (List UInt8)) : ∀ u ∈ secC L, u.oneCell' = true := by
  intro u hu
  obtain ⟨l, hl, hu⟩ := List.mem_flatten.1 hu
  obtain ⟨x, _, rfl⟩ := List.mem_map.1 hl
  exact Y_oneCell x u hu
theorem penC_one (P : List (Nat × List UInt8)) : ∀ u ∈ penC P, u.oneCell' = true := by
  intro u hu
  obtain ⟨l, hl, hu⟩ := List.mem_flatten.1 hu
  obtain ⟨x, _, rfl⟩ := List.mem_map.1 hl
  rcases List.mem_cons.1 hu with rfl | hu
  · rfl
  · exact Y_oneCell x.2 u hu

/-! ### A row of a call's own, an element of which is replaced -/
section
variable {w : World} {base n k : Nat} {e : TypeId} {g cap : Nat} {vs : List Value}
/-- What a row of one's own is. -/
theorem own_block {v : Value} (h : w.ownsRow base e k v n vs) (hn : 0 < n) : ∃ g cap, v = .slice (some ⟨g, 0, none⟩) n cap := by
  obtain ⟨_, h⟩ := h
  rcases h with ⟨_, h0⟩ | ⟨g, cap, cur, e1, _⟩
  · omega
  · exact ⟨g, cap, e1⟩
theorem own_cur (h : w.ownsRow base e k (.slice (some ⟨g, 0, none⟩) n cap) n vs) : ∃ cur, base ≤ g ∧ w.heap[g]? = some (.cells cur e (0, 0)) ∧ n ≤ cap ∧ cap ≤ maxLen ∧ cur.size = cap * k ∧ cur.toList.take (n * k) = vs ∧ vs.length = n * k := by
  obtain ⟨hl, h⟩ := h
  rcases h with ⟨h0, _⟩ | ⟨g', cap', cur, e1, h1, h2, h3, h4, h5, h6⟩
  · cases h0
  · simp only [Value.slice.injEq, Option.some.injEq, Addr.mk.injEq, and_true, true_and] at e1
    obtain ⟨rfl, rfl⟩ := e1
    exact ⟨cur, h1, h2, h3, h4, h5, h6, hl⟩
/-- The world behind the store of ys at place o of block g. -/
def spl (w : World) (g o : Nat) (ys : List Value) : World := match w.heap[g]? with
  | some (.cells cur _ _) => w.setRow g (splice cur.toList o ys).toArray
  | _ => w
theorem own_spl (h : w.ownsRow base e k (.slice (some ⟨g, 0, none⟩) n cap) n vs) {o : Nat} {ys : List Value} (ho : o + ys.length ≤ n * k) :
    (spl w g o ys).ownsRow base e k (.slice (some ⟨g, 0, none⟩) n cap) n (splice vs o ys) := by
  obtain ⟨cur, h1, h2, h3, h4, h5, h6, h7⟩ := own_cur h
  have hk : n * k ≤ cap * k := Nat.mul_le_mul_right k h3
  have hc : cur.toList.length = cap * k := by simpa using h5
  refine ⟨by rw [splice_length (by omega)]; exact h7, .inr ⟨g, cap, (splice cur.toList o ys).toArray, rfl, h1, ?_, h3, h4, ?_, ?_⟩⟩
  · unfold spl
    rw [h2]
    exact setRow_heap w g cur _ e (0, 0) h2
  · have := splice_length (vs := cur.toList) (o := o) (ys := ys) (by omega)
    simpa [hc] using this
  · show (splice cur.toList o ys).take (n * k) = splice vs o ys
    rw [← h6]
    unfold splice
    rw [List.take_take, Nat.min_eq_left (by omega), List.drop_take]
    rw [List.take_append, List.take_of_length_le (by simp; omega)]
    congr 1
    simp only [List.length_append, List.length_take]
    congr 1
    omega
theorem below_spl {B o : Nat} {w0 : World} {ys : List Value} (h : Below B w0 w) (hg : B ≤ g) : Below B w0 (spl w g o ys) := by
  unfold spl
  split
  · exact ⟨h.os, h.tape, h.output, by simpa using h.size, fun j hj => (setRow_other w g j _ (by omega)).trans (h.block j hj)⟩
  · exact h
theorem grown_spl {w0 : World} {o : Nat} {ys : List Value} (h : w0.grownBy w (some g)) : w0.grownBy (spl w g o ys) (some g) := by
  unfold spl
  split
  · exact ⟨h.os, h.tape, h.output, by simpa using h.size, fun j hj hne => (setRow_other w g j _ (fun e => hne (by rw [e]))).trans (h.block j hj hne)⟩
  · exact h
end
section
variable {ev : Operand → Value} {o : Oper} {w : World}
/-- The address of an element of several cells. -/
theorem exec_indexC {T e : TypeId} {k : Nat} (hT : Try.prog.underlying T = some (.slice e)) (hI : (Try.prog.info? e).map (·.size) = some k)
    (x i : Tmp) {b off n c j : Nat} (ho : o.op = .indexAddr T (.tmp x) (.tmp i)) (hx : ev (.tmp x) = .slice (some ⟨b, off, none⟩) n c) (hi : ev (.tmp i) = .int .i64 (j : Int)) (hj : j < n) :
    (execOp ev o).run Try.prog w = .ok (.value (.pointer (some ⟨b, off + j * k, none⟩))) w := by
  cases hq : Try.prog.info? e with
  | none => simp [hq] at hI
  | some i0 =>
    have hz1 : i0.size = k := by simpa [hq] using hI
    have hr : (Instr.indexAt T (.slice (some ⟨b, off, none⟩) n c) (.int .i64 (j : Int))).run Try.prog w = .ok (.pointer (some ⟨b, off + j * k, none⟩)) w := by
      simp [Instr.indexAt, run_underlying hT, asIntOf, hj, sizeOf, typeInfo, hq, hz1, Sem.run_bind, Addr.add]
    unfold execOp
    simp only [ho, hx, hi, Sem.run_bind, hr, Result.andThen_ok, Sem.run_pure]
/-- The load of a whole element. -/
theorem exec_loadC {T : TypeId} {d : TypeDesc} (t : Tmp) {b off : Nat} {cs : List Value} (hu : Try.prog.underlying T = some d) (hd : d.isRow = true) (hi : (Try.prog.info? T).map (·.size) = some cs.length) (hc : w.rangeAt b off cs)
    (ho : o.op = .load T (.tmp t)) (hx : ev (.tmp t) = .pointer (some ⟨b, off, none⟩)) : (execOp ev o).run Try.prog w = .ok (.value (.agg cs.toArray)) w := by
  unfold execOp
  simp only [ho, hx, Instr.loadAt, Instr.sureAddr, Sem.run_bind, Sem.run_pure, Result.andThen_ok, run_loadVar_mid w b off T cs d hc hu hd hi]
/-- The store of a whole element. -/
theorem exec_storeC {T e : TypeId} (t s : Tmp) {g off : Nat} {cur : Array Value} {cs : List Value} (hi : (Try.prog.info? T).map (·.size) = some cs.length) (hg : w.heap[g]? = some (.cells cur e (0, 0))) (hl : off + cs.length ≤ cur.size) (h1 : ∀ v ∈ cs, v.oneCell' = true)
    (ho : o.op = .store T (.tmp t) (.tmp s)) (hx : ev (.tmp t) = .pointer (some ⟨g, off, none⟩)) (hy : ev (.tmp s) = .agg cs.toArray) : (execOp ev o).run Try.prog w = .ok .skip (spl w g off cs) := by
  have hst := run_storeCells_at Try.prog g off e cs 0 cur w hg (by simpa using hl) h1
  have hv : (storeVar T ⟨g, off, none⟩ (.agg cs.toArray)).run Try.prog w = .ok () (spl w g off cs) := by
    cases hq : Try.prog.info? T with
    | none => simp [hq] at hi
    | some i =>
      have hs : i.size = cs.length := by simpa [hq] using hi
      have e1 : spl w g off cs = w.setRow g (cur.toList.take off ++ cs ++ cur.toList.drop (off + cs.length)).toArray := by
        unfold spl splice
        rw [hg]
      rw [e1]
      simp only [Nat.add_zero] at hst
      simp [storeVar, sizeOf, typeInfo, hq, Value.cells, hs, hst]
  unfold execOp
  simp only [ho, hx, hy, Instr.storeAt, Instr.sureAddr, Sem.run_bind, Sem.run_pure, Result.andThen_ok, hv]
theorem exec_pen0 (t : Tmp) {b off : Nat} (ho : o.op = .fieldAddr 74 (.tmp t) 0) (hx : ev (.tmp t) = .pointer (some ⟨b, off, none⟩)) :
    (execOp ev o).run Try.prog w = .ok (.value (.pointer (some ⟨b, off, none⟩))) w := by
  unfold execOp
  simp only [ho, hx]
  go_simp
theorem exec_pen1 (t : Tmp) {b off : Nat} (ho : o.op = .fieldAddr 74 (.tmp t) 1) (hx : ev (.tmp t) = .pointer (some ⟨b, off, none⟩)) :
    (execOp ev o).run Try.prog w = .ok (.value (.pointer (some ⟨b, off + 1, none⟩))) w := by
  unfold execOp
  simp only [ho, hx]
  go_simp
end
end Go.Proofs.Ythknlimhenbhfaa

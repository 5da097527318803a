/- Pending writes as cells. -/
import Derived.Great.BuildSlice
import Derived.Test.YthknlimhenbhfaaDku
namespace Go.Proofs.Ythknlimhenbhfaa
open Go.RowKit Dig
set_option linter.unusedVariables false
/-- The cells of a pending write. -/
def pen1 (z : Int) (x : List UInt8) : List Value := .int .i64 z :: Y x
theorem pen1_length {z : Int} {x : List UInt8} (h : x.length = 64) : (pen1 z x).length = 65 := by simp [pen1, Y_length, h]
theorem pen1_one (z : Int) (x : List UInt8) : ∀ u ∈ pen1 z x, u.oneCell' = true := by
  intro u hu
  rcases List.mem_cons.1 hu with rfl | hu
  · rfl
  · exact Y_oneCell x u hu
/-- The bytes of an empty sector. -/
def Z64 : List UInt8 := List.replicate 64 0
theorem Z64_length : Z64.length = 64 := List.length_replicate
theorem Z64_drop (j : Nat) : Z64.drop j = List.replicate (64 - j) 0 := by unfold Z64; exact List.drop_replicate
theorem zero_penV : (Try.prog.info? 74).map (fun i => (i.zero, i.size, i.bytes)) = some (some (.agg (pen1 0 Z64).toArray), 65, 72) := by kernel_rfl
theorem size_pen {z : Int} {x : List UInt8} (h : x.length = 64) : (Try.prog.info? 74).map (·.size) = some (pen1 z x).length := by
  rw [pen1_length h]
  kernel_rfl
section
variable {w : World} {ops : Array Oper} {rest : List Oper} {o : Oper} {a : Act} {Q : Exit → Act → World → Prop}
/-- A pending write of zeros at a place. -/
theorem wp_buildP {z : Int} (hg : o.guard = none) (t : Tmp) (ho : o.op = .build 74 #[(0, .tmp t)]) (hx : a.eval (.tmp t) = .int .i64 z)
    (h : wpList Try.prog ops Q rest (a.put o.dst (.agg (pen1 z Z64).toArray)) w) : wpList Try.prog ops Q (o :: rest) a w := by
  have hI := zero_penV
  generalize Z64 = Zs at hI h
  cases hq : Try.prog.info? 74 with
  | none => simp [hq] at hI
  | some i0 =>
    simp [hq] at hI
    refine wpList_plain hg fun K hK => ?_
    have hr : (execOp a.eval o).run Try.prog w = .ok (.value (.agg (pen1 z Zs).toArray)) w := by
      unfold execOp
      simp only [ho, List.map_toArray, List.map_cons, List.map_nil, hx]
      go_simp
      simp [zeroValue, typeInfo, hq, hI.1, pen1]
    unfold Oper.wp
    rw [hr]
    exact hK _ _ h
end
theorem fold_set : ∀ (cs : List Value) (k : Nat) (A : Array Value), k + cs.length = A.size → (cs.zipIdx k).foldl (fun a (x : Value × Nat) => a.setIfInBounds (0 + x.2) x.1) A = (A.toList.take k ++ cs).toArray
  | [], k, A, h => by
    simp at h
    subst h
    rw [List.append_nil, List.take_of_length_le (by simp)]
    rfl
  | c :: cs, k, A, h => by
    simp only [List.length_cons] at h
    rw [List.zipIdx_cons, List.foldl_cons, fold_set cs (k + 1) _ (by simp; omega)]
    have hk : k < A.toList.length := by simp; omega
    have : (A.setIfInBounds (0 + k) c).toList.take (k + 1) = A.toList.take k ++ [c] := by
      rw [Nat.zero_add, Array.toList_setIfInBounds, List.take_add_one, List.getElem?_set_self hk, List.take_set]
      rw [List.set_eq_of_length_le (by simp; omega)]
      rfl
    rw [this, List.append_assoc]
    rfl
section
variable {ev : Operand → Value} {o : Oper} {w : World}
/-- An empty row. -/
theorem exec_noneC {T e : TypeId} {k : Nat} (hT : Try.prog.underlying T = some (.slice e)) (hI : (Try.prog.info? e).map (·.size) = some k) (ho : o.op = .buildSlice T 0 #[]) :
    (execOp ev o).run Try.prog w = .ok (.value (.slice (some ⟨w.heap.size, 0, none⟩) 0 0)) (w.alloc (.cells #[] e)) := by
  cases hq : Try.prog.info? e with
  | none => simp [hq] at hI
  | some i0 =>
    have hr : (Instr.buildSlice T 0 #[]).run Try.prog w = .ok (.slice (some ⟨w.heap.size, 0, none⟩) 0 0) (w.alloc (.cells #[] e)) := by
      simp [Instr.buildSlice, run_underlying hT, sizeOf, typeInfo, hq, newRow, Instr.fill]
      rw [show (Array.range 0 : Array Nat) = #[] from Array.eq_empty_of_size_eq_zero (by simp), Array.map_empty]
    unfold execOp
    simp only [ho, Sem.run_bind, Array.map_empty, hr, Result.andThen_ok, Sem.run_pure]
/-- A row of one element. -/
theorem exec_oneC {T e : TypeId} {z : Value} {k by' : Nat} {cs : List Value} (hT : Try.prog.underlying T = some (.slice e)) (hI : (Try.prog.info? e).map (fun i => (i.zero, i.size, i.bytes)) = some (some z, k, by')) (hk : 0 < k) (hk2 : k ≤ 1000) (hc : cs.length = k)
    (t : Tmp) (ho : o.op = .buildSlice T 1 #[(0, .tmp t)]) (hx : ev (.tmp t) = .agg cs.toArray) :
    (execOp ev o).run Try.prog w = .ok (.value (.slice (some ⟨w.heap.size, 0, none⟩) 1 1)) (w.alloc (.cells cs.toArray e)) := by
  cases hq : Try.prog.info? e with
  | none => simp [hq] at hI
  | some i0 =>
    simp [hq] at hI
    obtain ⟨hz, hs, _⟩ := hI
    have hr := run_buildSlice (P := Try.prog) w T e 1 #[(0, .agg cs.toArray)] cs.toArray i0 z hT hq hz (by rw [hs]; omega) (by rw [hs]; omega) (by
      have hsz : ((Array.range (1 * i0.size)).map (z.cells[· % z.cells.size]!)).size = k := by simp [hs]
      generalize (Array.range (1 * i0.size)).map (z.cells[· % z.cells.size]!) = A0 at hsz ⊢
      have hf := fold_set cs 0 A0 (by rw [hsz]; omega)
      rw [List.take_zero, List.nil_append] at hf
      unfold Instr.fill
      simp only [Value.cells, Nat.zero_mul]
      rw [if_neg (by simp [hs, hc, hsz])]
      unfold Instr.fill
      refine congrArg some (Eq.trans ?_ hf)
      rw [← Array.foldl_toList]
      simp)
    unfold execOp
    simp only [ho, List.map_toArray, List.map_cons, List.map_nil, hx, Sem.run_bind, hr, Result.andThen_ok, Sem.run_pure]
end
section
variable {ev : Operand → Value} {o : Oper} {w : World}
/-- append(s, x...), where s is of the call's own, as one operation. -/
theorem exec_appendC {T e : TypeId} {z : Value} {k by' : Nat} (hT : Try.prog.underlying T = some (.slice e)) (hI : (Try.prog.info? e).map (fun i => (i.zero, i.size, i.bytes)) = some (some z, k, by')) (hz : z.cells.size = k) (hk : 0 < k)
    (s x : Tmp) (ho : o.op = .call { callee := .builtin .append, args := #[.tmp s, .tmp x], argTypes := #[T, T] })
    (base : Nat) (v : Value) (n : Nat) (vs : List Value) (hs : ev (.tmp s) = v) (hown : w.ownsRow base e k v n vs) (u : Value) (m : Nat) (us : List Value) (hx : ev (.tmp x) = u) (hr : Cel w u k m us) (h1 : ∀ y ∈ us, y.oneCell' = true)
    (h63 : n + m ≤ 1000000) (hby : by' ≤ 1000000) (hbase : base ≤ w.heap.size) :
    ∃ v' w', (execOp ev o).run Try.prog w = .ok (.value v') w' ∧ w'.ownsRow base e k v' (n + m) (vs ++ us) ∧ w.grownBy w' v.ownBlock := by
  cases hq : Try.prog.info? e with
  | none => simp [hq] at hI
  | some i0 =>
    simp [hq] at hI
    obtain ⟨hz0, hz1, hz2⟩ := hI
    obtain ⟨hl, A, c, e1, ⟨hc, hn⟩, hm, hcell⟩ := hr
    cases A with
    | none =>
      have hc0 := hn rfl
      subst hc0
      obtain rfl : m = 0 := by omega
      have hl : us = [] := List.eq_nil_of_length_eq_zero (by omega)
      subst hl
      subst e1
      have hrun := run_append_owned_none (P := Try.prog) (w := w) base T o.type e i0 k hT hq v n vs hown
      refine ⟨v, w, ?_, by simpa using hown, World.grownBy.refl w _⟩
      simp [execOp, ho, resolve, invoke, builtin, hs, hx, hrun, Result.andThen]
    | some ad =>
      subst e1
      have hnews : ∀ j y, us[j]? = some y → w.cell? (ad.add j) = some y := by
        intro j y hj
        have hpos : 0 < m := by
          rcases Nat.eq_zero_or_pos m with h0 | h0
          · subst h0
            have := (List.getElem?_eq_some_iff.1 hj).1
            omega
          · exact h0
        obtain ⟨b, off, e2, _, hr⟩ := hcell hpos
        cases e2
        have : (⟨b, off, none⟩ : Addr).add j = ⟨b, off + j, none⟩ := by unfold Addr.add; split <;> simp_all
        rw [this]
        exact hr j y hj
      have hbytes : (n + m) * by' ≤ 140737488355328 := Nat.le_trans (Nat.mul_le_mul h63 hby) (by omega)
      obtain ⟨v', w', hr, h2, h3, h4⟩ := run_append_own (P := Try.prog) w base T o.type e i0 z k by' hT hq hz0 hz1 hz2 hz hk v n vs hown ad m c us hl hnews h1 (by unfold maxLen; omega) hbytes hbase
      refine ⟨v', w', ?_, h2, h3⟩
      unfold execOp
      simp only [ho, resolve, invoke, builtin, Sem.run_bind, Sem.run_pure, Result.andThen_ok, List.map_toArray, List.map_cons, List.map_nil, hs, hx, hr]
/-- A field that is a slice is replaced. -/
theorem exec_storeS {p : Addr} {A : Option Addr} {n c : Nat} {y : Value} (t s : Tmp) (ho : o.op = .store 62 (.tmp t) (.tmp s)) (hx : ev (.tmp t) = .pointer (some p)) (hy : ev (.tmp s) = .slice A n c)
    (hz : w.frozen? p = false) (hc : w.cell? p = some y) : (execOp ev o).run Try.prog w = .ok .skip (w.setCell p (.slice A n c)) := by
  unfold execOp
  simp only [ho, hx, hy]
  go_simp
end
section
variable {w w' : World} {g : Nat} {s : DS} {v : Value} {ts : List UInt8}
/-- Bytes that came in lie beside the disk. -/
theorem Byt.besideD (h : Byt w v ts) (hd : DskR w g s) (hg : w.grownBy w' (some g)) : Byt w' v ts := by
  obtain ⟨_, v1, v2, hc, h1, h2, _⟩ := hd
  obtain ⟨A1, c1, e1⟩ := h1.form
  obtain ⟨A2, c2, e2⟩ := h2.form
  subst e1 e2
  obtain ⟨A, c, ev, hcc, hm, hr⟩ := h
  refine ⟨A, c, ev, hcc, hm, fun hp => ?_⟩
  obtain ⟨b, off, eA, hb, hcell⟩ := hr hp
  have hne : b ≠ g := by
    intro e
    subst e
    have h0 := hcell 0 hp
    unfold Dkc at hc
    rw [cell_of_row w b _ _ _ (0, 0) hc] at h0
    match off, h0 with
    | 0, h0 => simp at h0
    | 1, h0 => simp at h0
    | 2, h0 => simp at h0
    | 3, h0 => simp at h0
    | 4, h0 => simp at h0
    | off + 5, h0 => simp at h0
  refine ⟨b, off, eA, Nat.lt_of_lt_of_le hb hg.size, fun j hj => ?_⟩
  rw [World.cell?_of_block (a := ⟨b, off + j, none⟩) (hg.block b hb (by simpa using hne))]
  exact hcell j hj
end
/-- The sector when j bytes are put. -/
def fillS (b : List UInt8) (j : Nat) : List UInt8 := b.take j ++ Z64.drop j
theorem fillS_length {b : List UInt8} {j : Nat} (hj : j ≤ b.length) (hb : b.length ≤ 64) : (fillS b j).length = 64 := by simp [fillS, Z64_length]; omega
theorem fillS_zero (b : List UInt8) : fillS b 0 = Z64 := by simp [fillS]
theorem fillS_all {b : List UInt8} : fillS b b.length = padS b := by
  unfold fillS padS
  rw [List.take_length, Z64_drop]
theorem fillS_set {b : List UInt8} {j : Nat} (hj : j < b.length) (hb : b.length ≤ 64) : (fillS b j).set j (b.getD j 0) = fillS b (j + 1) := by
  refine List.ext_getElem (by rw [List.length_set, fillS_length (by omega) hb, fillS_length (by omega) hb]) fun i h1 h2 => ?_
  rw [List.length_set, fillS_length (by omega) hb] at h1
  rw [List.getElem_set]
  by_cases e : j = i
  · subst e
    simp [fillS, List.getElem_append, hj, List.getD_eq_getElem?_getD]
    intro h
    omega
  · rw [if_neg e]
    simp only [fillS, List.getElem_append, List.length_take, List.getElem_take, List.getElem_drop]
    by_cases hi : i < j
    · rw [dif_pos (by omega), dif_pos (by omega)]
    · rw [dif_neg (by omega), dif_neg (by omega)]
      congr 1
      omega
section
variable {w : World} {g : Nat} {z : Int} {x : List UInt8}
/-- A byte of the pending write is put. -/
theorem pen_put {T : TypeId} (h : w.heap[g]? = some (.cells (pen1 z x).toArray T (0, 0))) (j : Nat) (c : UInt8) (q : Int) (hq : q = (c.toNat : Int)) : (w.setCell ⟨g, 1 + j, none⟩ (.int .u8 q)).heap[g]? = some (.cells (pen1 z (x.set j c)).toArray T (0, 0)) := by
  subst hq
  simp only [World.setCell, Array.getElem?_modify, h]
  simp [pen1, Y, List.map_set, Nat.add_comm 1 j]
theorem pen_cell {T : TypeId} (h : w.heap[g]? = some (.cells (pen1 z x).toArray T (0, 0))) {j : Nat} (hj : j < x.length) : w.cell? ⟨g, 1 + j, none⟩ = some (.int .u8 ((x.getD j 0).toNat : Int)) ∧ w.frozen? ⟨g, 1 + j, none⟩ = false := by
  refine ⟨?_, by simp [World.frozen?, h]⟩
  rw [cell_of_row w g _ _ _ (0, 0) h, List.getElem?_toArray]
  show (pen1 z x)[1 + j]? = _
  rw [Nat.add_comm]
  exact Y_get x j hj
end
section
variable {ops : Array Oper} {Q : Exit → Act → World → Prop} {w : World}
theorem cel_one (w : World) (e : TypeId) {cs : List Value} {k : Nat} (hl : cs.length = k) : Cel (w.alloc (.cells cs.toArray e)) (.slice (some ⟨w.heap.size, 0, none⟩) 1 1) k 1 cs := by
  refine ⟨by omega, some ⟨w.heap.size, 0, none⟩, 1, rfl, ⟨Nat.le_refl _, fun e => by cases e⟩, by unfold maxLen; omega, fun _ => ⟨w.heap.size, 0, rfl, ?_, fun j u hj => ?_⟩⟩
  · show w.heap.size < (w.heap.push _).size
    simp
  · rw [cell_of_row _ _ _ _ _ (0, 0) (heap_alloc_new w _), Nat.zero_add]
    simpa using hj
theorem op_appendC {T e : TypeId} {z : Value} {k by' : Nat} (hT : Try.prog.underlying T = some (.slice e)) (hI : (Try.prog.info? e).map (fun i => (i.zero, i.size, i.bytes)) = some (some z, k, by')) (hz : z.cells.size = k) (hk : 0 < k) (hby : by' ≤ 1000000)
    {i : Nat} {K : Act → World → Prop} {a : Act} (d : Option Tmp) (s x : Tmp) (hi : (ops[i]?).isSome = true) (hd : (opI ops i).dst = d) (hw : Region.wanted (opI ops i) (yielded ops a.tmps) = true)
    (ho : (opI ops i).op = .call { callee := .builtin .append, args := #[.tmp s, .tmp x], argTypes := #[T, T] })
    (base : Nat) (v : Value) (n : Nat) (vs : List Value) (hs : a.eval (.tmp s) = v) (hown : w.ownsRow base e k v n vs) (u : Value) (m : Nat) (us : List Value) (hx : a.eval (.tmp x) = u) (hr : Cel w u k m us) (h1 : ∀ y ∈ us, y.oneCell' = true)
    (h63 : n + m ≤ 1000000) (hbase : base ≤ w.heap.size) (h : ∀ v' w', w'.ownsRow base e k v' (n + m) (vs ++ us) → w.grownBy w' v.ownBlock → K (a.put d v') w') : wpOp Try.prog ops Q i K a w := by
  obtain ⟨v', w', hr, h2, h3⟩ := exec_appendC (ev := a.eval) (o := opI ops i) hT hI hz hk s x ho base v n vs hs hown u m us hx hr h1 h63 hby hbase
  exact op_do d v' w' hi hd hw hr (h v' w' h2 h3)
end
theorem penC_snoc (P : List (Nat × List UInt8)) (p : Nat × List UInt8) : penC (P ++ [p]) = penC P ++ pen1 (p.1 : Int) p.2 := by simp [penC, pen1]
section
variable {w : World} {g : Nat} {s : DS}
/-- One write more is pending. -/
theorem DskR.pended {w2 : World} {r : Value} {base : Nat} {p : Nat × List UInt8} (h : DskR w g s) (hB : Below w.heap.size w w2) (hg : g < base) (ho : w2.ownsRow base 74 65 r (s.pend.length + 1) (penC (s.pend ++ [p]))) (hp : p.1 < s.dur.length ∧ p.2.length = 64) :
    DskR (w2.setCell ⟨g, 1, none⟩ r) g { s with pend := s.pend ++ [p] } ∧ w.grownBy (w2.setCell ⟨g, 1, none⟩ r) (some g) ∧ (w.heap.size ≤ base → Feet w (w2.setCell ⟨g, 1, none⟩ r) g) := by
  obtain ⟨h0, v1, v2, h1, h2, h3, h4, h5, h6⟩ := h
  have hg0 : w2.grownBy (w2.setCell ⟨g, 1, none⟩ r) (some g) := grown_put' _ _ _ _
  have hne : r.ownBlock ≠ some g := fun e => by
    have := (ho.lt g e).1
    omega
  refine ⟨⟨⟨h0.1, fun q hq => ?_, h0.2.2⟩, v1, r, (h1.below hB).put1 r, (h2.below hB).grown hg0 (fun b hb e => h4 (hb.trans e.symm)), ?_, h4, hne, fun b e => ?_⟩, grown_trans ⟨hB.os, hB.tape, hB.output, hB.size, fun k hk _ => hB.block k hk⟩ hg0, fun hbs b hb => ?_⟩
  · rcases List.mem_append.1 hq with hq | hq
    · exact h0.2.1 q hq
    · rw [List.mem_singleton.1 hq]
      exact hp
  · show Cel _ r 65 (s.pend ++ [p]).length (penC (s.pend ++ [p]))
    rw [List.length_append]
    exact (own_cel ho).grown hg0 (fun b hb e => hne (hb.trans e.symm))
  · rcases e with e | e
    · exact Nat.lt_of_lt_of_le (Nat.lt_of_lt_of_le (h6 b (.inl e)) hB.size) hg0.size
    · exact Nat.lt_of_lt_of_le (ho.lt b e).2 hg0.size
  · rcases (foot_of ((h1.below hB).put1 r)).1 hb with h | h | h
    · exact .inl (.inl h)
    · exact .inl ((foot_of h1).2 (.inr (.inl h)))
    · exact .inr (Nat.le_trans hbs (ho.lt b h).1)
end
end Go.Proofs.Ythknlimhenbhfaa

/- copy onto a part of a block of bytes; a part of the sectors' row as bytes. -/
import Derived.Test.YtckomifecmemnaaGreatDqb
namespace Go.Proofs.YtckomifecmemnaaGreat
open Go.RowKit Dig
set_option linter.unusedVariables false

theorem splice_nil (vs : List Value) (o : Nat) : splice vs o [] = vs := by simp [splice]
/-- copy onto a part of a block. -/
theorem run_copyV {w : World} {g off n c : Nat} {u : Value} {ys : List UInt8} (hr : Byt w u ys) {cur : List Value} (hg : w.heap[g]? = some (.cells cur.toArray 5 (0, 0))) (hn : off + n ≤ cur.length) (hle : ys.length ≤ n) :
    ∃ w', (∀ ty, (Builtin.copy_ #[33, 33] ty #[.slice (some ⟨g, off, none⟩) n c, u]).run Tryz.prog w = .ok (goInt ys.length) w') ∧ w'.heap[g]? = some (.cells (splice cur off (Y ys)).toArray 5 (0, 0)) ∧ w.grownBy w' (some g) ∧ w'.heap.size = w.heap.size := by
  obtain ⟨A, c', e, ⟨hc, hnn⟩, hm, hcell⟩ := hr
  subst e
  have hmin : Nat.min ys.length n = ys.length := Nat.min_eq_left hle
  by_cases h0 : ys.length = 0
  · obtain rfl : ys = [] := List.eq_nil_of_length_eq_zero h0
    refine ⟨w, fun ty => run_copy_none (P := Tryz.prog) w 33 33 ty 5 (some ⟨g, off, none⟩) A n c 0 c' Tryz.underlying33 size_byte (by simp), ?_, World.grownBy.refl w _, rfl⟩
    show w.heap[g]? = some (.cells (splice cur off []).toArray 5 (0, 0))
    rw [splice_nil]
    exact hg
  · obtain ⟨b, so, rfl, hb, hcc⟩ := hcell (by omega)
    have hsrc : ∀ j v, (Y ys)[j]? = some v → w.cell? ((⟨b, so, none⟩ : Addr).add j) = some v := by
      intro j v hu
      have hj : j < ys.length := by
        rcases Nat.lt_or_ge j ys.length with hj | hj
        · exact hj
        · rw [List.getElem?_eq_none (by rw [Y_length]; exact hj)] at hu; cases hu
      rw [Y_get ys j hj] at hu
      have hu := Option.some.inj hu
      subst hu
      have : (⟨b, so, none⟩ : Addr).add j = ⟨b, so + j, none⟩ := by unfold Addr.add; split <;> simp_all
      rw [this]
      exact hcc j hj
    refine ⟨w.setRow g (splice cur off (Y ys)).toArray, fun ty => ?_, setRow_heap w g _ _ _ _ hg, ⟨rfl, rfl, rfl, by simp [World.setRow], fun k _ hk => setRow_other w g k _ (fun e => hk (by rw [e]))⟩, by simp [World.setRow]⟩
    have hrun := run_copy_row (P := Tryz.prog) w 33 33 ty 5 g off n c ⟨b, so, none⟩ ys.length c' cur.toArray 5 (Y ys) Tryz.underlying33 size_byte hg (by rw [Y_length, hmin]) hsrc (by rw [Y_length]; simp; omega) (Y_oneCell ys)
    rw [Y_length] at hrun
    have e2 : (cur.toArray.toList.take off ++ Y ys ++ cur.toArray.toList.drop (off + ys.length)).toArray = (splice cur off (Y ys)).toArray := by
      unfold splice
      rw [Y_length]
    rw [e2] at hrun
    exact hrun
/-- The same as an operation. -/
theorem copy_w {w : World} {g off n c : Nat} {u : Value} {ys : List UInt8} (hr : Byt w u ys) {cur : List Value} (hg : w.heap[g]? = some (.cells cur.toArray 5 (0, 0))) (hn : off + n ≤ cur.length) (hle : ys.length ≤ n) :
    ∃ w', (∀ (ev : Operand → Value) (o : Oper) (d s : Operand), o.op = .call { callee := .builtin .copy, args := #[d, s], argTypes := #[33, 33] } → ev d = .slice (some ⟨g, off, none⟩) n c → ev s = u → (execOp ev o).run Tryz.prog w = .ok (.value (goInt ys.length)) w') ∧
      w'.heap[g]? = some (.cells (splice cur off (Y ys)).toArray 5 (0, 0)) ∧ w.grownBy w' (some g) ∧ w'.heap.size = w.heap.size := by
  obtain ⟨w', h1, h2⟩ := run_copyV (c := c) hr hg hn hle
  refine ⟨w', fun ev o d s ho hd hs => ?_, h2⟩
  have hrun := h1 o.type
  simp [execOp, ho, resolve, invoke, builtin, hd, hs, hrun, Result.andThen]
section
variable {w : World} {ops : Array Oper} {rest : List Oper} {o : Oper} {a : Act} {Q : Exit → Act → World → Prop}
theorem wp_copyV (hgd : o.guard = none) (d s : Operand) (ho : o.op = .call { callee := .builtin .copy, args := #[d, s], argTypes := #[33, 33] }) (g off n c : Nat) (hd : a.eval d = .slice (some ⟨g, off, none⟩) n c) (u : Value) (ys : List UInt8) (hs : a.eval s = u) (hr : Byt w u ys)
    (cur : List Value) (hg : w.heap[g]? = some (.cells cur.toArray 5 (0, 0))) (hn : off + n ≤ cur.length) (hle : ys.length ≤ n)
    (h : ∀ w', w'.heap[g]? = some (.cells (splice cur off (Y ys)).toArray 5 (0, 0)) → w.grownBy w' (some g) → w'.heap.size = w.heap.size → wpList Tryz.prog ops Q rest (a.put o.dst (goInt ys.length)) w') :
    wpList Tryz.prog ops Q (o :: rest) a w := by
  refine wpList_plain hgd fun K hK => ?_
  obtain ⟨w', hx, h1, h2, h3⟩ := copy_w (c := c) hr hg hn hle
  unfold Oper.wp
  rw [hx a.eval o d s ho hd hs]
  exact hK _ _ (h w' h1 h2 h3)
end
section
variable {w : World} {g b c : Nat} {L : List (List UInt8)} {ts : List UInt8}
/-- A sector as bytes. -/
theorem SecB.part (h : SecB w b L) (hL : ∀ x ∈ L, x.length = 64) {i : Nat} (hi : i < L.length) (hc : 64 ≤ c) (hm : c ≤ maxLen) : Byt w (.slice (some ⟨b, i * 64, none⟩) 64 c) L[i] := by
  have h64 := hL _ (List.getElem_mem hi)
  refine ⟨some ⟨b, i * 64, none⟩, c, by rw [h64], ⟨by omega, fun e => by cases e⟩, hm, fun _ => ⟨b, i * 64, rfl, h.lt, fun j hj => ?_⟩⟩
  have hp := secC_part hi hL
  have h1 : (((secC L).drop (i * 64)).take 64)[j]? = (Y L[i])[j]? := by rw [hp]
  rw [List.getElem?_take, if_pos (by omega), List.getElem?_drop, Y_get _ j hj] at h1
  unfold SecB at h
  rw [cell_of_row w b _ _ _ (0, 0) h, List.getElem?_toArray]
  exact h1
/-- All sectors as bytes. -/
theorem SecB.all (h : SecB w b L) (hL : ∀ x ∈ L, x.length = 64) (hl : L.length ≤ 10000) : ∃ ts, Y ts = secC L ∧ ts.length = L.length * 64 ∧ Byt w (rowV b L.length) ts := by
  have e : Y L.flatten = secC L := by
    unfold Y secC
    rw [List.map_flatten]
    rfl
  have hlen : L.flatten.length = L.length * 64 := by
    have := secC_length hL
    rw [← e, Y_length] at this
    exact this
  refine ⟨L.flatten, e, hlen, some ⟨b, 0, none⟩, L.length * 64, by rw [hlen]; rfl, ⟨by omega, fun e => by cases e⟩, by unfold maxLen; omega, fun _ => ⟨b, 0, rfl, h.lt, fun j hj => ?_⟩⟩
  unfold SecB at h
  rw [cell_of_row w b _ _ _ (0, 0) h, List.getElem?_toArray, Nat.zero_add, ← e]
  exact Y_get _ j hj
/-- The first bytes of a block. -/
theorem LetB.part (h : LetB w b ts) {n : Nat} (hn : n ≤ ts.length) (hc : n ≤ c) (hm : c ≤ maxLen) : Byt w (.slice (some ⟨b, 0, none⟩) n c) (ts.take n) := by
  have e : (ts.take n).length = n := by rw [List.length_take]; omega
  refine ⟨some ⟨b, 0, none⟩, c, by rw [e], ⟨by omega, fun e => by cases e⟩, hm, fun _ => ⟨b, 0, rfl, h.lt, fun j hj => ?_⟩⟩
  rw [Nat.zero_add, h.cell (by omega)]
  rw [getD_takeB _ _ _ (by omega)]
/-- A row of zeros is a row of empty sectors. -/
theorem LetB.secs {n : Nat} (h : LetB w b (List.replicate (n * 64) 0)) : SecB w b (List.replicate n Z64) := by
  unfold LetB at h
  unfold SecB
  rw [h, secC_empty]
  have : Y (List.replicate (n * 64) 0) = List.replicate (n * 64) (.int .u8 0) := by
    unfold Y
    rw [List.map_replicate]
    rfl
  rw [this]
end
end Go.Proofs.YtckomifecmemnaaGreat

/- The program's disk: the writes that survive (queue.survivors). -/
import Derived.Test.YthknlimhenbhfaaDpf
namespace Go.Proofs.Ythknlimhenbhfaa
open Go.RowKit Dig
set_option linter.unusedVariables false

/-- The survivors among the entries from number i on. -/
def keptE (keep : Nat) : Nat → List Ent → List Ent
  | _, [] => []
  | i, e :: es => if survS keep i = true then e :: keptE keep (i + 1) es else keptE keep (i + 1) es
theorem keptE_fst (keep : Nat) : ∀ (es : List Ent) (i : Nat), (keptE keep i es).map (·.1) = keptS keep i (es.map (·.1))
  | [], i => rfl
  | e :: es, i => by
    have := keptE_fst keep es (i + 1)
    simp only [List.map_cons, keptE, keptS]
    split
    · rw [List.map_cons, this]
    · exact this
theorem keptE_mem (keep : Nat) : ∀ (es : List Ent) (i : Nat), ∀ e ∈ keptE keep i es, e ∈ es
  | [], i, p, h => h
  | q :: es, i, p, h => by
    unfold keptE at h
    split at h
    · rcases List.mem_cons.1 h with h | h
      · exact h ▸ List.mem_cons_self
      · exact List.mem_cons_of_mem _ (keptE_mem keep es _ p h)
    · exact List.mem_cons_of_mem _ (keptE_mem keep es _ p h)
theorem keptE_length (keep : Nat) : ∀ (es : List Ent) (i : Nat), (keptE keep i es).length ≤ es.length
  | [], i => Nat.le_refl _
  | q :: es, i => by
    have := keptE_length keep es (i + 1)
    unfold keptE
    split <;> simp only [List.length_cons] <;> omega
theorem keptE_snoc (keep : Nat) (e : Ent) : ∀ (es : List Ent) (i : Nat), keptE keep i (es ++ [e]) = if survS keep (i + es.length) = true then keptE keep i es ++ [e] else keptE keep i es
  | [], i => by simp only [List.nil_append, keptE, List.length_nil, Nat.add_zero]
  | q :: es, i => by
    have := keptE_snoc keep e es (i + 1)
    rw [show i + 1 + es.length = i + (es.length + 1) by omega] at this
    rw [List.cons_append]
    unfold keptE
    rw [this, List.length_cons]
    split <;> split <;> rfl
theorem keptE_take (keep : Nat) (es : List Ent) {j : Nat} (hj : j < es.length) : keptE keep 0 (es.take (j + 1)) = if survS keep j = true then keptE keep 0 (es.take j) ++ [es[j]] else keptE keep 0 (es.take j) := by
  rw [List.take_add_one, List.getElem?_eq_getElem hj]
  show keptE keep 0 (es.take j ++ [es[j]]) = _
  rw [keptE_snoc, Nat.zero_add, List.length_take, Nat.min_eq_left (by omega)]
section
variable {w : World} {ops : Array Oper} {rest : List Oper} {o : Oper} {a : Act} {Q : Exit → Act → World → Prop}
/-- The load of a whole write. -/
theorem wp_loadW (hgd : o.guard = none) (t : Tmp) (ho : o.op = .load 55 (.tmp t)) (b off : Nat) (cs : List Value) (hx : a.eval (.tmp t) = .pointer (some ⟨b, off, none⟩)) (hr : w.rangeAt b off cs) (hl : cs.length = 2)
    (h : wpList Try.prog ops Q rest (a.put o.dst (.agg cs.toArray)) w) : wpList Try.prog ops Q (o :: rest) a w := by
  refine wpList_plain hgd fun K hK => ?_
  have hrun := exec_loadC (w := w) (ev := a.eval) (o := o) t Try.underlying55 rfl (cs := cs) (by rw [hl]; exact size_wr) hr ho hx
  unfold Oper.wp
  rw [hrun]
  exact hK _ _ h
/-- A row of one write. -/
theorem wp_oneW (hgd : o.guard = none) (t : Tmp) (ho : o.op = .buildSlice 53 1 #[(0, .tmp t)]) (cs : List Value) (hx : a.eval (.tmp t) = .agg cs.toArray) (hl : cs.length = 2)
    (h : ∀ w', Cel w' (.slice (some ⟨w.heap.size, 0, none⟩) 1 1) 2 1 cs → Below w.heap.size w w' → wpList Try.prog ops Q rest (a.put o.dst (.slice (some ⟨w.heap.size, 0, none⟩) 1 1)) w') : wpList Try.prog ops Q (o :: rest) a w := by
  refine wpList_plain hgd fun K hK => ?_
  have hrun := exec_oneC (w := w) (ev := a.eval) (o := o) Try.underlying53 zero_wr (by omega) (by omega) hl t ho hx
  unfold Oper.wp
  rw [hrun]
  exact hK _ _ (h _ (cel_one w _ hl) ((Below.refl _ _).alloc (Nat.le_refl _) _))
end
section
variable {w : World} {g bd bv n : Nat} {ve : Value} {on : Bool} {c : Int} {es : List Ent} {L V : List (List UInt8)}
theorem surv_bits (keep i : Nat) (hk : keep < 18446744073709551616) (hi : i ≤ 63) : bits .and .u64 ((keep : Int) / 2 ^ i) 1 = if survS keep i = true then 1 else 0 := by
  have e := u64_and_nat (keep / 2 ^ i) 1 (Nat.lt_of_le_of_lt (Nat.div_le_self _ _) hk) (by omega)
  rw [Nat.and_one_is_mod] at e
  have e2 : ((keep / 2 ^ i : Nat) : Int) = (keep : Int) / 2 ^ i := by simp
  rw [e2] at e
  have e : bits .and .u64 ((keep : Int) / 2 ^ i) 1 = ((keep / 2 ^ i % 2 : Nat) : Int) := e
  rw [e]
  unfold survS
  rw [show min i 63 = i by omega]
  rcases (by omega : keep / 2 ^ i % 2 = 0 ∨ keep / 2 ^ i % 2 = 1) with h | h
  · rw [h]; rfl
  · rw [h]; rfl
set_option maxRecDepth 20000 in
set_option maxHeartbeats 4000000 in
theorem psurv_c (h : Mem w g bd bv ve n on c es L V) (hk : es.length ≤ 63) (keep : Nat) (hkeep : keep < 18446744073709551616) :
    Calls Try.prog 43 #[.pointer (some ⟨g, 2, none⟩), .int .u64 (keep : Int)] w fun e w' => ∃ r, e = .returned r ∧ w'.ownsRow w.heap.size 55 2 r (keptE keep 0 es).length (entC (keptE keep 0 es)) ∧ Below w.heap.size w w' := by
  have H := Lib.hid h
  have HK := Lib.hid hk
  have HE := Lib.hid hkeep
  have HO := Lib.hid (own_cel h.own)
  obtain ⟨Ae, ce, rfl⟩ := (own_cel h.own).form
  obtain ⟨-, -, -, c3, -, -⟩ := h.fld.cells
  have hki : (es.length : Int) ≤ 63 := by omega
  clear h hk hkeep
  go_enter Try.func43, Try.ntmps43
  go_wp2_with fail
  obtain ⟨m, em⟩ : ∃ m, es.length = m := ⟨_, rfl⟩
  have EM := Lib.hid em
  rw [em] at hki HO
  rw [em]
  clear em c3
  go_loopw [5, 15] (fun out i wr => ∃ j : Nat, j ≤ m ∧ i = .int .i64 j ∧ wr.ownsRow w.heap.size 55 2 out (keptE keep 0 (es.take j)).length (entC (keptE keep 0 (es.take j))) ∧ Below w.heap.size w wr) (fun _ i _ => m - (intOf i).toNat)
  case atStart => exact ⟨0, Nat.zero_le _, rfl, World.ownsRow_nil w _ _ 2, Below.refl _ _⟩
  case round =>
    obtain ⟨j, hj, rfl, hOut, hB⟩ := hrel
    obtain ⟨-, -, c2, -, -, -⟩ := (H.out.below hB).fld.cells
    rw [EM.out] at c2
    by_cases hjm : j < m
    · have HJ : (j : Int) < m := by omega
      have hje : j < es.length := by rw [EM.out]; exact hjm
      have hbit := surv_bits keep j HE.out (by omega)
      have hT := keptE_take keep es hje
      have hpart := entC_part hje
      generalize es[j] = e at hT hpart
      obtain ⟨⟨q, x⟩, b⟩ := e
      have hln : (keptE keep 0 (es.take j)).length ≤ 63 := Nat.le_trans (keptE_length keep _ 0) (by rw [List.length_take]; omega)
      obtain ⟨b2, ob, rfl, hb2, hrg⟩ := HO.out.range (by omega)
      have hrp := range_part hrg (j * 2) 2
      rw [hpart] at hrp
      have hrp := range_below hrp hb2 hB
      have HOut := Lib.hid hOut
      have BR := Lib.hid hB
      have HRP := Lib.hid hrp
      have HLN := Lib.hid hln
      generalize keptE keep 0 (es.take j) = ks at hT HOut HLN
      have HT := Lib.hid hT
      clear hOut hB hrp hrg hpart hT hln c2
      cases hsv : survS keep j with
      | true =>
        rw [hsv, if_pos rfl] at hbit
        rw [hsv, if_pos rfl] at HT
        clear hsv
        go_wp2_with (first | ((with_reducible refine wp_loadW rfl 18 rfl b2 (ob + j * 2) _ ?hx HRP.out rfl ?_); (case hx => rfl)) | ((with_reducible refine wp_allocC zero_wr rfl rfl ?_); intro w2 hA hB2; have HA2 := Lib.hid hA; have B2 := Lib.hid hB2; clear hA hB2) | ((with_reducible refine wp_storeC (T := 55) (e := 55) (g := wr.heap.size) (cur := #[.int .i64 0, .slice none 0 0]) (cs := [Value.int .i64 (q : Int), .slice (some ⟨b, 0, none⟩) 64 64]) ?hi ?hg ?hl ?h1 ?hgd 7 19 ?ho ?hx ?hy ?_); (case hgd => rfl); (case ho => rfl); (case hi => exact size_wr); (case hg => exact HA2.out); (case hl => rfl); (case h1 => (intro u hu; simp only [List.mem_cons, List.not_mem_nil, or_false] at hu; rcases hu with rfl | rfl <;> rfl)); (case hx => rfl); (case hy => rfl); intro w3 hC hG3; have k0 : w3.cell? ⟨wr.heap.size, 0, none⟩ = some (.int .i64 (q : Int)) := cell_of_row w3 _ 0 _ _ (0, 0) hC; have k1 : w3.cell? ⟨wr.heap.size, 1, none⟩ = some (.slice (some ⟨b, 0, none⟩) 64 64) := cell_of_row w3 _ 1 _ _ (0, 0) hC; have O3 := Lib.hid (own_grown (own_below HOut.out B2.out (Nat.le_refl _)) hG3 (fun g e e2 => by have := (HOut.out.lt g e).2; injection e2 with e2; omega)); have B3 := Lib.hid ((below_then BR.out B2.out).grown hG3 (below_then BR.out B2.out).size (fun k e => by injection e with e; have := BR.out.size; omega)); clear hC hG3) | (at_builtin; refine wp_appendC Try.underlying53 zero_wr rfl (by omega) rfl _ _ rfl w.heap.size _ ks.length (entC ks) rfl (O3.out.alloc _) _ 1 [Value.int .i64 (q : Int), .slice (some ⟨b, 0, none⟩) 64 64] rfl (cel_one w3 55 rfl) (by intro u hu; simp only [List.mem_cons, List.not_mem_nil, or_false] at hu; rcases hu with rfl | rfl <;> rfl) (by have := HLN.out; omega) (by omega) (Nat.le_trans B3.out.size (World.grownBy_alloc w3 _ none).size) ?_; intro v5 w5 hv5 hg5; have O5 := Lib.hid hv5; have B5 := Lib.hid (below_own (B3.out.alloc B3.out.size _) hg5 (O3.out.alloc _) (Nat.le_refl _)); clear hv5 hg5))
        go_roundw
        case rel => exact ⟨j + 1, by omega, by go_num, by have := O5.out; rw [HT.out, entC_snoc, List.length_append]; exact this, B5.out⟩
        case measure => simp [intOf]; omega
      | false =>
        rw [hsv, if_neg (by decide)] at hbit
        rw [hsv, if_neg (by decide)] at HT
        clear hsv
        go_wp2_with (first | ((with_reducible refine wp_loadW rfl 18 rfl b2 (ob + j * 2) _ ?hx HRP.out rfl ?_); (case hx => rfl)) | ((with_reducible refine wp_allocC zero_wr rfl rfl ?_); intro w2 hA hB2; have HA2 := Lib.hid hA; have B2 := Lib.hid hB2; clear hA hB2) | ((with_reducible refine wp_storeC (T := 55) (e := 55) (g := wr.heap.size) (cur := #[.int .i64 0, .slice none 0 0]) (cs := [Value.int .i64 (q : Int), .slice (some ⟨b, 0, none⟩) 64 64]) ?hi ?hg ?hl ?h1 ?hgd 7 19 ?ho ?hx ?hy ?_); (case hgd => rfl); (case ho => rfl); (case hi => exact size_wr); (case hg => exact HA2.out); (case hl => rfl); (case h1 => (intro u hu; simp only [List.mem_cons, List.not_mem_nil, or_false] at hu; rcases hu with rfl | rfl <;> rfl)); (case hx => rfl); (case hy => rfl); intro w3 hC hG3; have k0 : w3.cell? ⟨wr.heap.size, 0, none⟩ = some (.int .i64 (q : Int)) := cell_of_row w3 _ 0 _ _ (0, 0) hC; have k1 : w3.cell? ⟨wr.heap.size, 1, none⟩ = some (.slice (some ⟨b, 0, none⟩) 64 64) := cell_of_row w3 _ 1 _ _ (0, 0) hC; have O3 := Lib.hid (own_grown (own_below HOut.out B2.out (Nat.le_refl _)) hG3 (fun g e e2 => by have := (HOut.out.lt g e).2; injection e2 with e2; omega)); have B3 := Lib.hid ((below_then BR.out B2.out).grown hG3 (below_then BR.out B2.out).size (fun k e => by injection e with e; have := BR.out.size; omega)); clear hC hG3))
        go_roundw
        case rel => exact ⟨j + 1, by omega, by go_num, by have := O3.out; rw [HT.out]; exact this, B3.out⟩
        case measure => simp [intOf]; omega
    · have HJ : ¬ (j : Int) < m := by omega
      have e : j = es.length := by rw [EM.out]; omega
      rw [e, List.take_length] at hOut
      have HOut := Lib.hid hOut
      have BR := Lib.hid hB
      clear hOut hB e
      go_wp2_with fail
      go_ret
      exact ⟨_, rfl, HOut.out, BR.out⟩
end
end Go.Proofs.Ythknlimhenbhfaa

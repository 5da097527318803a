/- The program's disk: the writes that survive, however many are pending (queue.survivors). -/
import Derived.Laws.IdiomRangeMap
import Derived.Test.YtckomifecmemnaaGreatDqf
namespace Go.Proofs.YtckomifecmemnaaGreat
open Go.RowKit Dig Go.ChangeMaps
set_option linter.unusedVariables false

/-- The survivors among the entries from number i on. -/
def keptE (keep : Nat) : Nat → List Ent → List Ent
  | _, [] => []
  | i, e :: es => if survS keep i = true then e :: keptE keep (i + 1) es else keptE keep (i + 1) es
theorem keptE_fst (keep : Nat) : ∀ (es : List Ent) (i : Nat), (keptE keep i es).map (·.1) = keptS keep i (es.map (·.1))
  | [], i => rfl
  | e :: es, i => by
    have := keptE_fst keep es (i + 1)
    simp only [List.map_cons, keptE, keptS]
    split
    · rw [List.map_cons, this]
    · exact this
theorem keptE_mem (keep : Nat) : ∀ (es : List Ent) (i : Nat), ∀ e ∈ keptE keep i es, e ∈ es
  | [], i, p, h => h
  | q :: es, i, p, h => by
    unfold keptE at h
    split at h
    · rcases List.mem_cons.1 h with h | h
      · exact h ▸ List.mem_cons_self
      · exact List.mem_cons_of_mem _ (keptE_mem keep es _ p h)
    · exact List.mem_cons_of_mem _ (keptE_mem keep es _ p h)
theorem keptE_length (keep : Nat) : ∀ (es : List Ent) (i : Nat), (keptE keep i es).length ≤ es.length
  | [], i => Nat.le_refl _
  | q :: es, i => by
    have := keptE_length keep es (i + 1)
    unfold keptE
    split <;> simp only [List.length_cons] <;> omega
theorem keptE_snoc (keep : Nat) (e : Ent) : ∀ (es : List Ent) (i : Nat), keptE keep i (es ++ [e]) = if survS keep (i + es.length) = true then keptE keep i es ++ [e] else keptE keep i es
  | [], i => by simp only [List.nil_append, keptE, List.length_nil, Nat.add_zero]
  | q :: es, i => by
    have := keptE_snoc keep e es (i + 1)
    rw [show i + 1 + es.length = i + (es.length + 1) by omega] at this
    rw [List.cons_append]
    unfold keptE
    rw [this, List.length_cons]
    split <;> split <;> rfl
theorem keptE_take (keep : Nat) (es : List Ent) {j : Nat} (hj : j < es.length) : keptE keep 0 (es.take (j + 1)) = if survS keep j = true then keptE keep 0 (es.take j) ++ [es[j]] else keptE keep 0 (es.take j) := by
  rw [List.take_add_one, List.getElem?_eq_getElem hj]
  show keptE keep 0 (es.take j ++ [es[j]]) = _
  rw [keptE_snoc, Nat.zero_add, List.length_take, Nat.min_eq_left (by omega)]
section
variable {w : World} {ops : Array Oper} {rest : List Oper} {o : Oper} {a : Act} {Q : Exit → Act → World → Prop}
/-- A row of one write. -/
theorem wp_oneW (hgd : o.guard = none) (t : Tmp) (ho : o.op = .buildSlice 53 1 #[(0, .tmp t)]) (cs : List Value) (hx : a.eval (.tmp t) = .agg cs.toArray) (hl : cs.length = 2)
    (h : ∀ w', Cel w' (.slice (some ⟨w.heap.size, 0, none⟩) 1 1) 2 1 cs → Below w.heap.size w w' → wpList Tryz.prog ops Q rest (a.put o.dst (.slice (some ⟨w.heap.size, 0, none⟩) 1 1)) w') : wpList Tryz.prog ops Q (o :: rest) a w := by
  refine wpList_plain hgd fun K hK => ?_
  have hrun := exec_oneC (w := w) (ev := a.eval) (o := o) Tryz.underlying53 zero_wr (by omega) (by omega) hl t ho hx
  unfold Oper.wp
  rw [hrun]
  exact hK _ _ (h _ (cel_one w _ hl) ((Below.refl _ _).alloc (Nat.le_refl _) _))
end
section
variable {w : World} {g bd bv n : Nat} {ve : Value} {on : Bool} {c : Int} {es : List Ent} {L V : List (List UInt8)}
theorem surv_bits (keep i : Nat) (hk : keep < 18446744073709551616) (hi : i ≤ 63) : bits .and .u64 ((keep : Int) / 2 ^ i) 1 = if survS keep i = true then 1 else 0 := by
  have e := u64_and_nat (keep / 2 ^ i) 1 (Nat.lt_of_le_of_lt (Nat.div_le_self _ _) hk) (by omega)
  rw [Nat.and_one_is_mod] at e
  have e2 : ((keep / 2 ^ i : Nat) : Int) = (keep : Int) / 2 ^ i := by simp
  rw [e2] at e
  have e : bits .and .u64 ((keep : Int) / 2 ^ i) 1 = ((keep / 2 ^ i % 2 : Nat) : Int) := e
  rw [e]
  unfold survS
  rw [show min i 63 = i by omega]
  rcases (by omega : keep / 2 ^ i % 2 = 0 ∨ keep / 2 ^ i % 2 = 1) with h | h
  · rw [h]; rfl
  · rw [h]; rfl
end
/-- What survivors hands back. -/
def GSv (w : World) (F : Nat → Prop) (g bd bv : Nat) (ve : Value) (ps : List (Nat × List UInt8)) (N keep : Nat) (e : Ending) (w' : World) : Prop :=
  ∃ r ks, e = .returned r ∧ w'.ownsRow w.heap.size 55 2 r ks.length (entC ks) ∧ Below w.heap.size w w' ∧ ks.length ≤ 200000 ∧ (∀ e ∈ ks, LetB w e.2 e.1.2 ∧ Besd F g bd bv ve e.2 ∧ e.1.1 < N ∧ e.1.2.length = 64) ∧
    ∀ (torn : Int) (L : List (List UInt8)), (∀ x ∈ L, x.length = 64) → L.length = N → perfL ks.length torn L 0 (ks.map (·.1)) = perfL (keptS keep 0 ps).length torn L 0 (keptS keep 0 ps)
theorem sizeM {w : World} {bm nm : Nat} {D : DataW Unit} (h : w.ownsMap Tryz.prog 3 blkR bm nm D) : Maps.size D ≤ nm := by
  obtain ⟨es, clock, hb, F, hs, rfl⟩ := h
  have : Maps.size (DataW.map ((es.toList.map (Go.WideElems.rg Tryz.prog 3 blkR)).foldr DataW.insert [])) = es.size := by simp [Maps.size, length_sorted]
  rw [this]
  exact hs
/-- The entries that the loop over the map has met. -/
def Met (w : World) (G : Nat → Prop) (ms : List (Nat × List UInt8)) (left : Lit → Bool) (os : List Ent) : Prop :=
  (∀ k : Nat, lastAt (os.map (·.1)) k = if left (.int .i64 (k : Int)) = true then none else lastAt ms k) ∧ ∀ e ∈ os, LetB w e.2 e.1.2 ∧ G e.2 ∧ e.1 ∈ ms
theorem met_start {w : World} {G : Nat → Prop} {D : DataW Unit} {ms : List (Nat × List UInt8)} (h : Holds w G D ms) : Met w G ms (Maps.has D) [] := by
  refine ⟨fun k => ?_, fun e he => (List.not_mem_nil he).elim⟩
  show none = _
  by_cases hh : Maps.has D (.int .i64 (k : Int)) = true
  · rw [if_pos hh]
  · rw [if_neg hh]
    cases hl : lastAt ms k with
    | none => rfl
    | some c => exact absurd (h.2 k c hl).1 hh
theorem Met.next {w : World} {G : Nat → Prop} {D : DataW Unit} {ms : List (Nat × List UInt8)} {left : Lit → Bool} {os : List Ent} {x : Int} {b : Nat} (h : Met w G ms left os) (hH : Holds w G D ms) (hhas : Maps.has D (.int .i64 x) = true) (hat : ∀ zd, D.atKey (.int .i64 x) zd = .lit (.int .i64 (b : Int))) :
    ∃ (k : Nat) (c : List UInt8), x = (k : Int) ∧ (k, c) ∈ ms ∧ LetB w b c ∧ G b ∧ Met w G ms (fun z => left z && !z.sameKey (.int .i64 x)) (os ++ [((k, c), b)]) := by
  obtain ⟨k, c, rfl, hl⟩ := hH.1 x hhas
  obtain ⟨_, b', h2, h3, h4⟩ := hH.2 k c hl
  have hbb : b' = b := by
    have := (h2 (.lit (.int .i64 0))).symm.trans (hat (.lit (.int .i64 0)))
    injection this with this
    injection this with _ this
    omega
  subst hbb
  refine ⟨k, c, rfl, lastAt_mem hl, h3, h4, fun j => ?_, fun e he => ?_⟩
  · rw [List.map_append]
    show lastAt (os.map (·.1) ++ [(k, c)]) j = _
    rw [lastAt_snoc]
    by_cases e : k = j
    · subst e
      rw [if_pos rfl, hl]
      show some c = if (left (Lit.int .i64 (k : Int)) && !(Lit.int .i64 (k : Int)).sameKey (.int .i64 (k : Int))) = true then none else some c
      have hs : (Lit.int .i64 (k : Int)).sameKey (.int .i64 (k : Int)) = true := by simp [Lit.sameKey]
      rw [hs]
      simp
    · rw [if_neg e, h.1 j]
      have hs : (Lit.int .i64 (j : Int)).sameKey (.int .i64 (k : Int)) = false := by simp [Lit.sameKey]; omega
      show _ = if (left (Lit.int .i64 (j : Int)) && !(Lit.int .i64 (j : Int)).sameKey (.int .i64 (k : Int))) = true then none else _
      rw [hs]
      simp
  · rcases List.mem_append.1 he with he | he
    · exact h.2 e he
    · rw [List.mem_singleton.1 he]
      exact ⟨h3, h4, lastAt_mem hl⟩
theorem own_apart {w : World} {base k n b r nm cnt : Nat} {e : TypeId} {v : Value} {vs : List Value} {D : DataW Unit} {left : Lit → Bool} (h : w.ownsRow base e k v n vs) (hr : w.ranges Tryz.prog 3 blkR b r nm D left cnt) : v.ownBlock ≠ some r ∧ v.ownBlock ≠ some b := by
  obtain ⟨es, clock, since, seen, c0, hb, _, _, _, hi, _⟩ := hr
  rcases h.2 with ⟨rfl, _⟩ | ⟨g, cap, cur, rfl, _, hh, _⟩
  · exact ⟨by simp [Value.ownBlock], by simp [Value.ownBlock]⟩
  · refine ⟨fun e => ?_, fun e => ?_⟩
    · injection e with e
      have e : g = r := e
      rw [e, hi] at hh
      cases hh
    · injection e with e
      have e : g = b := e
      rw [e, hb] at hh
      cases hh
theorem ownsM_below {w w' : World} {bm nm : Nat} {D : DataW Unit} (h : w.ownsMap Tryz.prog 3 blkR bm nm D) (hB : Below w.heap.size w w') : w'.ownsMap Tryz.prog 3 blkR bm nm D := by
  have hlt := h.lt
  obtain ⟨es, clock, hb, F, hs, hD⟩ := h
  exact ⟨es, clock, (hB.block bm hlt).trans hb, F, hs, hD⟩
section
variable {w : World} {F : Nat → Prop} {g bd bv n N : Nat} {ve : Value} {t : Tl} {on : Bool} {c : Int} {es : List Ent} {ls : List (Nat × List UInt8)} {L V : List (List UInt8)}
theorem FldG.lastRow {k b q : Nat} {mv : Value} (h : FldG w g bd bv ve k (.int .i64 (q : Int), .slice (some ⟨b, 0, none⟩) 64 64, mv) n on c) : w.rangeAt g 4 (wrC q b) := fun j u hj => by
  unfold FldG at h
  rw [cell_of_row w g _ _ _ (0, 0) h]
  match j, hj with
  | 0, hj => exact hj
  | 1, hj => exact hj
  | j + 2, hj => simp [wrC] at hj
theorem gsv_done {w5 : World} {r : Value} {os : List Ent} {ms : List (Nat × List UInt8)} {p : Nat × List UInt8} {bl keep : Nat} (hO : w5.ownsRow w.heap.size 55 2 r ((keptE keep 0 es).length + os.length + 1) (entC (keptE keep 0 es ++ os) ++ [Value.int .i64 (p.1 : Int), .slice (some ⟨bl, 0, none⟩) 64 64])) (hB : Below w.heap.size w w5)
    (KE : ∀ e ∈ keptE keep 0 es, LetB w e.2 e.1.2 ∧ Besd F g bd bv ve e.2 ∧ e.1.1 < N ∧ e.1.2.length = 64) (hos : ∀ e ∈ os, LetB w e.2 e.1.2 ∧ Besd F g bd bv ve e.2 ∧ e.1 ∈ ms) (hl : ∀ k, lastAt (os.map (·.1)) k = lastAt ms k) (hLG : LetB w bl p.2 ∧ Besd F g bd bv ve bl)
    (hps : ∀ q ∈ es.map (·.1) ++ (ms ++ [p]), q.1 < N ∧ q.2.length = 64) (hKA : keptS keep 0 (es.map (·.1) ++ (ms ++ [p])) = keptS keep 0 (es.map (·.1)) ++ (ms ++ [p])) (hlen : (keptE keep 0 es).length + os.length + 1 ≤ 200000) :
    GSv w F g bd bv ve (es.map (·.1) ++ (ms ++ [p])) N keep (.returned r) w5 := by
  have hms : ∀ q ∈ ms, q.1 < N ∧ q.2.length = 64 := fun q hq => hps q (by simp [hq])
  have hpp := hps p (by simp)
  have elen : (keptE keep 0 es ++ os ++ [(p, bl)]).length = (keptE keep 0 es).length + os.length + 1 := by simp; omega
  refine ⟨r, keptE keep 0 es ++ os ++ [(p, bl)], rfl, ?_, hB, by rw [elen]; exact hlen, fun e he => ?_, fun torn L hL hLN => ?_⟩
  · rw [elen, entC_snoc]
    exact hO
  · rcases List.mem_append.1 he with he | he
    · rcases List.mem_append.1 he with he | he
      · exact KE e he
      · obtain ⟨h1, h2, h3⟩ := hos e he
        exact ⟨h1, h2, hms e.1 h3⟩
    · rw [List.mem_singleton.1 he]
      exact ⟨hLG.1, hLG.2, hpp⟩
  · have e1 : (keptE keep 0 es ++ os ++ [(p, bl)]).map (·.1) = keptS keep 0 (es.map (·.1)) ++ os.map (·.1) ++ [p] := by
      rw [List.map_append, List.map_append, keptE_fst]
      rfl
    have e2 : keptS keep 0 (es.map (·.1)) ++ (ms ++ [p]) = keptS keep 0 (es.map (·.1)) ++ ms ++ [p] := by rw [List.append_assoc]
    have e3 : (keptE keep 0 es ++ os ++ [(p, bl)]).length = (keptS keep 0 (es.map (·.1)) ++ os.map (·.1) ++ [p]).length := by rw [← e1, List.length_map]
    rw [hKA, e2, e1, e3]
    refine perf_swap hL (fun q hq => ?_) (fun q hq => ?_) (fun q hq => by rw [hLN]; exact hms q hq) hl
    · rw [hLN]
      exact hps q (List.mem_append_left _ (kept_mem keep _ 0 q hq))
    · rw [hLN]
      obtain ⟨e, he, rfl⟩ := List.mem_map.1 hq
      exact hms e.1 (hos e he).2.2
set_option maxRecDepth 20000 in
set_option maxHeartbeats 8000000 in
theorem qsurv_c (h : MemG w F g bd bv ve t n on c es ls L V) (hk : es.length ≤ 63) (hk2 : ls ≠ [] → es.length = 63) (hls : ls.length ≤ 100000) (hps : ∀ p ∈ es.map (·.1) ++ ls, p.1 < N ∧ p.2.length = 64) (hN : N ≤ 8192) (keep : Nat) (hkeep : keep < 18446744073709551616) :
    Calls Tryz.prog 73 #[.pointer (some ⟨g, 2, none⟩), .int .u64 (keep : Int)] w (GSv w F g bd bv ve (es.map (·.1) ++ ls) N keep) := by
  have H := Lib.hid h
  have HK := Lib.hid hk
  have HE := Lib.hid hkeep
  have HO := Lib.hid (own_cel h.own)
  have HLS := Lib.hid hls
  have HPS := Lib.hid hps
  have HK2 := Lib.hid hk2
  obtain ⟨Ae, ce, rfl⟩ := (own_cel h.own).form
  obtain ⟨-, -, -, c3, -, -⟩ := h.fld.cells
  have hki : (es.length : Int) ≤ 63 := by omega
  -- the entries of the first 63
  have KE := Lib.hid (show ∀ e ∈ keptE keep 0 es, LetB w e.2 e.1.2 ∧ Besd F g bd bv (.slice Ae es.length ce) e.2 ∧ e.1.1 < N ∧ e.1.2.length = 64 from fun e he => by
    have he' := keptE_mem keep es 0 e he
    obtain ⟨h1, h2⟩ := h.lets e he'
    exact ⟨h1, h2, hps e.1 (List.mem_append_left _ (List.mem_map_of_mem he'))⟩)
  clear h hk hkeep hls hps hk2
  go_enter Tryz.func73, Tryz.ntmps73
  go_wp2_with fail
  obtain ⟨m, em⟩ : ∃ m, es.length = m := ⟨_, rfl⟩
  have EM := Lib.hid em
  rw [em] at hki HO
  rw [em]
  clear em c3
  go_loopw [5, 15] (fun out i wr => ∃ j : Nat, j ≤ m ∧ i = .int .i64 j ∧ wr.ownsRow w.heap.size 55 2 out (keptE keep 0 (es.take j)).length (entC (keptE keep 0 (es.take j))) ∧ Below w.heap.size w wr) (fun _ i _ => m - (intOf i).toNat)
  case atStart => exact ⟨0, Nat.zero_le _, rfl, World.ownsRow_nil w _ _ 2, Below.refl _ _⟩
  case round =>
    obtain ⟨j, hj, rfl, hOut, hB⟩ := hrel
    by_cases hjm : j < m
    · have HJ : (j : Int) < m := by omega
      have hje : j < es.length := by rw [EM.out]; exact hjm
      have hbit := surv_bits keep j HE.out (by omega)
      have hT := keptE_take keep es hje
      have hpart := entC_part hje
      generalize es[j] = e at hT hpart
      obtain ⟨⟨q, x⟩, b⟩ := e
      have hln : (keptE keep 0 (es.take j)).length ≤ 63 := Nat.le_trans (keptE_length keep _ 0) (by rw [List.length_take]; omega)
      obtain ⟨b2, ob, rfl, hb2, hrg⟩ := HO.out.range (by omega)
      have hrp := range_part hrg (j * 2) 2
      rw [hpart] at hrp
      have hrp := range_below hrp hb2 hB
      have HOut := Lib.hid hOut
      have BR := Lib.hid hB
      have HRP := Lib.hid hrp
      have HLN := Lib.hid hln
      generalize keptE keep 0 (es.take j) = ks at hT HOut HLN
      have HT := Lib.hid hT
      clear hOut hB hrp hrg hpart hT hln
      cases hsv : survS keep j with
      | true =>
        rw [hsv, if_pos rfl] at hbit
        rw [hsv, if_pos rfl] at HT
        clear hsv
        go_wp2_with (first | ((with_reducible refine wp_loadW rfl 18 rfl b2 (ob + j * 2) _ ?hx HRP.out rfl ?_); (case hx => rfl)) | ((with_reducible refine wp_allocC zero_wr rfl rfl ?_); intro w2 hA hB2; have HA2 := Lib.hid hA; have B2 := Lib.hid hB2; clear hA hB2) | ((with_reducible refine wp_storeC (T := 55) (e := 55) (g := wr.heap.size) (cur := #[.int .i64 0, .slice none 0 0]) (cs := [Value.int .i64 (q : Int), .slice (some ⟨b, 0, none⟩) 64 64]) ?hi ?hg ?hl ?h1 ?hgd 7 19 ?ho ?hx ?hy ?_); (case hgd => rfl); (case ho => rfl); (case hi => exact size_wr); (case hg => exact HA2.out); (case hl => rfl); (case h1 => (intro u hu; simp only [List.mem_cons, List.not_mem_nil, or_false] at hu; rcases hu with rfl | rfl <;> rfl)); (case hx => rfl); (case hy => rfl); intro w3 hC hG3; have k0 : w3.cell? ⟨wr.heap.size, 0, none⟩ = some (.int .i64 (q : Int)) := cell_of_row w3 _ 0 _ _ (0, 0) hC; have k1 : w3.cell? ⟨wr.heap.size, 1, none⟩ = some (.slice (some ⟨b, 0, none⟩) 64 64) := cell_of_row w3 _ 1 _ _ (0, 0) hC; have O3 := Lib.hid (own_grown (own_below HOut.out B2.out (Nat.le_refl _)) hG3 (fun g e e2 => by have := (HOut.out.lt g e).2; injection e2 with e2; omega)); have B3 := Lib.hid ((below_then BR.out B2.out).grown hG3 (below_then BR.out B2.out).size (fun k e => by injection e with e; have := BR.out.size; omega)); clear hC hG3) | (at_builtin; refine wp_appendC Tryz.underlying53 zero_wr rfl (by omega) rfl _ _ rfl w.heap.size _ ks.length (entC ks) rfl (O3.out.alloc _) _ 1 [Value.int .i64 (q : Int), .slice (some ⟨b, 0, none⟩) 64 64] rfl (cel_one w3 55 rfl) (by intro u hu; simp only [List.mem_cons, List.not_mem_nil, or_false] at hu; rcases hu with rfl | rfl <;> rfl) (by have := HLN.out; omega) (by omega) (Nat.le_trans B3.out.size (World.grownBy_alloc w3 _ none).size) ?_; intro v5 w5 hv5 hg5; have O5 := Lib.hid hv5; have B5 := Lib.hid (below_own (B3.out.alloc B3.out.size _) hg5 (O3.out.alloc _) (Nat.le_refl _)); clear hv5 hg5))
        go_roundw
        case rel => exact ⟨j + 1, by omega, by go_num, by have := O5.out; rw [HT.out, entC_snoc, List.length_append]; exact this, B5.out⟩
        case measure => simp [intOf]; omega
      | false =>
        rw [hsv, if_neg (by decide)] at hbit
        rw [hsv, if_neg (by decide)] at HT
        clear hsv
        go_wp2_with (first | ((with_reducible refine wp_loadW rfl 18 rfl b2 (ob + j * 2) _ ?hx HRP.out rfl ?_); (case hx => rfl)) | ((with_reducible refine wp_allocC zero_wr rfl rfl ?_); intro w2 hA hB2; have HA2 := Lib.hid hA; have B2 := Lib.hid hB2; clear hA hB2) | ((with_reducible refine wp_storeC (T := 55) (e := 55) (g := wr.heap.size) (cur := #[.int .i64 0, .slice none 0 0]) (cs := [Value.int .i64 (q : Int), .slice (some ⟨b, 0, none⟩) 64 64]) ?hi ?hg ?hl ?h1 ?hgd 7 19 ?ho ?hx ?hy ?_); (case hgd => rfl); (case ho => rfl); (case hi => exact size_wr); (case hg => exact HA2.out); (case hl => rfl); (case h1 => (intro u hu; simp only [List.mem_cons, List.not_mem_nil, or_false] at hu; rcases hu with rfl | rfl <;> rfl)); (case hx => rfl); (case hy => rfl); intro w3 hC hG3; have k0 : w3.cell? ⟨wr.heap.size, 0, none⟩ = some (.int .i64 (q : Int)) := cell_of_row w3 _ 0 _ _ (0, 0) hC; have k1 : w3.cell? ⟨wr.heap.size, 1, none⟩ = some (.slice (some ⟨b, 0, none⟩) 64 64) := cell_of_row w3 _ 1 _ _ (0, 0) hC; have O3 := Lib.hid (own_grown (own_below HOut.out B2.out (Nat.le_refl _)) hG3 (fun g e e2 => by have := (HOut.out.lt g e).2; injection e2 with e2; omega)); have B3 := Lib.hid ((below_then BR.out B2.out).grown hG3 (below_then BR.out B2.out).size (fun k e => by injection e with e; have := BR.out.size; omega)); clear hC hG3))
        go_roundw
        case rel => exact ⟨j + 1, by omega, by go_num, by have := O3.out; rw [HT.out]; exact this, B3.out⟩
        case measure => simp [intOf]; omega
    · have HJ : ¬ (j : Int) < m := by omega
      have e : j = es.length := by rw [EM.out]; omega
      rw [e, List.take_length] at hOut
      have HOut := Lib.hid hOut
      have BR := Lib.hid hB
      have hMr := H.out.below hB
      have c2 := hMr.fld.cells.2.2.1
      have c6 := hMr.fld.tail.2.2
      have HMR := Lib.hid hMr
      clear hOut e
      by_cases hls0 : ls = []
      · subst hls0
        have hcnt : ((es.length + ([] : List (Nat × List UInt8)).length : Nat) : Int) ≤ 63 := by have := HK.out; simp; omega
        clear hMr hB c6
        generalize es.length + ([] : List (Nat × List UInt8)).length = cc at c2 hcnt
        go_wp2_with fail
        go_ret
        refine ⟨_, keptE keep 0 es, rfl, HOut.out, BR.out, Nat.le_trans (keptE_length keep es 0) (by have := HK.out; omega), KE.out, fun torn L _ _ => ?_⟩
        first | rw [List.append_nil, ← keptE_fst, List.length_map] | rw [← keptE_fst, List.length_map]
      · have h63 := HK2.out hls0
        have hcnt : ¬ ((es.length + ls.length : Nat) : Int) ≤ 63 := by have := List.length_pos_iff.2 hls0; omega
        have hcn2 : ((es.length + ls.length : Nat) : Int) ≤ 200000 := by have := HLS.out; omega
        have hlate := kept_late keep ls (0 + (es.map (·.1)).length) (by rw [List.length_map]; omega)
        have hkapp := kept_append keep ls (es.map (·.1)) 0
        rw [hlate, surv_top HE.out] at hkapp
        have HKA := Lib.hid hkapp
        clear hkapp hlate h63
        by_cases hz : keep / 9223372036854775808 = 0
        · have hzi : (keep : Int) / 9223372036854775808 = 0 := by omega
          clear hMr hB c6
          generalize es.length + ls.length = cc at c2 hcnt hcn2
          go_wp2_with fail
          go_ret
          refine ⟨_, keptE keep 0 es, rfl, HOut.out, BR.out, Nat.le_trans (keptE_length keep es 0) (by have := HK.out; omega), KE.out, fun torn L _ _ => ?_⟩
          have e0 : keptS keep 0 (es.map (·.1) ++ ls) = (keptE keep 0 es).map (·.1) := by rw [HKA.out, if_neg (by simp [hz]), keptE_fst]; exact List.append_nil _
          rw [e0, List.length_map]
        · have hzi : ¬ (keep : Int) / 9223372036854775808 = 0 := by omega
          rw [show (!decide (keep / 9223372036854775808 = 0)) = true by simpa using hz, if_pos rfl] at HKA
          rcases H.out.late with ⟨e, _⟩ | ⟨ms, p, bl, mv, rfl, rfl, hL, hG, hmv, hM⟩
          · exact absurd e hls0
          · have c6 : wr.cell? ⟨g, 6, none⟩ = some mv := c6
            have hpp := HPS.out p (by simp)
            have HPP := Lib.hid hpp
            have hrow := H.out.fld.lastRow
            have hgl := H.out.fld.lt
            have HGL := Lib.hid hgl
            have HROW := Lib.hid hrow
            have HLG := Lib.hid (show LetB w bl p.2 ∧ Besd F g bd bv (.slice Ae es.length ce) bl from ⟨hL, hG⟩)
            have hln : (keptE keep 0 es).length ≤ 63 := Nat.le_trans (keptE_length keep es 0) HK.out
            have HLN := Lib.hid hln
            clear hpp hrow hL hG hmv hln hls0 hz
            generalize es.length + (ms ++ [p]).length = cc at c2 hcnt hcn2
            rcases hM with ⟨rfl, rfl⟩ | ⟨bm, nm, D, hne, rfl, hbm, hown, hnm, hD, hH⟩
            · have nR := fun w => run_range_nilMap (P := Tryz.prog) w 56 3 33 Tryz.underlying56
              have hg4 : (wr.alloc (.mapIter none 0 #[] 0)).rangeAt g 4 [Value.int .i64 (p.1 : Int), .slice (some ⟨bl, 0, none⟩) 64 64] := range_below HROW.out hgl (BR.out.alloc BR.out.size _)
              have HG4 := Lib.hid hg4
              have OA := Lib.hid (HOut.out.alloc (.mapIter none 0 #[] 0))
              have BA := Lib.hid (BR.out.alloc BR.out.size (.mapIter none 0 #[] 0))
              have hCA := cel_one (wr.alloc (.mapIter none 0 #[] 0)) 55 (cs := [Value.int .i64 (p.1 : Int), .slice (some ⟨bl, 0, none⟩) 64 64]) (k := 2) rfl
              rw [show (wr.alloc (.mapIter none 0 #[] 0)).heap.size = wr.heap.size + 1 by show (wr.heap.push _).size = _; simp] at hCA
              have CA := Lib.hid hCA
              clear hMr hB hg4 hCA
              go_wp2_with fail
              go_loopw [5] (fun out wx => out = u5 ∧ wx = wr.alloc (.mapIter none 0 #[] 0)) (fun _ _ => 0)
              case atStart => exact ⟨rfl, rfl⟩
              case round =>
                obtain ⟨rfl, rfl⟩ := hrel
                have nN := fun ty => run_next_nilMap (P := Tryz.prog) wr ty 0 0 #[]
                go_wp2_with (first | ((with_reducible refine wp_loadW rfl 60 rfl g 4 [Value.int .i64 (p.1 : Int), .slice (some ⟨bl, 0, none⟩) 64 64] ?hx HG4.out rfl ?_); (case hx => rfl)) | (at_builtin; refine wp_appendC Tryz.underlying53 zero_wr rfl (by omega) rfl _ _ rfl w.heap.size _ (keptE keep 0 es).length (entC (keptE keep 0 es)) rfl (OA.out.alloc _) _ 1 [Value.int .i64 (p.1 : Int), .slice (some ⟨bl, 0, none⟩) 64 64] rfl CA.out (wrC_one p.1 bl) (by have := HLN.out; omega) (by omega) (Nat.le_trans BA.out.size (World.grownBy_alloc _ _ none).size) ?_; intro v5 w5 hv5 hg5; have O5 := Lib.hid hv5; have B5 := Lib.hid (below_own ((BA.out.alloc BA.out.size _)) hg5 (OA.out.alloc _) (Nat.le_refl _)); have G5 := Lib.hid hg5; clear hv5 hg5))
                go_ret
                exact gsv_done (os := []) (by rw [List.append_nil]; exact O5.out) B5.out KE.out (fun e he => (List.not_mem_nil he).elim) (fun k => rfl) HLG.out HPS.out HKA.out (by have := HLN.out; simp only [List.length_nil]; omega)
            · clear hMr
              have hownr := ownsM_below hown hB
              have hH := hH.keep (w' := w) (G' := fun b => Besd F g bd bv (.slice Ae es.length ce) b) (fun _ _ _ => rfl) (fun _ _ h => h.1)
              have HH := Lib.hid hH
              have HNM := Lib.hid hnm
              clear hB hown hH hbm hD hnm
              go_wp2_with (at_range; refine wpList_range_own _ rfl _ 56 rfl 3 33 int_key Tryz.underlying56 blkR bm nm D rfl hownr ?_; intro w0 hrg0 hg0 hs0)
              have HRG0 := Lib.hid hrg0
              have HGZ := Lib.hid hg0
              clear hrg0 hg0 hs0 hownr
              generalize wr = w4 at *
              go_loopw [5] (fun out wx => ∃ (os : List Ent) (left : Lit → Bool) (cnt : Nat), wx.ranges Tryz.prog 3 blkR bm w4.heap.size nm D left cnt ∧ wx.ownsRow w.heap.size 55 2 out ((keptE keep 0 es).length + os.length) (entC (keptE keep 0 es ++ os)) ∧ Met w (Besd F g bd bv (.slice Ae es.length ce)) ms left os ∧ (∀ x : Int, left (.int .i64 x) = true → Maps.has D (.int .i64 x) = true) ∧ os.length + cnt ≤ nm ∧ Below w.heap.size w wx) (fun _ wx => wx.rangeLeft bm w4.heap.size)
              case atStart =>
                refine ⟨[], _, _, HRG0.out, ?_, met_start HH.out, fun _ h => h, by have := sizeM HRG0.out.owns; simp only [List.length_nil]; omega, BR.out.grown HGZ.out BR.out.size (fun k e => by cases e)⟩
                rw [List.append_nil]
                exact own_grown HOut.out HGZ.out (fun g e => by simp)
              case round =>
                obtain ⟨os, left, cnt, hrg, hO, hMet, hleft, hcnt2, hBx⟩ := hrel
                have OX := Lib.hid hO
                have BX := Lib.hid hBx
                have MET := Lib.hid hMet
                have LFT := Lib.hid hleft
                have CNT := Lib.hid hcnt2
                have LEN := Lib.hid (show (keptE keep 0 es).length + os.length ≤ 100100 by have := HLN.out; have := HNM.out; have := HLS.out; rw [List.length_append] at this; omega)
                have RG := Lib.hid hrg
                clear hO hBx hMet hleft hcnt2
                go_wp2_with (at_next; refine wpList_next_ranges _ rfl _ rfl 3 int_key blkR (Value.int .i64) (fun b : Nat => Value.slice (some ⟨b, 0, none⟩) 64 64) (fun key kl hkey => by obtain ⟨x, rfl, _⟩ := Maps.keyOf_int_inv Tryz.underlying3 hkey; exact ⟨x, rfl⟩) (fun v y hv => by obtain ⟨b, rfl, _⟩ := blkR_inv hv; exact ⟨b, rfl⟩) bm w4.heap.size nm _ _ _ rfl hrg ?_ ?_)
                · intro hc0 hl0
                  have HL0 := Lib.hid hl0
                  clear hl0 hc0 hrg
                  go_wp2_with (first | ((with_reducible refine wp_loadW rfl 60 rfl g 4 [Value.int .i64 (p.1 : Int), .slice (some ⟨bl, 0, none⟩) 64 64] ?hx (range_below HROW.out hgl BX.out) rfl ?_); (case hx => rfl)) | (at_builtin; refine wp_appendC Tryz.underlying53 zero_wr rfl (by omega) rfl _ _ rfl w.heap.size _ ((keptE keep 0 es).length + os.length) (entC (keptE keep 0 es ++ os)) rfl (OX.out.alloc _) _ 1 [Value.int .i64 (p.1 : Int), .slice (some ⟨bl, 0, none⟩) 64 64] rfl (cel_one _ 55 rfl) (wrC_one p.1 bl) (by have := LEN.out; omega) (by omega) (Nat.le_trans BX.out.size (World.grownBy_alloc _ _ none).size) ?_; intro v5 w5 hv5 hg5; have O5 := Lib.hid hv5; have B5 := Lib.hid (below_own (BX.out.alloc BX.out.size _) hg5 (OX.out.alloc _) (Nat.le_refl _)); have G5 := Lib.hid hg5; clear hv5 hg5))
                  go_ret
                  exact gsv_done O5.out B5.out KE.out MET.out.2 (fun k => by rw [MET.out.1 k, HL0.out, if_neg (by decide)]) HLG.out HPS.out HKA.out (by have := LEN.out; omega)
                · intro x b kl yd yp w1 cnt1 hkey hlx hRb hat hrg1 hlt hg1 hs1 hen
                  obtain ⟨x', ex, rfl, _⟩ := Maps.keyOf_int_inv Tryz.underlying3 hkey
                  cases ex
                  obtain ⟨b', eb, ey⟩ := blkR_inv hRb
                  cases eb
                  cases ey
                  have ap := own_apart OX.out RG.out
                  have OX1 := Lib.hid (OX.out.kept hg1 (.inr ap.1))
                  have BX1 := Lib.hid (BX.out.grown hg1 BX.out.size (fun k e => by injection e with e; have := BR.out.size; omega))
                  have NX := Lib.hid (MET.out.next HH.out (LFT.out x hlx) hat)
                  have RG1 := Lib.hid hrg1
                  have HLT := Lib.hid hlt
                  clear hkey hlx hRb hat hrg1 hlt hg1 hrg ap hs1
                  go_wp2_with (at_builtin; refine wp_appendC Tryz.underlying53 zero_wr rfl (by omega) rfl _ _ rfl w.heap.size _ ((keptE keep 0 es).length + os.length) (entC (keptE keep 0 es ++ os)) rfl (OX1.out.alloc _) _ 1 [Value.int .i64 x, .slice (some ⟨b, 0, none⟩) 64 64] rfl (cel_one _ 55 rfl) (by intro u hu; simp only [List.mem_cons, List.not_mem_nil, or_false] at hu; rcases hu with rfl | rfl <;> rfl) (by have := LEN.out; omega) (by omega) (Nat.le_trans BX1.out.size (World.grownBy_alloc _ _ none).size) ?_; intro v5 w5 hv5 hg5; have O5 := Lib.hid hv5; have B5 := Lib.hid (below_own (BX1.out.alloc BX1.out.size _) hg5 (OX1.out.alloc _) (Nat.le_refl _)); have G5 := Lib.hid hg5; clear hv5 hg5)
                  obtain ⟨k, cc', rfl, hmem, hLb, hGb, hMet'⟩ := NX.out
                  have hrg2 := RG1.out.alloc (.cells #[.int .i64 (k : Int), .slice (some ⟨b, 0, none⟩) 64 64] 55)
                  have ap2 := own_apart (OX1.out.alloc (.cells #[.int .i64 (k : Int), .slice (some ⟨b, 0, none⟩) 64 64] 55)) hrg2
                  have hrg5 := hrg2.kept G5.out (fun e => ap2.2 e.symm) (fun e => ap2.1 e.symm)
                  go_roundw
                  case rel => exact ⟨os ++ [((k, cc'), b)], _, cnt1, hrg5, by rw [← List.append_assoc, entC_snoc, List.length_append]; exact O5.out, hMet', fun z hz => LFT.out z (by simp at hz; exact hz.1), by have := CNT.out; have := HLT.out; rw [List.length_append]; simp only [List.length_singleton]; omega, B5.out⟩
                  case measure => rw [hrg5.left_eq, RG.out.left_eq]; exact HLT.out
end
end Go.Proofs.YtckomifecmemnaaGreat

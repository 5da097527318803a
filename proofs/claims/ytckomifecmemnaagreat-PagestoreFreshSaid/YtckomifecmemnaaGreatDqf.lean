/- The program's disk: a write more is pending (queue.add). -/
import Derived.Test.YtckomifecmemnaaGreatDqs
namespace Go.Proofs.YtckomifecmemnaaGreat
set_option linter.unusedSimpArgs false
open Go.RowKit Dig Go.ChangeMaps
set_option linter.unusedVariables false

section
variable {ev : Operand → Value} {o : Oper} {w : World}
/-- A field that is a slice is replaced. -/
theorem exec_storeW {p : Addr} {A : Option Addr} {n c : Nat} {y : Value} (t s : Tmp) (ho : o.op = .store 53 (.tmp t) (.tmp s)) (hx : ev (.tmp t) = .pointer (some p)) (hy : ev (.tmp s) = .slice A n c)
    (hz : w.frozen? p = false) (hc : w.cell? p = some y) : (execOp ev o).run Tryz.prog w = .ok .skip (w.setCell p (.slice A n c)) := by
  unfold execOp
  simp only [ho, hx, hy]
  go_simp
end
section
variable {w w1 w2 w3 : World} {F G : Nat → Prop} {g bd bv n b q : Nat} {ve ve' : Value} {t : Tl} {on : Bool} {c : Int} {es : List Ent} {ls : List (Nat × List UInt8)} {L V : List (List UInt8)} {x : List UInt8}
/-- What add leaves. -/
def GAdd (w : World) (F : Nat → Prop) (g bd bv n : Nat) (on : Bool) (c : Int) (es : List Ent) (ls : List (Nat × List UInt8)) (L V : List (List UInt8)) (p : Nat × List UInt8) (w' : World) : Prop :=
  ∃ ve' t' es' ls', MemG w' (More F w w') g bd bv ve' t' n on c es' ls' L V ∧ es'.map (·.1) ++ ls' = es.map (·.1) ++ ls ++ [p] ∧ es'.length ≤ 63 ∧ (ls' ≠ [] → es'.length = 63) ∧ Turn F w w'
theorem Late.mapIn {j : Nat} (h : Late w G t ls) (e : t.2.2 = .map (some j)) : G j := by
  rcases h with ⟨_, h⟩ | ⟨ms, p, b', mv, _, h2, _, _, _, h6⟩
  · subst h
    cases e
  · subst h2
    rcases h6 with ⟨_, h⟩ | ⟨bm, n, D, _, h, h3, _⟩
    · have e : mv = _ := e
      rw [h] at e
      cases e
    · have e : mv = _ := e
      rw [h] at e
      cases e
      exact h3
/-- The disk behind the store of the longer row of early writes and of their number. -/
theorem MemG.addedE (h : MemG w F g bd bv ve t0 n on c es [] L V) (hB : Below w.heap.size w w2) (ho : w3.ownsRow 0 55 2 ve' (es.length + 1) (entC es ++ [Value.int .i64 (q : Int), .slice (some ⟨b, 0, none⟩) 64 64])) (hg : w2.grownBy w3 ve.ownBlock)
    (hv : ve'.ownBlock = ve.ownBlock ∨ ∃ k, ve'.ownBlock = some k ∧ w2.heap.size ≤ k) (hx : LetB w b x) (hb : Besd F g bd bv ve b) (hk : es.length ≤ 62) :
    GAdd w F g bd bv n on c es [] L V (q, x) ((w3.setCell ⟨g, 3, none⟩ ve').setCell ⟨g, 2, none⟩ (.int .i64 ((es.length : Int) + 1))) := by
  rw [show (es.length : Int) + 1 = ((es.length + 1 : Nat) : Int) from rfl]
  have hg0 : w3.grownBy ((w3.setCell ⟨g, 3, none⟩ ve').setCell ⟨g, 2, none⟩ (.int .i64 ((es.length + 1 : Nat) : Int))) (some g) := grown_set (grown_put' _ _ _ _) _ _
  have hsz := hB.size
  have hgs := hg.size
  have h0s := hg0.size
  have hv' : ve'.ownBlock = ve.ownBlock ∨ ∃ k, ve'.ownBlock = some k ∧ w.heap.size ≤ k := hv.imp id fun ⟨k, e, hk⟩ => ⟨k, e, by omega⟩
  have apart : ∀ k, k < w.heap.size → ve.ownBlock ≠ some k → ve'.ownBlock ≠ some k := by
    intro k hk hn e
    rcases hv' with e1 | ⟨j, e1, hj⟩
    · exact hn (e1.symm.trans e)
    · rw [e1] at e
      injection e with e
      omega
  have step3 : ∀ k, k < w.heap.size → ve.ownBlock ≠ some k → w3.heap[k]? = w.heap[k]? := fun k hk hn =>
    (hg.block k (by omega) (fun e => hn e.symm)).trans (hB.block k hk)
  have step : ∀ k, k < w.heap.size → ve.ownBlock ≠ some k → k ≠ g → ((w3.setCell ⟨g, 3, none⟩ ve').setCell ⟨g, 2, none⟩ (.int .i64 ((es.length + 1 : Nat) : Int))).heap[k]? = w.heap[k]? := fun k hk hn hkg =>
    (hg0.block k (by omega) (fun e => hkg (by injection e))).trans (step3 k hk hn)
  have hF : FldG w3 g bd bv ve (es.length + 0) t0 n on c := h.fld.keepB (step3 g h.fld.lt h.eg)
  have hF5 := (hF.put3 ve').put2 (es.length + 1)
  have hown : ((w3.setCell ⟨g, 3, none⟩ ve').setCell ⟨g, 2, none⟩ (.int .i64 ((es.length + 1 : Nat) : Int))).ownsRow 0 55 2 ve' (es.length + 1) (entC es ++ [Value.int .i64 (q : Int), .slice (some ⟨b, 0, none⟩) 64 64]) :=
    own_keep ho fun k hk e => hg0.block k hk (fun e1 => by injection e1 with e1; exact apart g h.fld.lt h.eg (by rw [e, e1]))
  have hnos := hg0.os.trans (hg.os.trans hB.os)
  have hntp := hg0.tape.trans (hg.tape.trans hB.tape)
  have hnou := hg0.output.trans (hg.output.trans hB.output)
  generalize (w3.setCell ⟨g, 3, none⟩ ve').setCell ⟨g, 2, none⟩ (.int .i64 ((es.length + 1 : Nat) : Int)) = w5 at *
  have hbes : ∀ j, j < w.heap.size → Besd F g bd bv ve j → Besd (More F w w5) g bd bv ve' j := fun j hj hj2 => ⟨.inl hj2.1, hj2.2.1, hj2.2.2.1, hj2.2.2.2.1, apart j hj hj2.2.2.2.2⟩
  refine ⟨ve', t0, es ++ [((q, x), b)], [], ⟨?_, h.dur.keepB (step bd h.dur.lt h.ed h.gd), h.vis.keepB (step bv h.vis.lt h.ev h.gv), ?_, fun e he => ?_, .inl ⟨rfl, rfl⟩, h.gd, h.gv, h.dv, apart g h.fld.lt h.eg, apart bd h.dur.lt h.ed, apart bv h.vis.lt h.ev, ⟨.inl h.fin.1, .inl h.fin.2.1, .inl h.fin.2.2.1, fun k hk => ?_⟩, fun k hk => ?_⟩, by simp, by rw [List.length_append]; show es.length + 1 ≤ 63; omega, fun e => absurd rfl e, hnos, hntp, hnou, by omega, fun k hk hn => step k hk (fun e => hn (h.fin.2.2.2 k e)) (fun e => hn (by rw [e]; exact h.fin.1))⟩
  · rw [List.length_append]
    exact hF5
  · rw [entC_snoc, List.length_append]
    exact hown
  · rcases List.mem_append.1 he with he | he
    · obtain ⟨h1, h2⟩ := h.lets e he
      exact ⟨h1.keepB (step e.2 h1.lt h2.2.2.2.2 h2.2.1), hbes _ h1.lt h2⟩
    · rw [List.mem_singleton.1 he]
      exact ⟨hx.keepB (step b hx.lt hb.2.2.2.2 hb.2.1), hbes _ hx.lt hb⟩
  · rcases hv' with e1 | ⟨j, e1, hj⟩
    · exact .inl (h.fin.2.2.2 k (e1.symm.trans hk))
    · rw [e1] at hk
      injection hk with hk
      have := (hown.lt j e1).2
      exact .inr ⟨by omega, by omega⟩
  · rcases hk with hk | hk
    · exact Nat.lt_of_lt_of_le (h.flt k hk) (by omega)
    · exact hk.2
/-- The disk behind replaceLast and the store of the number. -/
theorem MemG.addedL (h : MemG w F g bd bv ve t n on c es ls L V) (hk : es.length = 63) (hx : LetB w b x) (hb : Besd F g bd bv ve b) (hB : Below w.heap.size w w2) (hr : Repl w2 F g bd bv ve t n on c (es.length + ls.length) q b ls w3) :
    GAdd w F g bd bv n on c es ls L V (q, x) (w3.setCell ⟨g, 2, none⟩ (.int .i64 (((es.length + ls.length : Nat) : Int) + 1))) := by
  rw [show ((es.length + ls.length : Nat) : Int) + 1 = ((es.length + (ls.length + 1) : Nat) : Int) from by omega]
  obtain ⟨mv, hF, hM, hmv, hos, htp, hou, hs3, hfr⟩ := hr
  have hg0 : w3.grownBy (w3.setCell ⟨g, 2, none⟩ (.int .i64 ((es.length + (ls.length + 1) : Nat) : Int))) (some g) := grown_put' _ _ _ _
  have hF5 := hF.put2 (es.length + (ls.length + 1))
  have hs2 := hB.size
  have hs0 := hg0.size
  generalize w3.setCell ⟨g, 2, none⟩ (.int .i64 ((es.length + (ls.length + 1) : Nat) : Int)) = w5 at *
  have step : ∀ k, k < w.heap.size → k ≠ g → t.2.2 ≠ .map (some k) → w5.heap[k]? = w.heap[k]? := fun k hk hkg hn =>
    (hg0.block k (by omega) (fun e => hkg (by injection e))).trans ((hfr k (by omega) hkg hn).trans (hB.block k hk))
  have hbes : ∀ j, Besd F g bd bv ve j → Besd (More F w w5) g bd bv ve j := fun j hj2 => ⟨.inl hj2.1, hj2.2⟩
  have hlow : ∀ k, F k → k < w.heap.size := h.flt
  refine ⟨ve, (.int .i64 (q : Int), .slice (some ⟨b, 0, none⟩) 64 64, mv), es, ls ++ [(q, x)], ⟨?_, ?_, ?_, ?_, fun e he => ?_, .inr ⟨ls, (q, x), b, mv, rfl, rfl, ?_, hbes b hb, hmv, ?_⟩, h.gd, h.gv, h.dv, h.eg, h.ed, h.ev, ⟨.inl h.fin.1, .inl h.fin.2.1, .inl h.fin.2.2.1, fun k hk => .inl (h.fin.2.2.2 k hk)⟩, fun k hk => ?_⟩, by simp, by omega, fun _ => hk, ?_⟩
  · rw [List.length_append]
    exact hF5
  · exact h.dur.keepB (step bd h.dur.lt h.gd (h.late.notMap h.dur))
  · exact h.vis.keepB (step bv h.vis.lt h.gv (h.late.notMap h.vis))
  · have ho := h.own
    refine own_keep ho fun k hkl e => step k hkl (fun e1 => h.eg (by rw [e, e1])) ?_
    rcases ho.2 with ⟨e1, _⟩ | ⟨g', cap, cur, e1, _, hh, _⟩
    · rw [e1] at e
      cases e
    · rw [e1] at e
      injection e with e
      have e : g' = k := e
      subst e
      exact h.late.notMap hh
  · obtain ⟨h1, h2⟩ := h.lets e he
    exact ⟨h1.keepB (step e.2 h1.lt h2.2.1 (h.late.notMap h1)), hbes _ h2⟩
  · exact hx.keepB (step b hx.lt hb.2.1 (h.late.notMap hx))
  · refine hM.keep hs0 (fun j hj hg => hg0.block j hj fun e => hg.2.1 (by injection e)) fun j hj hg => ⟨?_, hg.2⟩
    rcases hg.1 with h1 | h1
    · exact .inl h1
    · exact .inr ⟨by omega, by omega⟩
  · rcases hk with hk | hk
    · exact Nat.lt_of_lt_of_le (hlow k hk) (by omega)
    · exact hk.2
  · exact ⟨hg0.os.trans (hos.trans hB.os), hg0.tape.trans (htp.trans hB.tape), hg0.output.trans (hou.trans hB.output), by omega, fun k hk hn => step k hk (fun e => hn (by rw [e]; exact h.fin.1)) (fun e => hn (h.late.mapIn e).1)⟩
set_option maxRecDepth 20000 in
set_option maxHeartbeats 4000000 in
theorem qaddE_c (h : MemG w F g bd bv ve t0 n on c es [] L V) (hk : es.length ≤ 62) (hx : LetB w b x) (hb : Besd F g bd bv ve b) :
    Calls Tryz.prog 98 #[.pointer (some ⟨g, 2, none⟩), .agg #[.int .i64 (q : Int), .slice (some ⟨b, 0, none⟩) 64 64]] w fun e w' => e = .returned (.tuple #[]) ∧ GAdd w F g bd bv n on c es [] L V (q, x) w' := by
  have H := Lib.hid h
  have HK := Lib.hid hk
  have HX := Lib.hid hx
  have HB := Lib.hid hb
  obtain ⟨Ae, ce, rfl⟩ := (own_cel h.own).form
  obtain ⟨-, -, c2, -, -, -⟩ := h.fld.cells
  have hki : (es.length : Int) ≤ 62 := by omega
  have hBa : Below w.heap.size w (w.alloc (.cells #[.int .i64 (q : Int), .slice (some ⟨b, 0, none⟩) 64 64] 55)) := (Below.refl _ _).alloc (Nat.le_refl _) _
  have c2a : (w.alloc (.cells #[.int .i64 (q : Int), .slice (some ⟨b, 0, none⟩) 64 64] 55)).cell? ⟨g, 2, none⟩ = some (.int .i64 (es.length : Int)) := (hBa.cell (p := ⟨g, 2, none⟩) h.fld.lt).trans c2
  have HBA := Lib.hid hBa
  clear h hk hx hb hBa c2
  go_enter Tryz.func98, Tryz.ntmps98
  go_wp2_with fail
  refine hk_begin (S := fun W => W.heap[w.heap.size]? = some (.cells #[.int .i64 (q : Int), .slice (some ⟨b, 0, none⟩) 64 64] 55 (0, 0))) 11 (by kernel_rfl) (by kernel_rfl) ?_
  obtain ⟨y0, ey0⟩ : ∃ y, y = (w.alloc (.cells #[.int .i64 (q : Int), .slice (some ⟨b, 0, none⟩) 64 64] 55)).drew := ⟨_, rfl⟩
  obtain ⟨y1, ey1⟩ : ∃ y, y = y0.alloc (.cells [Value.int .i64 (q : Int), .slice (some ⟨b, 0, none⟩) 64 64].toArray 55) := ⟨_, rfl⟩
  rw [← ey0]
  have hB0 : Below w.heap.size w y0 := by rw [ey0]; exact HBA.out.drew
  have hB01 : Below y0.heap.size y0 y1 := by rw [ey1]; exact (Below.refl _ _).alloc (Nat.le_refl _) _
  have hB1 := below_then hB0 hB01
  have hp0 : y0.heap[w.heap.size]? = some (.cells #[.int .i64 (q : Int), .slice (some ⟨b, 0, none⟩) 64 64] 55 (0, 0)) := by rw [ey0]; exact heap_alloc_new w _
  have hlt0 := lt_of_heap hp0
  have hp1 : y1.heap[w.heap.size]? = some (.cells #[.int .i64 (q : Int), .slice (some ⟨b, 0, none⟩) 64 64] 55 (0, 0)) := (hB01.block _ hlt0).trans hp0
  have hn1 : y1.heap[y0.heap.size]? = some (.cells [Value.int .i64 (q : Int), .slice (some ⟨b, 0, none⟩) 64 64].toArray 55 (0, 0)) := by rw [ey1]; exact heap_alloc_new y0 _
  have hM0 := H.out.below hB0
  have hM1 := H.out.below hB1
  have hown : ∀ k, (Value.slice Ae es.length ce).ownBlock = some k → k < w.heap.size := fun k e => (H.out.own.lt k e).2
  have HB0 := Lib.hid hp0
  have HB1 := Lib.hid hp1
  have C30 := Lib.hid hM0.fld.cells.2.2.2.1
  have C31 := Lib.hid hM1.fld.cells.2.2.2.1
  have HO1 := Lib.hid hM1.own
  have HN1 := Lib.hid hn1
  have S2 : Hid (∀ y2, y1.grownBy y2 (Value.slice Ae es.length ce).ownBlock → y2.heap[w.heap.size]? = some (.cells #[.int .i64 (q : Int), .slice (some ⟨b, 0, none⟩) 64 64] 55 (0, 0))) := Lib.hid fun y2 hg => (hg.block _ (lt_of_heap hp1) (fun e => by have := hown _ e.symm; omega)).trans hp1
  have C3 : Hid (∀ y2, y1.grownBy y2 (Value.slice Ae es.length ce).ownBlock → y2.cell? ⟨g, 3, none⟩ = some (.slice Ae es.length ce) ∧ y2.cell? ⟨g, 2, none⟩ = some (.int .i64 (es.length : Int)) ∧ ∀ i, y2.frozen? ⟨g, i, none⟩ = false) := Lib.hid fun y2 hg => by
    have hF : FldG y2 g bd bv (.slice Ae es.length ce) (es.length + 0) t0 n on c := by
      have := hM1.fld
      unfold FldG at this ⊢
      rw [hg.block g hM1.fld.lt (fun e => H.out.eg e.symm)]
      exact this
    exact ⟨hF.cells.2.2.2.1, hF.cells.2.2.1, hF.thaw⟩
  have FIN := Lib.hid (fun ve2 y2 ho hg hv => H.out.addedE (w2 := y1) (w3 := y2) (ve' := ve2) (q := q) (x := x) hB1 ho hg hv HX.out HB.out HK.out)
  have HNE := Lib.hid (show w.heap.size ≠ g from fun e => by have := H.out.fld.lt; omega)
  clear ey0 hB0 hB01 hB1 hp0 hp1 hlt0 hn1 hM0 hM1 hown c2a HBA HX HB H
-- REGION 2
  refine hk_take (i := 0) (some 9) (.pointer (some ⟨g, 2, none⟩)) (by kernel_rfl) (by kernel_rfl) (by kernel_rfl) (by kernel_rfl) (by kernel_rfl) (by kernel_rfl) (fun W hS => by kernel_rfl) (fun _ _ d _ _ h => by cases d <;> exact h) HB0.out ?_
  simp only [put_lit, put_non, List.set_cons_zero, List.set_cons_succ]
  refine hk_take (i := 1) (some 10) (.pointer (some ⟨g, 2, none⟩)) (by kernel_rfl) (by kernel_rfl) (by kernel_rfl) (by kernel_rfl) (by kernel_rfl) (by kernel_rfl) (fun W hS => by kernel_rfl) (fun _ _ d _ _ h => by cases d <;> exact h) HB0.out ?_
  simp only [put_lit, put_non, List.set_cons_zero, List.set_cons_succ]
  refine hk_take (i := 2) (some 11) (.pointer (some ⟨g, 2, none⟩)) (by kernel_rfl) (by kernel_rfl) (by kernel_rfl) (by kernel_rfl) (by kernel_rfl) (by kernel_rfl) (fun W hS => by kernel_rfl) (fun _ _ d _ _ h => by cases d <;> exact h) HB0.out ?_
  simp only [put_lit, put_non, List.set_cons_zero, List.set_cons_succ]
  refine hk_take (i := 3) (some 12) (.pointer (some ⟨g, 3, none⟩)) (by kernel_rfl) (by kernel_rfl) (by kernel_rfl) (by kernel_rfl) (by kernel_rfl) (by kernel_rfl) (fun W hS => by kernel_rfl) (fun _ _ d _ _ h => by cases d <;> exact h) HB0.out ?_
  simp only [put_lit, put_non, List.set_cons_zero, List.set_cons_succ]
  refine hk_take (i := 5) (some 14) (.agg #[.int .i64 (q : Int), .slice (some ⟨b, 0, none⟩) 64 64]) (by kernel_rfl) (by kernel_rfl) (by kernel_rfl) (by kernel_rfl) (by kernel_rfl) (by kernel_rfl) (fun W hS => exec_loadRow 55 (.tmp 3) w.heap.size _ _ (by kernel_rfl) (by kernel_rfl) hS Tryz.underlying55 rfl size_wr) (fun _ _ d _ _ h => by cases d <;> exact h) HB0.out ?_
  simp only [put_lit, put_non, List.set_cons_zero, List.set_cons_succ]
  refine hk_two (i := 4) (j := 6) (by kernel_rfl) ?_ ?_
  · skip
    refine op_do (some 13) (.slice Ae es.length ce) y0 (by kernel_rfl) (by kernel_rfl) (by kernel_rfl) (exec_loadCell 53 (.tmp 12) ⟨g, 3, none⟩ _ _ (by kernel_rfl) (by kernel_rfl) C30.out Tryz.underlying53 rfl) ?_
    refine ⟨HB0.out, ?_⟩
    simp only [put_lit, put_non, List.set_cons_zero, List.set_cons_succ]
    refine hk_one (i := 6) (by kernel_rfl) ?_
    refine op_do (some 15) (.slice (some ⟨y0.heap.size, 0, none⟩) 1 1) y1 (by kernel_rfl) (by kernel_rfl) (by kernel_rfl) (by rw [ey1]; exact exec_oneC Tryz.underlying53 zero_wr (by omega) (by omega) (cs := [Value.int .i64 (q : Int), .slice (some ⟨b, 0, none⟩) 64 64]) rfl 14 (by kernel_rfl) (by kernel_rfl)) ?_
    refine ⟨HB1.out, ?_⟩
    simp only [put_lit, put_non, List.set_cons_zero, List.set_cons_succ]
    refine hk_one (i := 7) (by kernel_rfl) ?_
    refine op_appendN (some 16) (.tmp 13) (.tmp 15) (by kernel_rfl) (by kernel_rfl) (by kernel_rfl) (by kernel_rfl) (.slice Ae es.length ce) es.length (entC es) (by kernel_rfl) HO1.out y0.heap.size [Value.int .i64 (q : Int), .slice (some ⟨b, 0, none⟩) 64 64] (by kernel_rfl) HN1.out rfl (by intro u hu; simp only [List.mem_cons, List.not_mem_nil, or_false] at hu; rcases hu with rfl | rfl <;> rfl) (by have := HK.out; omega) ?_
    intro ve2 y2 hO2 hG2 hv2
    have hS2 := S2.out y2 hG2
    have HFN := Lib.hid (FIN.out ve2 y2 hO2 hG2 hv2)
    obtain ⟨A2, c2, e2⟩ := (own_cel hO2).form
    subst e2
    have HS2 := Lib.hid hS2
    have HG3 := Lib.hid (C3.out y2 hG2)
    clear hO2 hG2 hv2 hS2
    refine ⟨HS2.out, ?_⟩
    simp only [put_lit, put_non, List.set_cons_zero, List.set_cons_succ]
    refine hk_take (i := 8) (some 17) (.pointer (some ⟨g, 2, none⟩)) (by kernel_rfl) (by kernel_rfl) (by kernel_rfl) (by kernel_rfl) (by kernel_rfl) (by kernel_rfl) (fun W hS => by kernel_rfl) (fun _ _ d _ _ h => by cases d <;> exact h) HS2.out ?_
    simp only [put_lit, put_non, List.set_cons_zero, List.set_cons_succ]
    refine hk_take (i := 9) (some 18) (.pointer (some ⟨g, 3, none⟩)) (by kernel_rfl) (by kernel_rfl) (by kernel_rfl) (by kernel_rfl) (by kernel_rfl) (by kernel_rfl) (fun W hS => by kernel_rfl) (fun _ _ d _ _ h => by cases d <;> exact h) HS2.out ?_
    simp only [put_lit, put_non, List.set_cons_zero, List.set_cons_succ]
    refine hk_one (i := 10) (by kernel_rfl) ?_
    refine op_skip none (y2.setCell ⟨g, 3, none⟩ (.slice A2 (es.length + 1) c2)) (by kernel_rfl) (by kernel_rfl) (by kernel_rfl) (exec_storeW 18 16 (by kernel_rfl) (by kernel_rfl) (by kernel_rfl) (HG3.out.2.2 3) HG3.out.1) ?_
    refine ⟨by rw [Below.heap_setCell _ _ _ _ HNE.out]; exact HS2.out, ?_⟩
    simp only [put_lit, put_non, List.set_cons_zero, List.set_cons_succ]
    refine hk_done (by kernel_rfl) ?_
    have d2 := HG3.out.2.1
    have d2b : (y2.setCell ⟨g, 3, none⟩ (.slice A2 (es.length + 1) c2)).cell? ⟨g, 2, none⟩ = some (.int .i64 (es.length : Int)) := by rw [World.cell?_setCell_other _ _ _ _ (by simp)]; exact d2
    have z2b : (y2.setCell ⟨g, 3, none⟩ (.slice A2 (es.length + 1) c2)).frozen? ⟨g, 2, none⟩ = false := by rw [World.frozen?_setCell]; exact HG3.out.2.2 2
    clear d2
    generalize hy3 : y2.setCell ⟨g, 3, none⟩ (.slice A2 (es.length + 1) c2) = y3 at *
    have HY3 := Lib.hid hy3
    clear hy3
    go_wp2_with fail
    go_end0
    exact ⟨rfl, HFN.out⟩
  · skip
    refine op_do (some 15) (.slice (some ⟨y0.heap.size, 0, none⟩) 1 1) y1 (by kernel_rfl) (by kernel_rfl) (by kernel_rfl) (by rw [ey1]; exact exec_oneC Tryz.underlying53 zero_wr (by omega) (by omega) (cs := [Value.int .i64 (q : Int), .slice (some ⟨b, 0, none⟩) 64 64]) rfl 14 (by kernel_rfl) (by kernel_rfl)) ?_
    refine ⟨HB1.out, ?_⟩
    simp only [put_lit, put_non, List.set_cons_zero, List.set_cons_succ]
    refine hk_one (i := 4) (by kernel_rfl) ?_
    refine op_do (some 13) (.slice Ae es.length ce) y1 (by kernel_rfl) (by kernel_rfl) (by kernel_rfl) (exec_loadCell 53 (.tmp 12) ⟨g, 3, none⟩ _ _ (by kernel_rfl) (by kernel_rfl) C31.out Tryz.underlying53 rfl) ?_
    refine ⟨HB1.out, ?_⟩
    simp only [put_lit, put_non, List.set_cons_zero, List.set_cons_succ]
    refine hk_one (i := 7) (by kernel_rfl) ?_
    refine op_appendN (some 16) (.tmp 13) (.tmp 15) (by kernel_rfl) (by kernel_rfl) (by kernel_rfl) (by kernel_rfl) (.slice Ae es.length ce) es.length (entC es) (by kernel_rfl) HO1.out y0.heap.size [Value.int .i64 (q : Int), .slice (some ⟨b, 0, none⟩) 64 64] (by kernel_rfl) HN1.out rfl (by intro u hu; simp only [List.mem_cons, List.not_mem_nil, or_false] at hu; rcases hu with rfl | rfl <;> rfl) (by have := HK.out; omega) ?_
    intro ve2 y2 hO2 hG2 hv2
    have hS2 := S2.out y2 hG2
    have HFN := Lib.hid (FIN.out ve2 y2 hO2 hG2 hv2)
    obtain ⟨A2, c2, e2⟩ := (own_cel hO2).form
    subst e2
    have HS2 := Lib.hid hS2
    have HG3 := Lib.hid (C3.out y2 hG2)
    clear hO2 hG2 hv2 hS2
    refine ⟨HS2.out, ?_⟩
    simp only [put_lit, put_non, List.set_cons_zero, List.set_cons_succ]
    refine hk_take (i := 8) (some 17) (.pointer (some ⟨g, 2, none⟩)) (by kernel_rfl) (by kernel_rfl) (by kernel_rfl) (by kernel_rfl) (by kernel_rfl) (by kernel_rfl) (fun W hS => by kernel_rfl) (fun _ _ d _ _ h => by cases d <;> exact h) HS2.out ?_
    simp only [put_lit, put_non, List.set_cons_zero, List.set_cons_succ]
    refine hk_take (i := 9) (some 18) (.pointer (some ⟨g, 3, none⟩)) (by kernel_rfl) (by kernel_rfl) (by kernel_rfl) (by kernel_rfl) (by kernel_rfl) (by kernel_rfl) (fun W hS => by kernel_rfl) (fun _ _ d _ _ h => by cases d <;> exact h) HS2.out ?_
    simp only [put_lit, put_non, List.set_cons_zero, List.set_cons_succ]
    refine hk_one (i := 10) (by kernel_rfl) ?_
    refine op_skip none (y2.setCell ⟨g, 3, none⟩ (.slice A2 (es.length + 1) c2)) (by kernel_rfl) (by kernel_rfl) (by kernel_rfl) (exec_storeW 18 16 (by kernel_rfl) (by kernel_rfl) (by kernel_rfl) (HG3.out.2.2 3) HG3.out.1) ?_
    refine ⟨by rw [Below.heap_setCell _ _ _ _ HNE.out]; exact HS2.out, ?_⟩
    simp only [put_lit, put_non, List.set_cons_zero, List.set_cons_succ]
    refine hk_done (by kernel_rfl) ?_
    have d2 := HG3.out.2.1
    have d2b : (y2.setCell ⟨g, 3, none⟩ (.slice A2 (es.length + 1) c2)).cell? ⟨g, 2, none⟩ = some (.int .i64 (es.length : Int)) := by rw [World.cell?_setCell_other _ _ _ _ (by simp)]; exact d2
    have z2b : (y2.setCell ⟨g, 3, none⟩ (.slice A2 (es.length + 1) c2)).frozen? ⟨g, 2, none⟩ = false := by rw [World.frozen?_setCell]; exact HG3.out.2.2 2
    clear d2
    generalize hy3 : y2.setCell ⟨g, 3, none⟩ (.slice A2 (es.length + 1) c2) = y3 at *
    have HY3 := Lib.hid hy3
    clear hy3
    go_wp2_with fail
    go_end0
    exact ⟨rfl, HFN.out⟩
-- END 2
set_option maxRecDepth 20000 in
set_option maxHeartbeats 4000000 in
theorem qaddL_c (h : MemG w F g bd bv ve t n on c es ls L V) (hk : es.length = 63) (hls : ls.length ≤ 1000000) (hps : ∀ p ∈ ls, p.1 ≤ 1000000) (hx : LetB w b x) (hb : Besd F g bd bv ve b) :
    Calls Tryz.prog 98 #[.pointer (some ⟨g, 2, none⟩), .agg #[.int .i64 (q : Int), .slice (some ⟨b, 0, none⟩) 64 64]] w fun e w' => e = .returned (.tuple #[]) ∧ GAdd w F g bd bv n on c es ls L V (q, x) w' := by
  have hBa : Below w.heap.size w (w.alloc (.cells #[.int .i64 (q : Int), .slice (some ⟨b, 0, none⟩) 64 64] 55)) := (Below.refl _ _).alloc (Nat.le_refl _) _
  have hM1 := h.below hBa
  have RP := Lib.hid (qreplace_c hM1 hk hls hps (q := q) (hx.keepB (hBa.block _ hx.lt)) hb)
  have FIN := Lib.hid (fun w3 hr => h.addedL (q := q) (w3 := w3) hk hx hb hBa hr)
  have hX1 : (w.alloc (.cells #[.int .i64 (q : Int), .slice (some ⟨b, 0, none⟩) 64 64] 55)).heap[w.heap.size]? = some (.cells (wrC q b).toArray 55 (0, 0)) := heap_alloc_new w _
  have HX1 := Lib.hid hX1
  have c2a := hM1.fld.cells.2.2.1
  have hbig : 63 ≤ es.length + ls.length := by omega
  have hm6 : ((es.length + ls.length : Nat) : Int) ≤ 2000000 := by omega
  generalize es.length + ls.length = m at c2a hbig hm6 RP FIN
  have hmi : ¬ (m : Int) < 63 := by omega
  clear h hk hx hb hBa hM1 hls hps hX1 hbig
  go_enter Tryz.func98, Tryz.ntmps98
  go_wp2_with ((with_reducible refine wp_loadW rfl 3 rfl w.heap.size 0 (wrC q b) ?hx (range_whole HX1.out) rfl ?_); (case hx => rfl))
  refine (RP.out).mono ?_
  rintro e w3 ⟨rfl, hR⟩
  have HFN := Lib.hid (FIN.out w3 hR)
  obtain ⟨mv, hF, -⟩ := hR
  have d2 := hF.cells.2.2.1
  have z2 := hF.thaw 2
  clear hF c2a FIN RP HX1
  go_wp2_with fail
  go_end0
  exact ⟨rfl, HFN.out⟩
theorem qadd_c (h : MemG w F g bd bv ve t n on c es ls L V) (hk : es.length ≤ 63) (hk2 : ls ≠ [] → es.length = 63) (hls : ls.length ≤ 1000000) (hps : ∀ p ∈ ls, p.1 ≤ 1000000) (hx : LetB w b x) (hb : Besd F g bd bv ve b) :
    Calls Tryz.prog 98 #[.pointer (some ⟨g, 2, none⟩), .agg #[.int .i64 (q : Int), .slice (some ⟨b, 0, none⟩) 64 64]] w fun e w' => e = .returned (.tuple #[]) ∧ GAdd w F g bd bv n on c es ls L V (q, x) w' := by
  by_cases h63 : es.length = 63
  · exact qaddL_c h h63 hls hps hx hb
  · have e : ls = [] := Classical.byContradiction fun hn => h63 (hk2 hn)
    subst e
    have et : t = t0 := by
      rcases h.late with ⟨_, e⟩ | ⟨ms, p, _, _, e, _⟩
      · exact e
      · simp at e
    subst et
    exact qaddE_c h (by omega) hx hb
end
end Go.Proofs.YtckomifecmemnaaGreat

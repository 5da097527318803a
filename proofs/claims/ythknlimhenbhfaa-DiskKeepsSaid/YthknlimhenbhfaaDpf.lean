/- The program's disk: a write more is pending (queue.add). -/
import Derived.Test.YthknlimhenbhfaaDpe
namespace Go.Proofs.Ythknlimhenbhfaa
set_option linter.unusedSimpArgs false
open Go.RowKit Dig
set_option linter.unusedVariables false

section
variable {ev : Operand → Value} {o : Oper} {w : World}
/-- A field that is a slice is replaced. -/
theorem exec_storeW {p : Addr} {A : Option Addr} {n c : Nat} {y : Value} (t s : Tmp) (ho : o.op = .store 53 (.tmp t) (.tmp s)) (hx : ev (.tmp t) = .pointer (some p)) (hy : ev (.tmp s) = .slice A n c)
    (hz : w.frozen? p = false) (hc : w.cell? p = some y) : (execOp ev o).run Try.prog w = .ok .skip (w.setCell p (.slice A n c)) := by
  unfold execOp
  simp only [ho, hx, hy]
  go_simp
end
section
variable {w w2 w3 : World} {g bd bv n b q : Nat} {ve ve' : Value} {on : Bool} {c : Int} {es : List Ent} {L V : List (List UInt8)} {x : List UInt8}
/-- The disk behind the store of the longer row and of its number. -/
theorem Mem.added (h : Mem w g bd bv ve n on c es L V) (hB : Below w.heap.size w w2) (ho : w3.ownsRow 0 55 2 ve' (es.length + 1) (entC es ++ [Value.int .i64 (q : Int), .slice (some ⟨b, 0, none⟩) 64 64])) (hg : w2.grownBy w3 ve.ownBlock)
    (hv : ve'.ownBlock = ve.ownBlock ∨ ∃ k, ve'.ownBlock = some k ∧ w2.heap.size ≤ k) (hx : LetB w b x) (hb : b ≠ g ∧ b ≠ bd ∧ b ≠ bv ∧ ve.ownBlock ≠ some b) :
    Mem ((w3.setCell ⟨g, 3, none⟩ ve').setCell ⟨g, 2, none⟩ (.int .i64 ((es.length : Int) + 1))) g bd bv ve' n on c (es ++ [((q, x), b)]) L V ∧
    Turn (fun k => k = g ∨ ve.ownBlock = some k) w ((w3.setCell ⟨g, 3, none⟩ ve').setCell ⟨g, 2, none⟩ (.int .i64 ((es.length : Int) + 1))) ∧ (ve'.ownBlock = ve.ownBlock ∨ ∃ k, ve'.ownBlock = some k ∧ w.heap.size ≤ k) := by
  rw [show (es.length : Int) + 1 = ((es.length + 1 : Nat) : Int) from rfl]
  have hg0 : w3.grownBy ((w3.setCell ⟨g, 3, none⟩ ve').setCell ⟨g, 2, none⟩ (.int .i64 ((es.length + 1 : Nat) : Int))) (some g) := grown_set (grown_put' _ _ _ _) _ _
  have hsz := hB.size
  have hv' : ve'.ownBlock = ve.ownBlock ∨ ∃ k, ve'.ownBlock = some k ∧ w.heap.size ≤ k := hv.imp id fun ⟨k, e, hk⟩ => ⟨k, e, by omega⟩
  have apart : ∀ k, k < w.heap.size → ve.ownBlock ≠ some k → ve'.ownBlock ≠ some k := by
    intro k hk hn e
    rcases hv' with e1 | ⟨j, e1, hj⟩
    · exact hn (e1.symm.trans e)
    · rw [e1] at e
      injection e with e
      omega
  have step3 : ∀ k, k < w.heap.size → ve.ownBlock ≠ some k → w3.heap[k]? = w.heap[k]? := fun k hk hn =>
    (hg.block k (by omega) (fun e => hn e.symm)).trans (hB.block k hk)
  have step : ∀ k, k < w.heap.size → ve.ownBlock ≠ some k → k ≠ g → ((w3.setCell ⟨g, 3, none⟩ ve').setCell ⟨g, 2, none⟩ (.int .i64 ((es.length + 1 : Nat) : Int))).heap[k]? = w.heap[k]? := fun k hk hn hkg =>
    (hg0.block k (by have := hg.size; omega) (fun e => hkg (by injection e))).trans (step3 k hk hn)
  have hF : Fld w3 g bd bv ve es.length n on c := by
    have := h.fld
    unfold Fld at this ⊢
    rw [step3 g h.fld.lt h.eg]
    exact this
  refine ⟨⟨?_, h.dur.keepB (step bd h.dur.lt h.ed h.gd), h.vis.keepB (step bv h.vis.lt h.ev h.gv), ?_, fun e he => ?_, h.gd, h.gv, h.dv, apart g h.fld.lt h.eg, apart bd h.dur.lt h.ed, apart bv h.vis.lt h.ev⟩, ⟨?_, ?_, ?_, ?_, fun k hk hn => step k hk (fun e => hn (.inr e)) (fun e => hn (.inl e))⟩, hv'⟩
  · rw [List.length_append]
    exact (hF.put3 ve').put2 (es.length + 1)
  · rw [entC_snoc, List.length_append]
    refine own_keep ho fun k hk e => hg0.block k hk (fun e1 => ?_)
    injection e1 with e1
    exact apart g h.fld.lt h.eg (by rw [e, e1])
  · rcases List.mem_append.1 he with he | he
    · obtain ⟨h1, h2, h3, h4, h5⟩ := h.lets e he
      exact ⟨h1.keepB (step e.2 h1.lt h5 h2), h2, h3, h4, apart e.2 h1.lt h5⟩
    · rw [List.mem_singleton.1 he]
      exact ⟨hx.keepB (step b hx.lt hb.2.2.2 hb.1), hb.1, hb.2.1, hb.2.2.1, apart b hx.lt hb.2.2.2⟩
  · exact hg0.os.trans (hg.os.trans hB.os)
  · exact hg0.tape.trans (hg.tape.trans hB.tape)
  · exact hg0.output.trans (hg.output.trans hB.output)
  · exact Nat.le_trans hsz (Nat.le_trans hg.size hg0.size)
set_option maxRecDepth 20000 in
set_option maxHeartbeats 4000000 in
theorem padd_c (h : Mem w g bd bv ve n on c es L V) (hk : es.length ≤ 62) (hx : LetB w b x) (hb : b ≠ g ∧ b ≠ bd ∧ b ≠ bv ∧ ve.ownBlock ≠ some b) :
    Calls Try.prog 35 #[.pointer (some ⟨g, 2, none⟩), .agg #[.int .i64 (q : Int), .slice (some ⟨b, 0, none⟩) 64 64]] w fun e w' => ∃ ve', e = .returned (.tuple #[]) ∧ Mem w' g bd bv ve' n on c (es ++ [((q, x), b)]) L V ∧ Turn (fun k => k = g ∨ ve.ownBlock = some k) w w' ∧ (ve'.ownBlock = ve.ownBlock ∨ ∃ k, ve'.ownBlock = some k ∧ w.heap.size ≤ k) := by
  have H := Lib.hid h
  have HK := Lib.hid hk
  have HX := Lib.hid hx
  have HB := Lib.hid hb
  obtain ⟨Ae, ce, rfl⟩ := (own_cel h.own).form
  obtain ⟨-, -, c2, -, -, -⟩ := h.fld.cells
  have hki : (es.length : Int) ≤ 62 := by omega
  have hBa : Below w.heap.size w (w.alloc (.cells #[.int .i64 (q : Int), .slice (some ⟨b, 0, none⟩) 64 64] 55)) := (Below.refl _ _).alloc (Nat.le_refl _) _
  have c2a : (w.alloc (.cells #[.int .i64 (q : Int), .slice (some ⟨b, 0, none⟩) 64 64] 55)).cell? ⟨g, 2, none⟩ = some (.int .i64 (es.length : Int)) := (hBa.cell (p := ⟨g, 2, none⟩) h.fld.lt).trans c2
  have HBA := Lib.hid hBa
  clear h hk hx hb hBa c2
  go_enter Try.func35, Try.ntmps35
  go_wp2_with fail
  refine hk_begin (S := fun W => W.heap[w.heap.size]? = some (.cells #[.int .i64 (q : Int), .slice (some ⟨b, 0, none⟩) 64 64] 55 (0, 0))) 11 (by kernel_rfl) (by kernel_rfl) ?_
  obtain ⟨y0, ey0⟩ : ∃ y, y = (w.alloc (.cells #[.int .i64 (q : Int), .slice (some ⟨b, 0, none⟩) 64 64] 55)).drew := ⟨_, rfl⟩
  obtain ⟨y1, ey1⟩ : ∃ y, y = y0.alloc (.cells [Value.int .i64 (q : Int), .slice (some ⟨b, 0, none⟩) 64 64].toArray 55) := ⟨_, rfl⟩
  rw [← ey0]
  have hB0 : Below w.heap.size w y0 := by rw [ey0]; exact HBA.out.drew
  have hB01 : Below y0.heap.size y0 y1 := by rw [ey1]; exact (Below.refl _ _).alloc (Nat.le_refl _) _
  have hB1 := below_then hB0 hB01
  have hp0 : y0.heap[w.heap.size]? = some (.cells #[.int .i64 (q : Int), .slice (some ⟨b, 0, none⟩) 64 64] 55 (0, 0)) := by rw [ey0]; exact heap_alloc_new w _
  have hlt0 := lt_of_heap hp0
  have hp1 : y1.heap[w.heap.size]? = some (.cells #[.int .i64 (q : Int), .slice (some ⟨b, 0, none⟩) 64 64] 55 (0, 0)) := (hB01.block _ hlt0).trans hp0
  have hn1 : y1.heap[y0.heap.size]? = some (.cells [Value.int .i64 (q : Int), .slice (some ⟨b, 0, none⟩) 64 64].toArray 55 (0, 0)) := by rw [ey1]; exact heap_alloc_new y0 _
  have hM0 := H.out.below hB0
  have hM1 := H.out.below hB1
  have hown : ∀ k, (Value.slice Ae es.length ce).ownBlock = some k → k < w.heap.size := fun k e => (H.out.own.lt k e).2
  have HB0 := Lib.hid hp0
  have HB1 := Lib.hid hp1
  have C30 := Lib.hid hM0.fld.cells.2.2.2.1
  have C31 := Lib.hid hM1.fld.cells.2.2.2.1
  have HO1 := Lib.hid hM1.own
  have HN1 := Lib.hid hn1
  have S2 : Hid (∀ y2, y1.grownBy y2 (Value.slice Ae es.length ce).ownBlock → y2.heap[w.heap.size]? = some (.cells #[.int .i64 (q : Int), .slice (some ⟨b, 0, none⟩) 64 64] 55 (0, 0))) := Lib.hid fun y2 hg => (hg.block _ (lt_of_heap hp1) (fun e => by have := hown _ e.symm; omega)).trans hp1
  have C3 : Hid (∀ y2, y1.grownBy y2 (Value.slice Ae es.length ce).ownBlock → y2.cell? ⟨g, 3, none⟩ = some (.slice Ae es.length ce) ∧ y2.cell? ⟨g, 2, none⟩ = some (.int .i64 (es.length : Int)) ∧ ∀ i, y2.frozen? ⟨g, i, none⟩ = false) := Lib.hid fun y2 hg => by
    have hF : Fld y2 g bd bv (.slice Ae es.length ce) es.length n on c := by
      have := hM1.fld
      unfold Fld at this ⊢
      rw [hg.block g hM1.fld.lt (fun e => H.out.eg e.symm)]
      exact this
    exact ⟨hF.cells.2.2.2.1, hF.cells.2.2.1, hF.thaw⟩
  have FIN := Lib.hid (fun ve2 y2 ho hg hv => H.out.added (w2 := y1) (w3 := y2) (ve' := ve2) (q := q) (x := x) hB1 ho hg hv HX.out HB.out)
  have HNE := Lib.hid (show w.heap.size ≠ g from fun e => by have := H.out.fld.lt; omega)
  clear ey0 hB0 hB01 hB1 hp0 hp1 hlt0 hn1 hM0 hM1 hown c2a HBA HX HB H
-- REGION 2
  refine hk_take (i := 0) (some 9) (.pointer (some ⟨g, 2, none⟩)) (by kernel_rfl) (by kernel_rfl) (by kernel_rfl) (by kernel_rfl) (by kernel_rfl) (by kernel_rfl) (fun W hS => by kernel_rfl) (fun _ _ d _ _ h => by cases d <;> exact h) HB0.out ?_
  simp only [put_lit, put_non, List.set_cons_zero, List.set_cons_succ]
  refine hk_take (i := 1) (some 10) (.pointer (some ⟨g, 2, none⟩)) (by kernel_rfl) (by kernel_rfl) (by kernel_rfl) (by kernel_rfl) (by kernel_rfl) (by kernel_rfl) (fun W hS => by kernel_rfl) (fun _ _ d _ _ h => by cases d <;> exact h) HB0.out ?_
  simp only [put_lit, put_non, List.set_cons_zero, List.set_cons_succ]
  refine hk_take (i := 2) (some 11) (.pointer (some ⟨g, 2, none⟩)) (by kernel_rfl) (by kernel_rfl) (by kernel_rfl) (by kernel_rfl) (by kernel_rfl) (by kernel_rfl) (fun W hS => by kernel_rfl) (fun _ _ d _ _ h => by cases d <;> exact h) HB0.out ?_
  simp only [put_lit, put_non, List.set_cons_zero, List.set_cons_succ]
  refine hk_take (i := 3) (some 12) (.pointer (some ⟨g, 3, none⟩)) (by kernel_rfl) (by kernel_rfl) (by kernel_rfl) (by kernel_rfl) (by kernel_rfl) (by kernel_rfl) (fun W hS => by kernel_rfl) (fun _ _ d _ _ h => by cases d <;> exact h) HB0.out ?_
  simp only [put_lit, put_non, List.set_cons_zero, List.set_cons_succ]
  refine hk_take (i := 5) (some 14) (.agg #[.int .i64 (q : Int), .slice (some ⟨b, 0, none⟩) 64 64]) (by kernel_rfl) (by kernel_rfl) (by kernel_rfl) (by kernel_rfl) (by kernel_rfl) (by kernel_rfl) (fun W hS => exec_loadRow 55 (.tmp 3) w.heap.size _ _ (by kernel_rfl) (by kernel_rfl) hS Try.underlying55 rfl size_wr) (fun _ _ d _ _ h => by cases d <;> exact h) HB0.out ?_
  simp only [put_lit, put_non, List.set_cons_zero, List.set_cons_succ]
  refine hk_two (i := 4) (j := 6) (by kernel_rfl) ?_ ?_
  · skip
    refine op_do (some 13) (.slice Ae es.length ce) y0 (by kernel_rfl) (by kernel_rfl) (by kernel_rfl) (exec_loadCell 53 (.tmp 12) ⟨g, 3, none⟩ _ _ (by kernel_rfl) (by kernel_rfl) C30.out Try.underlying53 rfl) ?_
    refine ⟨HB0.out, ?_⟩
    simp only [put_lit, put_non, List.set_cons_zero, List.set_cons_succ]
    refine hk_one (i := 6) (by kernel_rfl) ?_
    refine op_do (some 15) (.slice (some ⟨y0.heap.size, 0, none⟩) 1 1) y1 (by kernel_rfl) (by kernel_rfl) (by kernel_rfl) (by rw [ey1]; exact exec_oneC Try.underlying53 zero_wr (by omega) (by omega) (cs := [Value.int .i64 (q : Int), .slice (some ⟨b, 0, none⟩) 64 64]) rfl 14 (by kernel_rfl) (by kernel_rfl)) ?_
    refine ⟨HB1.out, ?_⟩
    simp only [put_lit, put_non, List.set_cons_zero, List.set_cons_succ]
    refine hk_one (i := 7) (by kernel_rfl) ?_
    refine op_appendN (some 16) (.tmp 13) (.tmp 15) (by kernel_rfl) (by kernel_rfl) (by kernel_rfl) (by kernel_rfl) (.slice Ae es.length ce) es.length (entC es) (by kernel_rfl) HO1.out y0.heap.size [Value.int .i64 (q : Int), .slice (some ⟨b, 0, none⟩) 64 64] (by kernel_rfl) HN1.out rfl (by intro u hu; simp only [List.mem_cons, List.not_mem_nil, or_false] at hu; rcases hu with rfl | rfl <;> rfl) (by have := HK.out; omega) ?_
    intro ve2 y2 hO2 hG2 hv2
    have hS2 := S2.out y2 hG2
    have HFN := Lib.hid (FIN.out ve2 y2 hO2 hG2 hv2)
    obtain ⟨A2, c2, e2⟩ := (own_cel hO2).form
    subst e2
    have HS2 := Lib.hid hS2
    have HG3 := Lib.hid (C3.out y2 hG2)
    clear hO2 hG2 hv2 hS2
    refine ⟨HS2.out, ?_⟩
    simp only [put_lit, put_non, List.set_cons_zero, List.set_cons_succ]
    refine hk_take (i := 8) (some 17) (.pointer (some ⟨g, 2, none⟩)) (by kernel_rfl) (by kernel_rfl) (by kernel_rfl) (by kernel_rfl) (by kernel_rfl) (by kernel_rfl) (fun W hS => by kernel_rfl) (fun _ _ d _ _ h => by cases d <;> exact h) HS2.out ?_
    simp only [put_lit, put_non, List.set_cons_zero, List.set_cons_succ]
    refine hk_take (i := 9) (some 18) (.pointer (some ⟨g, 3, none⟩)) (by kernel_rfl) (by kernel_rfl) (by kernel_rfl) (by kernel_rfl) (by kernel_rfl) (by kernel_rfl) (fun W hS => by kernel_rfl) (fun _ _ d _ _ h => by cases d <;> exact h) HS2.out ?_
    simp only [put_lit, put_non, List.set_cons_zero, List.set_cons_succ]
    refine hk_one (i := 10) (by kernel_rfl) ?_
    refine op_skip none (y2.setCell ⟨g, 3, none⟩ (.slice A2 (es.length + 1) c2)) (by kernel_rfl) (by kernel_rfl) (by kernel_rfl) (exec_storeW 18 16 (by kernel_rfl) (by kernel_rfl) (by kernel_rfl) (HG3.out.2.2 3) HG3.out.1) ?_
    refine ⟨by rw [Below.heap_setCell _ _ _ _ HNE.out]; exact HS2.out, ?_⟩
    simp only [put_lit, put_non, List.set_cons_zero, List.set_cons_succ]
    refine hk_done (by kernel_rfl) ?_
    have d2 := HG3.out.2.1
    have d2b : (y2.setCell ⟨g, 3, none⟩ (.slice A2 (es.length + 1) c2)).cell? ⟨g, 2, none⟩ = some (.int .i64 (es.length : Int)) := by rw [World.cell?_setCell_other _ _ _ _ (by simp)]; exact d2
    have z2b : (y2.setCell ⟨g, 3, none⟩ (.slice A2 (es.length + 1) c2)).frozen? ⟨g, 2, none⟩ = false := by rw [World.frozen?_setCell]; exact HG3.out.2.2 2
    clear d2
    generalize hy3 : y2.setCell ⟨g, 3, none⟩ (.slice A2 (es.length + 1) c2) = y3 at *
    have HY3 := Lib.hid hy3
    clear hy3
    go_wp2_with fail
    go_end0
    exact ⟨_, rfl, HFN.out⟩
  · skip
    refine op_do (some 15) (.slice (some ⟨y0.heap.size, 0, none⟩) 1 1) y1 (by kernel_rfl) (by kernel_rfl) (by kernel_rfl) (by rw [ey1]; exact exec_oneC Try.underlying53 zero_wr (by omega) (by omega) (cs := [Value.int .i64 (q : Int), .slice (some ⟨b, 0, none⟩) 64 64]) rfl 14 (by kernel_rfl) (by kernel_rfl)) ?_
    refine ⟨HB1.out, ?_⟩
    simp only [put_lit, put_non, List.set_cons_zero, List.set_cons_succ]
    refine hk_one (i := 4) (by kernel_rfl) ?_
    refine op_do (some 13) (.slice Ae es.length ce) y1 (by kernel_rfl) (by kernel_rfl) (by kernel_rfl) (exec_loadCell 53 (.tmp 12) ⟨g, 3, none⟩ _ _ (by kernel_rfl) (by kernel_rfl) C31.out Try.underlying53 rfl) ?_
    refine ⟨HB1.out, ?_⟩
    simp only [put_lit, put_non, List.set_cons_zero, List.set_cons_succ]
    refine hk_one (i := 7) (by kernel_rfl) ?_
    refine op_appendN (some 16) (.tmp 13) (.tmp 15) (by kernel_rfl) (by kernel_rfl) (by kernel_rfl) (by kernel_rfl) (.slice Ae es.length ce) es.length (entC es) (by kernel_rfl) HO1.out y0.heap.size [Value.int .i64 (q : Int), .slice (some ⟨b, 0, none⟩) 64 64] (by kernel_rfl) HN1.out rfl (by intro u hu; simp only [List.mem_cons, List.not_mem_nil, or_false] at hu; rcases hu with rfl | rfl <;> rfl) (by have := HK.out; omega) ?_
    intro ve2 y2 hO2 hG2 hv2
    have hS2 := S2.out y2 hG2
    have HFN := Lib.hid (FIN.out ve2 y2 hO2 hG2 hv2)
    obtain ⟨A2, c2, e2⟩ := (own_cel hO2).form
    subst e2
    have HS2 := Lib.hid hS2
    have HG3 := Lib.hid (C3.out y2 hG2)
    clear hO2 hG2 hv2 hS2
    refine ⟨HS2.out, ?_⟩
    simp only [put_lit, put_non, List.set_cons_zero, List.set_cons_succ]
    refine hk_take (i := 8) (some 17) (.pointer (some ⟨g, 2, none⟩)) (by kernel_rfl) (by kernel_rfl) (by kernel_rfl) (by kernel_rfl) (by kernel_rfl) (by kernel_rfl) (fun W hS => by kernel_rfl) (fun _ _ d _ _ h => by cases d <;> exact h) HS2.out ?_
    simp only [put_lit, put_non, List.set_cons_zero, List.set_cons_succ]
    refine hk_take (i := 9) (some 18) (.pointer (some ⟨g, 3, none⟩)) (by kernel_rfl) (by kernel_rfl) (by kernel_rfl) (by kernel_rfl) (by kernel_rfl) (by kernel_rfl) (fun W hS => by kernel_rfl) (fun _ _ d _ _ h => by cases d <;> exact h) HS2.out ?_
    simp only [put_lit, put_non, List.set_cons_zero, List.set_cons_succ]
    refine hk_one (i := 10) (by kernel_rfl) ?_
    refine op_skip none (y2.setCell ⟨g, 3, none⟩ (.slice A2 (es.length + 1) c2)) (by kernel_rfl) (by kernel_rfl) (by kernel_rfl) (exec_storeW 18 16 (by kernel_rfl) (by kernel_rfl) (by kernel_rfl) (HG3.out.2.2 3) HG3.out.1) ?_
    refine ⟨by rw [Below.heap_setCell _ _ _ _ HNE.out]; exact HS2.out, ?_⟩
    simp only [put_lit, put_non, List.set_cons_zero, List.set_cons_succ]
    refine hk_done (by kernel_rfl) ?_
    have d2 := HG3.out.2.1
    have d2b : (y2.setCell ⟨g, 3, none⟩ (.slice A2 (es.length + 1) c2)).cell? ⟨g, 2, none⟩ = some (.int .i64 (es.length : Int)) := by rw [World.cell?_setCell_other _ _ _ _ (by simp)]; exact d2
    have z2b : (y2.setCell ⟨g, 3, none⟩ (.slice A2 (es.length + 1) c2)).frozen? ⟨g, 2, none⟩ = false := by rw [World.frozen?_setCell]; exact HG3.out.2.2 2
    clear d2
    generalize hy3 : y2.setCell ⟨g, 3, none⟩ (.slice A2 (es.length + 1) c2) = y3 at *
    have HY3 := Lib.hid hy3
    clear hy3
    go_wp2_with fail
    go_end0
    exact ⟨_, rfl, HFN.out⟩
-- END 2
end
end Go.Proofs.Ythknlimhenbhfaa

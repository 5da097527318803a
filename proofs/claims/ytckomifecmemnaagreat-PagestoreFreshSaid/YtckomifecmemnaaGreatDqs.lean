/- The program's disk: the walk of queue.replaceLast. -/
import Derived.Test.YtckomifecmemnaaGreatDqr
namespace Go.Proofs.YtckomifecmemnaaGreat
set_option linter.unusedSimpArgs false
open Go.RowKit Dig Go.ChangeMaps
set_option linter.unusedVariables false
section
variable {w : World} {F : Nat → Prop} {g bd bv n b q : Nat} {ve : Value} {t : Tl} {on : Bool} {c : Int} {es : List Ent} {ls : List (Nat × List UInt8)} {L V : List (List UInt8)} {x : List UInt8}
set_option maxRecDepth 20000 in
set_option maxHeartbeats 8000000 in
theorem qreplace_c (h : MemG w F g bd bv ve t n on c es ls L V) (hk : es.length = 63) (hls : ls.length ≤ 1000000) (hps : ∀ p ∈ ls, p.1 ≤ 1000000) (hx : LetB w b x) (hb : Besd F g bd bv ve b) :
    Calls Tryz.prog 109 #[.pointer (some ⟨g, 2, none⟩), .agg #[.int .i64 (q : Int), .slice (some ⟨b, 0, none⟩) 64 64]] w fun e w' => e = .returned (.tuple #[]) ∧ Repl w F g bd bv ve t n on c (es.length + ls.length) q b ls w' := by
  have hB1 : Below w.heap.size w (w.alloc (.cells #[.int .i64 (q : Int), .slice (some ⟨b, 0, none⟩) 64 64] 55)) := (Below.refl _ _).alloc (Nat.le_refl _) _
  have hX1 : (w.alloc (.cells #[.int .i64 (q : Int), .slice (some ⟨b, 0, none⟩) 64 64] 55)).heap[w.heap.size]? = some (.cells (wrC q b).toArray 55 (0, 0)) := heap_alloc_new w _
  have hF1 := h.fld.keepB (hB1.block _ h.fld.lt)
  have hglt := h.fld.lt
  have hnm := h.late.notMap hx
  obtain ⟨m, em⟩ : ∃ m, es.length + ls.length = m := ⟨_, rfl⟩
  rw [em] at hF1 ⊢
  rcases h.late with ⟨rfl, rfl⟩ | ⟨ms, p0, b0, mv, rfl, rfl, h3, h4, h5, h6⟩
  · have em : m = 63 := by rw [← em, hk]; rfl
    subst em
    have c2 : (w.alloc (.cells #[.int .i64 (q : Int), .slice (some ⟨b, 0, none⟩) 64 64] 55)).cell? ⟨g, 2, none⟩ = some (.int .i64 63) := hF1.cells.2.2.1
    have HF4 := Lib.hid hF1
    have HX4 := Lib.hid hX1
    have HB1 := Lib.hid hB1
    clear hX1 hB1 hF1 hb hx hk hls hps
    go_enter Tryz.func109, Tryz.ntmps109
    go_wp2_with (first | ((with_reducible refine wp_loadW rfl 3 rfl w.heap.size 0 (wrC q b) ?hx (range_whole HX4.out) rfl ?_); (case hx => rfl)) | ((with_reducible refine wp_storeL (q := q) (b := b) HF4.out rfl 35 33 rfl ?hx ?hy ?_); (case hx => rfl); (case hy => rfl); intro w5 hF5 hG5; have HF5 := Lib.hid hF5; have HG5 := Lib.hid hG5; clear hF5 hG5))
    go_end0
    refine ⟨rfl, .map none, HF5.out, .inl ⟨rfl, rfl⟩, fun e => (by cases e), HG5.out.os, HG5.out.tape, HG5.out.output, Nat.le_trans HB1.out.size HG5.out.size, fun j hj hjg _ => ?_⟩
    exact (HG5.out.block j (Nat.lt_of_lt_of_le hj HB1.out.size) fun e => hjg (by injection e)).trans (HB1.out.block j hj)
  · have hmi : (63 : Int) < m := by rw [← em, List.length_append]; simp only [List.length_singleton]; omega
    have c2 : (w.alloc (.cells #[.int .i64 (q : Int), .slice (some ⟨b, 0, none⟩) 64 64] 55)).cell? ⟨g, 2, none⟩ = some (.int .i64 (m : Int)) := hF1.cells.2.2.1
    have c6 : (w.alloc (.cells #[.int .i64 (q : Int), .slice (some ⟨b, 0, none⟩) 64 64] 55)).cell? ⟨g, 6, none⟩ = some mv := hF1.tail.2.2
    have qT : ∀ (w : World) (r : Option Nat), (binOp .eql 56 (.map r) (.map none)).run Tryz.prog w = .ok (.bool r.isNone) w := fun w r => run_eql_map_nil w _ _ _ r Tryz.underlying56
    have hp0 : p0.1 ≤ 1000000 := hps p0 (by simp)
    have hml : ms.length ≤ 1000000 := by rw [List.length_append] at hls; omega
    have hL31 := h3.keepB (hB1.block _ h3.lt)
    rcases h6 with ⟨rfl, rfl⟩ | ⟨bm, nm, D, hne, rfl, hbm, hown, hnm2, hD, hH⟩
    · have hmm := fun w => run_makeMap (P := Tryz.prog) 56 w
      have hB2 : Below (w.alloc (.cells #[.int .i64 (q : Int), .slice (some ⟨b, 0, none⟩) 64 64] 55)).heap.size (w.alloc (.cells #[.int .i64 (q : Int), .slice (some ⟨b, 0, none⟩) 64 64] 55)) ((w.alloc (.cells #[.int .i64 (q : Int), .slice (some ⟨b, 0, none⟩) 64 64] 55)).alloc (.map #[] 0)) := (Below.refl _ _).alloc (Nat.le_refl _) _
      have hF2 := hF1.keepB (hB2.block _ hF1.lt)
      have c6b : ((w.alloc (.cells #[.int .i64 (q : Int), .slice (some ⟨b, 0, none⟩) 64 64] 55)).alloc (.map #[] 0)).cell? ⟨g, 6, none⟩ = some (.map none) := hF2.tail.2.2
      have z6b : ((w.alloc (.cells #[.int .i64 (q : Int), .slice (some ⟨b, 0, none⟩) 64 64] 55)).alloc (.map #[] 0)).frozen? ⟨g, 6, none⟩ = false := hF2.thaw 6
      have hF3 := h.fld.put6 (.map (some (w.heap.size + 1)))
      rw [em] at hF3
      have hg3 : w.grownBy (w.setCell ⟨g, 6, none⟩ (.map (some (w.heap.size + 1)))) (some g) := grown_put' _ _ _ _
      have hz3 := size_set w ⟨g, 6, none⟩ (.map (some (w.heap.size + 1)))
      have hL33 := h3.keepB (hg3.block _ h3.lt (fun e => h4.2.1 (by injection e)))
      have hblt := h3.lt
      have hxlt := hx.lt
      generalize ey0 : w.setCell ⟨g, 6, none⟩ (.map (some (w.heap.size + 1))) = y0 at *
      have hBx : Below y0.heap.size y0 (y0.alloc (.cells #[.int .i64 (q : Int), .slice (some ⟨b, 0, none⟩) 64 64] 55)) := (Below.refl _ _).alloc (Nat.le_refl _) _
      have hXx : (y0.alloc (.cells #[.int .i64 (q : Int), .slice (some ⟨b, 0, none⟩) 64 64] 55)).heap[y0.heap.size]? = some (.cells (wrC q b).toArray 55 (0, 0)) := heap_alloc_new y0 _
      have hzx : (y0.alloc (.cells #[.int .i64 (q : Int), .slice (some ⟨b, 0, none⟩) 64 64] 55)).heap.size = y0.heap.size + 1 := by show (y0.heap.push _).size = _; simp
      generalize ey1 : y0.alloc (.cells #[.int .i64 (q : Int), .slice (some ⟨b, 0, none⟩) 64 64] 55) = y1 at *
      have hBy : Below y1.heap.size y1 (y1.alloc (.map #[] 0)) := (Below.refl _ _).alloc (Nat.le_refl _) _
      have hM3 := World.ownsMap_made y1 Tryz.prog 3 blkR
      generalize ey3 : y1.alloc (.map #[] 0) = y3 at *
      have e1 : y1.heap.size = w.heap.size + 1 := by rw [hzx, hz3]
      rw [e1] at hM3
      have hF3 := (hF3.keepB (hBx.block _ hF3.lt)).keepB (hBy.block _ (by have := hF3.lt; rw [e1]; omega))
      have hX3 := (hBy.block _ (lt_of_heap hXx)).trans hXx
      rw [hz3] at hX3
      have hL33 := (hL33.keepB (hBx.block _ hL33.lt)).keepB (hBy.block _ (by have := hL33.lt; rw [e1]; omega))
      have hs1 : w.heap.size + 1 ≤ y3.heap.size := by have := hBy.size; omega
      have hmlt : w.heap.size + 1 < y3.heap.size := hM3.lt
      obtain ⟨w4, hrun, hg4, hM4⟩ := MapL.put (w := y3.drew) (G := Besd (More F w y3) g bd bv ve) (p := p0) (b := b0) hM3 (Nat.zero_le _) hM3.isMap (holds_start _ _) ⟨.inr ⟨by omega, hmlt⟩, by omega, by have := h.dur.lt; omega, by have := h.vis.lt; omega, fun e => by have := (h.own.lt _ e).2; omega⟩ (Nat.zero_le _) hp0 hL33 ⟨.inl h4.1, h4.2⟩ (by omega)
      have hF4 := hF3.keepB (w' := w4) (hg4.block _ hF3.lt (fun e => by injection e with e; omega))
      have hX4 := (hg4.block _ (lt_of_heap hX3) (fun e => by injection e with e; omega)).trans (show y3.drew.heap[w.heap.size]? = _ from hX3)
      have HT : Hid (y3.drew.cell? ⟨g, 6, none⟩ = some (.map (some (w.heap.size + 1))) ∧ y3.drew.cell? ⟨g, 4, none⟩ = some (.int .i64 (p0.1 : Int)) ∧ y3.drew.cell? ⟨g, 5, none⟩ = some (.slice (some ⟨b0, 0, none⟩) 64 64)) := Lib.hid ⟨hF3.tail.2.2, hF3.tail.1, hF3.tail.2.1⟩
      have HT4 : Hid (w4.cell? ⟨g, 6, none⟩ = some (.map (some (w.heap.size + 1))) ∧ w4.cell? ⟨g, 4, none⟩ = some (.int .i64 (p0.1 : Int)) ∧ w4.cell? ⟨g, 5, none⟩ = some (.slice (some ⟨b0, 0, none⟩) 64 64)) := Lib.hid ⟨hF4.tail.2.2, hF4.tail.1, hF4.tail.2.1⟩
      have HU : Hid ((Instr.mapUpdate 56 (.map (some (w.heap.size + 1))) (.int .i64 (p0.1 : Int)) (.slice (some ⟨b0, 0, none⟩) 64 64)).run Tryz.prog y3.drew = .ok () w4 ∧ True) := Lib.hid ⟨hrun, trivial⟩
      have hs4 := hg4.size
      have hs4 : y3.heap.size ≤ w4.heap.size := hs4
      have frame : ∀ j, j < w.heap.size → j ≠ g → w4.heap[j]? = w.heap[j]? := fun j hj hjg =>
        (hg4.block j (by show j < y3.heap.size; omega) (fun e => by injection e with e; omega)).trans ((hBy.block j (by omega)).trans ((hBx.block j (by omega)).trans (hg3.block j hj (fun e => hjg (by injection e)))))
      have FRM := Lib.hid frame
      have OSS := Lib.hid (show w4.os = w.os ∧ w4.tape = w.tape ∧ w4.output = w.output from ⟨hg4.os.trans (hBy.os.trans (hBx.os.trans hg3.os)), hg4.tape.trans (hBy.tape.trans (hBx.tape.trans hg3.tape)), hg4.output.trans (hBy.output.trans (hBx.output.trans hg3.output))⟩)
      have HF4 := Lib.hid hF4
      have HX4 := Lib.hid hX4
      have HM4 := Lib.hid hM4
      have HSZ := Lib.hid (show w.heap.size ≤ y3.heap.size ∧ y3.heap.size ≤ w4.heap.size ∧ b < w.heap.size from ⟨by omega, hs4, by omega⟩)
      have HFG := Lib.hid hmm
      clear hF1 hF2 hF3 hF4 hX1 hX3 hX4 hXx hL31 hL33 hM3 hM4 hB1 hB2 hBx hBy hg3 hg4 hrun frame hs1 hs4 hblt hxlt hmlt hnm hb hx hk hls hps h3 h4 h5 hml hp0 HFG hzx hz3 e1
      subst ey3 ey1 ey0
      obtain ⟨bm, ebm⟩ : ∃ bm, bm = w.heap.size + 1 := ⟨_, rfl⟩
      rw [← ebm] at HT HT4 HU HF4 HM4 HSZ
      have EBM := Lib.hid ebm
      clear ebm
      go_enter Tryz.func109, Tryz.ntmps109
      go_wp2_with fail
      rw [← EBM.out]
      refine wp_region_plan (S := fun W => W.cell? ⟨g, 6, none⟩ = some (.map (some bm)) ∧ W.cell? ⟨g, 4, none⟩ = some (.int .i64 (p0.1 : Int)) ∧ W.cell? ⟨g, 5, none⟩ = some (.slice (some ⟨b0, 0, none⟩) 64 64)) [(0, true), (1, true), (2, true), (3, true), (4, true), (5, true), (6, true), (7, true), (8, true), (9, true), (10, true), (11, true), (12, true), (13, true), (14, false)] (by kernel_rfl) (by kernel_rfl) (by kernel_rfl) (by kernel_rfl) (fun _ _ d _ _ h => by cases d <;> exact h) HT.out ?_
      refine wkS_take (some 18) (.pointer (some ⟨g, 2, none⟩)) (by kernel_rfl) (by kernel_rfl) (by kernel_rfl) (fun W hS => by kernel_rfl) ?_
      simp only [put_lit, put_non, List.set_cons_zero, List.set_cons_succ]
      refine wkS_take (some 19) (.pointer (some ⟨g, 2, none⟩)) (by kernel_rfl) (by kernel_rfl) (by kernel_rfl) (fun W hS => by kernel_rfl) ?_
      simp only [put_lit, put_non, List.set_cons_zero, List.set_cons_succ]
      refine wkS_take (some 20) (.pointer (some ⟨g, 6, none⟩)) (by kernel_rfl) (by kernel_rfl) (by kernel_rfl) (fun W hS => by kernel_rfl) ?_
      simp only [put_lit, put_non, List.set_cons_zero, List.set_cons_succ]
      refine wkS_take (some 21) (.map (some bm)) (by kernel_rfl) (by kernel_rfl) (by kernel_rfl) (fun W hS => exec_loadCell 56 (.tmp 20) ⟨g, 6, none⟩ _ _ (by kernel_rfl) (by kernel_rfl) hS.1 Tryz.underlying56 rfl) ?_
      simp only [put_lit, put_non, List.set_cons_zero, List.set_cons_succ]
      refine wkS_take (some 22) (.pointer (some ⟨g, 2, none⟩)) (by kernel_rfl) (by kernel_rfl) (by kernel_rfl) (fun W hS => by kernel_rfl) ?_
      simp only [put_lit, put_non, List.set_cons_zero, List.set_cons_succ]
      refine wkS_take (some 23) (.pointer (some ⟨g, 2, none⟩)) (by kernel_rfl) (by kernel_rfl) (by kernel_rfl) (fun W hS => by kernel_rfl) ?_
      simp only [put_lit, put_non, List.set_cons_zero, List.set_cons_succ]
      refine wkS_take (some 24) (.pointer (some ⟨g, 4, none⟩)) (by kernel_rfl) (by kernel_rfl) (by kernel_rfl) (fun W hS => by kernel_rfl) ?_
      simp only [put_lit, put_non, List.set_cons_zero, List.set_cons_succ]
      refine wkS_take (some 25) (.pointer (some ⟨g, 4, none⟩)) (by kernel_rfl) (by kernel_rfl) (by kernel_rfl) (fun W hS => by kernel_rfl) ?_
      simp only [put_lit, put_non, List.set_cons_zero, List.set_cons_succ]
      refine wkS_take (some 26) (.int .i64 (p0.1 : Int)) (by kernel_rfl) (by kernel_rfl) (by kernel_rfl) (fun W hS => exec_loadCell 3 (.tmp 25) ⟨g, 4, none⟩ _ _ (by kernel_rfl) (by kernel_rfl) hS.2.1 Tryz.underlying3 rfl) ?_
      simp only [put_lit, put_non, List.set_cons_zero, List.set_cons_succ]
      refine wkS_take (some 27) (.pointer (some ⟨g, 2, none⟩)) (by kernel_rfl) (by kernel_rfl) (by kernel_rfl) (fun W hS => by kernel_rfl) ?_
      simp only [put_lit, put_non, List.set_cons_zero, List.set_cons_succ]
      refine wkS_take (some 28) (.pointer (some ⟨g, 2, none⟩)) (by kernel_rfl) (by kernel_rfl) (by kernel_rfl) (fun W hS => by kernel_rfl) ?_
      simp only [put_lit, put_non, List.set_cons_zero, List.set_cons_succ]
      refine wkS_take (some 29) (.pointer (some ⟨g, 4, none⟩)) (by kernel_rfl) (by kernel_rfl) (by kernel_rfl) (fun W hS => by kernel_rfl) ?_
      simp only [put_lit, put_non, List.set_cons_zero, List.set_cons_succ]
      refine wkS_take (some 30) (.pointer (some ⟨g, 5, none⟩)) (by kernel_rfl) (by kernel_rfl) (by kernel_rfl) (fun W hS => by kernel_rfl) ?_
      simp only [put_lit, put_non, List.set_cons_zero, List.set_cons_succ]
      refine wkS_take (some 31) (.slice (some ⟨b0, 0, none⟩) 64 64) (by kernel_rfl) (by kernel_rfl) (by kernel_rfl) (fun W hS => exec_loadCell 33 (.tmp 30) ⟨g, 5, none⟩ _ _ (by kernel_rfl) (by kernel_rfl) hS.2.2 Tryz.underlying33 rfl) ?_
      simp only [put_lit, put_non, List.set_cons_zero, List.set_cons_succ]
      refine wkS_skipW none (by kernel_rfl) (by kernel_rfl) (by kernel_rfl) (exec_mapUpdate (m := .tmp 21) (x := .tmp 26) (v := .tmp 31) (by kernel_rfl) (by kernel_rfl) (by kernel_rfl) (by kernel_rfl) HU.out.1) HT4.out ?_
      simp only [put_lit, put_non, List.set_cons_zero, List.set_cons_succ]
      refine wkS_done ?_
      go_wp2_with (first | ((with_reducible refine wp_loadW rfl 3 rfl w.heap.size 0 (wrC q b) ?hx (range_whole HX4.out) rfl ?_); (case hx => rfl)) | ((with_reducible refine wp_storeL (q := q) (b := b) HF4.out rfl 35 33 rfl ?hx ?hy ?_); (case hx => rfl); (case hy => rfl); intro w5 hF5 hG5; have HF5 := Lib.hid hF5; have HG5 := Lib.hid hG5; clear hF5 hG5))
      go_end0
      refine ⟨rfl, .map (some bm), HF5.out, HM4.out.keep HG5.out.size (fun j hj hg => HG5.out.block j hj fun e => hg.2.1 (by injection e)) (fun j hj hg => ⟨?_, hg.2⟩), fun e => ?_, HG5.out.os.trans OSS.out.1, HG5.out.tape.trans OSS.out.2.1, HG5.out.output.trans OSS.out.2.2, Nat.le_trans (Nat.le_trans HSZ.out.1 HSZ.out.2.1) HG5.out.size, fun j hj hjg _ => ?_⟩
      · rcases hg.1 with h | h
        · exact .inl h
        · exact .inr ⟨h.1, Nat.lt_of_lt_of_le h.2 (Nat.le_trans HSZ.out.2.1 HG5.out.size)⟩
      · injection e with e
        injection e with e
        have := HSZ.out.2.2
        have := EBM.out
        omega
      · exact (HG5.out.block j (Nat.lt_of_lt_of_le hj (Nat.le_trans HSZ.out.1 HSZ.out.2.1)) fun e => hjg (by injection e)).trans (FRM.out j hj hjg)
    · have hX1d := hX1
      have hbmlt : bm < w.heap.size := hown.lt
      have hown1 := hown.kept (World.grownBy_alloc w (.cells #[.int .i64 (q : Int), .slice (some ⟨b, 0, none⟩) 64 64] 55) none) (by simp)
      have hH1 := hH.keep (w' := (w.alloc (.cells #[.int .i64 (q : Int), .slice (some ⟨b, 0, none⟩) 64 64] 55))) (G' := fun j => Besd F g bd bv ve j ∧ j ≠ bm) (fun j hj _ => hB1.block j hj) (fun _ _ h => h)
      generalize ey1 : (w.alloc (.cells #[.int .i64 (q : Int), .slice (some ⟨b, 0, none⟩) 64 64] 55)) = y1 at *
      obtain ⟨w4, hrun, hg4, hM4⟩ := MapL.put (w := y1.drew) (G := Besd F g bd bv ve) (p := p0) (b := b0) hown1 hnm2 hD hH1 hbm hml hp0 hL31 h4 (fun e => h5 (by rw [e]))
      have hF4 := hF1.keepB (w' := w4) (hg4.block _ hF1.lt (fun e => hbm.2.1 (by injection e with e; exact e.symm)))
      have hX4 := (hg4.block _ (lt_of_heap hX1) (fun e => by injection e with e; omega)).trans (show y1.drew.heap[w.heap.size]? = _ from hX1)
      have HT : Hid (y1.drew.cell? ⟨g, 6, none⟩ = some (.map (some bm)) ∧ y1.drew.cell? ⟨g, 4, none⟩ = some (.int .i64 (p0.1 : Int)) ∧ y1.drew.cell? ⟨g, 5, none⟩ = some (.slice (some ⟨b0, 0, none⟩) 64 64)) := Lib.hid ⟨hF1.tail.2.2, hF1.tail.1, hF1.tail.2.1⟩
      have HT4 : Hid (w4.cell? ⟨g, 6, none⟩ = some (.map (some bm)) ∧ w4.cell? ⟨g, 4, none⟩ = some (.int .i64 (p0.1 : Int)) ∧ w4.cell? ⟨g, 5, none⟩ = some (.slice (some ⟨b0, 0, none⟩) 64 64)) := Lib.hid ⟨hF4.tail.2.2, hF4.tail.1, hF4.tail.2.1⟩
      have HU : Hid ((Instr.mapUpdate 56 (.map (some bm)) (.int .i64 (p0.1 : Int)) (.slice (some ⟨b0, 0, none⟩) 64 64)).run Tryz.prog y1.drew = .ok () w4 ∧ True) := Lib.hid ⟨hrun, trivial⟩
      have hs1 := hB1.size
      have hs4 : y1.heap.size ≤ w4.heap.size := hg4.size
      have FRM : Hid (∀ j, j < w.heap.size → j ≠ g → Value.map (some bm) ≠ .map (some j) → w4.heap[j]? = w.heap[j]?) := Lib.hid fun j hj hjg hjm =>
        (hg4.block j (by show j < y1.heap.size; omega) (fun e => hjm (by injection e with e; rw [e]))).trans (hB1.block j hj)
      have OSS := Lib.hid (show w4.os = w.os ∧ w4.tape = w.tape ∧ w4.output = w.output from ⟨hg4.os.trans hB1.os, hg4.tape.trans hB1.tape, hg4.output.trans hB1.output⟩)
      have HF4 := Lib.hid hF4
      have HX4 := Lib.hid hX4
      have HM4 := Lib.hid hM4
      have HNM := Lib.hid (show Value.map (some bm) ≠ .map (some b) from hnm)
      have HSZ := Lib.hid (show w.heap.size ≤ w4.heap.size from by omega)
      subst ey1
      clear hF1 hF4 hX1 hX1d hX4 hL31 hM4 hB1 hg4 hrun hs1 hs4 hown hown1 hH hH1 hnm2 hD hne hbm hbmlt hnm hb hx hk hls hps h3 h4 h5 hml hp0
      go_enter Tryz.func109, Tryz.ntmps109
      go_wp2_with fail
      refine wp_region_plan (S := fun W => W.cell? ⟨g, 6, none⟩ = some (.map (some bm)) ∧ W.cell? ⟨g, 4, none⟩ = some (.int .i64 (p0.1 : Int)) ∧ W.cell? ⟨g, 5, none⟩ = some (.slice (some ⟨b0, 0, none⟩) 64 64)) [(0, true), (1, true), (2, true), (3, true), (4, true), (5, true), (6, true), (7, true), (8, true), (9, true), (10, true), (11, true), (12, true), (13, true), (14, false)] (by kernel_rfl) (by kernel_rfl) (by kernel_rfl) (by kernel_rfl) (fun _ _ d _ _ h => by cases d <;> exact h) HT.out ?_
      refine wkS_take (some 18) (.pointer (some ⟨g, 2, none⟩)) (by kernel_rfl) (by kernel_rfl) (by kernel_rfl) (fun W hS => by kernel_rfl) ?_
      simp only [put_lit, put_non, List.set_cons_zero, List.set_cons_succ]
      refine wkS_take (some 19) (.pointer (some ⟨g, 2, none⟩)) (by kernel_rfl) (by kernel_rfl) (by kernel_rfl) (fun W hS => by kernel_rfl) ?_
      simp only [put_lit, put_non, List.set_cons_zero, List.set_cons_succ]
      refine wkS_take (some 20) (.pointer (some ⟨g, 6, none⟩)) (by kernel_rfl) (by kernel_rfl) (by kernel_rfl) (fun W hS => by kernel_rfl) ?_
      simp only [put_lit, put_non, List.set_cons_zero, List.set_cons_succ]
      refine wkS_take (some 21) (.map (some bm)) (by kernel_rfl) (by kernel_rfl) (by kernel_rfl) (fun W hS => exec_loadCell 56 (.tmp 20) ⟨g, 6, none⟩ _ _ (by kernel_rfl) (by kernel_rfl) hS.1 Tryz.underlying56 rfl) ?_
      simp only [put_lit, put_non, List.set_cons_zero, List.set_cons_succ]
      refine wkS_take (some 22) (.pointer (some ⟨g, 2, none⟩)) (by kernel_rfl) (by kernel_rfl) (by kernel_rfl) (fun W hS => by kernel_rfl) ?_
      simp only [put_lit, put_non, List.set_cons_zero, List.set_cons_succ]
      refine wkS_take (some 23) (.pointer (some ⟨g, 2, none⟩)) (by kernel_rfl) (by kernel_rfl) (by kernel_rfl) (fun W hS => by kernel_rfl) ?_
      simp only [put_lit, put_non, List.set_cons_zero, List.set_cons_succ]
      refine wkS_take (some 24) (.pointer (some ⟨g, 4, none⟩)) (by kernel_rfl) (by kernel_rfl) (by kernel_rfl) (fun W hS => by kernel_rfl) ?_
      simp only [put_lit, put_non, List.set_cons_zero, List.set_cons_succ]
      refine wkS_take (some 25) (.pointer (some ⟨g, 4, none⟩)) (by kernel_rfl) (by kernel_rfl) (by kernel_rfl) (fun W hS => by kernel_rfl) ?_
      simp only [put_lit, put_non, List.set_cons_zero, List.set_cons_succ]
      refine wkS_take (some 26) (.int .i64 (p0.1 : Int)) (by kernel_rfl) (by kernel_rfl) (by kernel_rfl) (fun W hS => exec_loadCell 3 (.tmp 25) ⟨g, 4, none⟩ _ _ (by kernel_rfl) (by kernel_rfl) hS.2.1 Tryz.underlying3 rfl) ?_
      simp only [put_lit, put_non, List.set_cons_zero, List.set_cons_succ]
      refine wkS_take (some 27) (.pointer (some ⟨g, 2, none⟩)) (by kernel_rfl) (by kernel_rfl) (by kernel_rfl) (fun W hS => by kernel_rfl) ?_
      simp only [put_lit, put_non, List.set_cons_zero, List.set_cons_succ]
      refine wkS_take (some 28) (.pointer (some ⟨g, 2, none⟩)) (by kernel_rfl) (by kernel_rfl) (by kernel_rfl) (fun W hS => by kernel_rfl) ?_
      simp only [put_lit, put_non, List.set_cons_zero, List.set_cons_succ]
      refine wkS_take (some 29) (.pointer (some ⟨g, 4, none⟩)) (by kernel_rfl) (by kernel_rfl) (by kernel_rfl) (fun W hS => by kernel_rfl) ?_
      simp only [put_lit, put_non, List.set_cons_zero, List.set_cons_succ]
      refine wkS_take (some 30) (.pointer (some ⟨g, 5, none⟩)) (by kernel_rfl) (by kernel_rfl) (by kernel_rfl) (fun W hS => by kernel_rfl) ?_
      simp only [put_lit, put_non, List.set_cons_zero, List.set_cons_succ]
      refine wkS_take (some 31) (.slice (some ⟨b0, 0, none⟩) 64 64) (by kernel_rfl) (by kernel_rfl) (by kernel_rfl) (fun W hS => exec_loadCell 33 (.tmp 30) ⟨g, 5, none⟩ _ _ (by kernel_rfl) (by kernel_rfl) hS.2.2 Tryz.underlying33 rfl) ?_
      simp only [put_lit, put_non, List.set_cons_zero, List.set_cons_succ]
      refine wkS_skipW none (by kernel_rfl) (by kernel_rfl) (by kernel_rfl) (exec_mapUpdate (m := .tmp 21) (x := .tmp 26) (v := .tmp 31) (by kernel_rfl) (by kernel_rfl) (by kernel_rfl) (by kernel_rfl) HU.out.1) HT4.out ?_
      simp only [put_lit, put_non, List.set_cons_zero, List.set_cons_succ]
      refine wkS_done ?_
      go_wp2_with (first | ((with_reducible refine wp_loadW rfl 3 rfl w.heap.size 0 (wrC q b) ?hx (range_whole HX4.out) rfl ?_); (case hx => rfl)) | ((with_reducible refine wp_storeL (q := q) (b := b) HF4.out rfl 35 33 rfl ?hx ?hy ?_); (case hx => rfl); (case hy => rfl); intro w5 hF5 hG5; have HF5 := Lib.hid hF5; have HG5 := Lib.hid hG5; clear hF5 hG5))
      go_end0
      refine ⟨rfl, .map (some bm), HF5.out, HM4.out.keep HG5.out.size (fun j hj hg => HG5.out.block j hj fun e => hg.2.1 (by injection e)) (fun j hj hg => ⟨.inl hg.1, hg.2⟩), HNM.out, HG5.out.os.trans OSS.out.1, HG5.out.tape.trans OSS.out.2.1, HG5.out.output.trans OSS.out.2.2, Nat.le_trans HSZ.out HG5.out.size, fun j hj hjg hjm => ?_⟩
      exact (HG5.out.block j (Nat.lt_of_lt_of_le hj HSZ.out) fun e => hjg (by injection e)).trans (FRM.out j hj hjg hjm)
end
end Go.Proofs.YtckomifecmemnaaGreat

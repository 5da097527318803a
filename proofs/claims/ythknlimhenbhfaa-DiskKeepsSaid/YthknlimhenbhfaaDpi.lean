/- The program's disk: settle; what methods turn. -/
import Derived.Test.YthknlimhenbhfaaDph
namespace Go.Proofs.Ythknlimhenbhfaa
set_option linter.unusedSimpArgs false
open Go.RowKit Dig
set_option linter.unusedVariables false

/-! ### What turns -/
section
variable {w w1 w2 : World} {F F' : Nat → Prop}
theorem Turn.refl (F : Nat → Prop) (w : World) : Turn F w w := ⟨rfl, rfl, rfl, Nat.le_refl _, fun _ _ _ => rfl⟩
theorem Turn.of_below (F : Nat → Prop) (h : Below w.heap.size w w1) : Turn F w w1 := ⟨h.os, h.tape, h.output, h.size, fun b hb _ => h.block b hb⟩
theorem Turn.of_grown {row : Option Nat} (h : w.grownBy w1 row) (hF : ∀ k, row = some k → F k) : Turn F w w1 := ⟨h.os, h.tape, h.output, h.size, fun b hb hn => h.block b hb fun e => hn (hF b e.symm)⟩
theorem Turn.then (h : Turn F w w1) (h2 : Turn F' w1 w2) (hF : ∀ k, k < w.heap.size → F' k → F k) : Turn F w w2 := by
  obtain ⟨a1, a2, a3, a4, a5⟩ := h
  obtain ⟨b1, b2, b3, b4, b5⟩ := h2
  exact ⟨b1.trans a1, b2.trans a2, b3.trans a3, Nat.le_trans a4 b4, fun b hb hn => (b5 b (Nat.lt_of_lt_of_le hb a4) fun h => hn (hF b hb h)).trans (a5 b hb hn)⟩
end
section
variable {w w' : World} {g bd bv n n' : Nat} {ve ve' : Value} {on on' : Bool} {c c' : Int} {es es' : List Ent} {L V L' V' : List (List UInt8)} {s : DS}
theorem Mem.turn (h : Mem w g bd bv ve n on c es L V) (h' : Mem w' g bd bv ve' n' on' c' es' L' V') (hT : Turn (fun k => k = g ∨ k = bd ∨ k = bv ∨ ve.ownBlock = some k) w w') (hve : ve'.ownBlock = ve.ownBlock ∨ ∀ k, ve'.ownBlock = some k → w.heap.size ≤ k) (hes : ∀ e ∈ es', e ∈ es ∨ w.heap.size ≤ e.2) :
    Turn (fpP w g) w w' ∧ ∀ b, fpP w' g b → fpP w g b ∨ w.heap.size ≤ b := by
  obtain ⟨t1, t2, t3, t4, t5⟩ := hT
  refine ⟨⟨t1, t2, t3, t4, fun b hb hn => t5 b hb fun hk => hn (h.fp.2 ?_)⟩, fun b hb => ?_⟩
  · rcases hk with e | e | e | e
    · exact .inl e
    · exact .inr (.inl e)
    · exact .inr (.inr (.inl e))
    · exact .inr (.inr (.inr (.inl e)))
  · rcases h'.fp.1 hb with e | e | e | e | ⟨x, hx, e⟩
    · exact .inl (h.fp.2 (.inl e))
    · exact .inl (h.fp.2 (.inr (.inl e)))
    · exact .inl (h.fp.2 (.inr (.inr (.inl e))))
    · rcases hve with hv | hv
      · exact .inl (h.fp.2 (.inr (.inr (.inr (.inl (hv.symm.trans e))))))
      · exact .inr (hv b e)
    · rcases hes x hx with hx' | hx'
      · exact .inl (h.fp.2 (.inr (.inr (.inr (.inr ⟨x, hx', e⟩)))))
      · exact .inr (by omega)
/-- The cells of no pending writes. -/
def queC : List Value := [.int .i64 0, .slice none 0 0, .int .i64 0, .slice none 0 0, .map none]
theorem size_que : (Try.prog.info? 58).map (·.size) = some queC.length := by kernel_rfl
theorem queC_one : ∀ u ∈ queC, u.oneCell' = true := by
  intro u hu
  simp only [queC, List.mem_cons, List.not_mem_nil, or_false] at hu
  rcases hu with rfl | rfl | rfl | rfl | rfl <;> rfl
theorem Fld.wipe {k : Nat} (h : Fld w g bd bv ve k n on c) : Fld (spl w g 2 queC) g bd bv (.slice none 0 0) 0 n on c := by
  unfold Fld at h ⊢
  unfold spl
  rw [h]
  exact setRow_heap w g _ _ _ (0, 0) h
/-- The queue is emptied. -/
theorem wp_storeQ {ops : Array Oper} {rest : List Oper} {o : Oper} {a : Act} {Q : Exit → Act → World → Prop} {k : Nat} (h : Fld w g bd bv ve k n on c) (hgd : o.guard = none) (t s : Tmp) (ho : o.op = .store 58 (.tmp t) (.tmp s)) (hx : a.eval (.tmp t) = .pointer (some ⟨g, 2, none⟩)) (hy : a.eval (.tmp s) = .agg queC.toArray)
    (hh : ∀ w', Fld w' g bd bv (.slice none 0 0) 0 n on c → w.grownBy w' (some g) → wpList Try.prog ops Q rest (a.put o.dst undef) w') : wpList Try.prog ops Q (o :: rest) a w := by
  refine wpList_plain hgd fun K hK => ?_
  have hr := exec_storeC (w := w) (ev := a.eval) (o := o) t s size_que h (by show 2 + 5 ≤ 9; omega) queC_one ho hx hy
  unfold Oper.wp
  rw [hr]
  exact hK _ _ (hh _ h.wipe (grown_spl (World.grownBy.refl _ _)))
set_option maxRecDepth 20000 in
set_option maxHeartbeats 8000000 in
theorem psettle_c (h : Mem w g bd bv ve L.length on c es L V) (hL : ∀ x ∈ L, x.length = 64) (hn : L.length ≤ 8192) (hk : es.length ≤ 63) (hes : ∀ e ∈ es, e.1.1 < L.length ∧ e.1.2.length = 64) (keep : Nat) (hkeep : keep < 18446744073709551616) (torn : Int) :
    Calls Try.prog 36 #[.pointer (some ⟨g, 0, none⟩), .int .u64 (keep : Int), .int .i64 torn] w fun e w' => e = .returned (.tuple #[]) ∧ Mem w' g bd bv (.slice none 0 0) L.length on c [] (perfL (keptS keep 0 (es.map (·.1))).length torn L 0 (keptS keep 0 (es.map (·.1)))) V ∧ Turn (fun k => k = g ∨ k = bd ∨ k = bv ∨ ve.ownBlock = some k) w w' := by
  have hw0 : Below w.heap.size w w.drew := (Below.refl _ _).drew
  have HM := Lib.hid (h.below hw0)
  have SV := Lib.hid (psurv_c (h.below hw0) hk keep hkeep)
  have PF := Lib.hid (fun (u : World) (r : Value) (hS : SecB u bd L) (hr : Cel u r 2 (keptE keep 0 es).length (entC (keptE keep 0 es))) (hb : r.ownBlock ≠ some bd) (hR : ReadyE u bd L.length (keptE keep 0 es)) => pperform_c hS hL hn hr hb (Nat.le_trans (keptE_length keep es 0) hk) hR torn)
  have HES := Lib.hid hes
  have HF := Lib.hid (show (keptE keep 0 es).map (·.1) = keptS keep 0 (es.map (·.1)) from keptE_fst keep es 0)
  have c0 : ∀ W : World, W.cell? ⟨g, 0, none⟩ = some (rowV bd L.length) → W.cell? ⟨g, 0, none⟩ = some (rowV bd L.length) := fun _ h => h
  clear h hL hn hk hes hkeep
  go_enter Try.func36, Try.ntmps36
  go_wp2_with fail
  refine wp_region_plan (S := fun W => W.cell? ⟨g, 0, none⟩ = some (rowV bd L.length)) [(0, true), (1, true), (2, true), (3, true), (4, true), (5, true), (6, true), (7, true), (9, true), (8, false), (10, false)] (by kernel_rfl) (by kernel_rfl) (by kernel_rfl) (by kernel_rfl) (fun _ _ d _ _ h => by cases d <;> exact h) HM.out.fld.cells.1 ?_
  refine wkS_take (some 6) (.pointer (some ⟨g, 0, none⟩)) (by kernel_rfl) (by kernel_rfl) (by kernel_rfl) (fun W hS => by kernel_rfl) ?_
  simp only [put_lit, put_non, List.set_cons_zero, List.set_cons_succ]
  refine wkS_take (some 7) (.pointer (some ⟨g, 0, none⟩)) (by kernel_rfl) (by kernel_rfl) (by kernel_rfl) (fun W hS => by kernel_rfl) ?_
  simp only [put_lit, put_non, List.set_cons_zero, List.set_cons_succ]
  refine wkS_take (some 8) (.pointer (some ⟨g, 0, none⟩)) (by kernel_rfl) (by kernel_rfl) (by kernel_rfl) (fun W hS => by kernel_rfl) ?_
  simp only [put_lit, put_non, List.set_cons_zero, List.set_cons_succ]
  refine wkS_take (some 9) (rowV bd L.length) (by kernel_rfl) (by kernel_rfl) (by kernel_rfl) (fun W hS => exec_loadCell 32 (.tmp 8) ⟨g, 0, none⟩ _ _ (by kernel_rfl) (by kernel_rfl) hS Try.underlying32 rfl) ?_
  simp only [put_lit, put_non, List.set_cons_zero, List.set_cons_succ]
  refine wkS_take (some 10) (.pointer (some ⟨g, 0, none⟩)) (by kernel_rfl) (by kernel_rfl) (by kernel_rfl) (fun W hS => by kernel_rfl) ?_
  simp only [put_lit, put_non, List.set_cons_zero, List.set_cons_succ]
  refine wkS_take (some 11) (.pointer (some ⟨g, 0, none⟩)) (by kernel_rfl) (by kernel_rfl) (by kernel_rfl) (fun W hS => by kernel_rfl) ?_
  simp only [put_lit, put_non, List.set_cons_zero, List.set_cons_succ]
  refine wkS_take (some 12) (.pointer (some ⟨g, 2, none⟩)) (by kernel_rfl) (by kernel_rfl) (by kernel_rfl) (fun W hS => by kernel_rfl) ?_
  simp only [put_lit, put_non, List.set_cons_zero, List.set_cons_succ]
  refine wkS_take (some 13) (.int .u64 (keep : Int)) (by kernel_rfl) (by kernel_rfl) (by kernel_rfl) (fun W hS => by kernel_rfl) ?_
  simp only [put_lit, put_non, List.set_cons_zero, List.set_cons_succ]
  refine wkS_take (some 15) (.int .i64 torn) (by kernel_rfl) (by kernel_rfl) (by kernel_rfl) (fun W hS => by kernel_rfl) ?_
  simp only [put_lit, put_non, List.set_cons_zero, List.set_cons_succ]
  refine wkS_call (some 14) 43 #[.pointer (some ⟨g, 2, none⟩), .int .u64 (keep : Int)] (by kernel_rfl) (by kernel_rfl) (by kernel_rfl) (fun w => (by kernel_rfl)) ?_
  refine (SV.out).mono ?_
  rintro e u ⟨r, rfl, hO, hB⟩
  have hMu := HM.out.below hB
  have hrb : r.ownBlock ≠ some bd := fun e => by
    have h1 := (hO.lt bd e).1
    have h2 := HM.out.dur.lt
    omega
  have hRd : ReadyE u bd L.length (keptE keep 0 es) := fun e he => by
    have he' := keptE_mem keep es 0 e he
    exact ⟨(hMu.lets e he').1, (hMu.lets e he').2.2.1, HES.out e he'⟩
  have hu := own_cel hO
  have HMU := Lib.hid hMu
  have HBU := Lib.hid (show Below w.heap.size w u from ⟨hB.os, hB.tape, hB.output, hB.size, hB.block⟩)
  have PFU := Lib.hid (PF.out u r hMu.dur hu hrb hRd)
  refine ⟨r, rfl, hMu.fld.cells.1, ?_⟩
  clear hO hB hMu hrb hRd hu SV PF
  simp only [put_lit, put_non, List.set_cons_zero, List.set_cons_succ]
  refine wkS_call (some 16) 42 #[rowV bd L.length, r, .int .i64 torn] (by kernel_rfl) (by kernel_rfl) (by kernel_rfl) (fun w => (by kernel_rfl)) ?_
  refine (PFU.out).mono ?_
  rintro e u2 ⟨rfl, hS2, hG2⟩
  have hM2 := HMU.out.done hS2 hG2
  rw [show (keptE keep 0 es).length = (keptS keep 0 (es.map (·.1))).length from by rw [← HF.out, List.length_map], HF.out] at hM2
  have HM2 := Lib.hid hM2
  have HG2 := Lib.hid hG2
  refine ⟨.tuple #[], rfl, hM2.fld.cells.1, ?_⟩
  clear hS2 hG2 hM2 PFU
  simp only [put_lit, put_non, List.set_cons_zero, List.set_cons_succ]
  refine wkS_done ?_
  clear c0 HM
  go_wp2_with ((with_reducible refine wp_storeQ HM2.out.fld rfl 20 18 rfl ?hx ?hy ?_); (case hx => rfl); (case hy => rfl); intro u3 hF3 hG3; have HF3 := Lib.hid hF3; have HG3 := Lib.hid hG3; clear hF3 hG3)
  go_end0
  refine ⟨rfl, HM2.out.bare HF3.out HG3.out, ?_⟩
  have T1 : Turn (fun k => k = g ∨ k = bd ∨ k = bv ∨ ve.ownBlock = some k) u u2 := Turn.of_grown HG2.out fun k e => by injection e with e; exact .inr (.inl e.symm)
  have T2 : Turn (fun k => k = g ∨ k = bd ∨ k = bv ∨ ve.ownBlock = some k) u2 u3 := Turn.of_grown HG3.out fun k e => by injection e with e; exact .inl e.symm
  exact ((Turn.of_below _ HBU.out).then T1 fun _ _ h => h).then T2 fun _ _ h => h
end
end Go.Proofs.Ythknlimhenbhfaa

/- The program's disk: settle. -/
import Derived.Test.YtckomifecmemnaaGreatDqh
namespace Go.Proofs.YtckomifecmemnaaGreat
set_option linter.unusedSimpArgs false
open Go.RowKit Dig
set_option linter.unusedVariables false

section
variable {w w' : World} {F : Nat → Prop} {g bd bv n n' : Nat} {ve ve' : Value} {t : Tl} {on on' : Bool} {c c' : Int} {es es' : List Ent} {ls : List (Nat × List UInt8)} {L V L' V' : List (List UInt8)} {s : DS}
/-- The cells of no pending writes. -/
def queC : List Value := [.int .i64 0, .slice none 0 0, .int .i64 0, .slice none 0 0, .map none]
theorem size_que : (Tryz.prog.info? 58).map (·.size) = some queC.length := by kernel_rfl
theorem queC_one : ∀ u ∈ queC, u.oneCell' = true := by
  intro u hu
  simp only [queC, List.mem_cons, List.not_mem_nil, or_false] at hu
  rcases hu with rfl | rfl | rfl | rfl | rfl <;> rfl
theorem FldG.wipe {k : Nat} (h : FldG w g bd bv ve k t n on c) : FldG (spl w g 2 queC) g bd bv (.slice none 0 0) 0 t0 n on c := by
  unfold FldG at h ⊢
  unfold spl
  rw [h]
  exact setRow_heap w g _ _ _ (0, 0) h
/-- The queue is emptied. -/
theorem wp_storeQ {ops : Array Oper} {rest : List Oper} {o : Oper} {a : Act} {Q : Exit → Act → World → Prop} {k : Nat} (h : FldG w g bd bv ve k t n on c) (hgd : o.guard = none) (q s : Tmp) (ho : o.op = .store 58 (.tmp q) (.tmp s)) (hx : a.eval (.tmp q) = .pointer (some ⟨g, 2, none⟩)) (hy : a.eval (.tmp s) = .agg queC.toArray)
    (hh : ∀ w', FldG w' g bd bv (.slice none 0 0) 0 t0 n on c → w.grownBy w' (some g) → wpList Tryz.prog ops Q rest (a.put o.dst undef) w') : wpList Tryz.prog ops Q (o :: rest) a w := by
  refine wpList_plain hgd fun K hK => ?_
  have hr := exec_storeC (w := w) (ev := a.eval) (o := o) q s size_que h (by show 2 + 5 ≤ 9; omega) queC_one ho hx hy
  unfold Oper.wp
  rw [hr]
  exact hK _ _ (hh _ h.wipe (grown_spl (World.grownBy.refl _ _)))
set_option maxRecDepth 20000 in
set_option maxHeartbeats 8000000 in
theorem qsettle_c (h : MemG w F g bd bv ve t L.length on c es ls L V) (hL : ∀ x ∈ L, x.length = 64) (hn : L.length ≤ 8192) (hk : es.length ≤ 63) (hk2 : ls ≠ [] → es.length = 63) (hls : ls.length ≤ 100000) (hps : ∀ p ∈ es.map (·.1) ++ ls, p.1 < L.length ∧ p.2.length = 64) (keep : Nat) (hkeep : keep < 18446744073709551616) (torn : Int) :
    Calls Tryz.prog 45 #[.pointer (some ⟨g, 0, none⟩), .int .u64 (keep : Int), .int .i64 torn] w fun e w' => e = .returned (.tuple #[]) ∧ MemG w' F g bd bv (.slice none 0 0) t0 L.length on c [] [] (perfL (keptS keep 0 (es.map (·.1) ++ ls)).length torn L 0 (keptS keep 0 (es.map (·.1) ++ ls))) V ∧ Turn F w w' := by
  have hw0 : Below w.heap.size w w.drew := (Below.refl _ _).drew
  have HM := Lib.hid (h.below hw0)
  have SV := Lib.hid (qsurv_c (h.below hw0) hk hk2 hls hps hn keep hkeep)
  have PF := Lib.hid (fun (u : World) (r : Value) (ks : List Ent) (hS : SecB u bd L) (hr : Cel u r 2 ks.length (entC ks)) (hb : r.ownBlock ≠ some bd) (hlen : ks.length ≤ 200000) (hR : ReadyE u bd L.length ks) => qperform_c hS hL hn hr hb hlen hR torn)
  have HLL := Lib.hid hL
  have c0 : ∀ W : World, W.cell? ⟨g, 0, none⟩ = some (rowV bd L.length) → W.cell? ⟨g, 0, none⟩ = some (rowV bd L.length) := fun _ h => h
  clear h hL hn hk hk2 hls hps hkeep
  go_enter Tryz.func45, Tryz.ntmps45
  go_wp2_with fail
  refine wp_region_plan (S := fun W => W.cell? ⟨g, 0, none⟩ = some (rowV bd L.length)) [(0, true), (1, true), (2, true), (3, true), (4, true), (5, true), (6, true), (7, true), (9, true), (8, false), (10, false)] (by kernel_rfl) (by kernel_rfl) (by kernel_rfl) (by kernel_rfl) (fun _ _ d _ _ h => by cases d <;> exact h) HM.out.fld.cells.1 ?_
  refine wkS_take (some 6) (.pointer (some ⟨g, 0, none⟩)) (by kernel_rfl) (by kernel_rfl) (by kernel_rfl) (fun W hS => by kernel_rfl) ?_
  simp only [put_lit, put_non, List.set_cons_zero, List.set_cons_succ]
  refine wkS_take (some 7) (.pointer (some ⟨g, 0, none⟩)) (by kernel_rfl) (by kernel_rfl) (by kernel_rfl) (fun W hS => by kernel_rfl) ?_
  simp only [put_lit, put_non, List.set_cons_zero, List.set_cons_succ]
  refine wkS_take (some 8) (.pointer (some ⟨g, 0, none⟩)) (by kernel_rfl) (by kernel_rfl) (by kernel_rfl) (fun W hS => by kernel_rfl) ?_
  simp only [put_lit, put_non, List.set_cons_zero, List.set_cons_succ]
  refine wkS_take (some 9) (rowV bd L.length) (by kernel_rfl) (by kernel_rfl) (by kernel_rfl) (fun W hS => exec_loadCell 33 (.tmp 8) ⟨g, 0, none⟩ _ _ (by kernel_rfl) (by kernel_rfl) hS Tryz.underlying33 rfl) ?_
  simp only [put_lit, put_non, List.set_cons_zero, List.set_cons_succ]
  refine wkS_take (some 10) (.pointer (some ⟨g, 0, none⟩)) (by kernel_rfl) (by kernel_rfl) (by kernel_rfl) (fun W hS => by kernel_rfl) ?_
  simp only [put_lit, put_non, List.set_cons_zero, List.set_cons_succ]
  refine wkS_take (some 11) (.pointer (some ⟨g, 0, none⟩)) (by kernel_rfl) (by kernel_rfl) (by kernel_rfl) (fun W hS => by kernel_rfl) ?_
  simp only [put_lit, put_non, List.set_cons_zero, List.set_cons_succ]
  refine wkS_take (some 12) (.pointer (some ⟨g, 2, none⟩)) (by kernel_rfl) (by kernel_rfl) (by kernel_rfl) (fun W hS => by kernel_rfl) ?_
  simp only [put_lit, put_non, List.set_cons_zero, List.set_cons_succ]
  refine wkS_take (some 13) (.int .u64 (keep : Int)) (by kernel_rfl) (by kernel_rfl) (by kernel_rfl) (fun W hS => by kernel_rfl) ?_
  simp only [put_lit, put_non, List.set_cons_zero, List.set_cons_succ]
  refine wkS_take (some 15) (.int .i64 torn) (by kernel_rfl) (by kernel_rfl) (by kernel_rfl) (fun W hS => by kernel_rfl) ?_
  simp only [put_lit, put_non, List.set_cons_zero, List.set_cons_succ]
  refine wkS_call (some 14) 73 #[.pointer (some ⟨g, 2, none⟩), .int .u64 (keep : Int)] (by kernel_rfl) (by kernel_rfl) (by kernel_rfl) (fun w => (by kernel_rfl)) ?_
  refine (SV.out).mono ?_
  rintro e u ⟨r, ks, rfl, hO, hB, hkl, hkE, hperf⟩
  have hMu := HM.out.below hB
  have hrb : r.ownBlock ≠ some bd := fun e => by
    have h1 := (hO.lt bd e).1
    have h2 := HM.out.dur.lt
    omega
  have hRd : ReadyE u bd L.length ks := fun e he => by
    obtain ⟨h1, h2, h3⟩ := hkE e he
    exact ⟨h1.keepB (hB.block _ h1.lt), h2.2.2.1, h3⟩
  have hu := own_cel hO
  have HMU := Lib.hid hMu
  have HBU := Lib.hid (show Below w.heap.size w u from ⟨hB.os, hB.tape, hB.output, hB.size, hB.block⟩)
  have PFU := Lib.hid (PF.out u r ks hMu.dur hu hrb hkl hRd)
  have HPF := Lib.hid (hperf torn L HLL.out rfl)
  refine ⟨r, rfl, hMu.fld.cells.1, ?_⟩
  clear hO hB hMu hrb hRd hu hkl hkE hperf SV PF
  simp only [put_lit, put_non, List.set_cons_zero, List.set_cons_succ]
  refine wkS_call (some 16) 72 #[rowV bd L.length, r, .int .i64 torn] (by kernel_rfl) (by kernel_rfl) (by kernel_rfl) (fun w => (by kernel_rfl)) ?_
  refine (PFU.out).mono ?_
  rintro e u2 ⟨rfl, hS2, hG2⟩
  have hM2 := HMU.out.done hS2 hG2
  rw [HPF.out] at hM2
  have HM2 := Lib.hid hM2
  have HG2 := Lib.hid hG2
  refine ⟨.tuple #[], rfl, hM2.fld.cells.1, ?_⟩
  clear hS2 hG2 hM2 PFU
  simp only [put_lit, put_non, List.set_cons_zero, List.set_cons_succ]
  refine wkS_done ?_
  clear c0 HM
  go_wp2_with ((with_reducible refine wp_storeQ HM2.out.fld rfl 20 18 rfl ?hx ?hy ?_); (case hx => rfl); (case hy => rfl); intro u3 hF3 hG3; have HF3 := Lib.hid hF3; have HG3 := Lib.hid hG3; clear hF3 hG3)
  go_end0
  refine ⟨rfl, HM2.out.bare HF3.out HG3.out, ?_⟩
  have T1 : Turn F u u2 := Turn.of_grown HG2.out fun k e => by injection e with e; rw [← e]; exact HM2.out.fin.2.1
  have T2 : Turn F u2 u3 := Turn.of_grown HG3.out fun k e => by injection e with e; rw [← e]; exact HM2.out.fin.1
  exact ((Turn.of_below _ HBU.out).then T1 fun _ _ h => h).then T2 fun _ _ h => h
end
end Go.Proofs.YtckomifecmemnaaGreat

/- The program's disk: the survivors are performed on the durable sectors (perform). -/
import Derived.Test.YtckomifecmemnaaGreatDqg
namespace Go.Proofs.YtckomifecmemnaaGreat
set_option linter.unusedSimpArgs false
open Go.RowKit Dig
set_option linter.unusedVariables false

/-- What a list of entries to be performed must be. -/
def ReadyE (w : World) (bd n : Nat) (ks : List Ent) : Prop := ∀ e ∈ ks, LetB w e.2 e.1.2 ∧ e.2 ≠ bd ∧ e.1.1 < n ∧ e.1.2.length = 64
theorem ReadyE.grown {w w' : World} {bd n : Nat} {ks : List Ent} (h : ReadyE w bd n ks) (hg : w.grownBy w' (some bd)) : ReadyE w' bd n ks := fun e he =>
  ⟨(h e he).1.keepB (hg.block _ (h e he).1.lt (fun e1 => (h e he).2.1 (by injection e1))), (h e he).2⟩
theorem perf_take (m : Nat) (torn : Int) (L : List (List UInt8)) (ks : List Ent) {j : Nat} (hj : j < ks.length) : perfL m torn L 0 ((ks.take (j + 1)).map (·.1)) = perf1 m torn (perfL m torn L 0 ((ks.take j).map (·.1))) j ks[j].1 := by
  rw [List.take_add_one, List.getElem?_eq_getElem hj, List.map_append]
  show perfL m torn L 0 ((ks.take j).map (·.1) ++ [ks[j].1]) = _
  rw [perf_snoc, Nat.zero_add, List.length_map, List.length_take, Nat.min_eq_left (by omega)]
section
variable {w : World} {bd m : Nat} {L : List (List UInt8)} {ks : List Ent} {r : Value}
/-- The bytes of one round: a part of the sector is replaced. -/
theorem perf_bytes {w' : World} {bd : Nat} {L : List (List UInt8)} {m j : Nat} {torn : Int} {p : Nat × List UInt8} (hL : ∀ x ∈ L, x.length = 64) (hp : p.1 < L.length ∧ p.2.length = 64) (h : w'.heap[bd]? = some (.cells (splice (secC L) (p.1 * 64) (Y (p.2.take (tornS m torn j)))).toArray 5 (0, 0))) : SecB w' bd (perf1 m torn L j p) := by
  unfold SecB perf1
  rw [h, secC_mix hp.1 hL hp.2 (torn_le _ _ _)]
set_option maxRecDepth 20000 in
set_option maxHeartbeats 8000000 in
theorem qperform_c (h : SecB w bd L) (hL : ∀ x ∈ L, x.length = 64) (hn : L.length ≤ 8192) (hr : Cel w r 2 ks.length (entC ks)) (hrb : r.ownBlock ≠ some bd) (hks : ks.length ≤ 200000) (hR : ReadyE w bd L.length ks) (torn : Int) :
    Calls Tryz.prog 72 #[rowV bd L.length, r, .int .i64 torn] w fun e w' => e = .returned (.tuple #[]) ∧ SecB w' bd (perfL ks.length torn L 0 (ks.map (·.1))) ∧ w.grownBy w' (some bd) := by
  have H := Lib.hid h
  have HL := Lib.hid hL
  have HN := Lib.hid hn
  have HC := Lib.hid hr
  have HK := Lib.hid hks
  have HR := Lib.hid hR
  have HRB := Lib.hid hrb
  obtain ⟨Ar, cr, rfl⟩ := hr.form
  have hki : (ks.length : Int) ≤ 200000 := by omega
  unfold rowV
  clear h hL hr hks hR hrb
  obtain ⟨N, eN⟩ : ∃ N, L.length * 64 = N := ⟨_, rfl⟩
  rw [eN]
  have EN := Lib.hid eN
  have hNi : (N : Int) ≤ 524288 := by omega
  clear eN hn
  obtain ⟨m, em⟩ : ∃ m, ks.length = m := ⟨_, rfl⟩
  have EM := Lib.hid em
  rw [em] at hki HC HK
  rw [em]
  clear em
  go_enter Tryz.func72, Tryz.ntmps72
  go_wp2_with fail
  go_loopw [11] (fun i wr => ∃ j : Nat, j ≤ m ∧ i = .int .i64 j ∧ SecB wr bd (perfL m torn L 0 ((ks.take j).map (·.1))) ∧ w.grownBy wr (some bd)) (fun i _ => m - (intOf i).toNat)
  case atStart => exact ⟨0, Nat.zero_le _, rfl, H.out, World.grownBy.refl _ _⟩
  case round =>
    obtain ⟨j, hj, rfl, hS, hG⟩ := hrel
    by_cases hjm : j < m
    · have HJ : (j : Int) < m := by omega
      have hje : j < ks.length := by rw [EM.out]; exact hjm
      have hRj := HR.out ks[j] (List.getElem_mem hje)
      have hT := perf_take m torn L ks hje
      have hpart := entC_part hje
      have hok := perf_ok m torn ((ks.take j).map (·.1)) L 0 HL.out (fun p hp => by
        obtain ⟨e, he, rfl⟩ := List.mem_map.1 hp
        have := HR.out e (List.mem_of_mem_take he)
        exact this.2.2)
      generalize ks[j] = e at hT hpart hRj
      obtain ⟨⟨q, x⟩, b⟩ := e
      obtain ⟨hlet, hbd, hq, hx⟩ := hRj
      obtain ⟨b2, ob, rfl, hb2, hrg⟩ := HC.out.range (by omega)
      have hrp := range_part hrg (j * 2) 2
      rw [hpart] at hrp
      have hrp : wr.rangeAt b2 (ob + j * 2) [Value.int .i64 (q : Int), .slice (some ⟨b, 0, none⟩) 64 64] := fun k u hk => by
        rw [World.cell?_of_block (a := ⟨b2, ob + j * 2 + k, none⟩) (hG.block b2 hb2 (fun e => HRB.out e))]
        exact hrp k u hk
      have hlet2 := hlet.keepB (hG.block b hlet.lt (fun e => hbd (by injection e)))
      obtain ⟨X, hX⟩ : ∃ X, perfL m torn L 0 ((ks.take j).map (·.1)) = X := ⟨_, rfl⟩
      rw [hX] at hS hok hT
      have hpq : q < X.length ∧ x.length = 64 := ⟨by rw [hok.2]; exact hq, hx⟩
      have HPQ := Lib.hid hpq
      have HT := Lib.hid hT
      have HOK := Lib.hid hok
      have HX64 := Lib.hid (show x.length = 64 from hx)
      have HQN := Lib.hid (show q * 64 + 64 ≤ X.length * 64 from by omega)
      have HRP := Lib.hid hrp
      have HSL := Lib.hid (show bd < wr.heap.size from hS.lt)
      have SE := Lib.hid (fun W : World => qsector_c W bd N N q (by have := EN.out; have : q < L.length := hq; omega) (Nat.le_refl _) (by omega))
      have AFT : Hid (∀ w2 w3 : World, Below wr.heap.size wr w2 → w2.grownBy w3 (some wr.heap.size) → SecB w3 bd X ∧ LetB w3 b x ∧ w.grownBy w3 (some bd)) := Lib.hid fun w2 w3 hB2 hG3 => by
        have st : ∀ k, k < wr.heap.size → w3.heap[k]? = wr.heap[k]? := fun k hk => (hG3.block k (by have := hB2.size; omega) (fun e => by injection e with e; omega)).trans (hB2.block k hk)
        exact ⟨hS.keepB (st bd hS.lt), hlet2.keepB (st b hlet2.lt), grown_trans hG ⟨hG3.os.trans hB2.os, hG3.tape.trans hB2.tape, hG3.output.trans hB2.output, Nat.le_trans hB2.size hG3.size, fun k hk _ => st k hk⟩⟩
      clear hpq hT hok hx hrp hS hq hlet hlet2 hbd hG hpart hrg hX
      by_cases hlast : j + 1 = m
      · have hJ1 : (m : Int) - 1 = (j : Int) := by omega
        by_cases ht0 : 0 ≤ torn
        · by_cases ht64 : torn < 64
          · obtain ⟨T, rfl⟩ := Int.eq_ofNat_of_zero_le ht0
            have hT64 : T ≤ 64 := by omega
            have FIN : Hid (∀ w5 : World, w5.heap[bd]? = some (.cells (splice (secC X) (q * 64) (Y (x.take T))).toArray 5 (0, 0)) → SecB w5 bd (perfL m (T : Int) L 0 ((ks.take (j + 1)).map (·.1)))) := Lib.hid fun w5 h5 => by
              rw [HT.out]
              refine perf_bytes (j := j) (torn := (T : Int)) HOK.out.1 HPQ.out ?_
              rw [show tornS m (T : Int) j = T from by unfold tornS; rw [if_pos ⟨hlast, ht0, ht64⟩]; exact Int.toNat_natCast T]
              exact h5

            clear ht0
            go_wp2_with (first | ((with_reducible refine wp_loadW rfl 14 rfl b2 (ob + j * 2) _ ?hx HRP.out rfl ?_); (case hx => rfl)) | ((with_reducible refine wp_allocC zero_wr rfl rfl ?_); intro w2 hA hB2; have HA2 := Lib.hid hA; have B2 := Lib.hid hB2; clear hA hB2) | ((with_reducible refine wp_storeC (T := 55) (e := 55) (g := wr.heap.size) (cur := #[.int .i64 0, .slice none 0 0]) (cs := [Value.int .i64 (q : Int), .slice (some ⟨b, 0, none⟩) 64 64]) ?hi ?hg ?hl ?h1 ?hgd 7 15 ?ho ?hx ?hy ?_); (case hgd => rfl); (case ho => rfl); (case hi => exact size_wr); (case hg => exact HA2.out); (case hl => rfl); (case h1 => (intro u hu; simp only [List.mem_cons, List.not_mem_nil, or_false] at hu; rcases hu with rfl | rfl <;> rfl)); (case hx => rfl); (case hy => rfl); intro w3 hC hG3; have HC3 := Lib.hid hC; have HG3 := Lib.hid hG3; clear hC hG3))
            have A3 := AFT.out w2 w3 B2.out HG3.out
            obtain ⟨hS3, hL3, hG03⟩ := A3
            have HS3 := Lib.hid hS3
            have HL3 := Lib.hid hL3
            have HG0 := Lib.hid hG03
            have cl0 : ∀ W : World, W.heap[wr.heap.size]? = some (.cells [Value.int .i64 (q : Int), .slice (some ⟨b, 0, none⟩) 64 64].toArray 55 (0, 0)) → W.cell? ⟨wr.heap.size, 0, none⟩ = some (.int .i64 (q : Int)) := fun W h => cell_of_row W _ 0 _ _ (0, 0) h
            have cl1 : ∀ W : World, W.heap[wr.heap.size]? = some (.cells [Value.int .i64 (q : Int), .slice (some ⟨b, 0, none⟩) 64 64].toArray 55 (0, 0)) → W.cell? ⟨wr.heap.size, 1, none⟩ = some (.slice (some ⟨b, 0, none⟩) 64 64) := fun W h => cell_of_row W _ 1 _ _ (0, 0) h
            clear hS3 hL3 hG03
            refine wp_region_plan (S := fun W => W.heap[wr.heap.size]? = some (.cells [Value.int .i64 (q : Int), .slice (some ⟨b, 0, none⟩) 64 64].toArray 55 (0, 0))) [(0, true), (1, true), (2, true), (4, true), (5, true), (6, true), (7, true), (3, false), (8, false)] (by kernel_rfl) (by kernel_rfl) (by kernel_rfl) (by kernel_rfl) (fun _ _ d _ _ h => by cases d <;> exact h) HC3.out ?_
            refine wkS_take (some 28) (.slice (some ⟨bd, 0, none⟩) N N) (by kernel_rfl) (by kernel_rfl) (by kernel_rfl) (fun W hS => by kernel_rfl) ?_
            simp only [put_lit, put_non, List.set_cons_zero, List.set_cons_succ]
            refine wkS_take (some 29) (.pointer (some ⟨wr.heap.size, 0, none⟩)) (by kernel_rfl) (by kernel_rfl) (by kernel_rfl) (fun W hS => by kernel_rfl) ?_
            simp only [put_lit, put_non, List.set_cons_zero, List.set_cons_succ]
            refine wkS_take (some 30) (.int .i64 (q : Int)) (by kernel_rfl) (by kernel_rfl) (by kernel_rfl) (fun W hS => exec_loadCell 3 (.tmp 29) ⟨wr.heap.size, 0, none⟩ _ _ (by kernel_rfl) (by kernel_rfl) (cl0 W hS) Tryz.underlying3 rfl) ?_
            simp only [put_lit, put_non, List.set_cons_zero, List.set_cons_succ]
            refine wkS_take (some 32) (.pointer (some ⟨wr.heap.size, 1, none⟩)) (by kernel_rfl) (by kernel_rfl) (by kernel_rfl) (fun W hS => by kernel_rfl) ?_
            simp only [put_lit, put_non, List.set_cons_zero, List.set_cons_succ]
            refine wkS_take (some 33) (.slice (some ⟨b, 0, none⟩) 64 64) (by kernel_rfl) (by kernel_rfl) (by kernel_rfl) (fun W hS => exec_loadCell 33 (.tmp 32) ⟨wr.heap.size, 1, none⟩ _ _ (by kernel_rfl) (by kernel_rfl) (cl1 W hS) Tryz.underlying33 rfl) ?_
            simp only [put_lit, put_non, List.set_cons_zero, List.set_cons_succ]
            refine wkS_take (some 34) (.int .i64 (T : Int)) (by kernel_rfl) (by kernel_rfl) (by kernel_rfl) (fun W hS => by kernel_rfl) ?_
            simp only [put_lit, put_non, List.set_cons_zero, List.set_cons_succ]
            refine wkS_take (some 35) (.slice (some ⟨b, 0, none⟩) T 64) (by kernel_rfl) (by kernel_rfl) (by kernel_rfl) (fun W hS => exec_cutB 33 34 (n := 64) (c := 64) (k := T) (by kernel_rfl) (by kernel_rfl) (by kernel_rfl) (by omega) (by omega)) ?_
            simp only [put_lit, put_non, List.set_cons_zero, List.set_cons_succ]
            refine wkS_call (some 31) 78 #[.slice (some ⟨bd, 0, none⟩) N N, .int .i64 (q : Int)] (by kernel_rfl) (by kernel_rfl) (by kernel_rfl) (fun w => (by kernel_rfl)) ?_
            refine (SE.out w3.drew).mono ?_
            rintro e u ⟨rfl, hBu⟩
            have hBu3 : Below w3.heap.size w3 u := below_undrew hBu
            refine ⟨.slice (some ⟨bd, q * 64, none⟩) 64 (N - q * 64), rfl, (hBu3.block _ (lt_of_heap HC3.out)).trans HC3.out, ?_⟩
            have hSu := HS3.out.keepB (hBu3.block _ HS3.out.lt)
            have hLu := HL3.out.keepB (hBu3.block _ HL3.out.lt)
            have hGu : w.grownBy u (some bd) := grown_trans HG0.out ⟨hBu3.os, hBu3.tape, hBu3.output, hBu3.size, fun k hk _ => hBu3.block k hk⟩
            have hpt := hLu.part (n := T) (c := 64) (by have := HX64.out; omega) (by omega) (by unfold maxLen; omega)
            obtain ⟨w5, hr5, hh5, hg5, hz5⟩ := copy_w (g := bd) (off := q * 64) (n := 64) (c := N - q * 64) hpt hSu (by have := HQN.out; have := secC_length HOK.out.1; omega) (by rw [List.length_take]; omega)
            have hC5 : w5.heap[wr.heap.size]? = some (.cells [Value.int .i64 (q : Int), .slice (some ⟨b, 0, none⟩) 64 64].toArray 55 (0, 0)) := (hg5.block _ (by have := lt_of_heap HC3.out; have := hBu3.size; omega) (fun e => by injection e with e; have := HSL.out; omega)).trans ((hBu3.block _ (lt_of_heap HC3.out)).trans HC3.out)
            have HFN := Lib.hid (FIN.out w5 hh5)
            have HG5 := Lib.hid (grown_trans hGu hg5)
            clear hh5 hg5 hSu hLu hGu hBu3 hBu hpt
            simp only [put_lit, put_non, List.set_cons_zero, List.set_cons_succ]
            refine wkS_doW (some 36) (goInt (x.take T).length) (by kernel_rfl) (by kernel_rfl) (by kernel_rfl) (hr5 _ _ (.tmp 31) (.tmp 35) (by kernel_rfl) (by kernel_rfl) (by kernel_rfl)) hC5 ?_
            simp only [put_lit, put_non, List.set_cons_zero, List.set_cons_succ]
            refine wkS_done ?_
            clear hr5 hC5 hz5 cl0 cl1
            go_wp2_with fail
            go_roundw
            case rel => exact ⟨j + 1, by omega, by go_num, HFN.out, HG5.out⟩
            case measure => simp [intOf]; omega
          · have ht64' : (64 : Int) ≤ torn := by omega
            have FIN : Hid (∀ w5 : World, w5.heap[bd]? = some (.cells (splice (secC X) (q * 64) (Y (x.take 64))).toArray 5 (0, 0)) → SecB w5 bd (perfL m torn L 0 ((ks.take (j + 1)).map (·.1)))) := Lib.hid fun w5 h5 => by
              rw [HT.out]
              refine perf_bytes (j := j) (torn := torn) HOK.out.1 HPQ.out ?_
              rw [show tornS m torn j = 64 from by unfold tornS; rw [if_neg (by omega)]]
              exact h5

            clear ht64
            go_wp2_with (first | ((with_reducible refine wp_loadW rfl 14 rfl b2 (ob + j * 2) _ ?hx HRP.out rfl ?_); (case hx => rfl)) | ((with_reducible refine wp_allocC zero_wr rfl rfl ?_); intro w2 hA hB2; have HA2 := Lib.hid hA; have B2 := Lib.hid hB2; clear hA hB2) | ((with_reducible refine wp_storeC (T := 55) (e := 55) (g := wr.heap.size) (cur := #[.int .i64 0, .slice none 0 0]) (cs := [Value.int .i64 (q : Int), .slice (some ⟨b, 0, none⟩) 64 64]) ?hi ?hg ?hl ?h1 ?hgd 7 15 ?ho ?hx ?hy ?_); (case hgd => rfl); (case ho => rfl); (case hi => exact size_wr); (case hg => exact HA2.out); (case hl => rfl); (case h1 => (intro u hu; simp only [List.mem_cons, List.not_mem_nil, or_false] at hu; rcases hu with rfl | rfl <;> rfl)); (case hx => rfl); (case hy => rfl); intro w3 hC hG3; have HC3 := Lib.hid hC; have HG3 := Lib.hid hG3; clear hC hG3))
            have A3 := AFT.out w2 w3 B2.out HG3.out
            obtain ⟨hS3, hL3, hG03⟩ := A3
            have HS3 := Lib.hid hS3
            have HL3 := Lib.hid hL3
            have HG0 := Lib.hid hG03
            have cl0 : ∀ W : World, W.heap[wr.heap.size]? = some (.cells [Value.int .i64 (q : Int), .slice (some ⟨b, 0, none⟩) 64 64].toArray 55 (0, 0)) → W.cell? ⟨wr.heap.size, 0, none⟩ = some (.int .i64 (q : Int)) := fun W h => cell_of_row W _ 0 _ _ (0, 0) h
            have cl1 : ∀ W : World, W.heap[wr.heap.size]? = some (.cells [Value.int .i64 (q : Int), .slice (some ⟨b, 0, none⟩) 64 64].toArray 55 (0, 0)) → W.cell? ⟨wr.heap.size, 1, none⟩ = some (.slice (some ⟨b, 0, none⟩) 64 64) := fun W h => cell_of_row W _ 1 _ _ (0, 0) h
            clear hS3 hL3 hG03
            refine wp_region_plan (S := fun W => W.heap[wr.heap.size]? = some (.cells [Value.int .i64 (q : Int), .slice (some ⟨b, 0, none⟩) 64 64].toArray 55 (0, 0))) [(0, true), (1, true), (2, true), (4, true), (5, true), (6, true), (7, true), (3, false), (8, false)] (by kernel_rfl) (by kernel_rfl) (by kernel_rfl) (by kernel_rfl) (fun _ _ d _ _ h => by cases d <;> exact h) HC3.out ?_
            refine wkS_take (some 28) (.slice (some ⟨bd, 0, none⟩) N N) (by kernel_rfl) (by kernel_rfl) (by kernel_rfl) (fun W hS => by kernel_rfl) ?_
            simp only [put_lit, put_non, List.set_cons_zero, List.set_cons_succ]
            refine wkS_take (some 29) (.pointer (some ⟨wr.heap.size, 0, none⟩)) (by kernel_rfl) (by kernel_rfl) (by kernel_rfl) (fun W hS => by kernel_rfl) ?_
            simp only [put_lit, put_non, List.set_cons_zero, List.set_cons_succ]
            refine wkS_take (some 30) (.int .i64 (q : Int)) (by kernel_rfl) (by kernel_rfl) (by kernel_rfl) (fun W hS => exec_loadCell 3 (.tmp 29) ⟨wr.heap.size, 0, none⟩ _ _ (by kernel_rfl) (by kernel_rfl) (cl0 W hS) Tryz.underlying3 rfl) ?_
            simp only [put_lit, put_non, List.set_cons_zero, List.set_cons_succ]
            refine wkS_take (some 32) (.pointer (some ⟨wr.heap.size, 1, none⟩)) (by kernel_rfl) (by kernel_rfl) (by kernel_rfl) (fun W hS => by kernel_rfl) ?_
            simp only [put_lit, put_non, List.set_cons_zero, List.set_cons_succ]
            refine wkS_take (some 33) (.slice (some ⟨b, 0, none⟩) 64 64) (by kernel_rfl) (by kernel_rfl) (by kernel_rfl) (fun W hS => exec_loadCell 33 (.tmp 32) ⟨wr.heap.size, 1, none⟩ _ _ (by kernel_rfl) (by kernel_rfl) (cl1 W hS) Tryz.underlying33 rfl) ?_
            simp only [put_lit, put_non, List.set_cons_zero, List.set_cons_succ]
            refine wkS_take (some 34) (.int .i64 (64 : Int)) (by kernel_rfl) (by kernel_rfl) (by kernel_rfl) (fun W hS => by kernel_rfl) ?_
            simp only [put_lit, put_non, List.set_cons_zero, List.set_cons_succ]
            refine wkS_take (some 35) (.slice (some ⟨b, 0, none⟩) 64 64) (by kernel_rfl) (by kernel_rfl) (by kernel_rfl) (fun W hS => exec_cutB 33 34 (n := 64) (c := 64) (k := 64) (by kernel_rfl) (by kernel_rfl) (by kernel_rfl) (by omega) (by omega)) ?_
            simp only [put_lit, put_non, List.set_cons_zero, List.set_cons_succ]
            refine wkS_call (some 31) 78 #[.slice (some ⟨bd, 0, none⟩) N N, .int .i64 (q : Int)] (by kernel_rfl) (by kernel_rfl) (by kernel_rfl) (fun w => (by kernel_rfl)) ?_
            refine (SE.out w3.drew).mono ?_
            rintro e u ⟨rfl, hBu⟩
            have hBu3 : Below w3.heap.size w3 u := below_undrew hBu
            refine ⟨.slice (some ⟨bd, q * 64, none⟩) 64 (N - q * 64), rfl, (hBu3.block _ (lt_of_heap HC3.out)).trans HC3.out, ?_⟩
            have hSu := HS3.out.keepB (hBu3.block _ HS3.out.lt)
            have hLu := HL3.out.keepB (hBu3.block _ HL3.out.lt)
            have hGu : w.grownBy u (some bd) := grown_trans HG0.out ⟨hBu3.os, hBu3.tape, hBu3.output, hBu3.size, fun k hk _ => hBu3.block k hk⟩
            have hpt := hLu.part (n := 64) (c := 64) (by have := HX64.out; omega) (by omega) (by unfold maxLen; omega)
            obtain ⟨w5, hr5, hh5, hg5, hz5⟩ := copy_w (g := bd) (off := q * 64) (n := 64) (c := N - q * 64) hpt hSu (by have := HQN.out; have := secC_length HOK.out.1; omega) (by rw [List.length_take]; omega)
            have hC5 : w5.heap[wr.heap.size]? = some (.cells [Value.int .i64 (q : Int), .slice (some ⟨b, 0, none⟩) 64 64].toArray 55 (0, 0)) := (hg5.block _ (by have := lt_of_heap HC3.out; have := hBu3.size; omega) (fun e => by injection e with e; have := HSL.out; omega)).trans ((hBu3.block _ (lt_of_heap HC3.out)).trans HC3.out)
            have HFN := Lib.hid (FIN.out w5 hh5)
            have HG5 := Lib.hid (grown_trans hGu hg5)
            clear hh5 hg5 hSu hLu hGu hBu3 hBu hpt
            simp only [put_lit, put_non, List.set_cons_zero, List.set_cons_succ]
            refine wkS_doW (some 36) (goInt (x.take 64).length) (by kernel_rfl) (by kernel_rfl) (by kernel_rfl) (hr5 _ _ (.tmp 31) (.tmp 35) (by kernel_rfl) (by kernel_rfl) (by kernel_rfl)) hC5 ?_
            simp only [put_lit, put_non, List.set_cons_zero, List.set_cons_succ]
            refine wkS_done ?_
            clear hr5 hC5 hz5 cl0 cl1
            go_wp2_with fail
            go_roundw
            case rel => exact ⟨j + 1, by omega, by go_num, HFN.out, HG5.out⟩
            case measure => simp [intOf]; omega
        · have ht0' : ¬ torn ≥ 0 := ht0
          have FIN : Hid (∀ w5 : World, w5.heap[bd]? = some (.cells (splice (secC X) (q * 64) (Y (x.take 64))).toArray 5 (0, 0)) → SecB w5 bd (perfL m torn L 0 ((ks.take (j + 1)).map (·.1)))) := Lib.hid fun w5 h5 => by
            rw [HT.out]
            refine perf_bytes (j := j) (torn := torn) HOK.out.1 HPQ.out ?_
            rw [show tornS m torn j = 64 from by unfold tornS; rw [if_neg (by omega)]]
            exact h5

          clear ht0
          go_wp2_with (first | ((with_reducible refine wp_loadW rfl 14 rfl b2 (ob + j * 2) _ ?hx HRP.out rfl ?_); (case hx => rfl)) | ((with_reducible refine wp_allocC zero_wr rfl rfl ?_); intro w2 hA hB2; have HA2 := Lib.hid hA; have B2 := Lib.hid hB2; clear hA hB2) | ((with_reducible refine wp_storeC (T := 55) (e := 55) (g := wr.heap.size) (cur := #[.int .i64 0, .slice none 0 0]) (cs := [Value.int .i64 (q : Int), .slice (some ⟨b, 0, none⟩) 64 64]) ?hi ?hg ?hl ?h1 ?hgd 7 15 ?ho ?hx ?hy ?_); (case hgd => rfl); (case ho => rfl); (case hi => exact size_wr); (case hg => exact HA2.out); (case hl => rfl); (case h1 => (intro u hu; simp only [List.mem_cons, List.not_mem_nil, or_false] at hu; rcases hu with rfl | rfl <;> rfl)); (case hx => rfl); (case hy => rfl); intro w3 hC hG3; have HC3 := Lib.hid hC; have HG3 := Lib.hid hG3; clear hC hG3))
          have A3 := AFT.out w2 w3 B2.out HG3.out
          obtain ⟨hS3, hL3, hG03⟩ := A3
          have HS3 := Lib.hid hS3
          have HL3 := Lib.hid hL3
          have HG0 := Lib.hid hG03
          have cl0 : ∀ W : World, W.heap[wr.heap.size]? = some (.cells [Value.int .i64 (q : Int), .slice (some ⟨b, 0, none⟩) 64 64].toArray 55 (0, 0)) → W.cell? ⟨wr.heap.size, 0, none⟩ = some (.int .i64 (q : Int)) := fun W h => cell_of_row W _ 0 _ _ (0, 0) h
          have cl1 : ∀ W : World, W.heap[wr.heap.size]? = some (.cells [Value.int .i64 (q : Int), .slice (some ⟨b, 0, none⟩) 64 64].toArray 55 (0, 0)) → W.cell? ⟨wr.heap.size, 1, none⟩ = some (.slice (some ⟨b, 0, none⟩) 64 64) := fun W h => cell_of_row W _ 1 _ _ (0, 0) h
          clear hS3 hL3 hG03
          refine wp_region_plan (S := fun W => W.heap[wr.heap.size]? = some (.cells [Value.int .i64 (q : Int), .slice (some ⟨b, 0, none⟩) 64 64].toArray 55 (0, 0))) [(0, true), (1, true), (2, true), (4, true), (5, true), (6, true), (7, true), (3, false), (8, false)] (by kernel_rfl) (by kernel_rfl) (by kernel_rfl) (by kernel_rfl) (fun _ _ d _ _ h => by cases d <;> exact h) HC3.out ?_
          refine wkS_take (some 28) (.slice (some ⟨bd, 0, none⟩) N N) (by kernel_rfl) (by kernel_rfl) (by kernel_rfl) (fun W hS => by kernel_rfl) ?_
          simp only [put_lit, put_non, List.set_cons_zero, List.set_cons_succ]
          refine wkS_take (some 29) (.pointer (some ⟨wr.heap.size, 0, none⟩)) (by kernel_rfl) (by kernel_rfl) (by kernel_rfl) (fun W hS => by kernel_rfl) ?_
          simp only [put_lit, put_non, List.set_cons_zero, List.set_cons_succ]
          refine wkS_take (some 30) (.int .i64 (q : Int)) (by kernel_rfl) (by kernel_rfl) (by kernel_rfl) (fun W hS => exec_loadCell 3 (.tmp 29) ⟨wr.heap.size, 0, none⟩ _ _ (by kernel_rfl) (by kernel_rfl) (cl0 W hS) Tryz.underlying3 rfl) ?_
          simp only [put_lit, put_non, List.set_cons_zero, List.set_cons_succ]
          refine wkS_take (some 32) (.pointer (some ⟨wr.heap.size, 1, none⟩)) (by kernel_rfl) (by kernel_rfl) (by kernel_rfl) (fun W hS => by kernel_rfl) ?_
          simp only [put_lit, put_non, List.set_cons_zero, List.set_cons_succ]
          refine wkS_take (some 33) (.slice (some ⟨b, 0, none⟩) 64 64) (by kernel_rfl) (by kernel_rfl) (by kernel_rfl) (fun W hS => exec_loadCell 33 (.tmp 32) ⟨wr.heap.size, 1, none⟩ _ _ (by kernel_rfl) (by kernel_rfl) (cl1 W hS) Tryz.underlying33 rfl) ?_
          simp only [put_lit, put_non, List.set_cons_zero, List.set_cons_succ]
          refine wkS_take (some 34) (.int .i64 (64 : Int)) (by kernel_rfl) (by kernel_rfl) (by kernel_rfl) (fun W hS => by kernel_rfl) ?_
          simp only [put_lit, put_non, List.set_cons_zero, List.set_cons_succ]
          refine wkS_take (some 35) (.slice (some ⟨b, 0, none⟩) 64 64) (by kernel_rfl) (by kernel_rfl) (by kernel_rfl) (fun W hS => exec_cutB 33 34 (n := 64) (c := 64) (k := 64) (by kernel_rfl) (by kernel_rfl) (by kernel_rfl) (by omega) (by omega)) ?_
          simp only [put_lit, put_non, List.set_cons_zero, List.set_cons_succ]
          refine wkS_call (some 31) 78 #[.slice (some ⟨bd, 0, none⟩) N N, .int .i64 (q : Int)] (by kernel_rfl) (by kernel_rfl) (by kernel_rfl) (fun w => (by kernel_rfl)) ?_
          refine (SE.out w3.drew).mono ?_
          rintro e u ⟨rfl, hBu⟩
          have hBu3 : Below w3.heap.size w3 u := below_undrew hBu
          refine ⟨.slice (some ⟨bd, q * 64, none⟩) 64 (N - q * 64), rfl, (hBu3.block _ (lt_of_heap HC3.out)).trans HC3.out, ?_⟩
          have hSu := HS3.out.keepB (hBu3.block _ HS3.out.lt)
          have hLu := HL3.out.keepB (hBu3.block _ HL3.out.lt)
          have hGu : w.grownBy u (some bd) := grown_trans HG0.out ⟨hBu3.os, hBu3.tape, hBu3.output, hBu3.size, fun k hk _ => hBu3.block k hk⟩
          have hpt := hLu.part (n := 64) (c := 64) (by have := HX64.out; omega) (by omega) (by unfold maxLen; omega)
          obtain ⟨w5, hr5, hh5, hg5, hz5⟩ := copy_w (g := bd) (off := q * 64) (n := 64) (c := N - q * 64) hpt hSu (by have := HQN.out; have := secC_length HOK.out.1; omega) (by rw [List.length_take]; omega)
          have hC5 : w5.heap[wr.heap.size]? = some (.cells [Value.int .i64 (q : Int), .slice (some ⟨b, 0, none⟩) 64 64].toArray 55 (0, 0)) := (hg5.block _ (by have := lt_of_heap HC3.out; have := hBu3.size; omega) (fun e => by injection e with e; have := HSL.out; omega)).trans ((hBu3.block _ (lt_of_heap HC3.out)).trans HC3.out)
          have HFN := Lib.hid (FIN.out w5 hh5)
          have HG5 := Lib.hid (grown_trans hGu hg5)
          clear hh5 hg5 hSu hLu hGu hBu3 hBu hpt
          simp only [put_lit, put_non, List.set_cons_zero, List.set_cons_succ]
          refine wkS_doW (some 36) (goInt (x.take 64).length) (by kernel_rfl) (by kernel_rfl) (by kernel_rfl) (hr5 _ _ (.tmp 31) (.tmp 35) (by kernel_rfl) (by kernel_rfl) (by kernel_rfl)) hC5 ?_
          simp only [put_lit, put_non, List.set_cons_zero, List.set_cons_succ]
          refine wkS_done ?_
          clear hr5 hC5 hz5 cl0 cl1
          go_wp2_with fail
          go_roundw
          case rel => exact ⟨j + 1, by omega, by go_num, HFN.out, HG5.out⟩
          case measure => simp [intOf]; omega
      · have hJ1 : ¬ (j : Int) = (m : Int) - 1 := by omega
        have FIN : Hid (∀ w5 : World, w5.heap[bd]? = some (.cells (splice (secC X) (q * 64) (Y (x.take 64))).toArray 5 (0, 0)) → SecB w5 bd (perfL m torn L 0 ((ks.take (j + 1)).map (·.1)))) := Lib.hid fun w5 h5 => by
          rw [HT.out]
          refine perf_bytes (j := j) (torn := torn) HOK.out.1 HPQ.out ?_
          rw [show tornS m torn j = 64 from by unfold tornS; rw [if_neg (by omega)]]
          exact h5

        clear hlast
        go_wp2_with (first | ((with_reducible refine wp_loadW rfl 14 rfl b2 (ob + j * 2) _ ?hx HRP.out rfl ?_); (case hx => rfl)) | ((with_reducible refine wp_allocC zero_wr rfl rfl ?_); intro w2 hA hB2; have HA2 := Lib.hid hA; have B2 := Lib.hid hB2; clear hA hB2) | ((with_reducible refine wp_storeC (T := 55) (e := 55) (g := wr.heap.size) (cur := #[.int .i64 0, .slice none 0 0]) (cs := [Value.int .i64 (q : Int), .slice (some ⟨b, 0, none⟩) 64 64]) ?hi ?hg ?hl ?h1 ?hgd 7 15 ?ho ?hx ?hy ?_); (case hgd => rfl); (case ho => rfl); (case hi => exact size_wr); (case hg => exact HA2.out); (case hl => rfl); (case h1 => (intro u hu; simp only [List.mem_cons, List.not_mem_nil, or_false] at hu; rcases hu with rfl | rfl <;> rfl)); (case hx => rfl); (case hy => rfl); intro w3 hC hG3; have HC3 := Lib.hid hC; have HG3 := Lib.hid hG3; clear hC hG3))
        have A3 := AFT.out w2 w3 B2.out HG3.out
        obtain ⟨hS3, hL3, hG03⟩ := A3
        have HS3 := Lib.hid hS3
        have HL3 := Lib.hid hL3
        have HG0 := Lib.hid hG03
        have cl0 : ∀ W : World, W.heap[wr.heap.size]? = some (.cells [Value.int .i64 (q : Int), .slice (some ⟨b, 0, none⟩) 64 64].toArray 55 (0, 0)) → W.cell? ⟨wr.heap.size, 0, none⟩ = some (.int .i64 (q : Int)) := fun W h => cell_of_row W _ 0 _ _ (0, 0) h
        have cl1 : ∀ W : World, W.heap[wr.heap.size]? = some (.cells [Value.int .i64 (q : Int), .slice (some ⟨b, 0, none⟩) 64 64].toArray 55 (0, 0)) → W.cell? ⟨wr.heap.size, 1, none⟩ = some (.slice (some ⟨b, 0, none⟩) 64 64) := fun W h => cell_of_row W _ 1 _ _ (0, 0) h
        clear hS3 hL3 hG03
        refine wp_region_plan (S := fun W => W.heap[wr.heap.size]? = some (.cells [Value.int .i64 (q : Int), .slice (some ⟨b, 0, none⟩) 64 64].toArray 55 (0, 0))) [(0, true), (1, true), (2, true), (4, true), (5, true), (6, true), (7, true), (3, false), (8, false)] (by kernel_rfl) (by kernel_rfl) (by kernel_rfl) (by kernel_rfl) (fun _ _ d _ _ h => by cases d <;> exact h) HC3.out ?_
        refine wkS_take (some 28) (.slice (some ⟨bd, 0, none⟩) N N) (by kernel_rfl) (by kernel_rfl) (by kernel_rfl) (fun W hS => by kernel_rfl) ?_
        simp only [put_lit, put_non, List.set_cons_zero, List.set_cons_succ]
        refine wkS_take (some 29) (.pointer (some ⟨wr.heap.size, 0, none⟩)) (by kernel_rfl) (by kernel_rfl) (by kernel_rfl) (fun W hS => by kernel_rfl) ?_
        simp only [put_lit, put_non, List.set_cons_zero, List.set_cons_succ]
        refine wkS_take (some 30) (.int .i64 (q : Int)) (by kernel_rfl) (by kernel_rfl) (by kernel_rfl) (fun W hS => exec_loadCell 3 (.tmp 29) ⟨wr.heap.size, 0, none⟩ _ _ (by kernel_rfl) (by kernel_rfl) (cl0 W hS) Tryz.underlying3 rfl) ?_
        simp only [put_lit, put_non, List.set_cons_zero, List.set_cons_succ]
        refine wkS_take (some 32) (.pointer (some ⟨wr.heap.size, 1, none⟩)) (by kernel_rfl) (by kernel_rfl) (by kernel_rfl) (fun W hS => by kernel_rfl) ?_
        simp only [put_lit, put_non, List.set_cons_zero, List.set_cons_succ]
        refine wkS_take (some 33) (.slice (some ⟨b, 0, none⟩) 64 64) (by kernel_rfl) (by kernel_rfl) (by kernel_rfl) (fun W hS => exec_loadCell 33 (.tmp 32) ⟨wr.heap.size, 1, none⟩ _ _ (by kernel_rfl) (by kernel_rfl) (cl1 W hS) Tryz.underlying33 rfl) ?_
        simp only [put_lit, put_non, List.set_cons_zero, List.set_cons_succ]
        refine wkS_take (some 34) (.int .i64 (64 : Int)) (by kernel_rfl) (by kernel_rfl) (by kernel_rfl) (fun W hS => by kernel_rfl) ?_
        simp only [put_lit, put_non, List.set_cons_zero, List.set_cons_succ]
        refine wkS_take (some 35) (.slice (some ⟨b, 0, none⟩) 64 64) (by kernel_rfl) (by kernel_rfl) (by kernel_rfl) (fun W hS => exec_cutB 33 34 (n := 64) (c := 64) (k := 64) (by kernel_rfl) (by kernel_rfl) (by kernel_rfl) (by omega) (by omega)) ?_
        simp only [put_lit, put_non, List.set_cons_zero, List.set_cons_succ]
        refine wkS_call (some 31) 78 #[.slice (some ⟨bd, 0, none⟩) N N, .int .i64 (q : Int)] (by kernel_rfl) (by kernel_rfl) (by kernel_rfl) (fun w => (by kernel_rfl)) ?_
        refine (SE.out w3.drew).mono ?_
        rintro e u ⟨rfl, hBu⟩
        have hBu3 : Below w3.heap.size w3 u := below_undrew hBu
        refine ⟨.slice (some ⟨bd, q * 64, none⟩) 64 (N - q * 64), rfl, (hBu3.block _ (lt_of_heap HC3.out)).trans HC3.out, ?_⟩
        have hSu := HS3.out.keepB (hBu3.block _ HS3.out.lt)
        have hLu := HL3.out.keepB (hBu3.block _ HL3.out.lt)
        have hGu : w.grownBy u (some bd) := grown_trans HG0.out ⟨hBu3.os, hBu3.tape, hBu3.output, hBu3.size, fun k hk _ => hBu3.block k hk⟩
        have hpt := hLu.part (n := 64) (c := 64) (by have := HX64.out; omega) (by omega) (by unfold maxLen; omega)
        obtain ⟨w5, hr5, hh5, hg5, hz5⟩ := copy_w (g := bd) (off := q * 64) (n := 64) (c := N - q * 64) hpt hSu (by have := HQN.out; have := secC_length HOK.out.1; omega) (by rw [List.length_take]; omega)
        have hC5 : w5.heap[wr.heap.size]? = some (.cells [Value.int .i64 (q : Int), .slice (some ⟨b, 0, none⟩) 64 64].toArray 55 (0, 0)) := (hg5.block _ (by have := lt_of_heap HC3.out; have := hBu3.size; omega) (fun e => by injection e with e; have := HSL.out; omega)).trans ((hBu3.block _ (lt_of_heap HC3.out)).trans HC3.out)
        have HFN := Lib.hid (FIN.out w5 hh5)
        have HG5 := Lib.hid (grown_trans hGu hg5)
        clear hh5 hg5 hSu hLu hGu hBu3 hBu hpt
        simp only [put_lit, put_non, List.set_cons_zero, List.set_cons_succ]
        refine wkS_doW (some 36) (goInt (x.take 64).length) (by kernel_rfl) (by kernel_rfl) (by kernel_rfl) (hr5 _ _ (.tmp 31) (.tmp 35) (by kernel_rfl) (by kernel_rfl) (by kernel_rfl)) hC5 ?_
        simp only [put_lit, put_non, List.set_cons_zero, List.set_cons_succ]
        refine wkS_done ?_
        clear hr5 hC5 hz5 cl0 cl1
        go_wp2_with fail
        go_roundw
        case rel => exact ⟨j + 1, by omega, by go_num, HFN.out, HG5.out⟩
        case measure => simp [intOf]; omega
    · have HJ : ¬ (j : Int) < m := by omega
      have e : j = ks.length := by rw [EM.out]; omega
      rw [e, List.take_length] at hS
      have HS := Lib.hid hS
      have HG := Lib.hid hG
      clear hS hG e
      go_wp2_with fail
      go_end0
      exact ⟨rfl, HS.out, HG.out⟩
end
end Go.Proofs.YtckomifecmemnaaGreat

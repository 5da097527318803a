/- The program's disk: Flush, FailAfter, Crash, PowerOn by the disk's state. -/
import Derived.Test.YthknlimhenbhfaaDpi
namespace Go.Proofs.Ythknlimhenbhfaa
set_option linter.unusedSimpArgs false
open Go.RowKit Dig
set_option linter.unusedVariables false

/-- The blocks that methods turn. -/
def OwnT (g bd bv : Nat) (ve : Value) (k : Nat) : Prop := k = g ∨ k = bd ∨ k = bv ∨ ve.ownBlock = some k
theorem secs_bare {s : DS} {d : List (List UInt8)} {a b : Bool} {l : Nat} : secs { dur := d, pend := [], off := a, armed := b, left := l } = d := rfl
theorem ents_ok {s : DS} {es : List Ent} (h : okDS s) (he : es.map (·.1) = s.pend) : ∀ e ∈ es, e.1.1 < s.dur.length ∧ e.1.2.length = 64 := fun e hm => h.2.1 e.1 (by rw [← he]; exact List.mem_map_of_mem hm)
theorem ents_len {s : DS} {es : List Ent} (he : es.map (·.1) = s.pend) : es.length = s.pend.length := by rw [← he, List.length_map]
section
variable {w w' : World} {g : Nat} {s : DS}
set_option maxHeartbeats 2000000 in
theorem pflush_c (h : PDsk w g s) (hf : fewD s) : Calls Try.prog 19 #[.pointer (some ⟨g, 0, none⟩)] w (PDk PDsk fpP w g (.int .i64 (flushS s).1) (flushS s).2) := by
  have H0 := Lib.hid h
  obtain ⟨hok, bd, bv, ve, c, es, hm, hes, hl, hn⟩ := h
  have HM := Lib.hid hm
  have FA := Lib.hid (pfails_s hm hl)
  have HL := Lib.hid hl
  have HOK := Lib.hid hok
  have HES := Lib.hid hes
  have HN := Lib.hid hn
  have HF := Lib.hid hf
  obtain ⟨-, -, -, -, c7, -⟩ := hm.fld.cells
  unfold flushS
  clear hm hl hok hes hn hf
  by_cases ho : s.off = true
  · rw [if_pos ho]
    rw [ho] at c7
    clear ho
    go_enter Try.func19, Try.ntmps19
    go_wp2_with fail
    go_ret
    exact ⟨rfl, H0.out, Turn.refl _ _, fun b hb => .inl hb⟩
  · rw [if_neg ho]
    have ho' : s.off = false := by simpa using ho
    rw [ho'] at c7
    have hsame := failsS_same s
    have hlnk := (fails_lnk HL.out).2.2
    have hok' := failsS_ok HOK.out
    generalize hf : (failsS s).1 = f at FA ⊢
    generalize hs1 : (failsS s).2 = s1 at FA hsame hlnk hok' ⊢
    have HSM := Lib.hid hsame
    have HLK := Lib.hid hlnk
    have HOK1 := Lib.hid hok'
    cases f with
    | true =>
      rw [if_pos rfl]
      clear ho ho' hf hs1 hsame hlnk hok'
      go_enter Try.func19, Try.ntmps19
      go_wp2_with fail
      refine (FA.out).mono ?_
      rintro e w1 ⟨rfl, hM, hG⟩
      have HM1 := Lib.hid hM
      have HG1 := Lib.hid hG
      clear hM hG c7
      go_wp2_with fail
      go_ret
      have hM := HM1.out
      rw [← HSM.out.1, ← (show secs s1 = secs s by unfold secs; rw [HSM.out.1, HSM.out.2])] at hM
      have hT := HM.out.turn HM1.out (Turn.of_grown HG1.out fun k e => by injection e with e; exact .inl e.symm) (.inl rfl) (fun e he => .inl he)
      exact ⟨rfl, ⟨HOK1.out, bd, bv, ve, _, es, hM, by rw [HSM.out.2]; exact HES.out, HLK.out, by rw [HSM.out.1]; exact HN.out⟩, hT.1, hT.2⟩
    | false =>
      rw [if_neg (by decide)]
      clear ho ho' hf hs1 hsame hlnk hok'
      go_enter Try.func19, Try.ntmps19
      go_wp2_with fail
      refine (FA.out).mono ?_
      rintro e w1 ⟨rfl, hM, hG⟩
      have HM1 := Lib.hid hM
      have HG1 := Lib.hid hG
      have ST := Lib.hid (psettle_c hM HOK.out.1 HN.out (by have := ents_len HES.out; have := HF.out; unfold fewD at this; omega) (ents_ok HOK.out HES.out) 18446744073709551615 (by omega) 64)
      clear hM hG c7
      go_wp2_with fail
      refine (ST.out).mono ?_
      rintro e w2 ⟨rfl, hM, hT⟩
      rw [HES.out, perf_flush HOK.out] at hM
      have HM2 := Lib.hid hM
      have HT2 := Lib.hid hT
      clear hM hT ST
      go_wp2_with fail
      go_ret
      have hM := HM2.out
      have hlen := (secs_ok HOK.out).2
      have hT := HM.out.turn HM2.out ((Turn.of_grown HG1.out fun k e => by injection e with e; exact .inl e.symm).then HT2.out fun _ _ h => h) (.inr fun k e => by simp [Value.ownBlock] at e) (fun e he => (List.not_mem_nil he).elim)
      rw [← hlen] at hM
      refine ⟨rfl, ⟨⟨(secs_ok HOK.out).1, fun p hp => (List.not_mem_nil hp).elim, HOK1.out.2.2⟩, bd, bv, _, _, [], hM, rfl, HLK.out, by show (secs s).length ≤ 8192; rw [hlen]; exact HN.out⟩, hT.1, hT.2⟩
theorem pfailAfter_s (h : PDsk w g s) (n : Int) (h1 : -9223372036854775808 ≤ n) (h2 : n ≤ 9223372036854775807) : Calls Try.prog 23 #[.pointer (some ⟨g, 0, none⟩), .int .i64 n] w (PDk PDsk fpP w g (.tuple #[]) (failAfterS s n)) := by
  obtain ⟨hok, bd, bv, ve, c, es, hm, hes, hl, hn⟩ := h
  refine (pfailAfter_c hm n h1 h2).mono ?_
  rintro e w' ⟨rfl, hM, hG⟩
  have hT := hm.turn hM (Turn.of_grown hG fun k e => by injection e with e; exact .inl e.symm) (.inl rfl) (fun e he => .inl he)
  refine ⟨rfl, ⟨⟨hok.1, hok.2.1, by show n.toNat ≤ _; omega⟩, bd, bv, ve, n, es, hM, hes, ⟨fun ha => ?_, fun ha => ?_, h1, h2⟩, hn⟩, hT.1, hT.2⟩
  · have : 0 ≤ n := by simpa [failAfterS] using ha
    show n = (n.toNat : Int)
    omega
  · have : ¬ 0 ≤ n := by simpa [failAfterS] using ha
    omega
theorem ppower_s (h : PDsk w g s) : Calls Try.prog 21 #[.pointer (some ⟨g, 0, none⟩)] w (PDk PDsk fpP w g (.tuple #[]) (powerS s)) := by
  obtain ⟨hok, bd, bv, ve, c, es, hm, hes, hl, hn⟩ := h
  refine (ppower_c hm).mono ?_
  rintro e w' ⟨rfl, hM, hG⟩
  have hT := hm.turn hM (Turn.of_grown hG fun k e => by injection e with e; exact .inl e.symm) (.inl rfl) (fun e he => .inl he)
  exact ⟨rfl, ⟨hok, bd, bv, ve, -1, es, hM, hes, lnk_off rfl, hn⟩, hT.1, hT.2⟩
set_option maxRecDepth 20000 in
set_option maxHeartbeats 4000000 in
theorem pcrash_c (h : PDsk w g s) (hf : fewD s) (keep : Nat) (torn : Int) (hk : keep < 18446744073709551616) : Calls Try.prog 20 #[.pointer (some ⟨g, 0, none⟩), .int .u64 (keep : Int), .int .i64 torn] w (PDk PDsk fpP w g (.tuple #[]) (crashS s keep torn)) := by
  obtain ⟨hok, bd, bv, ve, c, es, hm, hes, hl, hn⟩ := h
  have HM := Lib.hid hm
  have OF := Lib.hid (poff_c hm)
  have HOK := Lib.hid hok
  have HES := Lib.hid hes
  have HN := Lib.hid hn
  have HS := Lib.hid (fun (y : World) (hM : Mem y g bd bv ve s.dur.length false (-1) es s.dur (secs s)) => psettle_c hM hok.1 hn (by have := ents_len hes; unfold fewD at hf; omega) (ents_ok hok hes) keep hk torn)
  have hcl := crashL_ok keep (lastS keep s.pend.length) torn s.pend s.dur 0 hok.1 hok.2.1
  have hkp := crash_kept s keep torn
  clear hm hl hok hes hn hf hk
  go_enter Try.func20, Try.ntmps20
  go_wp2_with fail
  refine (OF.out).mono ?_
  rintro e w1 ⟨rfl, hM, hG⟩
  have HG1 := Lib.hid hG
  have ST := Lib.hid (HS.out w1 hM)
  clear hM hG OF HS
  go_wp2_with fail
  refine (ST.out).mono ?_
  rintro e w2 ⟨rfl, hM, hT⟩
  rw [HES.out, ← hkp] at hM
  have hM : Mem w2 g bd bv (.slice none 0 0) s.dur.length false (-1) [] (crashL keep (lastS keep s.pend.length) torn s.dur 0 s.pend) (secs s) := hM
  generalize hX : crashL keep (lastS keep s.pend.length) torn s.dur 0 s.pend = X at hM hcl
  have HX := Lib.hid hX
  have HT2 := Lib.hid hT
  have hM := hM.below (w' := w2.drew) ((Below.refl _ _).drew)
  have HMd := Lib.hid hM
  obtain ⟨ts, hts, htl, hby⟩ := hM.dur.all hcl.1 (by rw [hcl.2]; have := HN.out; omega)
  rw [hcl.2] at hby htl
  have hvl := secC_length (secs_ok HOK.out).1
  rw [(secs_ok HOK.out).2] at hvl
  obtain ⟨w3, hr3, hh3, hg3, hz3⟩ := copy_w (g := bv) (off := 0) (n := s.dur.length * 64) (c := s.dur.length * 64) hby hM.vis (by omega) (by omega)
  have hsp : splice (secC (secs s)) 0 (Y ts) = secC X := by
    unfold splice
    rw [hts, List.take_zero, List.nil_append, List.drop_eq_nil_of_le (by rw [secC_length hcl.1, hcl.2]; omega), List.append_nil]
  rw [hsp] at hh3
  have hM3 := hM.seen hh3 hg3
  have HM3 := Lib.hid hM3
  have HG3 := Lib.hid hg3
  clear hM hT ST hX hby hts hvl hh3 hg3 hsp hkp hM3
  go_wp2_with fail
  refine wp_region_plan (S := fun W => W.cell? ⟨g, 0, none⟩ = some (rowV bd s.dur.length) ∧ W.cell? ⟨g, 1, none⟩ = some (rowV bv s.dur.length)) [(0, true), (1, true), (2, true), (3, true), (4, true), (5, true), (6, true), (7, true), (8, false)] (by kernel_rfl) (by kernel_rfl) (by kernel_rfl) (by kernel_rfl) (fun _ _ d _ _ h => by cases d <;> exact h) ⟨HMd.out.fld.cells.1, HMd.out.fld.cells.2.1⟩ ?_
  refine wkS_take (some 12) (.pointer (some ⟨g, 0, none⟩)) (by kernel_rfl) (by kernel_rfl) (by kernel_rfl) (fun W hS => by kernel_rfl) ?_
  simp only [put_lit, put_non, List.set_cons_zero, List.set_cons_succ]
  refine wkS_take (some 13) (.pointer (some ⟨g, 0, none⟩)) (by kernel_rfl) (by kernel_rfl) (by kernel_rfl) (fun W hS => by kernel_rfl) ?_
  simp only [put_lit, put_non, List.set_cons_zero, List.set_cons_succ]
  refine wkS_take (some 14) (.pointer (some ⟨g, 1, none⟩)) (by kernel_rfl) (by kernel_rfl) (by kernel_rfl) (fun W hS => by kernel_rfl) ?_
  simp only [put_lit, put_non, List.set_cons_zero, List.set_cons_succ]
  refine wkS_take (some 15) (rowV bv s.dur.length) (by kernel_rfl) (by kernel_rfl) (by kernel_rfl) (fun W hS => exec_loadCell 32 (.tmp 14) ⟨g, 1, none⟩ _ _ (by kernel_rfl) (by kernel_rfl) hS.2 Try.underlying32 rfl) ?_
  simp only [put_lit, put_non, List.set_cons_zero, List.set_cons_succ]
  refine wkS_take (some 16) (.pointer (some ⟨g, 0, none⟩)) (by kernel_rfl) (by kernel_rfl) (by kernel_rfl) (fun W hS => by kernel_rfl) ?_
  simp only [put_lit, put_non, List.set_cons_zero, List.set_cons_succ]
  refine wkS_take (some 17) (.pointer (some ⟨g, 0, none⟩)) (by kernel_rfl) (by kernel_rfl) (by kernel_rfl) (fun W hS => by kernel_rfl) ?_
  simp only [put_lit, put_non, List.set_cons_zero, List.set_cons_succ]
  refine wkS_take (some 18) (.pointer (some ⟨g, 0, none⟩)) (by kernel_rfl) (by kernel_rfl) (by kernel_rfl) (fun W hS => by kernel_rfl) ?_
  simp only [put_lit, put_non, List.set_cons_zero, List.set_cons_succ]
  refine wkS_take (some 19) (rowV bd s.dur.length) (by kernel_rfl) (by kernel_rfl) (by kernel_rfl) (fun W hS => exec_loadCell 32 (.tmp 18) ⟨g, 0, none⟩ _ _ (by kernel_rfl) (by kernel_rfl) hS.1 Try.underlying32 rfl) ?_
  simp only [put_lit, put_non, List.set_cons_zero, List.set_cons_succ]
  refine wkS_doW (some 20) (goInt ts.length) (by kernel_rfl) (by kernel_rfl) (by kernel_rfl) (hr3 _ _ (.tmp 15) (.tmp 19) (by kernel_rfl) (by kernel_rfl) (by kernel_rfl)) ⟨HM3.out.fld.cells.1, HM3.out.fld.cells.2.1⟩ ?_
  simp only [put_lit, put_non, List.set_cons_zero, List.set_cons_succ]
  refine wkS_done ?_
  clear hr3 htl hz3
  go_wp2_with fail
  go_end0
  have T2 : Turn (fun k => k = g ∨ k = bd ∨ k = bv ∨ ve.ownBlock = some k) w2 w3 := Turn.of_grown (w := w2) (w1 := w3) ⟨HG3.out.os, HG3.out.tape, HG3.out.output, HG3.out.size, HG3.out.block⟩ fun k e => by injection e with e; exact .inr (.inr (.inl e.symm))
  have hT := HM.out.turn HM3.out (((Turn.of_grown HG1.out fun k e => by injection e with e; exact .inl e.symm).then HT2.out fun _ _ h => h).then T2 fun _ _ h => h) (.inr fun k e => by simp [Value.ownBlock] at e) (fun e he => (List.not_mem_nil he).elim)
  have hM := HM3.out
  rw [← hcl.2] at hM
  refine ⟨rfl, ⟨?_, bd, bv, .slice none 0 0, -1, [], ?_, rfl, lnk_off rfl, ?_⟩, hT.1, hT.2⟩
  · unfold crashS
    rw [HX.out]
    exact ⟨hcl.1, fun p hp => (List.not_mem_nil hp).elim, HOK.out.2.2⟩
  · unfold crashS
    rw [HX.out]
    exact hM
  · unfold crashS
    rw [HX.out]
    show X.length ≤ 8192
    rw [hcl.2]
    exact HN.out
end
end Go.Proofs.Ythknlimhenbhfaa

/- The program's disk: Flush, FailAfter, Crash, PowerOn by the disk's state. -/
import Derived.Test.YtckomifecmemnaaGreatDqi
namespace Go.Proofs.YtckomifecmemnaaGreat
set_option linter.unusedSimpArgs false
open Go.RowKit Dig
set_option linter.unusedVariables false

section
variable {w' : World} {F : Nat → Prop} {g bd bv n : Nat} {ve : Value} {t : Tl} {on : Bool} {c : Int} {es : List Ent} {ls : List (Nat × List UInt8)} {L V : List (List UInt8)}
theorem MemG.more (h : MemG w' F g bd bv ve t n on c es ls L V) (w : World) : MemG w' (More F w w') g bd bv ve t n on c es ls L V := h.wide (fun b hb => .inl hb) (fun b hb => hb.elim (h.flt b) (·.2))
end
section
variable {w w' : World} {F : Nat → Prop} {g : Nat} {s : DS}
set_option maxHeartbeats 2000000 in
theorem qflush_c (h : Disk w F g s) (hf : s.pend.length ≤ 100000) : Calls Tryz.prog 29 #[.pointer (some ⟨g, 0, none⟩)] w (GDk w F g (.int .i64 (flushS s).1) (flushS s).2) := by
  have H0 := Lib.hid h
  obtain ⟨hok, bd, bv, ve, t, c, es, ls, hm, hes, h63, hk2, hl, hn⟩ := h
  have HM := Lib.hid hm
  have FA := Lib.hid (qfails_s hm hl)
  have HL := Lib.hid hl
  have HOK := Lib.hid hok
  have HES := Lib.hid hes
  have HN := Lib.hid hn
  have H63 := Lib.hid h63
  have HK2 := Lib.hid hk2
  have HLL := Lib.hid (show ls.length ≤ 100000 by have := congrArg List.length hes; simp at this; omega)
  have HPS := Lib.hid (show ∀ p ∈ es.map (·.1) ++ ls, p.1 < s.dur.length ∧ p.2.length = 64 from fun p hp => hok.2.1 p (by rw [← hes]; exact hp))
  obtain ⟨-, -, -, -, c7, -⟩ := hm.fld.cells
  unfold flushS
  clear hm hl hok hes hn hf h63 hk2
  by_cases ho : s.off = true
  · rw [if_pos ho]
    rw [ho] at c7
    clear ho
    go_enter Tryz.func29, Tryz.ntmps29
    go_wp2_with fail
    go_ret
    exact ⟨rfl, H0.out.wide (fun b hb => .inl hb) (fun b hb => hb.elim (fun h => H0.out.lt h) (·.2)), Turn.refl _ _⟩
  · rw [if_neg ho]
    have ho' : s.off = false := by simpa using ho
    rw [ho'] at c7
    have hsame := failsS_same s
    have hlnk := (fails_lnk HL.out).2.2
    have hok' := failsS_ok HOK.out
    generalize hf : (failsS s).1 = f at FA ⊢
    generalize hs1 : (failsS s).2 = s1 at FA hsame hlnk hok' ⊢
    have HSM := Lib.hid hsame
    have HLK := Lib.hid hlnk
    have HOK1 := Lib.hid hok'
    cases f with
    | true =>
      rw [if_pos rfl]
      clear ho ho' hf hs1 hsame hlnk hok'
      go_enter Tryz.func29, Tryz.ntmps29
      go_wp2_with fail
      refine (FA.out).mono ?_
      rintro e w1 ⟨rfl, hM, hG⟩
      have HM1 := Lib.hid hM
      have HG1 := Lib.hid hG
      clear hM hG c7
      go_wp2_with fail
      go_ret
      have hM := HM1.out
      rw [← HSM.out.1, ← (show secs s1 = secs s by unfold secs; rw [HSM.out.1, HSM.out.2])] at hM
      exact ⟨rfl, ⟨HOK1.out, bd, bv, ve, t, _, es, ls, hM.more w, by rw [HSM.out.2]; exact HES.out, H63.out, HK2.out, HLK.out, by rw [HSM.out.1]; exact HN.out⟩, Turn.of_grown HG1.out fun k e => by injection e with e; rw [← e]; exact HM.out.fin.1⟩
    | false =>
      rw [if_neg (by decide)]
      clear ho ho' hf hs1 hsame hlnk hok'
      go_enter Tryz.func29, Tryz.ntmps29
      go_wp2_with fail
      refine (FA.out).mono ?_
      rintro e w1 ⟨rfl, hM, hG⟩
      have HM1 := Lib.hid hM
      have HG1 := Lib.hid hG
      have ST := Lib.hid (qsettle_c hM HOK.out.1 HN.out H63.out HK2.out HLL.out HPS.out 18446744073709551615 (by omega) 64)
      clear hM hG c7
      go_wp2_with fail
      refine (ST.out).mono ?_
      rintro e w2 ⟨rfl, hM, hT⟩
      rw [HES.out, perf_flush HOK.out] at hM
      have HM2 := Lib.hid hM
      have HT2 := Lib.hid hT
      clear hM hT ST
      go_wp2_with fail
      go_ret
      have hM := HM2.out
      have hlen := (secs_ok HOK.out).2
      rw [← hlen] at hM
      exact ⟨rfl, ⟨⟨(secs_ok HOK.out).1, fun p hp => (List.not_mem_nil hp).elim, HOK1.out.2.2⟩, bd, bv, _, t0, _, [], [], hM.more w, rfl, Nat.zero_le _, fun e => absurd rfl e, HLK.out, by show (secs s).length ≤ 8192; rw [hlen]; exact HN.out⟩, (Turn.of_grown HG1.out fun k e => by injection e with e; rw [← e]; exact HM.out.fin.1).then HT2.out fun _ _ h => h⟩
set_option maxRecDepth 20000 in
set_option maxHeartbeats 4000000 in
theorem qcrash_c (h : Disk w F g s) (hf : s.pend.length ≤ 100000) (keep : Nat) (torn : Int) (hk : keep < 18446744073709551616) : Calls Tryz.prog 19 #[.pointer (some ⟨g, 0, none⟩), .int .u64 (keep : Int), .int .i64 torn] w (GDk w F g (.tuple #[]) (crashS s keep torn)) := by
  obtain ⟨hok, bd, bv, ve, t, c, es, ls, hm, hes, h63, hk2, hl, hn⟩ := h
  have HM := Lib.hid hm
  have OF := Lib.hid (qoff_c hm)
  have HOK := Lib.hid hok
  have HES := Lib.hid hes
  have HN := Lib.hid hn
  have hps : ∀ p ∈ es.map (·.1) ++ ls, p.1 < s.dur.length ∧ p.2.length = 64 := fun p hp => hok.2.1 p (by rw [← hes]; exact hp)
  have hll : ls.length ≤ 100000 := by have := congrArg List.length hes; simp at this; omega
  have HS := Lib.hid (fun (y : World) (hM : MemG y F g bd bv ve t s.dur.length false (-1) es ls s.dur (secs s)) => qsettle_c hM hok.1 hn h63 hk2 hll hps keep hk torn)
  have hcl := crashL_ok keep (lastS keep s.pend.length) torn s.pend s.dur 0 hok.1 hok.2.1
  have hkp := crash_kept s keep torn
  clear hm hl hok hes hn hf hk h63 hk2 hps hll
  go_enter Tryz.func19, Tryz.ntmps19
  go_wp2_with fail
  refine (OF.out).mono ?_
  rintro e w1 ⟨rfl, hM, hG⟩
  have HG1 := Lib.hid hG
  have ST := Lib.hid (HS.out w1 hM)
  clear hM hG OF HS
  go_wp2_with fail
  refine (ST.out).mono ?_
  rintro e w2 ⟨rfl, hM, hT⟩
  rw [HES.out, ← hkp] at hM
  have hM : MemG w2 F g bd bv (.slice none 0 0) t0 s.dur.length false (-1) [] [] (crashL keep (lastS keep s.pend.length) torn s.dur 0 s.pend) (secs s) := hM
  generalize hX : crashL keep (lastS keep s.pend.length) torn s.dur 0 s.pend = X at hM hcl
  have HX := Lib.hid hX
  have HT2 := Lib.hid hT
  have hM := hM.below (w' := w2.drew) ((Below.refl _ _).drew)
  have HMd := Lib.hid hM
  obtain ⟨ts, hts, htl, hby⟩ := hM.dur.all hcl.1 (by rw [hcl.2]; have := HN.out; omega)
  rw [hcl.2] at hby htl
  have hvl := secC_length (secs_ok HOK.out).1
  rw [(secs_ok HOK.out).2] at hvl
  obtain ⟨w3, hr3, hh3, hg3, hz3⟩ := copy_w (g := bv) (off := 0) (n := s.dur.length * 64) (c := s.dur.length * 64) hby hM.vis (by omega) (by omega)
  have hsp : splice (secC (secs s)) 0 (Y ts) = secC X := by
    unfold splice
    rw [hts, List.take_zero, List.nil_append, List.drop_eq_nil_of_le (by rw [secC_length hcl.1, hcl.2]; omega), List.append_nil]
  rw [hsp] at hh3
  have hM3 := hM.seen hh3 hg3
  have HM3 := Lib.hid hM3
  have HG3 := Lib.hid hg3
  clear hM hT ST hX hby hts hvl hh3 hg3 hsp hkp hM3
  go_wp2_with fail
  refine wp_region_plan (S := fun W => W.cell? ⟨g, 0, none⟩ = some (rowV bd s.dur.length) ∧ W.cell? ⟨g, 1, none⟩ = some (rowV bv s.dur.length)) [(0, true), (1, true), (2, true), (3, true), (4, true), (5, true), (6, true), (7, true), (8, false)] (by kernel_rfl) (by kernel_rfl) (by kernel_rfl) (by kernel_rfl) (fun _ _ d _ _ h => by cases d <;> exact h) ⟨HMd.out.fld.cells.1, HMd.out.fld.cells.2.1⟩ ?_
  refine wkS_take (some 12) (.pointer (some ⟨g, 0, none⟩)) (by kernel_rfl) (by kernel_rfl) (by kernel_rfl) (fun W hS => by kernel_rfl) ?_
  simp only [put_lit, put_non, List.set_cons_zero, List.set_cons_succ]
  refine wkS_take (some 13) (.pointer (some ⟨g, 0, none⟩)) (by kernel_rfl) (by kernel_rfl) (by kernel_rfl) (fun W hS => by kernel_rfl) ?_
  simp only [put_lit, put_non, List.set_cons_zero, List.set_cons_succ]
  refine wkS_take (some 14) (.pointer (some ⟨g, 1, none⟩)) (by kernel_rfl) (by kernel_rfl) (by kernel_rfl) (fun W hS => by kernel_rfl) ?_
  simp only [put_lit, put_non, List.set_cons_zero, List.set_cons_succ]
  refine wkS_take (some 15) (rowV bv s.dur.length) (by kernel_rfl) (by kernel_rfl) (by kernel_rfl) (fun W hS => exec_loadCell 33 (.tmp 14) ⟨g, 1, none⟩ _ _ (by kernel_rfl) (by kernel_rfl) hS.2 Tryz.underlying33 rfl) ?_
  simp only [put_lit, put_non, List.set_cons_zero, List.set_cons_succ]
  refine wkS_take (some 16) (.pointer (some ⟨g, 0, none⟩)) (by kernel_rfl) (by kernel_rfl) (by kernel_rfl) (fun W hS => by kernel_rfl) ?_
  simp only [put_lit, put_non, List.set_cons_zero, List.set_cons_succ]
  refine wkS_take (some 17) (.pointer (some ⟨g, 0, none⟩)) (by kernel_rfl) (by kernel_rfl) (by kernel_rfl) (fun W hS => by kernel_rfl) ?_
  simp only [put_lit, put_non, List.set_cons_zero, List.set_cons_succ]
  refine wkS_take (some 18) (.pointer (some ⟨g, 0, none⟩)) (by kernel_rfl) (by kernel_rfl) (by kernel_rfl) (fun W hS => by kernel_rfl) ?_
  simp only [put_lit, put_non, List.set_cons_zero, List.set_cons_succ]
  refine wkS_take (some 19) (rowV bd s.dur.length) (by kernel_rfl) (by kernel_rfl) (by kernel_rfl) (fun W hS => exec_loadCell 33 (.tmp 18) ⟨g, 0, none⟩ _ _ (by kernel_rfl) (by kernel_rfl) hS.1 Tryz.underlying33 rfl) ?_
  simp only [put_lit, put_non, List.set_cons_zero, List.set_cons_succ]
  refine wkS_doW (some 20) (goInt ts.length) (by kernel_rfl) (by kernel_rfl) (by kernel_rfl) (hr3 _ _ (.tmp 15) (.tmp 19) (by kernel_rfl) (by kernel_rfl) (by kernel_rfl)) ⟨HM3.out.fld.cells.1, HM3.out.fld.cells.2.1⟩ ?_
  simp only [put_lit, put_non, List.set_cons_zero, List.set_cons_succ]
  refine wkS_done ?_
  clear hr3 htl hz3
  go_wp2_with fail
  go_end0
  have T2 : Turn F w2 w3 := Turn.of_grown (w := w2) (w1 := w3) ⟨HG3.out.os, HG3.out.tape, HG3.out.output, HG3.out.size, HG3.out.block⟩ fun k e => by injection e with e; rw [← e]; exact HM3.out.fin.2.2.1
  have hT := ((Turn.of_grown HG1.out fun k e => by injection e with e; rw [← e]; exact HM.out.fin.1).then HT2.out fun _ _ h => h).then T2 fun _ _ h => h
  have hM := HM3.out
  rw [← hcl.2] at hM
  refine ⟨rfl, ⟨?_, bd, bv, .slice none 0 0, t0, -1, [], [], ?_, rfl, Nat.zero_le _, fun e => absurd rfl e, lnk_off rfl, ?_⟩, hT⟩
  · unfold crashS
    rw [HX.out]
    exact ⟨hcl.1, fun p hp => (List.not_mem_nil hp).elim, HOK.out.2.2⟩
  · unfold crashS
    rw [HX.out]
    exact hM.more w
  · unfold crashS
    rw [HX.out]
    show X.length ≤ 8192
    rw [hcl.2]
    exact HN.out
end
end Go.Proofs.YtckomifecmemnaaGreat

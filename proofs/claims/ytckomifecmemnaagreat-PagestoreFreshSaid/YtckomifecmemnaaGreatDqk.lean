/- The program's disk: Write. -/
import Derived.Test.YtckomifecmemnaaGreatDqj
namespace Go.Proofs.YtckomifecmemnaaGreat
open Go.RowKit Dig
set_option linter.unusedVariables false

section
variable {w w' : World} {F : Nat → Prop} {g : Nat} {s : DS} {v : Value} {b : List UInt8}
/-- Bytes that came in stay when their block stays. -/
theorem Byt.keepO (h : Byt w v b) (hs : w.heap.size ≤ w'.heap.size) (hk : 0 < b.length → ∀ k, k < w.heap.size → v.ownBlock = some k → w'.heap[k]? = w.heap[k]?) : Byt w' v b := by
  obtain ⟨A, c, e, h2, h3, h5⟩ := h
  refine ⟨A, c, e, h2, h3, fun hp => ?_⟩
  obtain ⟨k, off, e1, hb, hc⟩ := h5 hp
  refine ⟨k, off, e1, by omega, fun j hj => ?_⟩
  rw [World.cell?_of_block (a := ⟨k, off + j, none⟩) (hk hp k hb (by rw [e, e1]; rfl))]
  exact hc j hj
set_option maxRecDepth 20000 in
set_option maxHeartbeats 8000000 in
theorem qwrite_c (h : Disk w F g s) (hf : s.pend.length ≤ 90000) (at' : Int) (hv : Byt w v b) (hb : b.length ≤ 1000000) (hap : 0 < b.length → ∀ k, v.ownBlock = some k → ¬ F k) :
    Calls Tryz.prog 86 #[.pointer (some ⟨g, 0, none⟩), .int .i64 at', v] w (GDk w F g (.int .i64 (writeS s at' b).1) (writeS s at' b).2) := by
  have H0 := Lib.hid h
  obtain ⟨hok, bd, bv, ve, t, c, es, ls, hm, hes, h63, hk2, hl, hn⟩ := h
  have CK := Lib.hid (qcheck_c hm hn at')
  have HM := Lib.hid hm
  have HL := Lib.hid hl
  have HOK := Lib.hid hok
  have HES := Lib.hid hes
  have HN := Lib.hid hn
  have H63 := Lib.hid h63
  have HK2 := Lib.hid hk2
  have HLL := Lib.hid (show ls.length ≤ 100000 by have := congrArg List.length hes; simp at this; omega)
  have HPS := Lib.hid (show ∀ p ∈ ls, p.1 ≤ 1000000 from fun p hp => by have := hok.2.1 p (by rw [← hes]; simp [hp]); omega)
  have HV := Lib.hid hv
  have HAP := Lib.hid hap
  obtain ⟨A, bc, rfl⟩ := hv.form
  have hli : (b.length : Int) ≤ 1000000 := by omega
  have stay0 : ∀ w1 : World, Below w.heap.size w w1 → GDk w F g (.int .i64 0) s (.returned (.int .i64 0)) w1 := fun w1 hB => by
    exact ⟨rfl, (H0.out.below hB).wide (fun b hb => .inl hb) (fun b hb => hb.elim (fun h => Nat.lt_of_lt_of_le (H0.out.lt h) hB.size) (·.2)), Turn.of_below _ hB⟩
  have STAY := Lib.hid stay0
  unfold writeS
  rw [bad_split]
  clear hm hl hok hes hn hf hv hap stay0 h63 hk2
  by_cases hb0 : badS s at' 0 = 0
  · obtain ⟨-, k, rfl, hk⟩ := bad_zero hb0
    rw [hb0] at CK ⊢
    rw [show (if (0 : Int) ≠ 0 then (0 : Int) else if 64 < b.length then 4 else 0) = if 64 < b.length then 4 else 0 from if_neg (by decide)]
    by_cases h64 : 64 < b.length
    · rw [if_pos h64, if_pos (by decide)]
      have h64i : (64 : Int) < b.length := by omega
      clear h64 hb0 hk
      generalize b.length = l at *
      go_enter Tryz.func86, Tryz.ntmps86
      go_wp2_with fail
      refine (CK.out).mono ?_
      rintro e w1 ⟨rfl, hB1⟩
      have B1 := Lib.hid hB1
      clear hB1 CK
      go_wp2_with fail
      go_ret
      exact ⟨rfl, (STAY.out _ B1.out).2⟩
    · rw [if_neg h64, if_neg (by decide)]
      have h64i : ¬ (64 : Int) < b.length := by omega
      have HKL := Lib.hid hk
      have HB64 := Lib.hid (show b.length ≤ 64 by omega)
      have hsame := failsS_same s
      have hlnk := (fails_lnk HL.out).2.2
      have hok' := failsS_ok HOK.out
      have FA := Lib.hid (fun (y : World) (hy : MemG y F g bd bv ve t s.dur.length (!s.off) c es ls s.dur (secs s)) => qfails_s hy HL.out)
      generalize hf : (failsS s).1 = f at FA ⊢
      generalize hs1 : (failsS s).2 = s1 at FA hsame hlnk hok' ⊢
      have HSM := Lib.hid hsame
      have HLK := Lib.hid hlnk
      have HOK1 := Lib.hid hok'
      clear hf hs1 hsame hlnk hok' h64 hk hb0
      cases f with
      | true =>
        rw [if_pos rfl]
        generalize b.length = l at *
        go_enter Tryz.func86, Tryz.ntmps86
        go_wp2_with fail
        refine (CK.out).mono ?_
        rintro e w1 ⟨rfl, hB1⟩
        have B1 := Lib.hid hB1
        have FB := Lib.hid (FA.out w1 (HM.out.below hB1))
        clear hB1 CK FA
        go_wp2_with fail
        refine (FB.out).mono ?_
        rintro e w2 ⟨rfl, hM, hG⟩
        have HM2 := Lib.hid hM
        have HG2 := Lib.hid hG
        clear hM hG FB
        go_wp2_with fail
        go_ret
        have hM := HM2.out
        rw [← HSM.out.1, ← (show secs s1 = secs s by unfold secs; rw [HSM.out.1, HSM.out.2])] at hM
        have T2 : Turn F w1 w2 := Turn.of_grown HG2.out fun k e => by injection e with e; rw [← e]; exact HM.out.fin.1
        exact ⟨rfl, ⟨HOK1.out, bd, bv, ve, t, _, es, ls, hM.more w, by rw [HSM.out.2]; exact HES.out, H63.out, HK2.out, HLK.out, by rw [HSM.out.1]; exact HN.out⟩, (Turn.of_below _ B1.out).then T2 fun _ _ h => h⟩
      | false =>
        rw [if_neg (by decide)]
        obtain ⟨l, el⟩ : ∃ l, b.length = l := ⟨_, rfl⟩
        rw [el] at hli h64i HV HAP ⊢
        have EL := Lib.hid el
        clear el
        obtain ⟨N, eN⟩ : ∃ N, s.dur.length * 64 = N := ⟨_, rfl⟩
        have EN := Lib.hid eN
        clear eN
        go_enter Tryz.func86, Tryz.ntmps86
        go_wp2_with fail
        refine (CK.out).mono ?_
        rintro e w1 ⟨rfl, hB1⟩
        have B1 := Lib.hid hB1
        have FB := Lib.hid (FA.out w1 (HM.out.below hB1))
        clear hB1 CK FA
        go_wp2_with fail
        refine (FB.out).mono ?_
        rintro e w2 ⟨rfl, hM, hG⟩
        have HM2 := Lib.hid hM
        have T2 : Turn F w w2 := (Turn.of_below _ B1.out).then (Turn.of_grown hG fun k e => by injection e with e; rw [← e]; exact HM.out.fin.1) fun _ _ h => h
        have HT2 := Lib.hid T2
        have HV2 := Lib.hid (HV.out.keepO (w' := w2) T2.2.2.2.1 fun hp k hk e => T2.2.2.2.2 k hk fun hor => HAP.out (by rw [← EL.out]; exact hp) k e hor)
        clear hM hG FB T2
        go_wp2_with (first | (at_make; refine wp_makeB rfl _ _ rfl 64 64 64 rfl rfl rfl rfl (by omega) ?_; intro w3 hL3 hB3; have HL3 := Lib.hid hL3; have B3 := Lib.hid hB3; have HV3 := Lib.hid (HV2.out.below hB3); clear hL3 hB3) | ((with_reducible refine wp_copyV ?hgd (.tmp 21) (.tmp 22) ?ho w2.heap.size 0 64 64 ?hd (.slice A l bc) b ?hs HV3.out (Y (List.replicate 64 0)) ?hg ?hn HB64.out ?_); (case hgd => rfl); (case ho => rfl); (case hd => rfl); (case hs => rfl); (case hg => exact HL3.out); (case hn => rw [Y_length, List.length_replicate]; omega); intro w4 hh4 hg4 hz4; have M4 := (HM2.out.below B3.out).keepB hg4.size (fun j hmj => hg4.block j (Nat.lt_of_lt_of_le (HM2.out.flt j hmj) B3.out.size) (fun e => by injection e with e; have := HM2.out.flt j hmj; omega)); have d1 : w4.cell? ⟨g, 1, none⟩ = some (.slice (some ⟨bv, 0, none⟩) N N) := (by rw [← EN.out]; exact M4.fld.cells.2.1); have M4H := Lib.hid M4; have HH4 := Lib.hid hh4; have HG4 := Lib.hid hg4; have HZ4 := Lib.hid hz4; clear hh4 hg4 hz4 M4))
        have hgc := B3.out.size
        have hgcL := HL3.out.lt
        refine (qsector_c w4 bv N N k (by have := EN.out; have := HKL.out; omega) (Nat.le_refl _) (by have := EN.out; have := HN.out; omega)).mono ?_
        rintro e w5 ⟨rfl, hB5⟩
        have hL4 : LetB w4 w2.heap.size (padS b) := by
          have := HH4.out
          rw [pad_splice HB64.out] at this
          exact this
        have hL5 := hL4.keepB (hB5.block _ hL4.lt)
        have hM5 := M4H.out.below hB5
        have hp64 := padS_length HB64.out
        have hby5 := (hL5.own (base := 0) (n := 64) (Nat.zero_le _) hp64 (by omega)).byt
        have hso := secs_ok HOK.out
        have B5 := Lib.hid hB5
        have HL5 := Lib.hid hL5
        have HM5 := Lib.hid hM5
        have HBY5 := Lib.hid hby5
        have HSO := Lib.hid hso
        have HP64 := Lib.hid hp64
        have HLS := Lib.hid (secC_length hso.1)
        clear hB5 hL4 hL5 hM5 hby5 hso hp64 d1 M4H HH4
        go_wp2_with ((with_reducible refine wp_copyV ?hgd (.tmp 29) (.tmp 30) ?ho bv (k * 64) 64 (N - k * 64) ?hd (.slice (some ⟨w2.heap.size, 0, none⟩) 64 64) (padS b) ?hs HBY5.out (secC (secs s)) ?hg ?hn ?hle ?_); (case hgd => rfl); (case ho => rfl); (case hd => rfl); (case hs => rfl); (case hg => exact HM5.out.vis); (case hn => have := HLS.out; have := HSO.out.2; have := HKL.out; omega); (case hle => rw [HP64.out]; omega); intro w6 hh6 hg6 hz6; have HH6 := Lib.hid hh6; have HG6 := Lib.hid hg6; have HZ6 := Lib.hid hz6; clear hh6 hg6 hz6)
        have hv6 : SecB w6 bv (put1 (secs s) (k, padS b)) := by
          have := HH6.out
          rw [secC_set (by rw [HSO.out.2]; exact HKL.out) HSO.out.1 HP64.out] at this
          exact this
        have hM6 := HM5.out.seen hv6 HG6.out
        have hlt2 : ∀ j, F j → j < w2.heap.size := HM2.out.flt
        have hL6 := HL5.out.keepB (HG6.out.block _ HL5.out.lt (fun e => by injection e with e; have := hlt2 bv HM2.out.fin.2.2.1; omega))
        have hB4 : w2.heap.size + 1 ≤ w6.heap.size := by
          have h0 := hgcL
          have h1 := HG4.out.size
          have h2 := B5.out.size
          have h3 := HG6.out.size
          omega
        have hw2 := HT2.out.2.2.2.1
        refine (qadd_c (q := k) (x := padS b) (b := w2.heap.size) (hM6.more w) H63.out HK2.out (by have := HLL.out; omega) HPS.out hL6 ⟨.inr ⟨hw2, hB4⟩, fun e => by have := hlt2 g HM2.out.fin.1; omega, fun e => by have := hlt2 bd HM2.out.fin.2.1; omega, fun e => by have := hlt2 bv HM2.out.fin.2.2.1; omega, fun e => by have := hlt2 w2.heap.size (HM2.out.fin.2.2.2 _ e); omega⟩).mono ?_
        rintro e w7 ⟨rfl, ve', t', es', ls', hM7, hps7, h637, hk27, hT7⟩
        have HM7 := Lib.hid hM7
        have HT7 := Lib.hid hT7
        have HP7 := Lib.hid hps7
        have H637 := Lib.hid h637
        have HK27 := Lib.hid hk27
        clear hM7 hT7 hps7 h637 hk27 hM6 hL6 hv6
        go_wp2_with fail
        go_ret
        have T3 : Turn F w w3 := HT2.out.then (Turn.of_below (F := fun _ => False) B3.out) fun _ _ h => h.elim
        have T4 : Turn F w w4 := T3.then (Turn.of_grown (F := fun j => j = w2.heap.size) HG4.out fun j e => by injection e with e; exact e.symm) fun j hj h => by omega
        have T5 : Turn F w w5 := T4.then (Turn.of_below (F := fun _ => False) B5.out) fun _ _ h => h.elim
        have T6 : Turn F w w6 := T5.then (Turn.of_grown (F := fun j => j = bv) HG6.out fun j e => by injection e with e; exact e.symm) fun j hj h => by rw [h]; exact HM2.out.fin.2.2.1
        have T7 : Turn F w w7 := T6.then HT7.out fun j hj h => h.elim id fun h => by omega
        have hs67 := HT7.out.2.2.2.1
        have hs06 := T6.2.2.2.1
        have hwide := HM7.out.wide (F' := More F w w7) (fun j hj => by
          rcases hj with (hj | hj) | hj
          · exact .inl hj
          · exact .inr ⟨hj.1, by omega⟩
          · exact .inr ⟨by omega, hj.2⟩) (fun j hj => by
          rcases hj with hj | hj
          · have := HM2.out.flt j hj
            omega
          · exact hj.2)
        have hM := hwide
        rw [← secs_snoc (s := s) (s1 := s1) HSM.out] at hM
        have hd1 := HSM.out.1
        rw [← hd1] at hM
        refine ⟨rfl, ⟨⟨?_, ?_, HOK1.out.2.2⟩, bd, bv, ve', t', nextC c, es', ls', ?_, ?_, H637.out, HK27.out, HLK.out, ?_⟩, T7⟩
        · show ∀ x ∈ s1.dur, x.length = 64
          rw [hd1]
          exact HOK.out.1
        · intro p hp
          show p.1 < s1.dur.length ∧ p.2.length = 64
          rw [hd1]
          rcases List.mem_append.1 hp with hp | hp
          · exact HOK.out.2.1 p hp
          · rw [List.mem_singleton.1 hp]
            exact ⟨HKL.out, HP64.out⟩
        · show MemG w7 (More F w w7) g bd bv ve' t' s1.dur.length (!s1.off) (nextC c) es' ls' s1.dur (secs { s1 with pend := s.pend ++ [(k, padS b)] })
          exact hM
        · rw [HP7.out, HES.out]
          rfl
        · show s1.dur.length ≤ 8192
          rw [hd1]
          exact HN.out
  · rw [if_pos hb0, if_pos hb0]
    generalize badS s at' 0 = q at *
    go_enter Tryz.func86, Tryz.ntmps86
    go_wp2_with fail
    refine (CK.out).mono ?_
    rintro e w1 ⟨rfl, hB1⟩
    have B1 := Lib.hid hB1
    clear hB1 CK
    go_wp2_with fail
    go_ret
    exact ⟨rfl, (STAY.out _ B1.out).2⟩
end
end Go.Proofs.YtckomifecmemnaaGreat

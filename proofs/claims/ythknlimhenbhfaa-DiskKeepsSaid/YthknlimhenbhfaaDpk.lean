/- The program's disk: Write, New. -/
import Derived.Test.YthknlimhenbhfaaDpj
namespace Go.Proofs.Ythknlimhenbhfaa
open Go.RowKit Dig
set_option linter.unusedVariables false

theorem bad_split (s : DS) (a : Int) (n : Nat) : badS s a n = if badS s a 0 ≠ 0 then badS s a 0 else if 64 < n then 4 else 0 := by
  unfold badS
  by_cases ho : s.off = true
  · rw [if_pos ho, if_pos ho, if_pos (by decide)]
  · rw [if_neg ho, if_neg ho]
    by_cases hb : a < 0 ∨ (s.dur.length : Int) ≤ a
    · rw [if_pos hb, if_pos hb, if_pos (by decide)]
    · rw [if_neg hb, if_neg hb]
      simp
theorem pad_splice {b : List UInt8} (h : b.length ≤ 64) : splice (Y (List.replicate 64 0)) 0 (Y b) = Y (padS b) := by
  unfold splice padS
  rw [List.take_zero, List.nil_append, Y_append, Nat.zero_add, Y_length]
  congr 1
  unfold Y
  rw [List.map_replicate, List.drop_replicate, List.map_replicate]
theorem secs_snoc {s s1 : DS} {p : Nat × List UInt8} (h : s1.dur = s.dur ∧ s1.pend = s.pend) : secs { s1 with pend := s.pend ++ [p] } = put1 (secs s) p := by
  unfold secs
  show (s.pend ++ [p]).foldl put1 s1.dur = _
  rw [h.1, List.foldl_append]
  rfl
section
variable {w w' : World} {g : Nat} {s : DS} {v : Value} {b : List UInt8}
/-- Bytes that came in stay when their block stays. -/
theorem Byt.keepO (h : Byt w v b) (hs : w.heap.size ≤ w'.heap.size) (hk : 0 < b.length → ∀ k, k < w.heap.size → v.ownBlock = some k → w'.heap[k]? = w.heap[k]?) : Byt w' v b := by
  obtain ⟨A, c, e, h2, h3, h5⟩ := h
  refine ⟨A, c, e, h2, h3, fun hp => ?_⟩
  obtain ⟨k, off, e1, hb, hc⟩ := h5 hp
  refine ⟨k, off, e1, by omega, fun j hj => ?_⟩
  rw [World.cell?_of_block (a := ⟨k, off + j, none⟩) (hk hp k hb (by rw [e, e1]; rfl))]
  exact hc j hj
set_option maxRecDepth 20000 in
set_option maxHeartbeats 8000000 in
theorem pwrite_c (h : PDsk w g s) (hf : fewD s) (at' : Int) (hv : Byt w v b) (hb : b.length ≤ 1000000) (hap : 0 < b.length → ∀ k, v.ownBlock = some k → ¬ fpP w g k) :
    Calls Try.prog 17 #[.pointer (some ⟨g, 0, none⟩), .int .i64 at', v] w (PDk PDsk fpP w g (.int .i64 (writeS s at' b).1) (writeS s at' b).2) := by
  have H0 := Lib.hid h
  obtain ⟨hok, bd, bv, ve, c, es, hm, hes, hl, hn⟩ := h
  have CK := Lib.hid (pcheck_c hm hn at')
  have HM := Lib.hid hm
  have HL := Lib.hid hl
  have HOK := Lib.hid hok
  have HES := Lib.hid hes
  have HN := Lib.hid hn
  have HF := Lib.hid hf
  have HV := Lib.hid hv
  have HAP := Lib.hid hap
  obtain ⟨A, bc, rfl⟩ := hv.form
  have hli : (b.length : Int) ≤ 1000000 := by omega
  have stay0 : ∀ w1 : World, Below w.heap.size w w1 → PDk PDsk fpP w g (.int .i64 0) s (.returned (.int .i64 0)) w1 := fun w1 hB => by
    have := H0.out.keep hB.size fun k hk _ => hB.block k hk
    exact ⟨rfl, this.1, Turn.of_below _ hB, fun k hk => .inl (this.2 k hk)⟩
  have STAY := Lib.hid stay0
  unfold writeS
  rw [bad_split]
  clear hm hl hok hes hn hf hv hap stay0
  by_cases hb0 : badS s at' 0 = 0
  · obtain ⟨-, k, rfl, hk⟩ := bad_zero hb0
    rw [hb0] at CK ⊢
    rw [show (if (0 : Int) ≠ 0 then (0 : Int) else if 64 < b.length then 4 else 0) = if 64 < b.length then 4 else 0 from if_neg (by decide)]
    by_cases h64 : 64 < b.length
    · rw [if_pos h64, if_pos (by decide)]
      have h64i : (64 : Int) < b.length := by omega
      clear h64 hb0 hk
      generalize b.length = l at *
      go_enter Try.func17, Try.ntmps17
      go_wp2_with fail
      refine (CK.out).mono ?_
      rintro e w1 ⟨rfl, hB1⟩
      have B1 := Lib.hid hB1
      clear hB1 CK
      go_wp2_with fail
      go_ret
      exact ⟨rfl, (STAY.out _ B1.out).2⟩
    · rw [if_neg h64, if_neg (by decide)]
      have h64i : ¬ (64 : Int) < b.length := by omega
      have HKL := Lib.hid hk
      have HB64 := Lib.hid (show b.length ≤ 64 by omega)
      have hsame := failsS_same s
      have hlnk := (fails_lnk HL.out).2.2
      have hok' := failsS_ok HOK.out
      have FA := Lib.hid (fun (y : World) (hy : Mem y g bd bv ve s.dur.length (!s.off) c es s.dur (secs s)) => pfails_s hy HL.out)
      generalize hf : (failsS s).1 = f at FA ⊢
      generalize hs1 : (failsS s).2 = s1 at FA hsame hlnk hok' ⊢
      have HSM := Lib.hid hsame
      have HLK := Lib.hid hlnk
      have HOK1 := Lib.hid hok'
      clear hf hs1 hsame hlnk hok' h64 hk hb0
      cases f with
      | true =>
        rw [if_pos rfl]
        generalize b.length = l at *
        go_enter Try.func17, Try.ntmps17
        go_wp2_with fail
        refine (CK.out).mono ?_
        rintro e w1 ⟨rfl, hB1⟩
        have B1 := Lib.hid hB1
        have FB := Lib.hid (FA.out w1 (HM.out.below hB1))
        clear hB1 CK FA
        go_wp2_with fail
        refine (FB.out).mono ?_
        rintro e w2 ⟨rfl, hM, hG⟩
        have HM2 := Lib.hid hM
        have HG2 := Lib.hid hG
        clear hM hG FB
        go_wp2_with fail
        go_ret
        have hM := HM2.out
        rw [← HSM.out.1, ← (show secs s1 = secs s by unfold secs; rw [HSM.out.1, HSM.out.2])] at hM
        have T2 : Turn (fun k => k = g ∨ k = bd ∨ k = bv ∨ ve.ownBlock = some k) w1 w2 := Turn.of_grown HG2.out fun k e => by injection e with e; exact .inl e.symm
        have hT := HM.out.turn HM2.out ((Turn.of_below _ B1.out).then T2 fun _ _ h => h) (.inl rfl) (fun e he => .inl he)
        exact ⟨rfl, ⟨HOK1.out, bd, bv, ve, _, es, hM, by rw [HSM.out.2]; exact HES.out, HLK.out, by rw [HSM.out.1]; exact HN.out⟩, hT.1, hT.2⟩
      | false =>
        rw [if_neg (by decide)]
        obtain ⟨l, el⟩ : ∃ l, b.length = l := ⟨_, rfl⟩
        rw [el] at hli h64i HV HAP ⊢
        have EL := Lib.hid el
        clear el
        obtain ⟨N, eN⟩ : ∃ N, s.dur.length * 64 = N := ⟨_, rfl⟩
        have EN := Lib.hid eN
        clear eN
        go_enter Try.func17, Try.ntmps17
        go_wp2_with fail
        refine (CK.out).mono ?_
        rintro e w1 ⟨rfl, hB1⟩
        have B1 := Lib.hid hB1
        have FB := Lib.hid (FA.out w1 (HM.out.below hB1))
        clear hB1 CK FA
        go_wp2_with fail
        refine (FB.out).mono ?_
        rintro e w2 ⟨rfl, hM, hG⟩
        have HM2 := Lib.hid hM
        have T2 : Turn (fun k => k = g ∨ k = bd ∨ k = bv ∨ ve.ownBlock = some k) w w2 := (Turn.of_below _ B1.out).then (Turn.of_grown hG fun k e => by injection e with e; exact .inl e.symm) fun _ _ h => h
        have HT2 := Lib.hid T2
        have HV2 := Lib.hid (HV.out.keepO (w' := w2) T2.2.2.2.1 fun hp k hk e => T2.2.2.2.2 k hk fun hor => HAP.out (by rw [← EL.out]; exact hp) k e (HM.out.fp.2 (by
          rcases hor with h | h | h | h
          · exact .inl h
          · exact .inr (.inl h)
          · exact .inr (.inr (.inl h))
          · exact .inr (.inr (.inr (.inl h))))))
        clear hM hG FB T2
        go_wp2_with (first | (at_make; refine wp_makeB rfl _ _ rfl 64 64 64 rfl rfl rfl rfl (by omega) ?_; intro w3 hL3 hB3; have HL3 := Lib.hid hL3; have B3 := Lib.hid hB3; have HV3 := Lib.hid (HV2.out.below hB3); clear hL3 hB3) | ((with_reducible refine wp_copyV ?hgd (.tmp 21) (.tmp 22) ?ho w2.heap.size 0 64 64 ?hd (.slice A l bc) b ?hs HV3.out (Y (List.replicate 64 0)) ?hg ?hn HB64.out ?_); (case hgd => rfl); (case ho => rfl); (case hd => rfl); (case hs => rfl); (case hg => exact HL3.out); (case hn => rw [Y_length, List.length_replicate]; omega); intro w4 hh4 hg4 hz4; have M4 := (HM2.out.below B3.out).keepB (fun j hj hmj => hg4.block j hj (fun e => by injection e with e; have := HM2.out.mineLt hmj; omega)); have d1 : w4.cell? ⟨g, 1, none⟩ = some (.slice (some ⟨bv, 0, none⟩) N N) := (by rw [← EN.out]; exact M4.fld.cells.2.1); have M4H := Lib.hid M4; have HH4 := Lib.hid hh4; have HG4 := Lib.hid hg4; have HZ4 := Lib.hid hz4; clear hh4 hg4 hz4 M4))
        have hgc := B3.out.size
        have hgcL := HL3.out.lt
        refine (psector_c w4 bv N N k (by have := EN.out; have := HKL.out; omega) (Nat.le_refl _) (by have := EN.out; have := HN.out; omega)).mono ?_
        rintro e w5 ⟨rfl, hB5⟩
        have hL4 : LetB w4 w2.heap.size (padS b) := by
          have := HH4.out
          rw [pad_splice HB64.out] at this
          exact this
        have hL5 := hL4.keepB (hB5.block _ hL4.lt)
        have hM5 := M4H.out.below hB5
        have hp64 := padS_length HB64.out
        have hby5 := (hL5.own (base := 0) (n := 64) (Nat.zero_le _) hp64 (by omega)).byt
        have hso := secs_ok HOK.out
        have B5 := Lib.hid hB5
        have HL5 := Lib.hid hL5
        have HM5 := Lib.hid hM5
        have HBY5 := Lib.hid hby5
        have HSO := Lib.hid hso
        have HP64 := Lib.hid hp64
        have HLS := Lib.hid (secC_length hso.1)
        clear hB5 hL4 hL5 hM5 hby5 hso hp64 d1 M4H HH4
        go_wp2_with ((with_reducible refine wp_copyV ?hgd (.tmp 29) (.tmp 30) ?ho bv (k * 64) 64 (N - k * 64) ?hd (.slice (some ⟨w2.heap.size, 0, none⟩) 64 64) (padS b) ?hs HBY5.out (secC (secs s)) ?hg ?hn ?hle ?_); (case hgd => rfl); (case ho => rfl); (case hd => rfl); (case hs => rfl); (case hg => exact HM5.out.vis); (case hn => have := HLS.out; have := HSO.out.2; have := HKL.out; omega); (case hle => rw [HP64.out]; omega); intro w6 hh6 hg6 hz6; have HH6 := Lib.hid hh6; have HG6 := Lib.hid hg6; have HZ6 := Lib.hid hz6; clear hh6 hg6 hz6)
        have hv6 : SecB w6 bv (put1 (secs s) (k, padS b)) := by
          have := HH6.out
          rw [secC_set (by rw [HSO.out.2]; exact HKL.out) HSO.out.1 HP64.out] at this
          exact this
        have hM6 := HM5.out.seen hv6 HG6.out
        have hlt2 : ∀ j, mine g bd bv ve es j → j < w2.heap.size := fun j hj => HM2.out.mineLt hj
        have hL6 := HL5.out.keepB (HG6.out.block _ HL5.out.lt (fun e => by injection e with e; have := hlt2 bv (.inr (.inr (.inl rfl))); omega))
        have hB4 : w2.heap.size ≤ w6.heap.size := by
          have h1 := HG4.out.size
          have h2 := B5.out.size
          have h3 := HG6.out.size
          omega
        refine (padd_c (q := k) (x := padS b) (b := w2.heap.size) hM6 (by have := ents_len HES.out; have := HF.out; unfold fewD at this; omega) hL6 ⟨fun e => by have := hlt2 g (.inl rfl); omega, fun e => by have := hlt2 bd (.inr (.inl rfl)); omega, fun e => by have := hlt2 bv (.inr (.inr (.inl rfl))); omega, fun e => by have := hlt2 w2.heap.size (.inr (.inr (.inr (.inl e)))); omega⟩).mono ?_
        rintro e w7 ⟨ve', rfl, hM7, hT7, hv7⟩
        have HM7 := Lib.hid hM7
        have HT7 := Lib.hid hT7
        have HV7 := Lib.hid hv7
        clear hM7 hT7 hv7 hM6 hL6 hv6
        go_wp2_with fail
        go_ret
        have hw2 := HT2.out.2.2.2.1
        have T3 : Turn (OwnT g bd bv ve) w w3 := HT2.out.then (Turn.of_below (F := fun _ => False) B3.out) fun _ _ h => h.elim
        have T4 : Turn (OwnT g bd bv ve) w w4 := T3.then (Turn.of_grown (F := fun j => j = w2.heap.size) HG4.out fun j e => by injection e with e; exact e.symm) fun j hj h => by omega
        have T5 : Turn (OwnT g bd bv ve) w w5 := T4.then (Turn.of_below (F := fun _ => False) B5.out) fun _ _ h => h.elim
        have T6 : Turn (OwnT g bd bv ve) w w6 := T5.then (Turn.of_grown (F := fun j => j = bv) HG6.out fun j e => by injection e with e; exact e.symm) fun j hj h => .inr (.inr (.inl h))
        have T7 : Turn (OwnT g bd bv ve) w w7 := T6.then HT7.out fun j hj h => h.elim .inl fun h => .inr (.inr (.inr h))
        have hT := HM.out.turn HM7.out T7 (HV7.out.imp id fun ⟨j, e, hj⟩ i hi => by rw [e] at hi; injection hi with hi; omega) (fun e he => by
          rcases List.mem_append.1 he with he | he
          · exact .inl he
          · rw [List.mem_singleton.1 he]
            exact .inr hw2)
        have hM := HM7.out
        rw [← secs_snoc (s := s) (s1 := s1) HSM.out] at hM
        have hd1 := HSM.out.1
        rw [← hd1] at hM
        refine ⟨rfl, ⟨⟨?_, ?_, HOK1.out.2.2⟩, bd, bv, ve', nextC c, es ++ [((k, padS b), w2.heap.size)], ?_, ?_, HLK.out, ?_⟩, hT.1, hT.2⟩
        · show ∀ x ∈ s1.dur, x.length = 64
          rw [hd1]
          exact HOK.out.1
        · intro p hp
          show p.1 < s1.dur.length ∧ p.2.length = 64
          rw [hd1]
          rcases List.mem_append.1 hp with hp | hp
          · exact HOK.out.2.1 p hp
          · rw [List.mem_singleton.1 hp]
            exact ⟨HKL.out, HP64.out⟩
        · show Mem w7 g bd bv ve' s1.dur.length (!s1.off) (nextC c) (es ++ [((k, padS b), w2.heap.size)]) s1.dur (secs { s1 with pend := s.pend ++ [(k, padS b)] })
          exact hM
        · rw [List.map_append, HES.out]
          rfl
        · show s1.dur.length ≤ 8192
          rw [hd1]
          exact HN.out
  · rw [if_pos hb0, if_pos hb0]
    generalize badS s at' 0 = q at *
    go_enter Try.func17, Try.ntmps17
    go_wp2_with fail
    refine (CK.out).mono ?_
    rintro e w1 ⟨rfl, hB1⟩
    have B1 := Lib.hid hB1
    clear hB1 CK
    go_wp2_with fail
    go_ret
    exact ⟨rfl, (STAY.out _ B1.out).2⟩
end
end Go.Proofs.Ythknlimhenbhfaa

/- The reference's disk: Flush, Read, NewDisk. -/
import Derived.Test.YthknlimhenbhfaaDkt
namespace Go.Proofs.Ythknlimhenbhfaa
open Go.RowKit Dig
set_option linter.unusedVariables false
section
variable {w : World} {ops : Array Oper} {rest : List Oper} {o : Oper} {a : Act} {Q : Exit → Act → World → Prop}
/-- A new variable. -/
theorem wp_allocC {T : TypeId} {z : Value} {k by' : Nat} (hI : (Try.prog.info? T).map (fun i => (i.zero, i.size, i.bytes)) = some (some z, k, by')) (hg : o.guard = none) (ho : o.op = .alloc T)
    (h : ∀ w', w'.heap[w.heap.size]? = some (.cells z.cells T (0, 0)) → Below w.heap.size w w' → wpList Try.prog ops Q rest (a.put o.dst (.pointer (some ⟨w.heap.size, 0, none⟩))) w') :
    wpList Try.prog ops Q (o :: rest) a w := by
  cases hq : Try.prog.info? T with
  | none => simp [hq] at hI
  | some i0 =>
    simp [hq] at hI
    refine wpList_plain hg fun K hK => ?_
    have hr : (Instr.alloc T true (.tuple #[])).run Try.prog w = .ok (.pointer (some ⟨w.heap.size, 0, none⟩)) (w.alloc (.cells z.cells T)) := by
      simp [Instr.alloc, zeroValue, typeInfo, hq, hI.1, newVar, newRow]
    unfold Oper.wp execOp
    simp only [ho, Sem.run_bind, hr, Result.andThen_ok]
    exact hK _ _ (h _ (heap_alloc_new w _) ((Below.refl _ _).alloc (Nat.le_refl _) _))
/-- A whole value is stored in a variable of its own. -/
theorem wp_storeC {T e : TypeId} {g : Nat} {cur : Array Value} {cs : List Value} (hi : (Try.prog.info? T).map (·.size) = some cs.length) (hg : w.heap[g]? = some (.cells cur e (0, 0))) (hl : cs.length = cur.size) (h1 : ∀ v ∈ cs, v.oneCell' = true)
    (hgd : o.guard = none) (t s : Tmp) (ho : o.op = .store T (.tmp t) (.tmp s)) (hx : a.eval (.tmp t) = .pointer (some ⟨g, 0, none⟩)) (hy : a.eval (.tmp s) = .agg cs.toArray)
    (h : ∀ w', w'.heap[g]? = some (.cells cs.toArray e (0, 0)) → w.grownBy w' (some g) → wpList Try.prog ops Q rest (a.put o.dst undef) w') :
    wpList Try.prog ops Q (o :: rest) a w := by
  refine wpList_plain hgd fun K hK => ?_
  have hr := exec_storeC (w := w) (ev := a.eval) (o := o) t s hi hg (by omega : 0 + cs.length ≤ cur.size) h1 ho hx hy
  unfold Oper.wp
  rw [hr]
  simp only [Oper.upon]
  refine hK _ _ (h _ ?_ (grown_spl (World.grownBy.refl _ _)))
  unfold spl
  rw [hg]
  have : (splice cur.toList 0 cs).toArray = cs.toArray := by
    unfold splice
    rw [List.take_zero, List.nil_append, List.drop_eq_nil_of_le (by simp; omega), List.append_nil]
  show (w.setRow g (splice cur.toList 0 cs).toArray).heap[g]? = _
  rw [this]
  exact setRow_heap w g cur _ e (0, 0) hg
end
section
variable {w w' : World} {g : Nat} {s : DS}
/-- The sectors are made anew, no write is pending. -/
theorem DskR.flushed {w2 : World} {r : Value} {L : List (List UInt8)} (h : DskR w g s) (hB : Below w.heap.size w w2) (ho : w2.ownsRow w.heap.size 72 64 r s.dur.length (secC L)) (hl : L.length = s.dur.length) (h64 : ∀ x ∈ L, x.length = 64) :
    DskR ((w2.setCell ⟨g, 0, none⟩ r).setCell ⟨g, 1, none⟩ (.slice none 0 0)) g { s with dur := L, pend := [] } ∧ w.grownBy ((w2.setCell ⟨g, 0, none⟩ r).setCell ⟨g, 1, none⟩ (.slice none 0 0)) (some g) ∧ Feet w ((w2.setCell ⟨g, 0, none⟩ r).setCell ⟨g, 1, none⟩ (.slice none 0 0)) g := by
  have hlt := h.lt
  obtain ⟨h0, v1, v2, h1, _⟩ := h
  have hg0 : w2.grownBy ((w2.setCell ⟨g, 0, none⟩ r).setCell ⟨g, 1, none⟩ (.slice none 0 0)) (some g) := grown_set (grown_put' _ _ _ _) _ _
  have hne : r.ownBlock ≠ some g := fun e => by
    have := (ho.lt g e).1
    omega
  refine ⟨⟨⟨h64, fun p hp => (List.not_mem_nil hp).elim, h0.2.2⟩, r, .slice none 0 0, ((h1.below hB).put0 r).put1 _, ?_, ?_, hne, by simp [Value.ownBlock], fun b e => ?_⟩, grown_trans ⟨hB.os, hB.tape, hB.output, hB.size, fun k hk _ => hB.block k hk⟩ hg0, fun b hb => ?_⟩
  · show Cel _ r 64 L.length (secC L)
    rw [hl]
    exact (own_cel ho).grown hg0 (fun b hb e => hne (hb.trans e.symm))
  · exact Cel.nil _ 65
  · rcases e with e | e
    · exact Nat.lt_of_lt_of_le (ho.lt b e).2 hg0.size
    · simp [Value.ownBlock] at e
  · rcases (foot_of (((h1.below hB).put0 r).put1 (.slice none 0 0))).1 hb with h | h | h
    · exact .inl (.inl h)
    · exact .inr (ho.lt b h).1
    · simp [Value.ownBlock] at h
set_option maxHeartbeats 4000000 in
theorem rflush_c (h : DskR w g s) (hn : s.dur.length ≤ 10000) (hp : s.pend.length ≤ 1000) : Calls Try.prog 25 #[.pointer (some ⟨g, 0, none⟩)] w (RDk w g (.int .i64 (flushS s).1) (flushS s).2) := by
  have H := Lib.hid h
  have F := Lib.hid (rfails_c h)
  obtain ⟨_, v1, v2, hc, _⟩ := h
  obtain ⟨-, -, c2, -, -⟩ := hc.cells
  have HN := Lib.hid hn
  have HP := Lib.hid hp
  clear hc hn hp
  unfold flushS
  by_cases ho : s.off = true
  · rw [if_pos ho]
    rw [ho] at c2
    clear ho
    go_enter Try.func25, Try.ntmps25
    go_wp2_with fail
    go_ret
    exact ⟨rfl, H.out, World.grownBy.refl _ _, Feet.refl _ _⟩
  · rw [if_neg ho]
    have ho' : s.off = false := by simpa using ho
    rw [ho'] at c2
    have hsame := failsS_same s
    have hok' := failsS_ok H.out.1
    generalize hf : (failsS s).1 = f at F ⊢
    generalize hs1 : (failsS s).2 = s1 at F hsame hok' ⊢
    have HSM := Lib.hid hsame
    cases f with
    | true =>
      rw [if_pos rfl]
      clear ho ho' hf hs1 hsame hok'
      go_enter Try.func25, Try.ntmps25
      go_wp2_with fail
      refine (F.out).mono ?_
      rintro e w1 ⟨rfl, hD, hG, hF⟩
      have HD := Lib.hid hD
      have HG := Lib.hid hG
      have HF := Lib.hid hF
      clear hD hG hF c2
      go_wp2_with fail
      go_ret
      exact ⟨rfl, HD.out, HG.out, HF.out⟩
    | false =>
      rw [if_neg (by decide)]
      clear ho ho' hf hs1 hsame hok'
      go_enter Try.func25, Try.ntmps25
      go_wp2_with fail
      refine (F.out).mono ?_
      rintro e w1 ⟨rfl, hD, hG, hF⟩
      have HD := Lib.hid hD
      have HG := Lib.hid hG
      have HF := Lib.hid hF
      have SC := Lib.hid (rsectors_c hD (by rw [HSM.out.1]; exact HN.out) (by rw [HSM.out.2]; exact HP.out))
      clear hD hG hF c2
      go_wp2_with fail
      refine (SC.out).mono ?_
      rintro e w2 ⟨r, rfl, hO, hB⟩
      have hfl := HD.out.flushed hB hO (secs_ok HD.out.1).2 (secs_ok HD.out.1).1
      obtain ⟨A, c, er⟩ := (own_cel hO).form
      subst er
      obtain ⟨u1, u2, hc2⟩ := HD.out.2
      obtain ⟨d0, d1, -, -, -⟩ := (hc2.1.below hB).cells
      have z0 := (hc2.1.below hB).thaw 0
      have z1 := (hc2.1.below hB).thaw 1
      have HFL := Lib.hid hfl
      clear hc2 hO hB hfl
      generalize s1.dur.length = n1 at *
      go_wp2_with fail
      go_ret
      have hsecs : secs s1 = secs s := by unfold secs; rw [HSM.out.1, HSM.out.2]
      refine ⟨rfl, ?_, grown_trans HG.out HFL.out.2.1, HF.out.trans HFL.out.2.2 HG.out.size⟩
      rw [← hsecs]
      exact HFL.out.1
/-- The bytes of a variable that is an array. -/
theorem byt_arr {T : TypeId} {S : List UInt8} (h : w.heap[g]? = some (.cells (Y S).toArray T (0, 0))) (hS : S.length = 64) : Byt w (.slice (some ⟨g, 0, none⟩) 64 64) S := by
  refine ⟨some ⟨g, 0, none⟩, 64, by rw [hS], ⟨by omega, fun e => by cases e⟩, by unfold maxLen; omega, fun _ => ⟨g, 0, rfl, lt_of_heap h, fun j hj => ?_⟩⟩
  rw [cell_of_row w g _ _ _ (0, 0) h, List.getElem?_toArray, Nat.zero_add]
  exact Y_get S j hj
/-- What a read hands back. -/
def RRead (w : World) (p : Int × List UInt8) (e : Ending) (w' : World) : Prop := ∃ r, e = .returned (.tuple #[r, .int .i64 p.1]) ∧ Byt w' r p.2 ∧ Below w.heap.size w w'
set_option maxRecDepth 20000 in
set_option maxHeartbeats 4000000 in
theorem rread_c (h : DskR w g s) (hn : s.dur.length ≤ 10000) (hp : s.pend.length ≤ 1000) (at' : Int) : Calls Try.prog 30 #[.pointer (some ⟨g, 0, none⟩), .int .i64 at'] w (RRead w (readS s at')) := by
  have SC := Lib.hid (rsectors_c h hn hp)
  have HS := Lib.hid (secs_ok h.1)
  obtain ⟨_, v1, v2, hc, hd, _⟩ := h
  obtain ⟨A1, c1, rfl⟩ := hd.form
  obtain ⟨c0, -, c2, -, -⟩ := hc.cells
  have hni : (s.dur.length : Int) ≤ 10000 := by omega
  unfold readS badS
  clear hc hd hn hp
  by_cases ho : s.off = true
  · rw [if_pos ho, if_pos (by decide)]
    rw [ho] at c2
    clear ho SC HS
    go_enter Try.func30, Try.ntmps30
    go_wp2_with fail
    go_ret2
    exact ⟨_, rfl, Byt.nil _, Below.refl _ _⟩
  · rw [if_neg ho]
    have ho' : s.off = false := by simpa using ho
    rw [ho'] at c2
    by_cases hb : at' < 0 ∨ (s.dur.length : Int) ≤ at'
    · rw [if_pos hb, if_pos (by decide)]
      by_cases h0 : at' < 0
      · clear ho ho' hb SC HS
        go_enter Try.func30, Try.ntmps30
        go_wp2_with fail
        go_ret2
        exact ⟨_, rfl, Byt.nil _, Below.refl _ _⟩
      · have h1 : at' ≥ (s.dur.length : Int) := by omega
        clear ho ho' hb SC HS
        generalize s.dur.length = n at *
        go_enter Try.func30, Try.ntmps30
        go_wp2_with fail
        go_ret2
        exact ⟨_, rfl, Byt.nil _, Below.refl _ _⟩
    · rw [if_neg hb, if_neg (by decide)]
      obtain ⟨k, rfl⟩ := Int.eq_ofNat_of_zero_le (show 0 ≤ at' by omega)
      rw [Int.toNat_natCast]
      have h0 : ¬ (k : Int) < 0 := by omega
      have h1 : ¬ (k : Int) ≥ (s.dur.length : Int) := by omega
      have hks : k < (secs s).length := by rw [HS.out.2]; omega
      have h64 := HS.out.1 _ (List.getElem_mem hks)
      have hpart := secC_part hks HS.out.1
      have hgd : (secs s).getD k [] = (secs s)[k] := by simp [List.getD_eq_getElem?_getD, hks]
      rw [hgd]
      generalize (secs s)[k] = S at h64 hpart ⊢
      have HPT := Lib.hid hpart
      have H64 := Lib.hid h64
      obtain ⟨z, hI, hz⟩ := zero_sec
      have HI := Lib.hid hI
      have hkn := Lib.hid (show k < s.dur.length by omega)
      have hsz := Lib.hid (size_sec h64)
      clear ho ho' hb HS hks hgd hpart h64 hI
      generalize s.dur.length = n at *
      go_enter Try.func30, Try.ntmps30
      go_wp2_with fail
      refine (SC.out).mono ?_
      rintro e w1 ⟨r, rfl, hO, hB⟩
      obtain ⟨gr, cr, rfl⟩ := own_block hO (by have := hkn.out; omega)
      obtain ⟨b, off, eA, hb1, hrg⟩ := (own_cel hO).range (by have := hkn.out; omega)
      have hrp := range_part hrg (k * 64) 64
      rw [HPT.out] at hrp
      have HRP := Lib.hid hrp
      have B1 := Lib.hid hB
      have hki : (k : Int) < n := by have := hkn.out; omega
      clear hO hB hrg hrp c0 c2 SC
      go_wp2_with (first | ((with_reducible refine wpList_load_mid rfl 72 (.tmp 27) rfl b (off + k * 64) ?hx (Y S) (.array 64 5) HRP.out ?hu ?hd ?hi ?_); (case hx => rfl); (case hu => exact Try.underlying72); (case hd => rfl); (case hi => exact hsz.out)) | ((with_reducible refine wp_allocC HI.out rfl rfl ?_); intro w2 hA hB2; have HA2 := Lib.hid hA; have B2 := Lib.hid hB2; clear hA hB2) | ((with_reducible refine wp_storeC (T := 72) (e := 72) (g := w1.heap.size) (cur := z.cells) (cs := Y S) ?hi ?hg ?hl ?h1 ?hgd 6 28 ?ho ?hx ?hy ?_); (case hgd => rfl); (case ho => rfl); (case hi => exact hsz.out); (case hg => exact HA2.out); (case hl => rw [Y_length, H64.out, hz]); (case h1 => exact Y_oneCell S); (case hx => rfl); (case hy => rfl); intro w3 hC hG3; have HC3 := Lib.hid hC; have HG3 := Lib.hid hG3; clear hC hG3) | ((with_reducible refine wp_noneB rfl rfl ?_); intro w4 hS4 hB4; have o4 := Lib.hid hS4; have BN4 := Lib.hid hB4; clear hS4 hB4) | (at_builtin; refine wp_appendB rfl _ _ rfl w3.heap.size _ [] rfl o4.out _ S rfl ((byt_arr HC3.out H64.out).below BN4.out) (by have := H64.out; simp; omega) BN4.out.size ?_; intro v5 w5 hv5 hg5; have B5 := Lib.hid (below_ownB BN4.out hg5 o4.out (Nat.le_refl _)); have o5 := Lib.hid hv5; clear hv5 hg5))
      go_ret2
      rw [List.nil_append] at o5
      have B12 := below_then B1.out B2.out
      have B3 := B12.grown HG3.out B12.size (fun k e => by injection e with e; have := B1.out.size; omega)
      exact ⟨_, rfl, o5.out.byt, below_then B3 B5.out⟩
end
end Go.Proofs.Ythknlimhenbhfaa

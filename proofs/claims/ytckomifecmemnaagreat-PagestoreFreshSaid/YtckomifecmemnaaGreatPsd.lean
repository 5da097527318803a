/- The reference's page store: Put, Delete, Rollback, Find, Get, NewStore. -/
import Derived.Test.YtckomifecmemnaaGreatPsc
namespace Go.Proofs.YtckomifecmemnaaGreat
open Go.RowKit Dig
set_option linter.unusedVariables false

section
variable {w w2 w3 : World} {R : Nat → Prop} {m : Nat} {s : SS} {r vb : Value} {l : List Pg} {b : List UInt8}
theorem RSto.wide (h : RSto w R m s) (w0 : World) : RSto w (MoreR R w0 w) m s := by
  obtain ⟨h0, h1, h2, kv, wv, hc, hK, hW⟩ := h
  exact ⟨h0, .inl h1, fun b hb => hb.elim (h2 b) (·.2), kv, wv, hc, hK.wide fun b hb => ⟨.inl hb.1, hb.2⟩, hW.wide fun b hb => ⟨.inl hb.1, hb.2⟩⟩
/-- A call that changes nothing. -/
theorem RSto.still (h : RSto w R m s) (hB : Below w.heap.size w w2) (v : Value) : RSd w R m v s (.returned v) w2 := ⟨rfl, (h.below hB).wide w, Turn.of_below _ hB⟩
/-- The working copy is replaced. -/
theorem RSto.setWork (h : RSto w R m s) (hB : Below w.heap.size w w2) (hp : PgsV w2 (MoreR (fun b => R b ∧ b ≠ m) w w2) r l) (hok : okSS { s with work := l }) (v : Value) : RSd w R m v { s with work := l } (.returned v) (w2.setCell ⟨m, 2, none⟩ r) := by
  obtain ⟨h0, h1, h2, kv, wv, hc, hK, hW⟩ := h
  have hg := grown_put' w2 m 2 r
  have hs := hB.size
  have hm := hc.lt
  have hz := size_set w2 ⟨m, 2, none⟩ r
  have hc2 := (hc.keepB (hB.block m hm)).put2 r
  have hK2 := hK.below hB
  generalize w2.setCell ⟨m, 2, none⟩ r = w3 at *
  refine ⟨rfl, ⟨hok, .inl h1, fun b hb => hb.elim (fun h => by have := h2 b h; omega) (·.2), kv, r, hc2, hK2.keep (by omega) (fun b hb hx => hg.block b hb fun e => hx.2 (by injection e)) (fun b hb => ⟨.inl hb.1, hb.2⟩), hp.keep (by omega) (fun b hb hx => hg.block b hb fun e => ?_) fun b hb => ?_⟩, (Turn.of_below _ hB).then (Turn.of_grown (F := fun b => b = m) hg fun k e => by injection e with e; exact e.symm) fun _ _ h => h⟩
  · injection e with e
    rcases hx with hx | hx
    · exact hx.2 e
    · omega
  · rcases hb with hb | hb
    · exact ⟨.inl hb.1, hb.2⟩
    · exact ⟨.inr ⟨hb.1, by omega⟩, by omega⟩
theorem RSto.wlen (h : RSto w R m s) : m < w.heap.size := h.2.2.1 m h.2.1
set_option maxHeartbeats 4000000 in
theorem rput_c (h : RSto w R m s) (hlen : s.work.length ≤ 900) (no : Int) (hb : Byt w vb b) (hbl : b.length ≤ 100000) :
    Calls Tryz.prog 21 #[.pointer (some ⟨m, 0, none⟩), .int .i64 no, vb] w (RSd w R m (.int .i64 (putS s no b).1) (putS s no b).2) := by
  have H := Lib.hid h
  have HVB := Lib.hid hb
  obtain ⟨Ab, cb, rfl⟩ := hb.form
  obtain ⟨h0, h1, h2, kv, wv, hc, hK, hW⟩ := h
  have hbi : (b.length : Int) ≤ 100000 := by omega
  have HOK := Lib.hid (put_ok h0 no b)
  obtain ⟨Aw, cw, rfl⟩ := hW.form
  obtain ⟨-, -, c2⟩ := hc.cells
  have HC := Lib.hid hc
  have HBL := Lib.hid hbl
  have HW := Lib.hid hW
  have HLN := Lib.hid (show s.work.length ≤ 1000 by omega)
  have HRL := Lib.hid (show ∀ x, (R x ∧ x ≠ m) → x < w.heap.size from fun x hx => h2 x hx.1)
  unfold putS at HOK ⊢
  clear hc hK hW h0 h1 h2 hb hbl hlen
  by_cases hn : no < 0 ∨ 256 ≤ no
  · rw [if_pos hn]
    rcases hn with hn | hn
    · clear HOK
      generalize b.length = bl at *
      go_enter Tryz.func21, Tryz.ntmps21
      go_wp2_with fail
      go_ret
      exact H.out.still (Below.refl _ _) _
    · have hn0 : ¬ no < 0 := by omega
      have hn1 : no ≥ 256 := hn
      clear HOK hn
      generalize b.length = bl at *
      go_enter Tryz.func21, Tryz.ntmps21
      go_wp2_with fail
      go_ret
      exact H.out.still (Below.refl _ _) _
  · rw [if_neg hn]
    rw [if_neg hn] at HOK
    obtain ⟨k, rfl⟩ := Int.eq_ofNat_of_zero_le (show 0 ≤ no by omega)
    have hn0 : ¬ (k : Int) < 0 := by omega
    have hn1 : ¬ (k : Int) ≥ 256 := by omega
    have HK1 := Lib.hid (show k ≤ 1000000 by omega)
    by_cases hb : 1024 < b.length
    · rw [if_pos hb]
      have hbi2 : (1024 : Int) < (b.length : Int) := by omega
      clear HOK hn hb
      generalize b.length = bl at *
      go_enter Tryz.func21, Tryz.ntmps21
      go_wp2_with fail
      go_ret
      exact H.out.still (Below.refl _ _) _
    · rw [if_neg hb]
      rw [if_neg hb] at HOK
      have hbi2 : ¬ (1024 : Int) < (b.length : Int) := by omega
      have WT := Lib.hid (with_c (v := .slice Aw s.work.length cw) HW.out HRL.out HLN.out HVB.out HBL.out k HK1.out)
      clear hn hb
      go_enter Tryz.func21, Tryz.ntmps21
      go_wp2_with fail
      refine (WT.out).mono ?_
      rintro e w1 ⟨r, rfl, hp, hB⟩
      have hfin := H.out.setWork hB hp HOK.out (.int .i64 0)
      obtain ⟨Ar, cr, rfl⟩ := hp.form
      have hc1 := HC.out.keepB (hB.block m HC.out.lt)
      have d2 := hc1.cells.2.2
      have z2 := hc1.thaw 2
      have HFN := Lib.hid hfin
      clear hfin hp hB hc1 WT
      generalize (withS s.work ((k : Int)).toNat b).length = wl at *
      generalize (withS s.work k b).length = wl2 at *
      go_wp2_with fail
      go_ret
      exact HFN.out
set_option maxHeartbeats 4000000 in
theorem rdelete_c (h : RSto w R m s) (hlen : s.work.length ≤ 900) (no : Int) :
    Calls Tryz.prog 39 #[.pointer (some ⟨m, 0, none⟩), .int .i64 no] w (RSd w R m (.int .i64 (deleteS s no).1) (deleteS s no).2) := by
  have H := Lib.hid h
  obtain ⟨h0, h1, h2, kv, wv, hc, hK, hW⟩ := h
  have HOK := Lib.hid (delete_ok h0 no)
  obtain ⟨Aw, cw, rfl⟩ := hW.form
  obtain ⟨-, -, c2⟩ := hc.cells
  have HC := Lib.hid hc
  have HW := Lib.hid hW
  have HLN := Lib.hid (show s.work.length ≤ 1000 by omega)
  have HRL := Lib.hid (show ∀ x, (R x ∧ x ≠ m) → x < w.heap.size from fun x hx => h2 x hx.1)
  unfold deleteS at HOK ⊢
  clear hc hK hW h0 h1 h2 hlen
  by_cases hn : no < 0 ∨ 256 ≤ no
  · rw [if_pos hn]
    rcases hn with hn | hn
    · clear HOK
      go_enter Tryz.func39, Tryz.ntmps39
      go_wp2_with fail
      go_ret
      exact H.out.still (Below.refl _ _) _
    · have hn0 : ¬ no < 0 := by omega
      have hn1 : no ≥ 256 := hn
      clear HOK hn
      go_enter Tryz.func39, Tryz.ntmps39
      go_wp2_with fail
      go_ret
      exact H.out.still (Below.refl _ _) _
  · rw [if_neg hn]
    rw [if_neg hn] at HOK
    obtain ⟨k, rfl⟩ := Int.eq_ofNat_of_zero_le (show 0 ≤ no by omega)
    have hn0 : ¬ (k : Int) < 0 := by omega
    have hn1 : ¬ (k : Int) ≥ 256 := by omega
    have WT := Lib.hid (without_c (v := .slice Aw s.work.length cw) HW.out HRL.out HLN.out k (by omega))
    clear hn
    rw [Int.toNat_natCast] at HOK ⊢
    by_cases hd : (withoutS s.work k).length < s.work.length
    · rw [if_pos hd]
      rw [if_pos hd] at HOK
      rw [show decide ((withoutS s.work k).length < s.work.length) = true by simpa using hd] at WT
      clear hd
      go_enter Tryz.func39, Tryz.ntmps39
      go_wp2_with fail
      refine (WT.out).mono ?_
      rintro e w1 ⟨r, rfl, hp, hB⟩
      have hfin := H.out.setWork hB hp HOK.out (.int .i64 0)
      obtain ⟨Ar, cr, rfl⟩ := hp.form
      have hc1 := HC.out.keepB (hB.block m HC.out.lt)
      have d2 := hc1.cells.2.2
      have z2 := hc1.thaw 2
      have HFN := Lib.hid hfin
      clear hfin hp hB hc1 WT
      generalize (withoutS s.work k).length = wl at *
      go_wp2_with fail
      go_ret
      exact HFN.out
    · rw [if_neg hd]
      rw [show decide ((withoutS s.work k).length < s.work.length) = false by simpa using hd] at WT
      clear hd HOK
      go_enter Tryz.func39, Tryz.ntmps39
      go_wp2_with fail
      refine (WT.out).mono ?_
      rintro e w1 ⟨r, rfl, hp, hB⟩
      have HB1 := Lib.hid hB
      obtain ⟨Ar, cr, rfl⟩ := hp.form
      clear hp hB WT
      generalize (withoutS s.work k).length = wl at *
      go_wp2_with fail
      go_ret
      exact H.out.still HB1.out _
end
end Go.Proofs.YtckomifecmemnaaGreat

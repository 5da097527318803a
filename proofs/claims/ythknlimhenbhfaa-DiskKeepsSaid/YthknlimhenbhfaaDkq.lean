/- The walk of DiskPlays. -/
import Derived.Test.YthknlimhenbhfaaDkl
namespace Go.Proofs.Ythknlimhenbhfaa
open Go.RowKit Dig
set_option linter.unusedVariables false

theorem crashL_length (keep last : Nat) (torn : Int) : ∀ (P : List (Nat × List UInt8)) (L : List (List UInt8)) (i : Nat), (crashL keep last torn L i P).length = L.length
  | [], L, i => rfl
  | p :: P, L, i => by
    show (crashL keep last torn (crash1 keep last torn L i p) (i + 1) P).length = L.length
    rw [crashL_length keep last torn P, crash1_length]
theorem flush_len {s : DS} (h : okDS s) : (flushS s).2.dur.length = s.dur.length ∧ (flushS s).2.pend.length ≤ s.pend.length := by
  have hf := failsS_same s
  unfold flushS
  split
  · exact ⟨rfl, Nat.le_refl _⟩
  · split
    · rw [hf.1, hf.2]
      exact ⟨rfl, Nat.le_refl _⟩
    · exact ⟨(secs_ok h).2, Nat.zero_le _⟩
theorem write_len (s : DS) (at' : Int) (b : List UInt8) : (writeS s at' b).2.dur.length = s.dur.length ∧ (writeS s at' b).2.pend.length ≤ s.pend.length + 1 := by
  have hf := failsS_same s
  unfold writeS
  split
  · exact ⟨rfl, Nat.le_succ _⟩
  · split
    · rw [hf.1, hf.2]
      exact ⟨rfl, Nat.le_succ _⟩
    · refine ⟨by show (failsS s).2.dur.length = _; rw [hf.1], ?_⟩
      show (s.pend ++ [(at'.toNat, padS b)]).length ≤ _
      simp
theorem act_len {s : DS} (h : okDS s) (o : Op6) : (actS s o).dur.length = s.dur.length ∧ (actS s o).pend.length ≤ s.pend.length + 1 := by
  unfold actS
  split
  · have := flush_len h
    exact ⟨this.1, by omega⟩
  · split
    · exact ⟨rfl, Nat.le_succ _⟩
    · split
      · exact ⟨crashL_length _ _ _ _ _ _, Nat.zero_le _⟩
      · split
        · exact ⟨rfl, Nat.le_succ _⟩
        · exact write_len _ _ _
section
variable {D : World → Nat → DS → Prop} {fp : World → Nat → Nat → Prop} {w w1 w2 w' : World} {B g1 g2 : Nat} {s1 s2 : DS} {v : Value} {l : List Op6}
/-- A model beside a disk. -/
theorem Two.new (P : Prog6 D fp) (h : One D fp w1 B g1 s1) (hB : B ≤ w1.heap.size) (hr : DskR w2 g2 s2) (hb : Below w1.heap.size w1 w2) (hf : ∀ b, foot w2 g2 b → w1.heap.size ≤ b) : Two D fp w2 B g1 g2 s1 s2 := by
  have h2 := h.below P hb
  exact ⟨h2.1, hr, h2.2, fun b h => Nat.le_trans hB (hf b h), fun b h1 h3 => h.apart P hb (hf b h3) h1⟩
/-- The bytes of a call that came in lie low. -/
theorem Byt.low {u : Value} {ts : List UInt8} (h : Byt w u ts) : 0 < ts.length → ∀ k, u.ownBlock = some k → k < w.heap.size := by
  intro hp k hk
  obtain ⟨A, c, rfl, h2, h3, h5⟩ := h
  obtain ⟨b, off, rfl, hlt, _⟩ := h5 hp
  obtain rfl : b = k := by simpa [Value.ownBlock] using hk
  exact hlt
set_option maxRecDepth 20000 in
set_option maxHeartbeats 4000000 in
theorem plays_walk (P : Prog6 D fp) (h : Ops6 w v l) : Calls Try.prog 3 #[v] w (RVal w (.bool true)) := by
  obtain ⟨r, hr, F⟩ := fits_c h 40 (by omega)
  have F := Lib.hid F
  have H := Lib.hid h
  have hP := Lib.hid P
  obtain ⟨A, c, rfl⟩ := h.form
  cases r with
  | false =>
    clear h hr P
    go_enter Try.func3, Try.ntmps3
    go_wp2_with fail
    refine (F.out).mono ?_
    rintro e wz ⟨rfl, rfl⟩
    go_wp2_with fail
    go_ret
    exact ⟨rfl, Below.refl _ _⟩
  | true =>
    obtain ⟨hl, hd⟩ := hr.1 rfl
    have HL := Lib.hid hl
    have HD := Lib.hid hd
    have hl2 : (l.length : Int) ≤ 40 := by omega
    clear h hr P hl hd
    go_enter Try.func3, Try.ntmps3
    go_wp2_with fail
    refine (F.out).mono ?_
    rintro e wz ⟨rfl, rfl⟩
    clear F
    go_wp2_with fail
    refine (hP.out.new w 4 (by omega) (by omega)).mono ?_
    rintro e w1 ⟨g1, rfl, hD, hB1, hF⟩
    have O1 := Lib.hid (show One D fp w1 w.heap.size g1 (newS 4) from ⟨hD, hF⟩)
    have B1 := Lib.hid hB1
    clear hD hF hB1
    go_wp2_with fail
    refine (rnew_c w1 4 (by omega)).mono ?_
    rintro e w2 ⟨g2, rfl, -, hR, hB2, hf⟩
    have T2 := Lib.hid (Two.new hP.out O1.out B1.out.size hR hB2 hf)
    have B2 := Lib.hid (below_then B1.out hB2)
    clear hR hB2 hf O1 B1
    go_wp2_with fail
    go_loopw [6] (fun i wr => ∃ (j : Nat) (s : DS), j ≤ l.length ∧ i = .int .i64 j ∧ s.dur.length = 4 ∧ s.pend.length ≤ j ∧ Two D fp wr w.heap.size g1 g2 s s ∧ Below w.heap.size w wr) (fun i _ => l.length - (intOf i).toNat)
    case atStart => exact ⟨0, newS 4, Nat.zero_le _, rfl, by kernel_rfl, Nat.zero_le _, T2.out, B2.out⟩
    case round =>
      obtain ⟨j, s, hj, rfl, hs4, hsj, hT, hB⟩ := hrel
      have HT := Lib.hid hT
      have HB := Lib.hid hB
      have HS4 := Lib.hid hs4
      have HSJ := Lib.hid hsj
      clear hT hs4 hsj
      by_cases hjn : j < l.length
      · have HI : (j : Int) < l.length := by omega
        have HOK := Lib.hid (H.out.ok hjn)
        have HDJ := Lib.hid (HD.out j hjn)
        obtain ⟨b, off, rfl, hb, a0, a1, a2, a3, u, a4, hu⟩ := H.out.cells hjn
        have c0 := (hB.cell (p := ⟨b, off + j * 5, none⟩) hb).trans a0
        have c1 := (hB.cell (p := ⟨b, off + j * 5 + 1, none⟩) hb).trans a1
        have c2 := (hB.cell (p := ⟨b, off + j * 5 + 2, none⟩) hb).trans a2
        have c3 := (hB.cell (p := ⟨b, off + j * 5 + 3, none⟩) hb).trans a3
        have c4 := (hB.cell (p := ⟨b, off + j * 5 + 4, none⟩) hb).trans a4
        have HLO := Lib.hid hu.low
        have HU := Lib.hid (hu.below hB)
        generalize l.getD j default = o at *
        have HA := Lib.hid (act_c hP.out HT.out HB.out.size ⟨by have := HS4.out; omega, by have := HSJ.out; have := HL.out; omega⟩ HOK.out HU.out HLO.out HDJ.out)
        have HN := Lib.hid (act_len (hP.out.ok HT.out.1) o)
        clear a0 a1 a2 a3 a4 hb hB hu HU HLO HDJ HOK
        go_wp2_with fail
        refine (HA.out).mono ?_
        rintro e w3 ⟨rfl, hT3, hB3⟩
        have HT3 := Lib.hid hT3
        have HB3 := Lib.hid (HB.out.trans hB3)
        have HN1 := Lib.hid (show (actS s o).dur.length = 4 from HN.out.1.trans HS4.out)
        have HN2 := Lib.hid (show (actS s o).pend.length ≤ j + 1 from by have := HN.out.2; have := HSJ.out; omega)
        clear hT3 hB3 HA HN HS4 HSJ HT HB c0 c1 c2 c3 c4
        generalize actS s o = s3 at *
        go_wp2_with fail
        refine (agree_c hP.out HT3.out ⟨by have := HN1.out; omega, by have := HN2.out; have := HL.out; omega⟩).mono ?_
        rintro e w4 ⟨rfl, hB4⟩
        have HT4 := Lib.hid (HT3.out.below hP.out hB4)
        have HB4 := Lib.hid (below_then HB3.out hB4)
        clear hB4 HT3 HB3
        go_wp2_with fail
        go_roundw
        case rel => exact ⟨j + 1, s3, by omega, by go_num, HN1.out, HN2.out, HT4.out, HB4.out⟩
        case measure => simp [intOf]; omega
      · have HI : ¬ (j : Int) < l.length := by omega
        clear hB HT HS4 HSJ
        go_wp2_with fail
        refine (known6_c hP.out wr).mono ?_
        rintro e w3 ⟨rfl, hB3⟩
        have HB3 := Lib.hid (below_then HB.out hB3)
        clear hB3
        go_wp2_with fail
        go_ret
        exact ⟨rfl, HB3.out⟩
end
end Go.Proofs.Ythknlimhenbhfaa

/- The walk of CodecReads. -/
import Derived.Test.YtkdnmmbnljaahaaOpz
namespace Go.Proofs.Ytkdnmmbnljaahaa
open Go.RowKit Dig
set_option linter.unusedVariables false

section
variable {w : World} {vb vl : Value} {ts : List UInt8} {l : List (Nat × Nat × Int)}
theorem reads_big (hb : Byt w vb ts) (hl : Ops w vl l) (h : 200 < ts.length ∨ 20 < l.length) :
    Calls Try.prog 4 #[vb, vl] w (RVal w (.bool true)) := by
  obtain ⟨B, bc, rfl⟩ := hb.form
  obtain ⟨A, c, rfl⟩ := hl.form
  generalize ts.length = l0 at *
  generalize l.length = l1 at *
  clear hb hl
  by_cases h0 : 200 < l0
  · have h0i : (200 : Int) < l0 := by omega
    clear h h0
    go_enter Try.func4, Try.ntmps4
    go_wp2_with fail
    go_ret
    exact ⟨rfl, Below.refl _ _⟩
  · have h0i : ¬ (200 : Int) < l0 := by omega
    have h1i : (20 : Int) < l1 := by omega
    clear h h0
    go_enter Try.func4, Try.ntmps4
    go_wp2_with fail
    go_ret
    exact ⟨rfl, Below.refl _ _⟩
set_option maxRecDepth 20000 in
set_option maxHeartbeats 16000000 in
theorem reads_small (hb : Byt w vb ts) (hl : Ops w vl l) (h0 : ts.length ≤ 200) (h1 : l.length ≤ 20) :
    Calls Try.prog 4 #[vb, vl] w (RVal w (.bool true)) := by
  have NR := Lib.hid (newReader_c hb (by omega))
  have HBY := Lib.hid hb
  have HOP := Lib.hid hl
  have HT := Lib.hid h0
  obtain ⟨B, bc, rfl⟩ := hb.form
  obtain ⟨A, c, rfl⟩ := hl.form
  have h0i : ¬ (200 : Int) < ts.length := by omega
  have h1i : ¬ (20 : Int) < l.length := by omega
  have h1j := Lib.hid h1
  clear hb hl h0 h1
  go_enter Try.func4, Try.ntmps4
  go_wp2_with fail
  refine (NR.out).mono ?_
  rintro e w1 ⟨g, rfl, hg, hR1, hB1⟩
  have hBa : Below w1.heap.size w1 (w1.alloc (.cells #[.slice B ts.length bc, .int .i64 0] 42)) := (Below.refl _ _).alloc (Nat.le_refl _) _
  have hM := Rdr.new (T := 42) (HBY.out.below hB1)
  have hR2 := hR1.below hBa
  have hB2 := below_then hB1 hBa
  have hlt := hR1.lt
  have RM := Lib.hid (remaining_c hR2)
  have RE := Lib.hid (err_c hR2)
  have hM := Lib.hid hM
  have hR2 := Lib.hid hR2
  have hB2 := Lib.hid hB2
  have hne := Lib.hid (show g ≠ w1.heap.size by omega)
  have hg2 := Lib.hid hB1.size
  have hg := Lib.hid hg
  clear hBa hR1 hB1 NR hlt
  go_wp2_with fail
  generalize w1.alloc (.cells #[.slice B ts.length bc, .int .i64 0] 42) = w2 at *
  generalize w1.heap.size = g2 at *
  refine (RM.out).mono ?_
  rintro e w' ⟨rfl, rfl⟩
  go_wp2_with fail
  refine (RE.out).mono ?_
  rintro e w' ⟨rfl, rfl⟩
  go_wp2_with fail
  go_loopw [7] (fun i wr => ∃ (j : Nat) (s : RS), j ≤ l.length ∧ i = .int .i64 j ∧ s.1.length ≤ 200 ∧ Rdr 66 wr g s ∧ Rdr 42 wr g2 s ∧ Below w.heap.size w wr) (fun i _ => l.length - (intOf i).toNat)
  case atStart => exact ⟨0, (ts, 0), Nat.zero_le _, rfl, HT.out, hR2.out, hM.out, hB2.out⟩
  case round =>
    obtain ⟨j, s, hj, rfl, hs, hr, hm, hB⟩ := hrel
    by_cases hjn : j < l.length
    · have HI : (j : Int) < l.length := by omega
      obtain ⟨k1, k2, k3, k4⟩ := HOP.out.ok hjn
      obtain ⟨b, off, rfl, hb, c0, c1, c2⟩ := (HOP.out.below hB).cells hjn
      generalize l.getD j default = o at k1 k2 k3 k4 c0 c1 c2
      obtain ⟨o1, o2, o3⟩ := o
      dsimp only at k1 k2 k3 k4 c0 c1 c2
      have ST := Lib.hid (step_c hr hm hne.out (by omega) _ _ k1 k2 _ k3 k4)
      have hle := Lib.hid (show w.heap.size ≤ wr.heap.size from hB.size)
      have HBR := Lib.hid hB
      have HS := Lib.hid hs
      clear k1 k2 k3 k4 hr hm hB hs
      go_wp2_with fail
      refine (ST.out).mono ?_
      rintro e w3 ⟨s3, rfl, hs3, hr3, hm3, hz3, hB3⟩
      have hB4 := Lib.hid (HBR.out.trans (hB3 w.heap.size hle.out hg.out hg2.out))
      have hr3 := Lib.hid hr3
      have hm3 := Lib.hid hm3
      have hs4 := Lib.hid (Nat.le_trans hs3 HS.out)
      clear hB3 hs3 hz3 c0 c1 c2
      go_wp2_with fail
      go_roundw
      case rel => exact ⟨j + 1, s3, by omega, by go_num, hs4.out, hr3.out, hm3.out, hB4.out⟩
      case measure => simp [intOf]; omega
    · have HI : ¬ (j : Int) < l.length := by omega
      have HBR := Lib.hid hB
      clear hr hm hB hs
      go_wp2_with fail
      refine (known4_c _).mono ?_
      rintro e w3 ⟨rfl, hB3⟩
      go_wp2_with fail
      go_ret
      exact ⟨rfl, below_then HBR.out hB3⟩
end
theorem reads_walk (w : World) (vb vl : Value) (ts : List UInt8) (l : List (Nat × Nat × Int)) (hb : Byt w vb ts) (hl : Ops w vl l) :
    Calls Try.prog 4 #[vb, vl] w (RVal w (.bool true)) := by
  by_cases h : 200 < ts.length ∨ 20 < l.length
  · exact reads_big hb hl h
  · exact reads_small hb hl (by omega) (by omega)
end Go.Proofs.Ytkdnmmbnljaahaa

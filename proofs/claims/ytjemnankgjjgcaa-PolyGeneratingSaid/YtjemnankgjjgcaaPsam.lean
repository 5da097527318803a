/- The contracts of the reference function PolySame, and of same and frac of the laws on polynomials. -/
import Derived.Test.YtjemnankgjjgcaaPlyb
import Derived.Test.YtjemnankgjjgcaaRefL
namespace Go.Proofs.Ytjemnankgjjgcaa
open Go.RowKit Dig
set_option linter.unusedVariables false

section
variable {w : World} {va vb : Value} {ps qs : List Rat} {p q : Rat} {k l : Nat}
theorem fracSame_t (ha : CanF w va q k) (hb : CanF w vb q l) : Calls Try.prog 58 #[va, vb] w (RVal w (.bool true)) := by
  have := fracSame_v ha.fx hb.fx
  rwa [decide_eq_true ⟨rfl, rfl, rfl⟩] at this
set_option maxHeartbeats 4000000 in
theorem polySame_t (ha : Fls (CV k) w va ps) (hb : Fls (CV l) w vb ps) (hm : ps.length ≤ 1000000000) : Calls Try.prog 46 #[va, vb] w (RVal w (.bool true)) := by
  obtain ⟨A, c, rfl⟩ := ha.form
  obtain ⟨B, d, rfl⟩ := hb.form
  have HA := Lib.hid (fun w1 (hr : Below w.heap.size w w1) => (Fls.below ha (keeps_CV k) hr).cells (n := ps.length))
  have HB := Lib.hid (fun w1 (hr : Below w.heap.size w w1) => (Fls.below hb (keeps_CV l) hr).cells (n := ps.length))
  clear ha hb
  generalize ps.length = n at *
  have hne : ((n : Int) != (n : Int)) = false := by simp
  go_enter Try.func46, Try.ntmps46
  go_wp2_with fail
  go_loopw [5] (fun i wr => ∃ j : Nat, j ≤ n ∧ i = .int .i64 j ∧ Below w.heap.size w wr) (fun i _ => n - (intOf i).toNat)
  case atStart => exact ⟨0, Nat.zero_le _, rfl, Below.refl _ _⟩
  case round =>
    obtain ⟨j, hj, rfl, hB⟩ := hrel
    by_cases hjn : j < n
    · have HI : (j : Int) < n := by omega
      obtain ⟨b, off, rfl, hb, hcell⟩ := HA.out _ hB (by omega)
      obtain ⟨b2, off2, rfl, hb2, hcell2⟩ := HB.out _ hB (by omega)
      obtain ⟨tb, X, xm, xc, Y, ym, yc, c0, c1, c2, hv⟩ := hcell j hjn
      obtain ⟨tb2, X2, xm2, xc2, Y2, ym2, yc2, d0, d1, d2, hv2⟩ := hcell2 j hjn
      have SB := Lib.hid (fun w1 (hr : Below wr.heap.size wr w1) => (show w1.cell? ⟨b, off + j * 3, none⟩ = some (.bool tb) ∧ w1.cell? ⟨b, off + j * 3 + 1, none⟩ = some (.slice X xm xc) ∧ w1.cell? ⟨b, off + j * 3 + 2, none⟩ = some (.slice Y ym yc) ∧ w1.cell? ⟨b2, off2 + j * 3, none⟩ = some (.bool tb2) ∧ w1.cell? ⟨b2, off2 + j * 3 + 1, none⟩ = some (.slice X2 xm2 xc2) ∧ w1.cell? ⟨b2, off2 + j * 3 + 2, none⟩ = some (.slice Y2 ym2 yc2) from
        ⟨(hr.cell (p := ⟨b, _, none⟩) hb).trans c0, (hr.cell (p := ⟨b, _, none⟩) hb).trans c1, (hr.cell (p := ⟨b, _, none⟩) hb).trans c2, (hr.cell (p := ⟨b2, _, none⟩) hb2).trans d0, (hr.cell (p := ⟨b2, _, none⟩) hb2).trans d1, (hr.cell (p := ⟨b2, _, none⟩) hb2).trans d2⟩))
      have FSm := Lib.hid (fun w1 (hr : Below wr.heap.size wr w1) => fracSame_t (w := w1) (CanF.below hv hr) (CanF.below hv2 hr))
      have hK : Below wr.heap.size wr wr := Below.refl _ _
      have HBR := Lib.hid hB
      clear hcell hcell2 hv hv2 hB c0 c1 c2 d0 d1 d2
      go_wp2_with fail
      go_region_held3 (fun w1 => w1.cell? ⟨b, off + j * 3, none⟩ = some (.bool tb) ∧ w1.cell? ⟨b, off + j * 3 + 1, none⟩ = some (.slice X xm xc) ∧ w1.cell? ⟨b, off + j * 3 + 2, none⟩ = some (.slice Y ym yc) ∧ w1.cell? ⟨b2, off2 + j * 3, none⟩ = some (.bool tb2) ∧ w1.cell? ⟨b2, off2 + j * 3 + 1, none⟩ = some (.slice X2 xm2 xc2) ∧ w1.cell? ⟨b2, off2 + j * 3 + 2, none⟩ = some (.slice Y2 ym2 yc2)) (first | with_reducible exact SB.out _ hK | exact SB.out _ hK.drew) (first | (go_at_call 58; refine (FSm.out _ hK.drew).mono ?_; rintro e w3 ⟨rfl, hB3⟩; have hK := below_undrew hB3))
      have hB := below_then HBR.out hK
      go_wp2_with fail
      go_roundw
      case rel => exact ⟨j + 1, by omega, by go_num, hB⟩
      case measure => simp [intOf]; omega
    · have HI : ¬ (j : Int) < n := by omega
      go_wp2_with fail
      go_ret
      exact ⟨rfl, hB⟩
theorem same3_t (ha : Fls (CV k) w va ps) (hb : Fls (CV l) w vb qs) (h : ps = qs) (hm : ps.length ≤ 1000000000) : Calls Try.prog 12 #[va, vb] w (RVal w (.bool true)) := by
  subst h
  have S := Lib.hid (polySame_t ha hb hm)
  obtain ⟨A, c, rfl⟩ := ha.form
  obtain ⟨B, d, rfl⟩ := hb.form
  clear ha hb
  go_enter Try.func12, Try.ntmps12
  go_wp2_with fail
  refine (S.out).mono ?_
  rintro e w3 ⟨rfl, hB3⟩
  go_wp2_with fail
  go_ret
  exact ⟨rfl, hB3⟩
theorem frac3_t (ha : CanF w va p k) (hb : CanF w vb q l) (h : p = q) : Calls Try.prog 23 #[va, vb] w (RVal w (.bool true)) := by
  subst h
  obtain ⟨b, A, m, c, A', m', c', rfl, hb1, hx, hy⟩ := ha.parts
  obtain ⟨b2, B, j, d, B', j', d', rfl, hb2, hx2, hy2⟩ := hb.parts
  have hB0 := below_alloc2 w (.cells #[.bool b, .slice A m c, .slice A' m' c'] 29) (.cells #[.bool b2, .slice B j d, .slice B' j' d'] 29)
  have S := Lib.hid (fracSame_t (ha.below hB0) (hb.below hB0))
  have R0 := (Fcl.new w b (.slice A m c) (.slice A' m' c')).alloc (.cells #[.bool b2, .slice B j d, .slice B' j' d'] 29)
  have R1 := Fcl.new2 w (.cells #[.bool b, .slice A m c, .slice A' m' c'] 29) b2 (.slice B j d) (.slice B' j' d')
  obtain ⟨k0, k1, k2⟩ := R0.cells
  obtain ⟨l0, l1, l2⟩ := R1.cells
  clear ha hb hx hy hx2 hy2 hb1 hb2
  go_enter Try.func23, Try.ntmps23
  go_wp2_with fail
  refine (S.out).mono ?_
  rintro e w3 ⟨rfl, hB3⟩
  go_wp2_with fail
  go_ret
  exact ⟨rfl, below_then hB0 hB3⟩
end
end Go.Proofs.Ytjemnankgjjgcaa

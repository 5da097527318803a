/- The contract of estimateDigit: at most one more than the quotient digit. -/
import Derived.Test.YticakmcjiofhoaaDivOne
import Derived.Test.YticakmcjiofhoaaKnuth
namespace Go.Proofs.Yticakmcjiofhoaa
open Go.RowKit Dig
set_option linter.unusedVariables false

def EstSlots (P D dh p0 p1 : Nat) (dd rr : Value) : Prop := ∃ d r : Nat, dd = .int .u64 (d : Int) ∧ rr = .int .u64 (r : Int) ∧ EstRel P D dh p0 p1 d r
set_option maxHeartbeats 2000000 in
theorem est_c (w : World) (vp vd : Value) (ps ds : List Nat) (n : Nat) (hp : Num w vp ps) (hd : Num w vd ds) (hn : 2 ≤ n) (hpl : ps.length = n + 1) (hdl : ds.length = n) (hbig : 2147483648 ≤ ds.getD (n - 1) 0) (hlt : val ps < 4294967296 * val ds) :
    Calls Try.prog 63 #[vp, vd] w fun e w' => ∃ d : Nat, e = .returned (.int .u64 (d : Int)) ∧ (d < 4294967296 ∧ d * val ds < val ps + val ds ∧ val ps < (d + 1) * val ds) ∧ ∃ N, w' = w.drewN N := by
  have E := est_of hn hpl hdl hp.small hd.small hbig hlt
  obtain ⟨A, c, rfl⟩ := hp.form
  obtain ⟨A', c', rfl⟩ := hd.form
  rw [hpl] at hp ⊢
  rw [hdl] at hd ⊢
  have hbp := hp.bounds.2
  have hbd := hd.bounds.2
  obtain ⟨b, off, rfl, hb1, h1⟩ := hp.cells (by omega)
  obtain ⟨b', off', rfl, hb2, h2⟩ := hd.cells (by omega)
  have c0 := h1 n (by omega)
  have c1 := h1 (n - 1) (by omega)
  have c2 := h1 (n - 2) (by omega)
  have d1 := h2 (n - 1) (by omega)
  have d2 := h2 (n - 2) (by omega)
  generalize ps.getD n 0 = p0 at *
  generalize ps.getD (n - 1) 0 = p1 at *
  generalize ps.getD (n - 2) 0 = p2 at *
  generalize ds.getD (n - 1) 0 = dh at *
  generalize ds.getD (n - 2) 0 = dn at *
  generalize val ps = P at *
  generalize val ds = D at *
  have e0 := E.p0_le
  have e1 := E.hb
  have e2 := E.nxb
  have e3 := E.p1b
  have e4 := E.p2b
  have HE := Lib.hid E
  have HST := Lib.hid E.start
  have hdiv : (p0 * 4294967296 + p1) / dh ≤ 4294967297 := E.start.2.2.1
  have ho1 := or_u64 p1 p0 e3 (by omega)
  rw [show p1 + 4294967296 * p0 = p0 * 4294967296 + p1 by omega] at ho1
  have htb : p0 * 4294967296 + p1 < 18446744073709551616 := by omega
  generalize htop : p0 * 4294967296 + p1 = top at *
  have HTOP := Lib.hid htop
  have hdi : (top : Int) / (dh : Int) ≤ 4294967297 := by
    have e : (top : Int) / (dh : Int) = ((top / dh : Nat) : Int) := rfl
    rw [e]; omega
  have hdi0 : 0 ≤ (top : Int) / (dh : Int) := by
    have e : (top : Int) / (dh : Int) = ((top / dh : Nat) : Int) := rfl
    rw [e]; exact Int.natCast_nonneg _
  have hn2 : (2 : Int) ≤ n := by omega
  have hhi : (0 : Int) < dh := by omega
  have hdn0 : ((dh : Int) == 0) = false := by rw [beq_eq_false_iff_ne]; omega
  clear E h1 h2 hp hd hpl hdl htop
  go_enter Try.func63, Try.ntmps63
  go_wp2_with fail
  go_quiet (fail)
  go_wp2_with fail
  go_quiet (fail)
  go_wp2_with fail
  go_quiet (fail)
  go_wp2_with fail
  go_loop [9, 10] (fun dd rr => EstSlots P D dh p0 p1 dd rr) (fun dd _ => (intOf dd).toNat)
  case atStart => exact ⟨top / dh, top % dh, rfl, rfl, HST.out⟩
  case round =>
    obtain ⟨d, r, rfl, rfl, hr⟩ := hrel
    have hd5 := hr.2.2.1
    have hrb : r < 4294967296 ∨ 4294967296 ≤ r := by omega
    have hsum := hr.1
    have hrt : r ≤ p0 * 4294967296 + p1 := by omega
    rw [HTOP.out] at hrt
    have HR := Lib.hid hr
    clear hr hsum hdi hdi0
    by_cases h1 : 4294967296 ≤ r
    · have t1 : ((r : Int) / 4294967296 == 0) = false := by rw [beq_eq_false_iff_ne]; omega
      have HD := Lib.hid (HE.out.done HR.out (.inl h1))
      go_wp2_with fail
      go_ret
      exact ⟨d, rfl, HD.out, _, by first | rfl | rw [World.drewN_drewN, World.drewN_drewN]⟩
    · have t1 : ((r : Int) / 4294967296 == 0) = true := by rw [beq_iff_eq]; omega
      by_cases h2 : 4294967296 ≤ d
      · have t2 : ((d : Int) / 4294967296 != 0) = true := by rw [bne_iff_ne]; omega
        obtain ⟨s1, s2⟩ := HE.out.step HR.out (.inl h2)
        have HS := Lib.hid s2
        clear s2
        go_wp2_with fail
        go_round
        case rel => exact ⟨d - 1, r + dh, by go_num, by go_num, HS.out⟩
        case measure => simp [intOf]; omega
      · have t2 : ((d : Int) / 4294967296 != 0) = false := by rw [bne_eq_false_iff_eq]; omega
        have ho2 := or_u64 p2 r e4 (by omega)
        have m1 := mul_le_digits (show d < 4294967296 by omega) e2
        have m2 : (d : Int) * (dn : Int) ≤ 18446744065119617025 := by rw [← Int.natCast_mul]; omega
        have m3 : (0 : Int) ≤ (d : Int) * (dn : Int) := by rw [← Int.natCast_mul]; omega
        by_cases h3 : r * 4294967296 + p2 < d * dn
        · obtain ⟨s1, s2⟩ := HE.out.step HR.out (.inr h3)
          have HS := Lib.hid s2
          have t3 : decide (((p2 + 4294967296 * r : Nat) : Int) < (d : Int) * (dn : Int)) = true := by rw [← Int.natCast_mul]; simp only [decide_eq_true_eq]; omega
          generalize p2 + 4294967296 * r = sr at *
          clear s2
          go_wp2_with fail
          go_round
          case rel => exact ⟨d - 1, r + dh, by go_num, by go_num, HS.out⟩
          case measure => simp [intOf]; omega
        · have HD := Lib.hid (HE.out.done HR.out (.inr ⟨by omega, by omega⟩))
          have t3 : decide (((p2 + 4294967296 * r : Nat) : Int) < (d : Int) * (dn : Int)) = false := by rw [← Int.natCast_mul]; simp only [decide_eq_false_iff_not]; omega
          generalize p2 + 4294967296 * r = sr at *
          go_wp2_with fail
          go_ret
          exact ⟨d, rfl, HD.out, _, by first | rfl | rw [World.drewN_drewN, World.drewN_drewN]⟩
end Go.Proofs.Yticakmcjiofhoaa

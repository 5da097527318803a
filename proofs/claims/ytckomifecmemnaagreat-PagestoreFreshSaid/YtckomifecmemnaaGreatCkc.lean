/- The contracts of package checksum. -/
import Derived.Test.YtckomifecmemnaaGreatCkr
namespace Go.Proofs.YtckomifecmemnaaGreat
open Go.RowKit Dig
set_option linter.unusedVariables false
section
variable {w : World} {v : Value} {ts : List UInt8}
set_option maxRecDepth 20000 in
set_option maxHeartbeats 4000000 in
theorem shift_c (w : World) (X : Nat) (hX : X < 4294967296) :
    Calls Tryz.prog 97 #[.int .u32 (X : Int)] w (fun e w1 => e = .returned (.int .u32 (sts 8 X : Int)) ∧ w1 = w) := by
  have HX := Lib.hid hX
  clear hX
  go_enter Tryz.func97, Tryz.ntmps97
  go_wp2_with fail
  go_loopw [0, 4] (fun r i w4 => ∃ m Z : Nat, m ≤ 8 ∧ i = .int .i64 m ∧ r = .int .u32 Z ∧ sts m X = Z ∧ w4 = w) (fun r i _ => 8 - (intOf i).toNat)
  case atStart => exact ⟨0, X, by omega, rfl, rfl, rfl, rfl⟩
  case round =>
    obtain ⟨m, Z, hm, rfl, rfl, hZ, rfl⟩ := hrel
    have hZl : Z < 4294967296 := by rw [← hZ]; exact sts_lt m HX.out
    have hZs := Lib.hid (show sts (m + 1) X = st Z from by rw [sts_succ, hZ])
    have HZ2 := Lib.hid hZ
    clear hZ
    by_cases hm8 : m < 8
    · have HM : (m : Int) < 8 := by omega
      by_cases hbit : Z % 2 = 1
      · obtain ⟨b1, b2⟩ := st_odd hZl hbit
        generalize st Z = Z' at b2 hZs
        clear hZl hbit hm8
        go_wp2_with fail
        go_roundw
        case rel => exact ⟨m + 1, Z', by omega, by go_num, rfl, hZs.out, by trivial⟩
        case measure => simp [intOf]; omega
      · obtain ⟨b1, b2⟩ := st_zero hZl hbit
        generalize st Z = Z' at b2 hZs
        clear hZl hbit hm8
        go_wp2_with fail
        go_roundw
        case rel => exact ⟨m + 1, Z', by omega, by go_num, rfl, hZs.out, by trivial⟩
        case measure => simp [intOf]; omega
    · have HM : ¬ (m : Int) < 8 := by omega
      have h8 : m = 8 := by omega
      have HZ3 := Lib.hid (show sts 8 X = Z from by rw [← h8]; exact HZ2.out)
      clear hZl hm8 h8
      go_wp2_with fail
      go_ret
      rw [HZ3.out]
      exact ⟨rfl, rfl⟩
set_option maxRecDepth 20000 in
set_option maxHeartbeats 4000000 in
theorem extend_c (h : Byt w v ts) (hz : ts.length ≤ 1000000000) (crc : Nat) (hc : crc < 4294967296) :
    Calls Tryz.prog 85 #[.int .u32 (crc : Int), v] w (RVal w (.int .u32 (crcX crc ts : Int))) := by
  obtain ⟨A, c, rfl⟩ := h.form
  have HB := Lib.hid h
  have hzi : (ts.length : Int) ≤ 1000000000 := by omega
  have hx := not32 crc hc
  have HC := Lib.hid (cpl_lt hc)
  obtain ⟨F, hF⟩ : ∃ F, cpl crc = F := ⟨_, rfl⟩
  rw [hF] at hx HC
  have HF := Lib.hid hF
  clear h hz hc hF
  go_enter Tryz.func85, Tryz.ntmps85
  go_wp2_with fail
  go_loopw [5, 12] (fun r i wr => ∃ j R : Nat, j ≤ ts.length ∧ i = .int .i64 j ∧ r = .int .u32 R ∧ ext F (ts.take j) = R ∧ wr = w) (fun r i _ => ts.length - (intOf i).toNat)
  case atStart => exact ⟨0, F, Nat.zero_le _, rfl, rfl, rfl, rfl⟩
  case round =>
    obtain ⟨j, R, hj, rfl, rfl, hR, rfl⟩ := hrel
    have hRl : R < 4294967296 := by rw [← hR]; exact ext_lt _ HC.out
    have HR := Lib.hid hR
    clear hR
    by_cases hjn : j < ts.length
    · have HI : (j : Int) < ts.length := by omega
      obtain ⟨b, off, rfl, hb, hcell⟩ := HB.out.cells (by omega)
      have hcj := hcell j hjn
      clear hcell
      have hM := Lib.hid (take_more F ts hjn)
      have hq := (ts.getD j 0).toNat_lt
      generalize (ts.getD j 0).toNat = q at hcj hM hq
      have hqi : (q : Int) % 4294967296 = q := by omega
      have hX := u32_xor_nat R q hRl (by omega)
      have HX := Lib.hid (show R ^^^ q < 4294967296 from Nat.xor_lt_two_pow (n := 32) hRl (by omega))
      obtain ⟨X, eX⟩ : ∃ X, R ^^^ q = X := ⟨_, rfl⟩
      rw [eX] at hX HX
      have EX := Lib.hid eX
      clear hRl hq eX
      go_wp2_with fail
      have C := Lib.hid (shift_c wr X HX.out)
      obtain ⟨Z, eZ⟩ : ∃ Z, sts 8 X = Z := ⟨_, rfl⟩
      rw [eZ] at C
      have EZ := Lib.hid eZ
      clear eZ
      refine (C.out).mono ?_
      rintro e w1 ⟨rfl, rfl⟩
      go_wp2_with fail
      go_roundw
      case rel => exact ⟨j + 1, Z, by omega, by go_num, rfl, by rw [hM.out, HR.out, EX.out]; exact EZ.out, by trivial⟩
      case measure => simp [intOf]; omega
    · have HI : ¬ (j : Int) < ts.length := by omega
      have hj2 : j = ts.length := by omega
      have hE := Lib.hid (show ext F ts = R from by rw [← HR.out, hj2, List.take_length])
      have hN := not32 R hRl
      have hcr : cpl R = crcX crc ts := by unfold crcX; rw [HF.out, hE.out]
      rw [hcr] at hN
      clear hRl hjn hj2 hcr
      go_wp2_with fail
      go_ret
      exact ⟨rfl, Below.refl _ _⟩
theorem crc_c (h : Byt w v ts) (hz : ts.length ≤ 1000000000) :
    Calls Tryz.prog 83 #[v] w (RVal w (.int .u32 (crcN ts : Int))) := by
  have C := Lib.hid (extend_c h hz 0 (by omega))
  obtain ⟨A, c, rfl⟩ := h.form
  clear h hz
  go_enter Tryz.func83, Tryz.ntmps83
  go_wp2_with fail
  refine (C.out).mono ?_
  rintro e w1 ⟨rfl, hB⟩
  go_wp2_with fail
  go_ret
  exact ⟨rfl, hB⟩
end
end Go.Proofs.YtckomifecmemnaaGreat

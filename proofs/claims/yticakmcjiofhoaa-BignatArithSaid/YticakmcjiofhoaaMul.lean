/- The contract of Mul where the shorter factor has fewer than 48 digits. -/
import Derived.Test.YticakmcjiofhoaaLong
namespace Go.Proofs.Yticakmcjiofhoaa
open Go.RowKit Dig
set_option linter.unusedVariables false

set_option maxHeartbeats 400000 in
theorem mul_nz (w : World) (va vb : Value) (xs ys : List Nat) (ha : Num w va xs) (hb : Num w vb ys) (hza : xs.length ≤ 8796093022208) (hzb : ys.length ≤ 8796093022208) (hl : (dg (val ys)).length ≤ (dg (val xs)).length) (h0 : (dg (val ys)).length = 0) :
    Calls Try.prog 30 #[va, vb] w (RNat w (val xs * val ys)) := by
  have Ta := Lib.hid (trim_n w va xs ha)
  have Tb := Lib.hid (trim_n w vb ys hb)
  have hla := dg_length_val xs ha.small
  have hlb := dg_length_val ys hb.small
  have hl2 : decide ((dg (val xs)).length < (dg (val ys)).length) = false := by simp; omega
  have E := Lib.hid (dg_len0 h0)
  have hz : (((dg (val ys)).length : Int) == 0) = true := by rw [h0]; rfl
  have H0 := Lib.hid h0
  clear h0
  go_enter Try.func30, Try.ntmps30
  go_wp2_with fail
  refine (Ta.out).mono ?_
  rintro e w' ⟨A, c, rfl, hA, rfl⟩
  go_wp2_with fail
  refine (Tb.out).mono ?_
  rintro e w' ⟨A', c', rfl, hB, rfl⟩
  go_wp2_with fail
  go_ret
  exact ⟨_, rfl, by rw [E.out, Nat.mul_zero]; exact Own.nil _ _, Below.refl _ _⟩

set_option maxHeartbeats 400000 in
theorem mul_nl (w : World) (va vb : Value) (xs ys : List Nat) (ha : Num w va xs) (hb : Num w vb ys) (hza : xs.length ≤ 8796093022208) (hzb : ys.length ≤ 8796093022208) (hl : (dg (val ys)).length ≤ (dg (val xs)).length) (h0 : (dg (val ys)).length ≠ 0) (h48 : (dg (val ys)).length < 48) :
    Calls Try.prog 30 #[va, vb] w (RNat w (val xs * val ys)) := by
  have Ta := Lib.hid (trim_n w va xs ha)
  have Tb := Lib.hid (trim_n w vb ys hb)
  have hla := dg_length_val xs ha.small
  have hlb := dg_length_val ys hb.small
  have hl2 : decide ((dg (val xs)).length < (dg (val ys)).length) = false := by simp; omega
  have hz : (((dg (val ys)).length : Int) == 0) = false := by rw [beq_eq_false_iff_ne]; omega
  go_enter Try.func30, Try.ntmps30
  go_wp2_with fail
  refine (Ta.out).mono ?_
  rintro e w' ⟨A, c, rfl, hA, rfl⟩
  go_wp2_with fail
  refine (Tb.out).mono ?_
  rintro e w' ⟨A', c', rfl, hB, rfl⟩
  go_wp2_with fail
  refine (long_c w _ _ (dg (val xs)) (dg (val ys)) hA hB (by omega) (by omega)).mono ?_
  rintro e w1 ⟨r, zs, rfl, z1, z2, hO, hB1⟩
  have T2 := Lib.hid (trim_own_any w1 _ r zs hO)
  have Z2 := Lib.hid z2
  clear z1 z2
  go_wp2_with fail
  refine (T2.out).mono ?_
  rintro e w3 ⟨r3, rfl, hr3, rfl⟩
  go_wp2_with fail
  go_ret
  rw [Z2.out, val_dg, val_dg] at hr3
  exact ⟨_, rfl, hr3, hB1⟩

set_option maxHeartbeats 400000 in
theorem mul_sz (w : World) (va vb : Value) (xs ys : List Nat) (ha : Num w va xs) (hb : Num w vb ys) (hza : xs.length ≤ 8796093022208) (hzb : ys.length ≤ 8796093022208) (hl : (dg (val xs)).length < (dg (val ys)).length) (h0 : (dg (val xs)).length = 0) :
    Calls Try.prog 30 #[va, vb] w (RNat w (val xs * val ys)) := by
  have Ta := Lib.hid (trim_n w va xs ha)
  have Tb := Lib.hid (trim_n w vb ys hb)
  have hla := dg_length_val xs ha.small
  have hlb := dg_length_val ys hb.small
  have E := Lib.hid (dg_len0 h0)
  have hz : (((dg (val xs)).length : Int) == 0) = true := by rw [h0]; rfl
  have H0 := Lib.hid h0
  clear h0
  go_enter Try.func30, Try.ntmps30
  go_wp2_with fail
  refine (Ta.out).mono ?_
  rintro e w' ⟨A, c, rfl, hA, rfl⟩
  go_wp2_with fail
  refine (Tb.out).mono ?_
  rintro e w' ⟨A', c', rfl, hB, rfl⟩
  go_wp2_with fail
  go_ret
  exact ⟨_, rfl, by rw [E.out, Nat.zero_mul]; exact Own.nil _ _, Below.refl _ _⟩

set_option maxHeartbeats 400000 in
theorem mul_sl (w : World) (va vb : Value) (xs ys : List Nat) (ha : Num w va xs) (hb : Num w vb ys) (hza : xs.length ≤ 8796093022208) (hzb : ys.length ≤ 8796093022208) (hl : (dg (val xs)).length < (dg (val ys)).length) (h0 : (dg (val xs)).length ≠ 0) (h48 : (dg (val xs)).length < 48) :
    Calls Try.prog 30 #[va, vb] w (RNat w (val xs * val ys)) := by
  have Ta := Lib.hid (trim_n w va xs ha)
  have Tb := Lib.hid (trim_n w vb ys hb)
  have hla := dg_length_val xs ha.small
  have hlb := dg_length_val ys hb.small
  have hz : (((dg (val xs)).length : Int) == 0) = false := by rw [beq_eq_false_iff_ne]; omega
  go_enter Try.func30, Try.ntmps30
  go_wp2_with fail
  refine (Ta.out).mono ?_
  rintro e w' ⟨A, c, rfl, hA, rfl⟩
  go_wp2_with fail
  refine (Tb.out).mono ?_
  rintro e w' ⟨A', c', rfl, hB, rfl⟩
  go_wp2_with fail
  refine (long_c w _ _ (dg (val ys)) (dg (val xs)) hB hA (by omega) (by omega)).mono ?_
  rintro e w1 ⟨r, zs, rfl, z1, z2, hO, hB1⟩
  have T2 := Lib.hid (trim_own_any w1 _ r zs hO)
  have Z2 := Lib.hid z2
  clear z1 z2
  go_wp2_with fail
  refine (T2.out).mono ?_
  rintro e w3 ⟨r3, rfl, hr3, rfl⟩
  go_wp2_with fail
  go_ret
  rw [Z2.out, val_dg, val_dg] at hr3
  exact ⟨_, rfl, by rw [Nat.mul_comm]; exact hr3, hB1⟩

theorem mul_small (w : World) (va vb : Value) (xs ys : List Nat) (ha : Num w va xs) (hb : Num w vb ys) (hza : xs.length ≤ 8796093022208) (hzb : ys.length ≤ 8796093022208) (h : (dg (val xs)).length < 48 ∨ (dg (val ys)).length < 48) :
    Calls Try.prog 30 #[va, vb] w (RNat w (val xs * val ys)) := by
  by_cases hl : (dg (val xs)).length < (dg (val ys)).length
  · by_cases h0 : (dg (val xs)).length = 0
    · exact mul_sz w va vb xs ys ha hb hza hzb hl h0
    · exact mul_sl w va vb xs ys ha hb hza hzb hl h0 (by omega)
  · by_cases h0 : (dg (val ys)).length = 0
    · exact mul_nz w va vb xs ys ha hb hza hzb (by omega) h0
    · exact mul_nl w va vb xs ys ha hb hza hzb (by omega) h0 (by omega)
end Go.Proofs.Yticakmcjiofhoaa

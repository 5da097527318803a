/- The contract of Mul for all numbers. -/
import Derived.Test.YticakmcjiofhoaaPiece
namespace Go.Proofs.Yticakmcjiofhoaa
open Go.RowKit Dig
set_option linter.unusedVariables false

set_option maxHeartbeats 400000 in
theorem mulb_ns (w : World) (va vb : Value) (xs ys : List Nat) (k : Nat) (ha : Num w va xs) (hb : Num w vb ys) (hk : MulFor k) (hz : k ≤ 4398046511104) (hkl : xs.length + ys.length ≤ k) (hl : (dg (val ys)).length ≤ (dg (val xs)).length) (h48 : 48 ≤ (dg (val ys)).length) (hh : ((dg (val xs)).length + 1) / 2 < (dg (val ys)).length) :
    Calls Try.prog 30 #[va, vb] w (RNat w (val xs * val ys)) := by
  have Ta := Lib.hid (trim_n w va xs ha)
  have Tb := Lib.hid (trim_n w vb ys hb)
  have hla := dg_length_val xs ha.small
  have hlb := dg_length_val ys hb.small
  have HK := Lib.hid hk
  clear hk
  have hl2 : decide ((dg (val xs)).length < (dg (val ys)).length) = false := by simp; omega
  have hz0 : (((dg (val ys)).length : Int) == 0) = false := by rw [beq_eq_false_iff_ne]; omega
  have h48i : (48 : Int) ≤ (dg (val ys)).length := by omega
  obtain ⟨h, hhd⟩ : ∃ h, h = ((dg (val xs)).length + 1) / 2 := ⟨_, rfl⟩
  have hq : (((dg (val xs)).length : Int) + 1) / 2 = (h : Int) := by omega
  have hci : (h : Int) < (dg (val ys)).length := by omega
  have HHD := Lib.hid hhd
  go_enter Try.func30, Try.ntmps30
  clear hhd
  go_wp2_with fail
  refine (Ta.out).mono ?_
  rintro e w' ⟨A, c, rfl, hA, rfl⟩
  go_wp2_with fail
  refine (Tb.out).mono ?_
  rintro e w' ⟨A', c', rfl, hB, rfl⟩
  go_wp2_with fail
  refine (split_c w _ _ (dg (val xs)) (dg (val ys)) h k _ _ hA hB rfl rfl (by have := HHD.out; omega) (by omega) (by omega) HK.out (by have := HHD.out; omega) (by omega) (by have := HHD.out; omega) (by omega)).mono ?_
  rintro e w1 ⟨r, zs, rfl, hO, z2, hB1⟩
  have T2 := Lib.hid (trim_own_any w1 _ r zs hO)
  have Z2 := Lib.hid z2
  clear z2
  go_wp2_with fail
  refine (T2.out).mono ?_
  rintro e w3 ⟨r3, rfl, hr3, rfl⟩
  go_wp2_with fail
  go_ret
  rw [Z2.out, val_dg, val_dg] at hr3
  exact ⟨_, rfl, hr3, hB1⟩

set_option maxHeartbeats 400000 in
theorem mulb_np (w : World) (va vb : Value) (xs ys : List Nat) (k : Nat) (ha : Num w va xs) (hb : Num w vb ys) (hk : MulFor k) (hz : k ≤ 4398046511104) (hkl : xs.length + ys.length ≤ k) (hl : (dg (val ys)).length ≤ (dg (val xs)).length) (h48 : 48 ≤ (dg (val ys)).length) (hh : (dg (val ys)).length ≤ ((dg (val xs)).length + 1) / 2) :
    Calls Try.prog 30 #[va, vb] w (RNat w (val xs * val ys)) := by
  have Ta := Lib.hid (trim_n w va xs ha)
  have Tb := Lib.hid (trim_n w vb ys hb)
  have hla := dg_length_val xs ha.small
  have hlb := dg_length_val ys hb.small
  have HK := Lib.hid hk
  clear hk
  have hl2 : decide ((dg (val xs)).length < (dg (val ys)).length) = false := by simp; omega
  have hz0 : (((dg (val ys)).length : Int) == 0) = false := by rw [beq_eq_false_iff_ne]; omega
  have h48i : (48 : Int) ≤ (dg (val ys)).length := by omega
  obtain ⟨h, hhd⟩ : ∃ h, h = ((dg (val xs)).length + 1) / 2 := ⟨_, rfl⟩
  have hq : (((dg (val xs)).length : Int) + 1) / 2 = (h : Int) := by omega
  have hci : ((dg (val ys)).length : Int) ≤ h := by omega
  have HHD := Lib.hid hhd
  go_enter Try.func30, Try.ntmps30
  clear hhd
  go_wp2_with fail
  refine (Ta.out).mono ?_
  rintro e w' ⟨A, c, rfl, hA, rfl⟩
  go_wp2_with fail
  refine (Tb.out).mono ?_
  rintro e w' ⟨A', c', rfl, hB, rfl⟩
  go_wp2_with fail
  refine (piece_c w _ _ (dg (val xs)) (dg (val ys)) k _ _ hA hB rfl rfl (by omega) HK.out (by have := HHD.out; omega) (by omega) (by omega) (by omega)).mono ?_
  rintro e w1 ⟨r, zs, rfl, hO, z2, hB1⟩
  have T2 := Lib.hid (trim_own_any w1 _ r zs hO)
  have Z2 := Lib.hid z2
  clear z2
  go_wp2_with fail
  refine (T2.out).mono ?_
  rintro e w3 ⟨r3, rfl, hr3, rfl⟩
  go_wp2_with fail
  go_ret
  rw [Z2.out, val_dg, val_dg] at hr3
  exact ⟨_, rfl, hr3, hB1⟩

set_option maxHeartbeats 400000 in
theorem mulb_ss (w : World) (va vb : Value) (xs ys : List Nat) (k : Nat) (ha : Num w va xs) (hb : Num w vb ys) (hk : MulFor k) (hz : k ≤ 4398046511104) (hkl : xs.length + ys.length ≤ k) (hl : (dg (val xs)).length < (dg (val ys)).length) (h48 : 48 ≤ (dg (val xs)).length) (hh : ((dg (val ys)).length + 1) / 2 < (dg (val xs)).length) :
    Calls Try.prog 30 #[va, vb] w (RNat w (val xs * val ys)) := by
  have Ta := Lib.hid (trim_n w va xs ha)
  have Tb := Lib.hid (trim_n w vb ys hb)
  have hla := dg_length_val xs ha.small
  have hlb := dg_length_val ys hb.small
  have HK := Lib.hid hk
  clear hk
  have hz0 : (((dg (val xs)).length : Int) == 0) = false := by rw [beq_eq_false_iff_ne]; omega
  have h48i : (48 : Int) ≤ (dg (val xs)).length := by omega
  obtain ⟨h, hhd⟩ : ∃ h, h = ((dg (val ys)).length + 1) / 2 := ⟨_, rfl⟩
  have hq : (((dg (val ys)).length : Int) + 1) / 2 = (h : Int) := by omega
  have hci : (h : Int) < (dg (val xs)).length := by omega
  have HHD := Lib.hid hhd
  go_enter Try.func30, Try.ntmps30
  clear hhd
  go_wp2_with fail
  refine (Ta.out).mono ?_
  rintro e w' ⟨A, c, rfl, hA, rfl⟩
  go_wp2_with fail
  refine (Tb.out).mono ?_
  rintro e w' ⟨A', c', rfl, hB, rfl⟩
  go_wp2_with fail
  refine (split_c w _ _ (dg (val ys)) (dg (val xs)) h k _ _ hB hA rfl rfl (by have := HHD.out; omega) (by omega) (by omega) HK.out (by have := HHD.out; omega) (by omega) (by have := HHD.out; omega) (by omega)).mono ?_
  rintro e w1 ⟨r, zs, rfl, hO, z2, hB1⟩
  have T2 := Lib.hid (trim_own_any w1 _ r zs hO)
  have Z2 := Lib.hid z2
  clear z2
  go_wp2_with fail
  refine (T2.out).mono ?_
  rintro e w3 ⟨r3, rfl, hr3, rfl⟩
  go_wp2_with fail
  go_ret
  rw [Z2.out, val_dg, val_dg] at hr3
  exact ⟨_, rfl, by rw [Nat.mul_comm]; exact hr3, hB1⟩

set_option maxHeartbeats 400000 in
theorem mulb_sp (w : World) (va vb : Value) (xs ys : List Nat) (k : Nat) (ha : Num w va xs) (hb : Num w vb ys) (hk : MulFor k) (hz : k ≤ 4398046511104) (hkl : xs.length + ys.length ≤ k) (hl : (dg (val xs)).length < (dg (val ys)).length) (h48 : 48 ≤ (dg (val xs)).length) (hh : (dg (val xs)).length ≤ ((dg (val ys)).length + 1) / 2) :
    Calls Try.prog 30 #[va, vb] w (RNat w (val xs * val ys)) := by
  have Ta := Lib.hid (trim_n w va xs ha)
  have Tb := Lib.hid (trim_n w vb ys hb)
  have hla := dg_length_val xs ha.small
  have hlb := dg_length_val ys hb.small
  have HK := Lib.hid hk
  clear hk
  have hz0 : (((dg (val xs)).length : Int) == 0) = false := by rw [beq_eq_false_iff_ne]; omega
  have h48i : (48 : Int) ≤ (dg (val xs)).length := by omega
  obtain ⟨h, hhd⟩ : ∃ h, h = ((dg (val ys)).length + 1) / 2 := ⟨_, rfl⟩
  have hq : (((dg (val ys)).length : Int) + 1) / 2 = (h : Int) := by omega
  have hci : ((dg (val xs)).length : Int) ≤ h := by omega
  have HHD := Lib.hid hhd
  go_enter Try.func30, Try.ntmps30
  clear hhd
  go_wp2_with fail
  refine (Ta.out).mono ?_
  rintro e w' ⟨A, c, rfl, hA, rfl⟩
  go_wp2_with fail
  refine (Tb.out).mono ?_
  rintro e w' ⟨A', c', rfl, hB, rfl⟩
  go_wp2_with fail
  refine (piece_c w _ _ (dg (val ys)) (dg (val xs)) k _ _ hB hA rfl rfl (by omega) HK.out (by have := HHD.out; omega) (by omega) (by omega) (by omega)).mono ?_
  rintro e w1 ⟨r, zs, rfl, hO, z2, hB1⟩
  have T2 := Lib.hid (trim_own_any w1 _ r zs hO)
  have Z2 := Lib.hid z2
  clear z2
  go_wp2_with fail
  refine (T2.out).mono ?_
  rintro e w3 ⟨r3, rfl, hr3, rfl⟩
  go_wp2_with fail
  go_ret
  rw [Z2.out, val_dg, val_dg] at hr3
  exact ⟨_, rfl, by rw [Nat.mul_comm]; exact hr3, hB1⟩

theorem mul_for (k : Nat) (hz : k ≤ 4398046511104) : MulFor k := by
  induction k with
  | zero => intro w va vb xs ys ha hb h; omega
  | succ k ih =>
    have hk := ih (by omega)
    intro w va vb xs ys ha hb h
    have hla := dg_length_val xs ha.small
    have hlb := dg_length_val ys hb.small
    by_cases h48 : (dg (val xs)).length < 48 ∨ (dg (val ys)).length < 48
    · exact mul_small w va vb xs ys ha hb (by omega) (by omega) h48
    · by_cases hl : (dg (val xs)).length < (dg (val ys)).length
      · by_cases hh : ((dg (val ys)).length + 1) / 2 < (dg (val xs)).length
        · exact mulb_ss w va vb xs ys k ha hb hk (by omega) (by omega) hl (by omega) hh
        · exact mulb_sp w va vb xs ys k ha hb hk (by omega) (by omega) hl (by omega) (by omega)
      · by_cases hh : ((dg (val xs)).length + 1) / 2 < (dg (val ys)).length
        · exact mulb_ns w va vb xs ys k ha hb hk (by omega) (by omega) (by omega) (by omega) hh
        · exact mulb_np w va vb xs ys k ha hb hk (by omega) (by omega) (by omega) (by omega) (by omega)
theorem mul_c (w : World) (va vb : Value) (xs ys : List Nat) (ha : Num w va xs) (hb : Num w vb ys) (hz : xs.length + ys.length < 4398046511104) :
    Calls Try.prog 30 #[va, vb] w (RNat w (val xs * val ys)) := mul_for _ (Nat.le_refl _) w va vb xs ys ha hb hz
end Go.Proofs.Yticakmcjiofhoaa

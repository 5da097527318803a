/- The contracts of digitAt and leadingBits. -/
import Derived.Test.YticakmcjiofhoaaShift
import Derived.Test.YticakmcjiofhoaaColl
import Derived.Deep.QuietTactic
namespace Go.Proofs.Yticakmcjiofhoaa
open Go.RowKit Dig
set_option linter.unusedVariables false

namespace Dig
theorem drop_any (zs : List Nat) (k : Nat) : val (zs.drop k) = zs.getD k 0 + 4294967296 * val (zs.drop (k + 1)) := by
  rcases Nat.lt_or_ge k zs.length with h | h
  · exact drop_getD' zs k h
  · rw [List.drop_of_length_le h, List.drop_of_length_le (by omega), List.getD_eq_getElem?_getD, List.getElem?_eq_none h]
    simp [val]
/-- The 64 bits of a number that end at digit k + 3 and begin s bits below it. -/
def leadOf (zs : List Nat) (k s : Nat) : Nat := (zs.getD (k + 1) 0 + 4294967296 * zs.getD (k + 2) 0) * 2 ^ s + zs.getD k 0 / 2 ^ (32 - s)
theorem lead_spec (zs : List Nat) (k s : Nat) (hz : Small zs) (hl : zs.length ≤ k + 3) (hs : s ≤ 31) :
    ∃ r, r < 2 ^ (32 - s) * 4294967296 ^ k ∧ val zs = leadOf zs k s * (2 ^ (32 - s) * 4294967296 ^ k) + r := by
  have hTU : 2 ^ s * 2 ^ (32 - s) = 4294967296 := by rw [← Nat.pow_add, show s + (32 - s) = 32 by omega]
  have e1 : val (zs.drop k) = zs.getD k 0 + 4294967296 * (zs.getD (k + 1) 0 + 4294967296 * zs.getD (k + 2) 0) := by
    have e3 : val (zs.drop (k + 3)) = 0 := by rw [List.drop_of_length_le hl]; rfl
    have h1 := drop_any zs k
    have h2 := drop_any zs (k + 1)
    have h3 := drop_any zs (k + 2)
    rw [show k + 1 + 1 = k + 2 by omega] at h2
    rw [show k + 2 + 1 = k + 3 by omega, e3] at h3
    omega
  have hU : 0 < 2 ^ (32 - s) := Nat.pow_pos (by omega)
  have hm := Nat.mod_lt (zs.getD k 0) hU
  have hd := Nat.div_add_mod (zs.getD k 0) (2 ^ (32 - s))
  have e2 : val zs = val (zs.take k) + 4294967296 ^ k * val (zs.drop k) := by
    rcases Nat.lt_or_ge zs.length k with h | h
    · rw [List.take_of_length_le (by omega), List.drop_of_length_le (by omega)]; simp [val]
    · exact val_take_drop zs k h
  have e4 : val (zs.take k) < 4294967296 ^ k := by
    have h1 := val_lt (zs.take k) (hz.take k)
    have h2 : (zs.take k).length ≤ k := by rw [List.length_take]; omega
    exact Nat.lt_of_lt_of_le h1 (pow_le h2)
  unfold leadOf
  generalize zs.getD k 0 = z0 at *
  generalize zs.getD (k + 1) 0 + 4294967296 * zs.getD (k + 2) 0 = z at *
  generalize 2 ^ (32 - s) = U at *
  generalize 2 ^ s = T at *
  generalize (4294967296 : Nat) ^ k = P at *
  rw [← hTU] at e1
  generalize z0 / U = c at *
  generalize z0 % U = m at *
  refine ⟨val (zs.take k) + P * m, ?_, ?_⟩
  · have h1 : P * (m + 1) ≤ P * U := Nat.mul_le_mul_left _ hm
    rw [Nat.mul_add, Nat.mul_one] at h1
    rw [Nat.mul_comm U P]
    omega
  · rw [e2, e1, ← hd]
    grind
theorem lead_lt (zs : List Nat) (k s : Nat) (hz : Small zs) (hs : s ≤ 31) (hov : zs.getD (k + 2) 0 * 2 ^ s < 4294967296) : leadOf zs k s < 18446744073709551616 := by
  have b0 := hz.get k
  have b1 := hz.get (k + 1)
  have h1 : zs.getD (k + 1) 0 * 2 ^ s + 2 ^ s ≤ 4294967296 * 2 ^ s := by rw [← Nat.succ_mul]; exact Nat.mul_le_mul_right _ b1
  have hTU : 2 ^ s * 2 ^ (32 - s) = 4294967296 := by rw [← Nat.pow_add, show s + (32 - s) = 32 by omega]
  have h2 : zs.getD k 0 / 2 ^ (32 - s) < 2 ^ s := by rw [Nat.div_lt_iff_lt_mul (Nat.pow_pos (by omega)), hTU]; exact b0
  unfold leadOf
  have h3 : 2 ^ s ∣ 4294967296 := ⟨2 ^ (32 - s), hTU.symm⟩
  have h4 : zs.getD (k + 2) 0 * 2 ^ s + 2 ^ s ≤ 4294967296 := by
    obtain ⟨q, hq⟩ := h3
    rw [hq] at hov ⊢
    rw [Nat.mul_comm (zs.getD (k + 2) 0)] at hov
    have := Nat.lt_of_mul_lt_mul_left hov
    rw [← Nat.succ_mul, Nat.mul_comm]
    exact Nat.mul_le_mul_left _ this
  rw [Nat.add_mul, Nat.mul_assoc]
  omega
end Dig

theorem or_hi (x q s : Nat) (hq : q < 2 ^ s) (hb : x * 2 ^ s < 18446744073709551616) (hq2 : q < 18446744073709551616) : bits .or .u64 ((x : Int) * 2 ^ s) (q : Int) = ((x * 2 ^ s + q : Nat) : Int) := by
  have h := u64_or_nat (x * 2 ^ s) q hb hq2
  have e : ((x * 2 ^ s : Nat) : Int) = (x : Int) * 2 ^ s := by rw [Int.natCast_mul, Int.natCast_pow]; rfl
  rw [e] at h
  rw [h]
  congr 1
  have := Nat.shiftLeft_add_eq_or_of_lt (i := s) (b := q) hq x
  rw [Nat.shiftLeft_eq] at this
  exact this.symm

set_option maxHeartbeats 1000000 in
theorem digitAt_c (w : World) (va : Value) (xs : List Nat) (i : Nat) (h : Num w va xs) (hi : i ≤ 9223372036854775807) :
    Calls Try.prog 71 #[va, .int .i64 (i : Int)] w fun e w' => e = .returned (.int .u64 ((xs.getD i 0 : Nat) : Int)) ∧ w = w' := by
  obtain ⟨A, c, rfl⟩ := h.form
  have hbd := h.bounds.2
  by_cases hlt : i < xs.length
  · obtain ⟨b, off, rfl, hb, hall⟩ := h.cells (by omega)
    have hc := hall i hlt
    have bx := h.small.get i
    have hli : (i : Int) < xs.length := by omega
    generalize xs.getD i 0 = x at *
    clear hall h
    go_enter Try.func71, Try.ntmps71
    go_wp2_with fail
    go_ret
    exact ⟨rfl, rfl⟩
  · have e : xs.getD i 0 = 0 := by rw [List.getD_eq_getElem?_getD, List.getElem?_eq_none (by omega)]; rfl
    rw [e]
    have hli : ¬ (i : Int) < xs.length := by omega
    clear h e
    go_enter Try.func71, Try.ntmps71
    go_wp2_with fail
    go_ret
    exact ⟨rfl, rfl⟩

theorem digitAt_z (w : World) (va : Value) (xs : List Nat) (z : Int) (i : Nat) (h : Num w va xs) (hz : z = (i : Int)) (hi : i ≤ 9223372036854775807) :
    Calls Try.prog 71 #[va, .int .i64 z] w fun e w' => e = .returned (.int .u64 ((xs.getD i 0 : Nat) : Int)) ∧ w = w' := by
  subst hz
  exact digitAt_c w va xs i h hi

set_option maxHeartbeats 2000000 in
theorem leadingBits_c (w : World) (va : Value) (zs : List Nat) (k s : Nat) (h : Num w va zs) (hk : k ≤ 1000000000000) (hs : s ≤ 31) (hov : zs.getD (k + 2) 0 * 2 ^ s < 4294967296) :
    Calls Try.prog 70 #[va, .int .i64 ((k + 3 : Nat) : Int), .int .i64 (s : Int)] w fun e w' => e = .returned (.int .u64 ((leadOf zs k s : Nat) : Int)) ∧ ∃ N, w' = w.drewN N := by
  have hlt := lead_lt zs k s h.small hs hov
  have D0 := fun N z hz => digitAt_z (w.drewN N) va zs z k (h.drewN N) hz (by omega)
  have D1 := fun z hz => digitAt_z w va zs z (k + 1) h hz (by omega)
  have D2 := fun z hz => digitAt_z w va zs z (k + 2) h hz (by omega)
  have b0 := h.small.get k
  have b1 := h.small.get (k + 1)
  have b2 := h.small.get (k + 2)
  unfold leadOf at hlt ⊢
  generalize zs.getD k 0 = z0 at *
  generalize zs.getD (k + 1) 0 = z1 at *
  generalize zs.getD (k + 2) 0 = z2 at *
  have o1 := or_u64 z1 z2 b1 b2
  generalize hzz : z1 + 4294967296 * z2 = z at *
  have e0 : ((z * 2 ^ s : Nat) : Int) = (z : Int) * 2 ^ s := by rw [Int.natCast_mul, Int.natCast_pow]; rfl
  have hzs : z * 2 ^ s < 18446744073709551616 := Nat.lt_of_le_of_lt (Nat.le_add_right _ _) hlt
  have hzb : (z : Int) < 18446744073709551616 := by omega
  have m2 : (z : Int) * 2 ^ s ≤ 18446744073709551615 := by rw [← e0]; omega
  have m3 : 0 ≤ (z : Int) * 2 ^ s := by rw [← e0]; exact Int.natCast_nonneg _
  have hq : z0 / 2 ^ (32 - s) < 2 ^ s := by
    rw [Nat.div_lt_iff_lt_mul (Nat.pow_pos (by omega)), ← Nat.pow_add, show s + (32 - s) = 32 by omega]
    exact b0
  have hq3 : z0 / 2 ^ (32 - s) ≤ z0 := Nat.div_le_self _ _
  have o2 := or_hi z (z0 / 2 ^ (32 - s)) s hq hzs (by omega)
  rw [Int.natCast_ediv, Int.natCast_pow] at o2
  have HO2 := Lib.hid o2
  have HD0 := Lib.hid D0
  have HD1 := Lib.hid D1
  have HD2 := Lib.hid D2
  have hsi : (s : Int) ≤ 31 := by omega
  have hki : (k : Int) ≤ 1000000000000 := by omega
  clear D0 D1 D2 h hlt e0 hzs hq hq3 hzz o2
  go_enter Try.func70, Try.ntmps70
  go_wp2_with fail
  refine (HD2.out _ (by omega)).mono ?_
  rintro e w1 ⟨rfl, rfl⟩
  go_wp2_with fail
  refine (HD1.out _ (by omega)).mono ?_
  rintro e w1 ⟨rfl, rfl⟩
  go_wp2_with fail
  go_quiet (first | (go_at_call 71; exact quiet_here (HD0.out _ _ (by omega))) | (go_at_call 71; exact quiet_now (HD0.out _ _ (by omega))))
  go_wp2_with fail
  go_ret
  exact ⟨ret_eq (congrArg (Value.int .u64) HO2.out), _, rfl⟩
end Go.Proofs.Yticakmcjiofhoaa

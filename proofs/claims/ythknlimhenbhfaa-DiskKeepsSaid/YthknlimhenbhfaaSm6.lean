/- The helpers small and fits of the laws of stage 6. -/
import Derived.Laws.Bits128
import Derived.Test.YthknlimhenbhfaaOp6
namespace Go.Proofs.Ythknlimhenbhfaa
open Go.RowKit Dig
set_option linter.unusedVariables false
theorem and_low (n : Int) (k : Nat) (m : Int) (hm : (BitVec.ofInt 64 m).toNat = 2 ^ k - 1) (hk : k ≤ 62) : bits .and .i64 n m = n % ((2 ^ k : Nat) : Int) := by
  have hp : (2 : Nat) ^ k ≤ 2 ^ 62 := Nat.pow_le_pow_right (by omega) hk
  have hd : (2 : Nat) ^ k ∣ 2 ^ 64 := Nat.pow_dvd_pow 2 (by omega)
  have hpos : 0 < (2 : Nat) ^ k := Nat.two_pow_pos k
  have key : (BitVec.ofInt 64 n &&& BitVec.ofInt 64 m).toNat = (n % ((2 ^ 64 : Nat) : Int)).toNat % 2 ^ k := by
    rw [BitVec.toNat_and, BitVec.toNat_ofInt, hm, Nat.and_two_pow_sub_one_eq_mod]
  show IntKind.i64.wrap ((BitVec.ofInt 64 n &&& BitVec.ofInt 64 m).toNat : Nat) = n % ((2 ^ k : Nat) : Int)
  have hr : (((n % ((2 ^ 64 : Nat) : Int)).toNat % 2 ^ k : Nat) : Int) = n % ((2 ^ k : Nat) : Int) := by
    rw [Int.natCast_emod, Int.toNat_of_nonneg (Int.emod_nonneg _ (by decide))]
    exact Int.emod_emod_of_dvd n (Int.natCast_dvd_natCast.2 hd)
  have hlt : n % ((2 ^ k : Nat) : Int) < 2 ^ k := by
    have := Int.emod_lt_of_pos n (show (0 : Int) < ((2 ^ k : Nat) : Int) by exact_mod_cast hpos)
    exact_mod_cast this
  have h0 : 0 ≤ n % ((2 ^ k : Nat) : Int) := Int.emod_nonneg _ (by omega)
  rw [key, hr, IntKind.wrap_i64]
  have : (2 : Int) ^ k ≤ 2 ^ 62 := by exact_mod_cast hp
  omega
theorem and15 (n : Int) : bits .and .i64 n 15 = n % 16 := and_low n 4 15 (by decide) (by omega)
theorem and65535 (n : Int) : bits .and .i64 n 65535 = n % 65536 := and_low n 16 65535 (by decide) (by omega)
/-- small, as a number. -/
def smallS (n most : Int) : Int := if n % 16 = 15 then n else n % 65536 % most
theorem small_c (w : World) (n most : Int) (hm : 0 < most) (hm2 : most ≤ 1000) : Calls Try.prog 18 #[.int .i64 n, .int .i64 most] w (fun e w' => e = .returned (.int .i64 (smallS n most)) ∧ w = w') := by
  have a1 := and15 n
  have a2 := and65535 n
  unfold smallS
  by_cases h : n % 16 = 15
  · rw [if_pos h]
    rw [h] at a1
    clear h a2 hm hm2
    go_enter Try.func18, Try.ntmps18
    go_wp2_with fail
    go_ret
    exact ⟨rfl, rfl⟩
  · rw [if_neg h]
    have hb : (bits .and .i64 n 15 == 15) = false := by rw [a1, beq_eq_false_iff_ne]; exact h
    have ht : Int.tmod (n % 65536) most = n % 65536 % most := Int.tmod_eq_emod_of_nonneg (by omega)
    have h0 : most ≠ 0 := by omega
    clear h a1
    obtain ⟨r, er⟩ : ∃ r, n % 65536 % most = r := ⟨_, rfl⟩
    rw [er] at ht ⊢
    clear er
    obtain ⟨q, eq⟩ : ∃ q, n % 65536 = q := ⟨_, rfl⟩
    have hq : 0 ≤ q := by omega
    rw [eq] at a2 ht
    clear eq
    go_enter Try.func18, Try.ntmps18
    go_wp2_with fail
    go_ret
    exact ⟨rfl, rfl⟩
/-- fits, as a truth. -/
def fitsS (l : List Op6) (most : Nat) : Prop := l.length ≤ most ∧ ∀ j, j < l.length → (l.getD j default).data.length ≤ 80
set_option maxHeartbeats 1000000 in
theorem fits_c {w : World} {v : Value} {l : List Op6} (h : Ops6 w v l) (most : Nat) (hm : most ≤ 1000) : ∃ r : Bool, (r = true ↔ fitsS l most) ∧ Calls Try.prog 9 #[v, .int .i64 (most : Int)] w (fun e w' => e = .returned (.bool r) ∧ w = w') := by
  by_cases hf : fitsS l most
  · refine ⟨true, ⟨fun _ => hf, fun _ => rfl⟩, ?_⟩
    obtain ⟨hl, hd⟩ := hf
    have H := Lib.hid h
    have HD := Lib.hid hd
    obtain ⟨A, c, rfl⟩ := h.form
    have h0 : ¬ (most : Int) < l.length := by omega
    have h0b : ¬ (l.length : Int) > most := by omega
    have hmi : (most : Int) ≤ 1000 := by omega
    have hli : (l.length : Int) ≤ 1000 := by omega
    clear h hd hl hm
    go_enter Try.func9, Try.ntmps9
    go_wp2_with fail
    go_loopw [5] (fun i wr => ∃ j : Nat, j ≤ l.length ∧ i = .int .i64 j ∧ w = wr) (fun i _ => l.length - (intOf i).toNat)
    case atStart => exact ⟨0, Nat.zero_le _, rfl, rfl⟩
    case round =>
      obtain ⟨j, hj, rfl, rfl⟩ := hrel
      by_cases hjl : j < l.length
      · have HJ : (j : Int) < l.length := by omega
        obtain ⟨b, off, rfl, hb, -, -, -, -, u, c4, hu⟩ := H.out.cells hjl
        have hD := HD.out j hjl
        obtain ⟨U, uc, rfl⟩ := hu.form
        have hDi : ¬ ((l.getD j default).data.length : Int) > 80 := by omega
        generalize (l.getD j default).data.length = D at c4 hDi
        clear hu hD
        go_wp2_with fail
        go_roundw
        case rel => exact ⟨j + 1, by omega, by go_num, by trivial⟩
        case measure => simp [intOf]; omega
      · have HJ : ¬ (j : Int) < l.length := by omega
        go_wp2_with fail
        go_ret
        exact ⟨rfl, rfl⟩
  · refine ⟨false, ⟨(fun e => Bool.noConfusion e), (fun e => absurd e hf)⟩, ?_⟩
    by_cases hl : l.length ≤ most
    · have hex : ¬ ∀ j, j < l.length → (l.getD j default).data.length ≤ 80 := fun h => hf ⟨hl, h⟩
      have H := Lib.hid h
      have HX := Lib.hid hex
      obtain ⟨A, c, rfl⟩ := h.form
      have h0b : ¬ (l.length : Int) > most := by omega
      have hli : (l.length : Int) ≤ 1000 := by omega
      clear h hex hl hm hf
      go_enter Try.func9, Try.ntmps9
      go_wp2_with fail
      go_loopw [5] (fun i wr => ∃ j : Nat, j ≤ l.length ∧ i = .int .i64 j ∧ (∀ k, k < j → (l.getD k default).data.length ≤ 80) ∧ w = wr) (fun i _ => l.length - (intOf i).toNat)
      case atStart => exact ⟨0, Nat.zero_le _, rfl, fun k hk => absurd hk (Nat.not_lt_zero k), rfl⟩
      case round =>
        obtain ⟨j, hj, rfl, hall, rfl⟩ := hrel
        have HA := Lib.hid hall
        clear hall
        by_cases hjl : j < l.length
        · have HJ : (j : Int) < l.length := by omega
          obtain ⟨b, off, rfl, hb, -, -, -, -, u, c4, hu⟩ := H.out.cells hjl
          obtain ⟨U, uc, rfl⟩ := hu.form
          by_cases h80 : (l.getD j default).data.length ≤ 80
          · have hDi : ¬ ((l.getD j default).data.length : Int) > 80 := by omega
            have HN := Lib.hid (show ∀ k, k < j + 1 → (l.getD k default).data.length ≤ 80 from fun k hk => by
              rcases Nat.lt_or_ge k j with h1 | h1
              · exact HA.out k h1
              · obtain rfl : k = j := by omega
                exact h80)
            generalize (l.getD j default).data.length = D at c4 hDi
            clear hu h80
            go_wp2_with fail
            go_roundw
            case rel => exact ⟨j + 1, by omega, by go_num, HN.out, by trivial⟩
            case measure => simp [intOf]; omega
          · have hDi : ((l.getD j default).data.length : Int) > 80 := by omega
            generalize (l.getD j default).data.length = D at c4 hDi
            clear hu h80
            go_wp2_with fail
            go_ret
            exact ⟨rfl, rfl⟩
        · exact absurd (fun k hk => HA.out k (by omega)) HX.out
    · have h0b : (l.length : Int) > most := by omega
      obtain ⟨A, c, rfl⟩ := h.form
      generalize l.length = L at *
      clear h hl hm hf
      go_enter Try.func9, Try.ntmps9
      go_wp2_with fail
      go_ret
      exact ⟨rfl, rfl⟩
end Go.Proofs.Ythknlimhenbhfaa

/- The contracts of the reference: CRC-32C and FNV-1a. -/
import Derived.Laws.BitsAllLaws
import Derived.Test.YtkkohkilhdebmaaBytes
import Derived.Test.YtkkohkilhdebmaaCrc
namespace Go.Proofs.Ytkkohkilhdebmaa
open Go.RowKit Dig
set_option linter.unusedVariables false
theorem not32 (r : Nat) (h : r < 4294967296) : bits .xor .u32 IntKind.u32.max (r : Int) = (cpl r : Int) := by
  have e : IntKind.u32.max = ((4294967295 : Nat) : Int) := by decide
  rw [e, u32_xor_nat _ _ (by omega) h, Nat.xor_comm]
  rfl
/-- What one more bit does, in the words of the walk. -/
theorem st_odd {x : Nat} (h : x < 4294967296) (h1 : x % 2 = 1) : bits .and .u32 (x : Int) 1 = 1 ∧ bits .xor .u32 ((x : Int) / 2) 2197175160 = (st x : Int) := by
  refine ⟨?_, ?_⟩
  · have := u32_and_nat x 1 h (by omega)
    rw [Nat.and_one_is_mod, h1] at this
    exact this
  · have e := u32_xor_nat (x / 2) 2197175160 (by omega) (by omega)
    unfold st
    rw [if_pos h1, ← e]
    rfl
theorem st_zero {x : Nat} (h : x < 4294967296) (h1 : ¬ x % 2 = 1) : bits .and .u32 (x : Int) 1 = 0 ∧ (x : Int) / 2 = (st x : Int) := by
  refine ⟨?_, ?_⟩
  · have := u32_and_nat x 1 h (by omega)
    rw [Nat.and_one_is_mod, show x % 2 = 0 by omega] at this
    exact this
  · unfold st
    rw [if_neg h1]
    rfl
theorem take_more (F : Nat) (ts : List UInt8) {j : Nat} (hj : j < ts.length) : ext F (ts.take (j + 1)) = sts 8 (ext F (ts.take j) ^^^ (ts.getD j 0).toNat) := by
  rw [List.take_add_one, List.getElem?_eq_getElem hj]
  show ext F (ts.take j ++ [ts[j]]) = _
  rw [ext_snoc, List.getD_eq_getElem?_getD, List.getElem?_eq_getElem hj]
  rfl
section
variable {w : World} {v : Value} {ts : List UInt8}
set_option maxRecDepth 20000 in
set_option maxHeartbeats 4000000 in
theorem refExt_c (h : Byt w v ts) (hz : ts.length ≤ 1000000000) (crc : Nat) (hc : crc < 4294967296) :
    Calls Try.prog 12 #[.int .u32 (crc : Int), v] w (RVal w (.int .u32 (crcX crc ts : Int))) := by
  obtain ⟨A, c, rfl⟩ := h.form
  have HB := Lib.hid h
  have hzi : (ts.length : Int) ≤ 1000000000 := by omega
  have hx := not32 crc hc
  have HC := Lib.hid (cpl_lt hc)
  obtain ⟨F, hF⟩ : ∃ F, cpl crc = F := ⟨_, rfl⟩
  rw [hF] at hx HC
  have HF := Lib.hid hF
  clear h hz hc hF
  go_enter Try.func12, Try.ntmps12
  go_wp2_with fail
  go_loopw [5, 6] (fun r i wr => ∃ j R : Nat, j ≤ ts.length ∧ i = .int .i64 j ∧ r = .int .u32 R ∧ ext F (ts.take j) = R ∧ wr = w) (fun r i _ => ts.length - (intOf i).toNat)
  case atStart => exact ⟨0, F, Nat.zero_le _, rfl, rfl, rfl, rfl⟩
  case round =>
    obtain ⟨j, R, hj, rfl, rfl, hR, rfl⟩ := hrel
    have hRl : R < 4294967296 := by rw [← hR]; exact ext_lt _ HC.out
    have HR := Lib.hid hR
    clear hR
    by_cases hjn : j < ts.length
    · have HI : (j : Int) < ts.length := by omega
      obtain ⟨b, off, rfl, hb, hcell⟩ := HB.out.cells (by omega)
      have hcj := hcell j hjn
      clear hcell
      have hM := Lib.hid (take_more F ts hjn)
      have hq := (ts.getD j 0).toNat_lt
      generalize (ts.getD j 0).toNat = q at hcj hM hq
      have hqi : (q : Int) % 4294967296 = q := by omega
      have hX := u32_xor_nat R q hRl (by omega)
      have HX := Lib.hid (show R ^^^ q < 4294967296 from Nat.xor_lt_two_pow (n := 32) hRl (by omega))
      obtain ⟨X, eX⟩ : ∃ X, R ^^^ q = X := ⟨_, rfl⟩
      rw [eX] at hX HX
      have EX := Lib.hid eX
      clear hRl hq eX
      go_wp2_with fail
      go_loopw [5, 7] (fun r i w4 => ∃ m Z : Nat, m ≤ 8 ∧ i = .int .i64 m ∧ r = .int .u32 Z ∧ sts m X = Z ∧ w4 = wr) (fun r i _ => 8 - (intOf i).toNat)
      case atStart => exact ⟨0, X, by omega, rfl, rfl, rfl, rfl⟩
      case round =>
        obtain ⟨m, Z, hm, rfl, rfl, hZ, rfl⟩ := hrel
        have hZl : Z < 4294967296 := by rw [← hZ]; exact sts_lt m HX.out
        have hZs := Lib.hid (show sts (m + 1) X = st Z from by rw [sts_succ, hZ])
        have HZ2 := Lib.hid hZ
        clear hZ
        by_cases hm8 : m < 8
        · have HM : (m : Int) < 8 := by omega
          by_cases hbit : Z % 2 = 1
          · obtain ⟨b1, b2⟩ := st_odd hZl hbit
            generalize st Z = Z' at b2 hZs
            clear hZl hbit hm8
            go_wp2_with fail
            go_roundw
            case rel => exact ⟨m + 1, Z', by omega, by go_num, rfl, hZs.out, by trivial⟩
            case measure => simp [intOf]; omega
          · obtain ⟨b1, b2⟩ := st_zero hZl hbit
            generalize st Z = Z' at b2 hZs
            clear hZl hbit hm8
            go_wp2_with fail
            go_roundw
            case rel => exact ⟨m + 1, Z', by omega, by go_num, rfl, hZs.out, by trivial⟩
            case measure => simp [intOf]; omega
        · have HM : ¬ (m : Int) < 8 := by omega
          have h8 : m = 8 := by omega
          have HZ3 := Lib.hid (show sts 8 X = Z from by rw [← h8]; exact HZ2.out)
          clear hZl hm8 h8
          go_wp2_with fail
          go_roundw
          case rel => exact ⟨j + 1, Z, by omega, by go_num, rfl, by rw [hM.out, HR.out, EX.out]; exact HZ3.out, by trivial⟩
          case measure => simp [intOf]; omega
    · have HI : ¬ (j : Int) < ts.length := by omega
      have hj2 : j = ts.length := by omega
      have hE := Lib.hid (show ext F ts = R from by rw [← HR.out, hj2, List.take_length])
      have hN := not32 R hRl
      have hcr : cpl R = crcX crc ts := by unfold crcX; rw [HF.out, hE.out]
      rw [hcr] at hN
      clear hRl hjn hj2 hcr
      go_wp2_with fail
      go_ret
      exact ⟨rfl, Below.refl _ _⟩
theorem refCRC_c (h : Byt w v ts) (hz : ts.length ≤ 1000000000) :
    Calls Try.prog 10 #[v] w (RVal w (.int .u32 (crcN ts : Int))) := by
  have C := Lib.hid (refExt_c h hz 0 (by omega))
  obtain ⟨A, c, rfl⟩ := h.form
  clear h hz
  go_enter Try.func10, Try.ntmps10
  go_wp2_with fail
  refine (C.out).mono ?_
  rintro e w1 ⟨rfl, hB⟩
  go_wp2_with fail
  go_ret
  exact ⟨rfl, hB⟩
theorem hash_more (F : Nat) (ts : List UInt8) {j : Nat} (hj : j < ts.length) : fnv F (ts.take (j + 1)) = (fnv F (ts.take j) ^^^ (ts.getD j 0).toNat) * 1099511628211 % 18446744073709551616 := by
  rw [List.take_add_one, List.getElem?_eq_getElem hj]
  show fnv F (ts.take j ++ [ts[j]]) = _
  rw [fnv_snoc, fst1_eq, List.getD_eq_getElem?_getD, List.getElem?_eq_getElem hj]
  rfl
set_option maxRecDepth 20000 in
set_option maxHeartbeats 4000000 in
theorem refHash_c (h : Byt w v ts) (hz : ts.length ≤ 1000000000) :
    Calls Try.prog 14 #[v] w (RVal w (.int .u64 (hashN ts : Int))) := by
  obtain ⟨A, c, rfl⟩ := h.form
  have HB := Lib.hid h
  have hzi : (ts.length : Int) ≤ 1000000000 := by omega
  clear h hz
  go_enter Try.func14, Try.ntmps14
  go_wp2_with fail
  go_loopw [3, 4] (fun r i wr => ∃ j R : Nat, j ≤ ts.length ∧ i = .int .i64 j ∧ r = .int .u64 R ∧ fnv 14695981039346656037 (ts.take j) = R ∧ wr = w) (fun r i _ => ts.length - (intOf i).toNat)
  case atStart => exact ⟨0, 14695981039346656037, Nat.zero_le _, rfl, rfl, rfl, rfl⟩
  case round =>
    obtain ⟨j, R, hj, rfl, rfl, hR, rfl⟩ := hrel
    have hRl : R < 18446744073709551616 := by rw [← hR]; exact fnv_lt _ (by omega)
    have HR := Lib.hid hR
    clear hR
    by_cases hjn : j < ts.length
    · have HI : (j : Int) < ts.length := by omega
      obtain ⟨b, off, rfl, hb, hcell⟩ := HB.out.cells (by omega)
      have hcj := hcell j hjn
      clear hcell
      have hM := Lib.hid (hash_more 14695981039346656037 ts hjn)
      have hq := (ts.getD j 0).toNat_lt
      generalize (ts.getD j 0).toNat = q at hcj hM hq
      have hqi : (q : Int) % 18446744073709551616 = q := by omega
      have hX := u64_xor_nat R q hRl (by omega)
      obtain ⟨X, eX⟩ : ∃ X, R ^^^ q = X := ⟨_, rfl⟩
      rw [eX] at hX
      have hY : IntKind.u64.wrap ((X : Int) * 1099511628211) = ((X * 1099511628211 % 18446744073709551616 : Nat) : Int) := by rw [IntKind.wrap_u64]; omega
      obtain ⟨Y, eY⟩ : ∃ Y, X * 1099511628211 % 18446744073709551616 = Y := ⟨_, rfl⟩
      rw [eY] at hY
      have HN := Lib.hid (show fnv 14695981039346656037 (ts.take (j + 1)) = Y by rw [hM.out, HR.out, eX]; exact eY)
      clear hRl hq eX eY hM HR
      go_wp2_with fail
      go_roundw
      case rel => exact ⟨j + 1, Y, by omega, by go_num, rfl, HN.out, by trivial⟩
      case measure => simp [intOf]; omega
    · have HI : ¬ (j : Int) < ts.length := by omega
      have hj2 : j = ts.length := by omega
      have hE : R = hashN ts := by rw [← HR.out, hj2, List.take_length]; rfl
      subst hE
      clear hRl hjn hj2
      go_wp2_with fail
      go_ret
      exact ⟨rfl, Below.refl _ _⟩
end
end Go.Proofs.Ytkkohkilhdebmaa

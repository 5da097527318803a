/- The contracts of Parse, and of the reference functions Digits, NatDigits and NatParse, for every string. -/
import Derived.Test.YticakmcjiofhoaaRefD
import Derived.Test.YticakmcjiofhoaaKnown
import Derived.Deep.RegionHeld3
namespace Go.Proofs.Yticakmcjiofhoaa
open Go.RowKit Dig
set_option linter.unusedVariables false

namespace Dig
/-- These letters are the text of a number. -/
def isText (l : List UInt8) : Bool := l.all isDig && lead l
def perr (l : List UInt8) : Int := if isText l then 0 else 2
def pnum (l : List UInt8) : Nat := if isText l then dec l else 0
end Dig
/-- What parsing hands back. -/
def RP (w : World) (l : List UInt8) (e : Ending) (w' : World) : Prop := ∃ r, e = .returned (.tuple #[r, .int .i64 (perr l)]) ∧ Num w' r (dg (pnum l)) ∧ Below w.heap.size w w'

theorem parse_any (w : World) (s : ByteArray) (hs : s.size ≤ 4000) : Calls Try.prog 38 #[.string s] w (RP w (chars s)) := by
  have hno : isText (chars s) = false → Calls Try.prog 56 #[.string s] w (fun e w' => e = .returned (.bool false) ∧ Below w.heap.size w w') → Calls Try.prog 38 #[.string s] w (RP w (chars s)) := by
    intro h hD
    exact (parse_not w s hs hD).mono fun e w' ⟨a, b⟩ => ⟨.slice none 0 0, by rw [perr, h]; exact a, by rw [pnum, h]; exact Num.nil w', b⟩
  by_cases hall : (chars s).all isDig = true
  · have hall2 : ∀ j, j < (chars s).length → isDig ((chars s).getD j 0) = true := by
      intro j hj
      rw [List.all_eq_true] at hall
      exact hall _ (by rw [List.getD_eq_getElem?_getD, List.getElem?_eq_getElem hj]; exact List.getElem_mem hj)
    rcases Nat.eq_zero_or_pos s.size with h0 | hp
    · refine hno ?_ (isDec_empty w s h0)
      have : chars s = [] := List.eq_nil_of_length_eq_zero (by rw [chars_length]; exact h0)
      rw [this]; rfl
    · have hD := isDec_all w s hs hp hall2
      cases hl : lead (chars s) with
      | false =>
        rw [hl] at hD
        exact hno (by rw [isText, hall, hl]; rfl) hD
      | true =>
        have ht : isText (chars s) = true := by rw [isText, hall, hl]; rfl
        refine (parse_c w s hs hp (by rw [List.all_eq_true] at hall; exact hall) hl).mono fun e w' ⟨r, a, b, c⟩ => ⟨r, ?_, ?_, c⟩
        · rw [perr, ht]; exact a
        · rw [pnum, ht]; exact b.num
  · have h2 : ∃ k, k < (chars s).length ∧ isDig ((chars s).getD k 0) = false := by
      rw [List.all_eq_true] at hall
      simp only [Classical.not_forall] at hall
      obtain ⟨c, hc, hd⟩ := hall
      obtain ⟨k, hk, e⟩ := List.getElem_of_mem hc
      refine ⟨k, hk, ?_⟩
      rw [List.getD_eq_getElem?_getD, List.getElem?_eq_getElem hk, Option.getD_some, e]
      simpa using hd
    obtain ⟨k, hk, hn⟩ := h2
    exact hno (by rw [isText]; simp only [Bool.not_eq_true] at hall; rw [hall]; rfl) (isDec_no w s hs k hk hn)

theorem char_at (s : ByteArray) (j : Nat) (h : j < s.size) : (s[j]'h) = (chars s).getD j 0 := by
  have h1 : j < s.data.size := h
  unfold chars
  rw [List.getD_eq_getElem?_getD, List.getElem?_eq_getElem (by simpa using h1)]
  rfl

set_option maxHeartbeats 1000000 in
theorem digits_all (w : World) (s : ByteArray) (hs : s.size ≤ 4000) (hall : ∀ j, j < (chars s).length → isDig ((chars s).getD j 0) = true) :
    Calls Try.prog 58 #[.string s] w fun e w' => e = .returned (.bool (decide (0 < s.size))) ∧ w = w' := by
  have hl := chars_length s
  have HL := Lib.hid hl
  have HA := Lib.hid hall
  clear hl hall
  go_enter Try.func58, Try.ntmps58
  go_wp2_with fail
  go_loop [3] (fun i => ∃ j : Nat, j ≤ s.size ∧ i = .int .i64 j) (fun i => s.size - (intOf i).toNat)
  case atStart => exact ⟨0, Nat.zero_le _, rfl⟩
  case round =>
    obtain ⟨j, hj, rfl⟩ := hrel
    by_cases hlt : j < s.size
    · have hd := HA.out j (by rw [HL.out]; exact hlt)
      have hjs : (j : Int) < s.size := by omega
      have hch := char_at s j hlt
      have hd2 : 48 ≤ ((s[j]'hlt)).toNat ∧ ((s[j]'hlt)).toNat ≤ 57 := by rw [hch]; simpa [isDig] using hd
      clear hd hch
      go_wp2_with fail
      go_round
      case rel => exact ⟨j + 1, by omega, by go_num⟩
      case measure => simp [intOf]; omega
    · have : j = s.size := by omega
      subst this
      by_cases h0 : 0 < s.size
      · go_wp2_with fail
        go_ret
        exact ⟨ret_eq (by simp), rfl⟩
      · go_wp2_with fail
        go_ret
        exact ⟨ret_eq (by simp), rfl⟩

set_option maxHeartbeats 1000000 in
theorem digits_no (w : World) (s : ByteArray) (hs : s.size ≤ 4000) (k : Nat) (hk : k < (chars s).length) (hn : isDig ((chars s).getD k 0) = false) :
    Calls Try.prog 58 #[.string s] w fun e w' => e = .returned (.bool false) ∧ w = w' := by
  have hl := chars_length s
  have HL := Lib.hid hl
  have HN := Lib.hid hn
  go_enter Try.func58, Try.ntmps58
  go_wp2_with fail
  have hk2 : k < s.size := by omega
  clear hl hn
  go_loop [3] (fun i => ∃ j : Nat, j ≤ k ∧ i = .int .i64 j) (fun i => k + 1 - (intOf i).toNat)
  case atStart => exact ⟨0, Nat.zero_le _, rfl⟩
  case round =>
    obtain ⟨j, hj, rfl⟩ := hrel
    have hjn : j < s.size := by omega
    have hjs : (j : Int) < s.size := by omega
    have hch := char_at s j hjn
    by_cases hd : isDig ((chars s).getD j 0) = true
    · have hjk : j ≠ k := by intro e; subst e; rw [HN.out] at hd; cases hd
      have hd2 : 48 ≤ ((s[j]'hjn)).toNat ∧ ((s[j]'hjn)).toNat ≤ 57 := by rw [hch]; simpa [isDig] using hd
      clear hd hch
      go_wp2_with fail
      go_round
      case rel => exact ⟨j + 1, by omega, by go_num⟩
      case measure => simp [intOf]; omega
    · have hd2 : ((s[j]'hjn)).toNat < 48 ∨ 57 < ((s[j]'hjn)).toNat := by
        rw [hch]
        simp only [isDig, Bool.and_eq_true, decide_eq_true_eq] at hd
        omega
      clear hd hch
      rcases hd2 with h1 | h1
      · go_wp2_with fail
        go_ret
        exact ⟨rfl, rfl⟩
      · have h2 : ¬ ((s[j]'hjn)).toNat < 48 := by omega
        go_wp2_with fail
        go_ret
        exact ⟨rfl, rfl⟩

set_option maxHeartbeats 2000000 in
theorem natDigits_c (w : World) (s : ByteArray) (hs : s.size ≤ 4000) (hall : ∀ c ∈ chars s, isDig c = true) :
    Calls Try.prog 59 #[.string s] w (RNat w (dec (chars s))) := by
  have HL := Lib.hid (chars_length s)
  have HA := Lib.hid hall
  clear hall
  go_enter Try.func59, Try.ntmps59
  go_wp2_with fail
  go_loopw [3, 4] (fun out i wr => ∃ j : Nat, j ≤ s.size ∧ i = .int .i64 j ∧ Own w.heap.size wr out (dg (dec ((chars s).take j))) ∧ Below w.heap.size w wr) (fun _ i _ => s.size - (intOf i).toNat)
  case atStart => exact ⟨0, Nat.zero_le _, rfl, by rw [List.take_zero]; exact Own.nil _ _, Below.refl _ _⟩
  case round =>
    obtain ⟨j, hj, rfl, hO, hB⟩ := hrel
    by_cases hlt : j < s.size
    · have hjl : j < (chars s).length := by rw [HL.out]; exact hlt
      have hd := HA.out ((chars s).getD j 0) (by rw [List.getD_eq_getElem?_getD, List.getElem?_eq_getElem hjl]; exact List.getElem_mem hjl)
      have hch := char_at s j hlt
      have hst := dec_take_succ (chars s) j hjl
      have hlen : (dg (dec ((chars s).take j))).length ≤ 4000 := by
        have h1 := dec_take_lt (chars s) j j HA.out (Nat.le_refl _)
        have h2 : (10 : Nat) ^ j ≤ 4294967296 ^ j := Nat.pow_le_pow_left (by omega) j
        have h3 := dg_length_le _ _ (Nat.lt_of_lt_of_le h1 h2)
        omega
      rw [← hch] at hd hst
      have hd2 : 48 ≤ ((s[j]'hlt)).toNat ∧ ((s[j]'hlt)).toNat ≤ 57 := by simpa [isDig] using hd
      have hjs : (j : Int) < s.size := by omega
      clear hd hch
      generalize dec ((chars s).take j) = m at *
      obtain ⟨c, hc⟩ : ∃ c, (s[j]'hlt).toNat = 48 + c := ⟨(s[j]'hlt).toNat - 48, by omega⟩
      rw [hc] at hst hd2
      rw [Nat.add_sub_cancel_left] at hst
      have hc9 : c ≤ 9 := by omega
      have HST := Lib.hid hst
      have hlen2 : (dg (m * 10)).length ≤ 4001 := by
        have h1 := dg_lt m
        have h2 : m * 10 < 4294967296 ^ ((dg m).length + 1) := by rw [Nat.pow_succ]; omega
        have := dg_length_le _ _ h2
        omega
      have hlc : (dg c).length ≤ 1 := dg_length_le c 1 (by omega)
      have hci : (c : Int) ≤ 9 := by omega
      have hn := hO.num
      have HLEN := Lib.hid hlen
      have HLEN2 := Lib.hid hlen2
      have HLC := Lib.hid hlc
      have HWR := Lib.hid (show IntKind.u64.wrap (IntKind.u8.wrap (48 + (c : Int) - 48)) = (c : Int) by rw [IntKind.wrap_u8, IntKind.wrap_u64]; omega)
      clear hst hd2 hlen hlen2 hlc hO
      go_wp2_with fail
      go_region_held3 (fun w' => True) (trivial) (first | (go_at_call_of 21 (Value.int IntKind.u64 10); refine (natOf_c _ 10 (by omega)).mono ?_; rintro e w1 ⟨t, rfl, hO1, hB1⟩; have B1 := below_undrew hB1) | (go_at_call 31; refine (natMul_c _ _ _ (dg m) (dg 10) ?_ ?_ ?_ ?_).mono ?_; exact hn.below B1; exact hO1.num; (have := HLEN.out; omega); decide; rintro e w2 ⟨u, rfl, hO2, hB2⟩; rw [val_dg, val_dg] at hO2) | (go_at_call 21; rw [HWR.out]; refine (natOf_c _ c (by omega)).mono ?_; rintro e w3 ⟨t3, rfl, hO3, hB3⟩) | (go_at_call 29; refine (natAdd_c _ _ _ (dg (m * 10)) (dg c) ?_ ?_ ?_ ?_).mono ?_; exact hO2.num.below hB3; exact hO3.num; (have := HLEN2.out; omega); (have := HLC.out; omega); rintro e w4 ⟨t4, rfl, hO4, hB4⟩))
      all_goals
        rw [val_dg, val_dg, ← HST.out] at hO4
        have hB5 := below_then (below_then (below_then (below_then hB B1) hB2) hB3) hB4
        have hO5 : Own w.heap.size w4 t4 _ := hO4.mono (below_then (below_then (below_then hB B1) hB2) hB3).size
        go_wp2_with fail
        go_roundw
        case rel => exact ⟨j + 1, by omega, by go_num, hO5, hB5⟩
        case measure => simp [intOf]; omega
    · have : j = s.size := by omega
      subst this
      rw [List.take_of_length_le (by rw [HL.out]; exact Nat.le_refl _)] at hO
      go_wp2_with fail
      go_ret
      exact ⟨_, rfl, hO, hB⟩
end Go.Proofs.Yticakmcjiofhoaa

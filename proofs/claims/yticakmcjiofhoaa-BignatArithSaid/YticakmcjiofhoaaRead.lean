/- The contracts of the functions of package bignat that only read: order, Uint64, BitLen, Cmp. -/
import Derived.Test.YticakmcjiofhoaaTrim
import Derived.Test.YticakmcjiofhoaaDigb
import Derived.Test.YticakmcjiofhoaaShelf
import Derived.Deep.QuietTactic
import Derived.BigQuiet
namespace Go.Proofs.Yticakmcjiofhoaa
open Go.RowKit Dig

theorem order_true (w : World) : Calls Try.prog 48 #[.bool true] w fun e w' => e = .returned (.int .i64 (-1)) ∧ w = w' := by
  go_enter Try.func48, Try.ntmps48
  go_wp2
  go_ret
  exact ⟨rfl, rfl⟩
theorem order_false (w : World) : Calls Try.prog 48 #[.bool false] w fun e w' => e = .returned (.int .i64 1) ∧ w = w' := by
  go_enter Try.func48, Try.ntmps48
  go_wp2
  go_ret
  exact ⟨rfl, rfl⟩

def fits (n : Nat) : Bool := decide (n < 18446744073709551616)
def u64Of (n : Nat) : Nat := if n < 18446744073709551616 then n else 0

theorem or_u64 (a b : Nat) (ha : a < 4294967296) (hb : b < 4294967296) : bits .or .u64 ((b : Int) * 4294967296) (a : Int) = ((a + 4294967296 * b : Nat) : Int) := by
  have h := u64_or_nat (b * 4294967296) a (by omega) (by omega)
  rw [show ((b * 4294967296 : Nat) : Int) = (b : Int) * 4294967296 by omega] at h
  rw [h]
  congr 1
  have := Nat.shiftLeft_add_eq_or_of_lt (i := 32) (b := a) (by omega) b
  rw [Nat.shiftLeft_eq] at this
  rw [← this]
  omega
theorem ret2_eq {a b c d : Value} (h : a = c) (k : b = d) : Ending.returned (.tuple #[a, b]) = .returned (.tuple #[c, d]) := by rw [h, k]
theorem u64_small {n : Nat} (h : n < 18446744073709551616) : u64Of n = n ∧ fits n = true := by
  unfold u64Of fits
  exact ⟨if_pos h, decide_eq_true h⟩
theorem u64_large {n : Nat} (h : 18446744073709551616 ≤ n) : u64Of n = 0 ∧ fits n = false := by
  unfold u64Of fits
  exact ⟨if_neg (by omega), decide_eq_false (by omega)⟩
theorem int_eq {k : IntKind} {a b : Nat} (h : a = b) : Value.int k (a : Int) = .int k (b : Int) := by rw [h]

set_option maxHeartbeats 400000 in
theorem uint64_c (w : World) (A : Option Addr) (n c : Nat) (xs : List Nat) (h : Num w (.slice A n c) xs) :
    Calls Try.prog 13 #[.slice A n c] w fun e w' => e = .returned (.tuple #[.int .u64 (u64Of (val xs)), .bool (fits (val xs))]) ∧ ∃ N, w' = w.drewN N := by
  by_cases h0 : (dg (val xs)).length = 0
  · go_enter Try.func13, Try.ntmps13
    go_wp2_with (go_at_call 41; refine (trim_nil _ _ _ _ _ h h0).mono ?_; rintro e w' ⟨rfl, rfl⟩)
    have e0 := dg_len0 h0
    obtain ⟨e1, e2⟩ := u64_small (n := val xs) (by omega)
    go_ret2
    exact ⟨ret2_eq (int_eq (a := 0) (by rw [e1, e0])) (congrArg Value.bool e2.symm), 0, rfl⟩
  · obtain ⟨hl, hc, hm, b, off, rfl, hb, hcell⟩ := h.top (by omega)
    have T := Lib.hid (trim_some w _ _ _ _ h _ rfl (by omega))
    have c0 : w.cell? ⟨b, off, none⟩ = some (.int .u32 (((dg (val xs)).getD 0 0 : Nat) : Int)) := hcell 0 (by omega)
    have b0 := (small_dg (val xs)).get 0
    generalize hd0 : (dg (val xs)).getD 0 0 = d0 at c0 b0
    have D0 := Lib.hid hd0
    clear hd0
    have c1 : 1 < (dg (val xs)).length → w.cell? ⟨b, off + 1, none⟩ = some (.int .u32 (((dg (val xs)).getD 1 0 : Nat) : Int)) := fun hh => hcell 1 hh
    have b1 := (small_dg (val xs)).get 1
    generalize hd1 : (dg (val xs)).getD 1 0 = d1 at c1 b1
    have D1 := Lib.hid hd1
    clear hd1 hcell
    by_cases h1 : (dg (val xs)).length = 1
    · go_enter Try.func13, Try.ntmps13
      go_wp2_with (go_at_call 41; refine (T.out).mono ?_; rintro e w' ⟨rfl, rfl⟩)
      have e0 := dg_len1 h1
      rw [D0.out] at e0
      obtain ⟨e1, e2⟩ := u64_small (n := val xs) (by omega)
      go_ret2
      exact ⟨ret2_eq (int_eq (a := d0) (by rw [e1, e0])) (congrArg Value.bool e2.symm), 0, rfl⟩
    · by_cases h2 : (dg (val xs)).length = 2
      · have c1 := c1 (by omega)
        go_enter Try.func13, Try.ntmps13
        go_wp2_with (go_at_call 41; refine (T.out).mono ?_; rintro e w' ⟨rfl, rfl⟩)
        go_quiet (fail)
        go_wp2
        have e0 := dg_len2 h2
        rw [D0.out, D1.out] at e0
        obtain ⟨e1, e2⟩ := u64_small (n := val xs) (by omega)
        go_ret2
        exact ⟨ret2_eq (show Value.int .u64 (bits .or .u64 ((d1 : Int) * 4294967296) (d0 : Int)) = _ by rw [or_u64 d0 d1 b0 b1, e1, e0]) (congrArg Value.bool e2.symm), _, rfl⟩
      · go_enter Try.func13, Try.ntmps13
        go_wp2_with (go_at_call 41; refine (T.out).mono ?_; rintro e w' ⟨rfl, rfl⟩)
        have e0 := dg_len3 (n := val xs) (by omega)
        obtain ⟨e1, e2⟩ := u64_large e0
        go_ret2
        exact ⟨ret2_eq (int_eq (a := 0) (by rw [e1])) (congrArg Value.bool e2.symm), 0, rfl⟩

set_option maxHeartbeats 400000 in
theorem bitLen_c (w : World) (A : Option Addr) (n c : Nat) (xs : List Nat) (h : Num w (.slice A n c) xs) (hz : n ≤ 72057594037927936) :
    Calls Try.prog 24 #[.slice A n c] w fun e w' => e = .returned (.int .i64 (nbits (val xs))) ∧ w = w' := by
  by_cases h0 : (dg (val xs)).length = 0
  · go_enter Try.func24, Try.ntmps24
    go_wp2_with (go_at_call 41; refine (trim_nil _ _ _ _ _ h h0).mono ?_; rintro e w' ⟨rfl, rfl⟩)
    have e0 := dg_len0 h0
    go_ret
    exact ⟨ret_eq (int_eq (a := 0) (by rw [e0]; rfl)), rfl⟩
  · obtain ⟨hl, hc, hm, b, off, rfl, hb, hcell⟩ := h.top (by omega)
    obtain ⟨k, hk⟩ : ∃ k, (dg (val xs)).length = k + 1 := ⟨(dg (val xs)).length - 1, by omega⟩
    have T := Lib.hid (trim_some w _ _ _ _ h (k + 1) hk (by omega))
    have ct := hcell k (by omega)
    have bt := (small_dg (val xs)).get k
    have ht := nbits_dg (val xs) k hk
    generalize hd : (dg (val xs)).getD k 0 = d at ct bt ht
    have HT := Lib.hid ht
    have hkn : k + 1 ≤ n := by omega
    have hb32 : nbits d ≤ 32 := by
      rcases Nat.lt_or_ge 32 (nbits d) with h1 | h1
      · rcases Nat.eq_zero_or_pos d with h2 | h2
        · subst h2; simp [nbits_zero] at h1
        · have h3 := (nbits_le d h2).2
          have h4 : 2 ^ 32 ≤ 2 ^ (nbits d - 1) := Nat.pow_le_pow_right (by omega) (by omega)
          omega
      · exact h1
    have L := Lib.hid (bitLen_eq d (by omega))
    clear ht hd hcell hl hk h0
    go_enter Try.func24, Try.ntmps24
    go_wp2_with (first | (go_at_call 41; refine (T.out).mono ?_; rintro e w' ⟨rfl, rfl⟩) | (go_at_call 47; refine (Try.bits_Len32 (d : Int) _ (by omega) (by omega)).mono ?_; rintro e w' ⟨rfl, rfl⟩; rw [Int.toNat_natCast, L.out]))
    go_ret
    exact ⟨ret_eq (show Value.int .i64 ((k : Int) * 32 + (nbits d : Int)) = _ by rw [HT.out]; congr 1), rfl⟩
end Go.Proofs.Yticakmcjiofhoaa

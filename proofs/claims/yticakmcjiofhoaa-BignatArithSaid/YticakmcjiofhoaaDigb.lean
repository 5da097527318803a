/- Plain lemmas on digits: the order, the number of binary digits, sums and differences digit by digit. -/
import Derived.Test.YticakmcjiofhoaaDig
import Derived.Lib.BitFns
namespace Go.Proofs.Yticakmcjiofhoaa
namespace Dig

/-- The order of numbers whose canonical digits are of different lengths. -/
theorem lt_of_dg_length {a b : Nat} (h : (dg a).length < (dg b).length) : a < b := by
  rcases Nat.lt_or_ge a b with h1 | h1
  · exact h1
  · have := dg_length_mono h1; omega

theorem getD_drop (xs : List Nat) (k j : Nat) : (xs.drop k).getD j 0 = xs.getD (k + j) 0 := by
  simp [List.getD_eq_getElem?_getD, List.getElem?_drop]

theorem ext_getD {xs ys : List Nat} (hl : xs.length = ys.length) (h : ∀ j, j < xs.length → xs.getD j 0 = ys.getD j 0) : xs = ys := by
  apply List.ext_getElem hl
  intro j h1 h2
  have := h j h1
  simpa [List.getD_eq_getElem?_getD, List.getElem?_eq_getElem h1, List.getElem?_eq_getElem h2] using this

/-- The order is that of the highest digits that differ. -/
theorem lt_of_digit (xs ys : List Nat) (hs : Small xs) (k : Nat) (hl : xs.length = ys.length) (hk : k < xs.length)
    (he : ∀ j, k < j → j < xs.length → xs.getD j 0 = ys.getD j 0) (hlt : xs.getD k 0 < ys.getD k 0) : val xs < val ys := by
  rw [val_take_drop xs (k + 1) (by omega), val_take_drop ys (k + 1) (by omega), val_take_succ xs k hk, val_take_succ ys k (by omega)]
  have e : xs.drop (k + 1) = ys.drop (k + 1) := by
    apply ext_getD (by simp; omega)
    intro j hj
    rw [List.length_drop] at hj
    rw [getD_drop, getD_drop]
    exact he _ (by omega) (by omega)
  rw [e]
  have h1 : val (xs.take k) < 4294967296 ^ k := by have := val_lt (xs.take k) (hs.take k); rwa [List.length_take, Nat.min_eq_left (by omega)] at this
  have h2 : 4294967296 ^ k * (xs.getD k 0 + 1) ≤ 4294967296 ^ k * ys.getD k 0 := Nat.mul_le_mul_left _ hlt
  rw [Nat.mul_add, Nat.mul_one] at h2
  omega

def cmpI (a b : Nat) : Int := if a < b then -1 else if a = b then 0 else 1
theorem cmpI_lt {a b : Nat} (h : a < b) : cmpI a b = -1 := by unfold cmpI; rw [if_pos h]
theorem cmpI_gt {a b : Nat} (h : b < a) : cmpI a b = 1 := by unfold cmpI; rw [if_neg (by omega), if_neg (by omega)]
theorem cmpI_eq (a : Nat) : cmpI a a = 0 := by unfold cmpI; rw [if_neg (by omega), if_pos rfl]
theorem cmpI_bd (a b : Nat) : -1 ≤ cmpI a b ∧ cmpI a b ≤ 1 := by unfold cmpI; split <;> (try split) <;> omega

/-- The number of binary digits. -/
def nbits (n : Nat) : Nat := if n = 0 then 0 else Nat.log2 n + 1
theorem nbits_zero : nbits 0 = 0 := rfl
theorem nbits_lt (n : Nat) : n < 2 ^ nbits n := by
  unfold nbits
  split
  · next h => subst h; simp
  · exact Nat.lt_log2_self
theorem nbits_le (n : Nat) (h : 0 < n) : 1 ≤ nbits n ∧ 2 ^ (nbits n - 1) ≤ n := by
  unfold nbits
  rw [if_neg (by omega)]
  exact ⟨by omega, by rw [Nat.add_sub_cancel]; exact Nat.log2_self_le (by omega)⟩
theorem nbits_unique (n k : Nat) (h1 : 2 ^ k ≤ n) (h2 : n < 2 ^ (k + 1)) : nbits n = k + 1 := by
  have hp : 0 < n := Nat.lt_of_lt_of_le (Nat.pow_pos (by omega)) h1
  obtain ⟨a, b⟩ := nbits_le n hp
  have c := nbits_lt n
  have d1 : nbits n - 1 < k + 1 := (Nat.pow_lt_pow_iff_right (by omega : 1 < 2)).1 (Nat.lt_of_le_of_lt b h2)
  have d2 : k < nbits n := (Nat.pow_lt_pow_iff_right (by omega : 1 < 2)).1 (Nat.lt_of_le_of_lt h1 c)
  omega

theorem bitLenAux_spec (f x : Nat) (h : x < 2 ^ f) : Lib.bitLenAux f x = nbits x := by
  induction f generalizing x with
  | zero => have : x = 0 := by simpa using h
            subst this; rfl
  | succ f ih =>
    unfold Lib.bitLenAux
    by_cases h0 : x = 0
    · subst h0; rfl
    · have hx : x / 2 < 2 ^ f := by rw [Nat.pow_succ] at h; omega
      have hi := ih (x / 2) hx
      first
        | rw [if_neg h0, hi]
        | (split; · contradiction
           rw [hi])
      by_cases h1 : x = 1
      · subst h1; rfl
      · obtain ⟨a, b⟩ := nbits_le (x / 2) (by omega)
        have c := nbits_lt (x / 2)
        obtain ⟨k, hk⟩ : ∃ k, nbits (x / 2) = k + 1 := ⟨nbits (x / 2) - 1, by omega⟩
        rw [hk] at b c ⊢
        rw [Nat.add_sub_cancel] at b
        have := nbits_unique x (k + 1) (by rw [Nat.pow_succ]; omega) (by rw [Nat.pow_succ]; omega)
        omega
theorem bitLen_eq (x : Nat) (h : x < 18446744073709551616) : Lib.bitLen x = nbits x := bitLenAux_spec 64 x (by simpa using h)

theorem nbits_mono {a b : Nat} (h : a ≤ b) : nbits a ≤ nbits b := by
  rcases Nat.eq_zero_or_pos a with h0 | h0
  · subst h0; simp [nbits_zero]
  · obtain ⟨h1, h2⟩ := nbits_le a h0
    have h3 := nbits_lt b
    have : nbits a - 1 < nbits b := (Nat.pow_lt_pow_iff_right (by omega : 1 < 2)).1 (by omega)
    omega

/-- The binary digits of a number out of those of its highest digit. -/
theorem nbits_val (xs : List Nat) (hs : Small xs) (n : Nat) (hn : xs.length = n + 1) (hp : 0 < xs.getD n 0) : nbits (val xs) = n * 32 + nbits (xs.getD n 0) := by
  have hv := val_take_succ xs n (by omega)
  rw [List.take_of_length_le (by omega)] at hv
  have hlt : val (xs.take n) < 4294967296 ^ n := by have := val_lt (xs.take n) (hs.take n); rwa [List.length_take, Nat.min_eq_left (by omega)] at this
  obtain ⟨h1, h2⟩ := nbits_le _ hp
  have h3 := nbits_lt (xs.getD n 0)
  obtain ⟨k, hk⟩ : ∃ k, nbits (xs.getD n 0) = k + 1 := ⟨nbits (xs.getD n 0) - 1, by omega⟩
  rw [hk] at h2 h3 ⊢
  rw [Nat.add_sub_cancel] at h2
  have hB : (4294967296 : Nat) ^ n = 2 ^ (n * 32) := by rw [show (4294967296 : Nat) = 2 ^ 32 from rfl, ← Nat.pow_mul, Nat.mul_comm]
  rw [hB] at hv hlt
  have l1 : 2 ^ (n * 32) * 2 ^ k ≤ 2 ^ (n * 32) * xs.getD n 0 := Nat.mul_le_mul_left _ h2
  have l2 : 2 ^ (n * 32) * (xs.getD n 0 + 1) ≤ 2 ^ (n * 32) * 2 ^ (k + 1) := Nat.mul_le_mul_left _ h3
  rw [← Nat.pow_add] at l1 l2
  rw [Nat.mul_add, Nat.mul_one] at l2
  have := nbits_unique (val xs) (n * 32 + k) (by omega) (by rw [Nat.add_assoc]; omega)
  omega

theorem nbits_dg_length (n : Nat) : nbits n ≤ 32 * (dg n).length := by
  rcases Nat.eq_zero_or_pos n with h | h
  · subst h; simp [nbits_zero]
  · obtain ⟨h1, h2⟩ := nbits_le n h
    have h3 := dg_lt n
    rw [show (4294967296 : Nat) = 2 ^ 32 from rfl, ← Nat.pow_mul] at h3
    have := (Nat.pow_lt_pow_iff_right (by omega : 1 < 2)).1 (Nat.lt_of_le_of_lt h2 h3)
    omega
/-- The highest of the canonical digits is not 0. -/
theorem dg_top (n k : Nat) (h : (dg n).length = k + 1) : 0 < (dg n).getD k 0 := by
  have hc := (canon_dg n).2
  rw [List.getLast?_eq_getElem?, h, Nat.add_sub_cancel] at hc
  rw [List.getD_eq_getElem?_getD]
  rw [List.getElem?_eq_getElem (by omega)] at hc ⊢
  simp at hc ⊢
  omega
theorem nbits_dg (n k : Nat) (h : (dg n).length = k + 1) : nbits n = k * 32 + nbits ((dg n).getD k 0) := by
  have := nbits_val (dg n) (small_dg n) k h (dg_top n k h)
  rwa [val_dg] at this
theorem val_len1 (l : List Nat) (h : l.length = 1) : val l = l.getD 0 0 := by
  match l, h with
  | [a], _ => simp [val]
theorem val_len2 (l : List Nat) (h : l.length = 2) : val l = l.getD 0 0 + 4294967296 * l.getD 1 0 := by
  match l, h with
  | [a, b], _ => simp [val]
theorem dg_len0 {n : Nat} (h : (dg n).length = 0) : n = 0 := (dg_nil_iff n).1 (List.eq_nil_of_length_eq_zero h)
theorem dg_len1 {n : Nat} (h : (dg n).length = 1) : n = (dg n).getD 0 0 := by have := val_len1 _ h; rwa [val_dg] at this
theorem dg_len2 {n : Nat} (h : (dg n).length = 2) : n = (dg n).getD 0 0 + 4294967296 * (dg n).getD 1 0 := by have := val_len2 _ h; rwa [val_dg] at this
theorem dg_len3 {n : Nat} (h : 2 < (dg n).length) : 18446744073709551616 ≤ n := by
  have hp : 0 < n := by
    rcases Nat.eq_zero_or_pos n with h0 | h0
    · subst h0; simp [dg_zero] at h
    · exact h0
  have h1 := dg_ge n hp
  have h2 := pow_le (show 2 ≤ (dg n).length - 1 by omega)
  omega
end Dig
end Go.Proofs.Yticakmcjiofhoaa

/- Plain lemmas for the laws of layer 4: the canonical form and its lengths; encodings cut off. -/
import Derived.Test.YtkdnmmbnljaahaaKn4
namespace Go.Proofs.Ytkdnmmbnljaahaa
open Go.RowKit Dig
set_option linter.unusedVariables false

theorem canon_parts (q : Rat) : canonN (decide (q.num < 0)) q.num.natAbs q.den = true := by
  unfold canonN canon
  rw [val_dg, val_dg, fr_self]
  simp
theorem mkn_lt (xs : List Nat) (hs : Small xs) : val (mkn xs) < 4294967296 ^ 8 := by
  have h := val_lt (mkn xs) (mkn_small xs hs)
  exact Nat.lt_of_lt_of_le h (Nat.pow_le_pow_right (by omega) (mkn_length xs))
theorem fr_bound (neg : Bool) (n d K : Nat) (hn : n < K) (hd : d < K) (h1 : 1 < K) : (fr neg n d).num.natAbs < K ∧ (fr neg n d).den < K := by
  by_cases h : n = 0 ∨ d = 0
  · obtain ⟨_, h2, h3⟩ := rat_zero_parts ((fr_eq_zero neg n d).2 h)
    rw [h2, h3]
    omega
  · obtain ⟨_, h2, h3⟩ := fr_parts neg (n := n) (d := d) (by omega) (by omega)
    rw [h2, h3]
    have e1 := Nat.div_le_self n (Nat.gcd n d)
    have e2 := Nat.div_le_self d (Nat.gcd n d)
    omega
/-- The lengths of the bytes of the fractions that the laws draw. -/
theorem mkn_short (neg : Bool) (xs ys : List Nat) (hx : Small xs) (hy : Small ys) : (beB (fr neg (val (mkn xs)) (val (mkn ys))).num.natAbs).length ≤ 32 ∧ (beB (fr neg (val (mkn xs)) (val (mkn ys))).den).length ≤ 32 := by
  obtain ⟨h1, h2⟩ := fr_bound neg _ _ _ (mkn_lt xs hx) (mkn_lt ys hy) (by decide)
  exact ⟨beB_short h1, beB_short h2⟩
theorem encN_short {n : Nat} (h : (beB n).length ≤ 32) : (encN n).length ≤ 42 := by
  unfold encN encB
  have := encU_ten (n := (beB n).length) (by omega)
  rw [List.length_append]
  omega
theorem encQ_short {neg : Bool} {n d : Nat} (h1 : (beB n).length ≤ 32) (h2 : (beB d).length ≤ 32) : (encQ neg n d).length ≤ 85 := by
  have := encN_short h1
  have := encN_short h2
  unfold encQ
  simp
  omega
/-- What is read of a number, bytes and a fraction, one behind another, the end cut off. -/
theorem cut3 {n k : Nat} {ts : List UInt8} {neg : Bool} {a b : Nat} (hn : n < 18446744073709551616) (ht : ts.length ≤ 1000000) (ha : (beB a).length ≤ 8192) (hb : (beB b).length ≤ 8192) (hc : canonN neg a b = true) (hk : k ≤ ((encU n ++ encB ts) ++ encQ neg a b).length) :
    (fracS canonN (bytesS ts.length (uintS n (((encU n ++ encB ts) ++ encQ neg a b).take k, 0)).2).2).2.2 = if k < ((encU n ++ encB ts) ++ encQ neg a b).length then 3 else 0 := by
  have hl : ((encU n ++ encB ts) ++ encQ neg a b).length = (encU n).length + (encB ts).length + (encQ neg a b).length := by rw [List.length_append, List.length_append]
  rw [hl] at hk ⊢
  rcases Nat.lt_or_ge k (encU n).length with h1 | h1
  · rw [if_pos (by omega), List.append_assoc, List.take_append_of_le_length (by omega), uintS_cut hn h1, bytesS_stop (by decide), fracS_stop (by decide)]
  · obtain ⟨i, rfl⟩ : ∃ i, k = (encU n).length + i := ⟨k - (encU n).length, by omega⟩
    rw [List.append_assoc, List.take_append, List.take_of_length_le (by omega), Nat.add_sub_cancel_left, uintS_enc _ (Nat.le_refl _) hn]
    rcases Nat.lt_or_ge i (encB ts).length with h2 | h2
    · rw [if_pos (by omega), List.take_append_of_le_length (by omega), bytesS_cut (Nat.le_refl _) (by omega) h2, fracS_stop (by decide)]
    · obtain ⟨j, rfl⟩ : ∃ j, i = (encB ts).length + j := ⟨i - (encB ts).length, by omega⟩
      rw [List.take_append, List.take_of_length_le (by omega), Nat.add_sub_cancel_left, bytesS_enc _ _ (Nat.le_refl _) (by omega)]
      rcases Nat.lt_or_ge j (encQ neg a b).length with h3 | h3
      · rw [if_pos (by omega), fracS_cut ha hb h3]
      · rw [if_neg (by omega), List.take_of_length_le h3]
        have := fracS_enc (K := canonN) (neg := neg) (n := a) (d := b) [] ha hb hc
        rw [List.append_nil] at this
        rw [this]
end Go.Proofs.Ytkdnmmbnljaahaa

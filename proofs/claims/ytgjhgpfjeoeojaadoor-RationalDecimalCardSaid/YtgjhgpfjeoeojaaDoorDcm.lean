/- What the texts of RationalDecimal denote. Plain mathematics. -/
import Derived.Test.YtgjhgpfjeoeojaaDoorTxtB
namespace Go.Proofs.YtgjhgpfjeoeojaaDoor
open Go.RowKit Dig
set_option linter.unusedVariables false
set_option linter.unusedSectionVars false
set_option linter.unusedSimpArgs false

namespace Dig
theorem dec_zeros (z : Nat) (l : List UInt8) : dec (List.replicate z 48 ++ l) = dec l := by
  induction z with
  | zero => rfl
  | succ z ih =>
    rw [List.replicate_succ, List.cons_append, dec_zero_cons, ih]
theorem digits_zeros (z : Nat) {l : List UInt8} (h : ∀ c ∈ l, isDig c = true) : ∀ c ∈ List.replicate z 48 ++ l, isDig c = true := by
  intro c hc
  rcases List.mem_append.1 hc with h1 | h1
  · rw [(List.mem_replicate.1 h1).2]; rfl
  · exact h c h1
theorem no_sep_of {l : List UInt8} (h : ∀ c ∈ l, isDig c = true) : ∀ c ∈ l, isSep c = false := by
  intro c hc
  cases hs : isSep c with
  | false => rfl
  | true => have := h c hc; rw [isDig_sep hs] at this; cases this
/-- The sign ahead of a text that begins with a digit. -/
theorem sign_of (neg : Bool) {l : List UInt8} (h : ∀ c ∈ l, isDig c = true) (hp : 0 < l.length) (r : List UInt8) :
    signOf ((if neg then [45] else []) ++ (l ++ r)) = neg ∧ restOf ((if neg then [45] else []) ++ (l ++ r)) = l ++ r := by
  cases l with
  | nil => simp at hp
  | cons c t =>
    have hc := h c (by simp)
    have h45 : c ≠ 45 := fun e => by rw [e] at hc; cases hc
    cases neg with
    | true => exact ⟨rfl, rfl⟩
    | false =>
      have hs : signOf ((if false then [45] else []) ++ (c :: t ++ r)) = false := by
        show (some c == some 45) = false
        simpa using h45
      refine ⟨hs, ?_⟩
      unfold restOf
      rw [hs]
      rfl
section
variable {w p : List UInt8} (hw : ∀ c ∈ w, isDig c = true) (hp : ∀ c ∈ p, isDig c = true) (h1 : 0 < w.length) (h2 : 0 < p.length) (neg : Bool)
include hw hp h1 h2
theorem decimal_err : ferr ((if neg then [45] else []) ++ (w ++ 46 :: p)) = 0 := by
  obtain ⟨e1, e2⟩ := sign_of neg hw h1 (46 :: p)
  unfold ferr
  rw [e2, body_point rfl (no_sep_of hw), okd_of hw h1, okd_of hp h2]
  have : 10 ^ p.length ≠ 0 := Nat.ne_of_gt (Nat.pow_pos (by omega))
  simp [this]
theorem decimal_val : fval ((if neg then [45] else []) ++ (w ++ 46 :: p)) = fr neg (dec w * 10 ^ p.length + dec p) (10 ^ p.length) := by
  obtain ⟨e1, e2⟩ := sign_of neg hw h1 (46 :: p)
  unfold fval
  rw [e1, e2, body_point rfl (no_sep_of hw)]
theorem quotient_err : ferr ((if neg then [45] else []) ++ (w ++ 47 :: p)) = if dec p = 0 then 20 else 0 := by
  obtain ⟨e1, e2⟩ := sign_of neg hw h1 (47 :: p)
  unfold ferr
  rw [e2, body_slash rfl (no_sep_of hw), okd_of hw h1, okd_of hp h2]
  simp
theorem quotient_val : fval ((if neg then [45] else []) ++ (w ++ 47 :: p)) = fr neg (dec w) (dec p) := by
  obtain ⟨e1, e2⟩ := sign_of neg hw h1 (47 :: p)
  unfold fval
  rw [e1, e2, body_slash rfl (no_sep_of hw)]
end
/-- A decimal number is its whole part and its digits divided by a power of 10. -/
theorem decimal_sum (neg : Bool) (a b s : Nat) (hs : s ≠ 0) : fr neg (a * s + b) s = if neg then -(fr false b s + fr false a 1) else fr false b s + fr false a 1 := by
  have h : fr false b s + fr false a 1 = fr false (a * s + b) s := by
    rw [fr_add hs (by omega)]
    rw [Nat.mul_one, Nat.mul_one, Nat.add_comm]
  rw [h]
  cases neg with
  | true => rw [if_pos rfl, fr_neg]; rfl
  | false => rfl
end Dig
end Go.Proofs.YtgjhgpfjeoeojaaDoor

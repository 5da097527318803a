/- Products of polynomials by sums of whole numbers above a common denominator. Plain mathematics. -/
import Derived.Test.YtpmjhkpjhfpfpaaPoly
namespace Go.Proofs.Ytpmjhkpjhfpfpaa
namespace Dig

def sumQ : Nat → (Nat → Rat) → Rat
  | 0, _ => 0
  | n + 1, F => sumQ n F + F n
def sumZ : Nat → (Nat → Int) → Int
  | 0, _ => 0
  | n + 1, F => sumZ n F + F n
theorem sumQ_left : ∀ (n : Nat) (F : Nat → Rat), sumQ (n + 1) F = F 0 + sumQ n fun i => F (i + 1)
  | 0, F => by simp only [sumQ]; grind
  | n + 1, F => by rw [sumQ, sumQ_left n F, sumQ]; grind
theorem conv_sumQ : ∀ (f g : Nat → Rat) (k : Nat), conv f g k = sumQ (k + 1) fun i => f i * g (k - i)
  | f, g, 0 => by simp only [conv, sumQ]; grind
  | f, g, k + 1 => by
    rw [conv, conv_sumQ (fun i => f (i + 1)) g k, sumQ_left (k + 1)]
    congr 1
    have : ∀ n, (∀ i, i < n → i ≤ k) → sumQ n (fun i => f (i + 1) * g (k - i)) = sumQ n (fun i => f (i + 1) * g (k + 1 - (i + 1))) := by
      intro n hn
      induction n with
      | zero => rfl
      | succ n ih =>
        rw [sumQ, sumQ, ih (fun i hi => hn i (by omega)), show k + 1 - (n + 1) = k - n by omega]
    exact this _ (fun i hi => by omega)
theorem sumQ_cast (n : Nat) (F : Nat → Rat) (G : Nat → Int) (c : Rat) (h : ∀ i, i < n → F i = (G i : Rat) * c) : sumQ n F = (sumZ n G : Rat) * c := by
  induction n with
  | zero => simp [sumQ, sumZ]
  | succ n ih =>
    rw [sumQ, sumZ, ih (fun i hi => h i (by omega)), h n (by omega)]
    push_cast
    grind
theorem conv_sumZ (f g : Nat → Rat) (z y : Nat → Int) (c e : Rat) (k : Nat) (hf : ∀ i, f i = (z i : Rat) * c) (hg : ∀ i, g i = (y i : Rat) * e) :
    conv f g k = (sumZ (k + 1) (fun i => z i * y (k - i)) : Rat) * (c * e) := by
  rw [conv_sumQ]
  refine sumQ_cast _ _ _ _ fun i _ => ?_
  rw [hf, hg]
  push_cast
  grind
theorem sumZ_same {F : Nat → Int} : ∀ {a b : Nat}, a ≤ b → (∀ i, a ≤ i → i < b → F i = 0) → sumZ b F = sumZ a F
  | a, 0, h, _ => by rw [Nat.le_zero.1 h]
  | a, b + 1, h, hz => by
    rcases Nat.eq_or_lt_of_le h with h1 | h1
    · rw [h1]
    · rw [sumZ, sumZ_same (a := a) (b := b) (by omega) (fun i h2 h3 => hz i h2 (by omega)), hz b (by omega) (by omega), Int.add_zero]
theorem sumZ_none {F : Nat → Int} {a : Nat} (h : ∀ i, i < a → F i = 0) : sumZ a F = 0 := sumZ_same (a := 0) (Nat.zero_le _) fun i _ hi => h i hi
end Dig
end Go.Proofs.Ytpmjhkpjhfpfpaa

/- Typed values by value: how the reference reads a text (stage 8, pure). -/
import Derived.Test.YtpbkmkcfhkdjjaaDoorVlc
namespace Go.Proofs.YtpbkmkcfhkdjjaaDoor
open Dig
set_option linter.unusedVariables false

/-- Behind each single quote one byte is passed over. -/
def unq : List UInt8 → List UInt8
  | [] => []
  | [c] => [c]
  | c :: d :: r => if c = 39 then c :: unq r else c :: unq (d :: r)
theorem unq_one {c : UInt8} (h : c ≠ 39) (r : List UInt8) : unq (c :: r) = c :: unq r := by
  cases r with
  | nil => rfl
  | cons d r =>
    show (if c = 39 then _ else _) = _
    rw [if_neg h]
theorem unq_qs : ∀ s : List UInt8, unq (qs s) = s
  | [] => rfl
  | c :: s => by
    by_cases e : c = 39
    · subst e
      rw [qs_cons_q]
      show (if (39 : UInt8) = 39 then 39 :: unq (qs s) else _) = _
      rw [if_pos rfl, unq_qs s]
    · rw [qs_cons s e, unq_one e, unq_qs s]
/-- The digits of a text, subtracted one after the other. -/
def negD (s : List UInt8) : Int := s.foldl (fun a c => if isDig c = true then 10 * a - ((c.toNat : Int) - 48) else a) 0
theorem negD_snoc (s : List UInt8) (c : UInt8) : negD (s ++ [c]) = if isDig c = true then 10 * negD s - ((c.toNat : Int) - 48) else negD s := by
  unfold negD
  rw [List.foldl_append]
  rfl
theorem negD_from : ∀ (s : List UInt8) (a : Int), (∀ c ∈ s, isDig c = true) → s.foldl (fun a c => if isDig c = true then 10 * a - ((c.toNat : Int) - 48) else a) a = a * (10 ^ s.length : Nat) - (dec s : Int)
  | [], a, _ => by
    show a = a * ((10 ^ 0 : Nat) : Int) - ((0 : Nat) : Int)
    simp
  | c :: s, a, h => by
    have hc := h c (by simp)
    have hb := isDig_bd hc
    rw [List.foldl_cons, if_pos hc, negD_from s _ fun x hx => h x (by simp [hx]), dec_cons, List.length_cons, Nat.pow_succ]
    obtain ⟨k, hk⟩ : ∃ k, c.toNat - 48 = k := ⟨_, rfl⟩
    have e1 : (c.toNat : Int) - 48 = (k : Int) := by omega
    rw [e1, hk]
    generalize 10 ^ s.length = P
    generalize dec s = D
    simp only [Int.natCast_mul, Int.natCast_add, Int.sub_mul]
    rw [Int.mul_comm 10 a, Int.mul_assoc, Int.mul_comm (P : Int) ((10 : Nat) : Int)]
    show a * (10 * (P : Int)) - k * (P : Int) - D = a * (10 * (P : Int)) - (k * (P : Int) + D)
    omega
theorem negD_digits (s : List UInt8) (h : ∀ c ∈ s, isDig c = true) : negD s = -(dec s : Int) := by
  have := negD_from s 0 h
  unfold negD
  rw [this]
  omega
theorem negD_minus (s : List UInt8) : negD (45 :: s) = negD s := rfl
theorem negD_int (n : Int) : negD (intT n) = -(n.natAbs : Int) := by
  obtain ⟨h1, h2, _⟩ := dtext_spec n.natAbs
  have h := negD_digits (dtext n.natAbs) h1
  rw [h2] at h
  unfold intT
  split
  · exact (negD_minus (dtext n.natAbs)).trans h
  · exact h
/-- A front part's number is no greater. -/
theorem dec_take_le {l : List UInt8} (j : Nat) : dec (l.take j) ≤ dec l := by
  have h := dec_append (l.take j) (l.drop j)
  rw [List.take_append_drop] at h
  rw [h]
  have hp : 1 ≤ 10 ^ (l.drop j).length := Nat.pow_pos (by omega)
  have := Nat.mul_le_mul_left (dec (l.take j)) hp
  omega
end Go.Proofs.YtpbkmkcfhkdjjaaDoor

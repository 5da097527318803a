/- The contracts of Div and Cmp of package rational. -/
import Derived.Test.YtkdnmmbnljaahaaRatD
namespace Go.Proofs.Ytkdnmmbnljaahaa
open Go.RowKit Dig
set_option linter.unusedVariables false

namespace Dig
theorem fr_one (n : Nat) (h : n ≠ 0) : fr false n n = 1 := by
  unfold fr sg
  have h1 : (1 : Rat) = mkRat 1 1 := rfl
  rw [h1, Rat.mkRat_eq_iff h (by decide)]
  simp
theorem fr_inv (a : Bool) {n d : Nat} (hn : n ≠ 0) (hd : d ≠ 0) : fr a d n = (fr a n d)⁻¹ := by
  have h : fr a n d * fr a d n = 1 := by
    rw [fr_mul, Nat.mul_comm d n]
    have : (a != a) = false := by cases a <;> rfl
    rw [this, fr_one (n * d) (Nat.mul_ne_zero hn hd)]
  have h0 : fr a n d ≠ 0 := by
    intro h1
    rw [h1, Rat.zero_mul] at h
    exact absurd h (by decide)
  generalize fr a n d = x at *
  generalize fr a d n = y at *
  have := Rat.mul_inv_cancel x h0
  grind
/-- Comparing two fractions of one sign by their products across. -/
theorem rcmp_across (na nb : Bool) {n d s t : Nat} (h : rsgn (fr na n d) = rsgn (fr nb s t)) : rcmp (fr na n d) (fr nb s t) = rsgn (fr na n d) * cmpI (n * t) (s * d) := by
  by_cases h0 : n = 0 ∨ d = 0
  · have e1 := (fr_eq_zero na n d).2 h0
    rw [e1] at h ⊢
    have e2 := rsgn_eq_zero.1 (h.symm.trans rsgn_zero)
    rw [e2, rsgn_zero, Int.zero_mul]
    exact rcmp_eq.2 rfl
  · have hn : n ≠ 0 := fun e => h0 (.inl e)
    have hd : d ≠ 0 := fun e => h0 (.inr e)
    have h1 : ¬ (s = 0 ∨ t = 0) := by
      intro e
      have e2 := (fr_eq_zero nb s t).2 e
      rw [e2, rsgn_zero] at h
      exact h0 ((fr_eq_zero na n d).1 (rsgn_eq_zero.1 h))
    have hs : s ≠ 0 := fun e => h1 (.inl e)
    have ht : t ≠ 0 := fun e => h1 (.inr e)
    rw [fr_rsgn na hn hd, fr_rsgn nb hs ht] at h
    have hab : na = nb := by
      cases na <;> cases nb <;> first | rfl | (simp at h)
    subst hab
    unfold rcmp
    rw [Rat.sub_eq_add_neg, fr_neg, fr_rsgn na hn hd]
    have hne : na ≠ !na := by cases na <;> decide
    have hdt : d * t ≠ 0 := Nat.mul_ne_zero hd ht
    rcases Nat.lt_trichotomy (n * t) (s * d) with hlt | he | hgt
    · rw [fr_sub2 hd ht hne (Nat.le_of_lt hlt), fr_rsgn _ (by omega) hdt, cmpI_lt hlt]
      cases na <;> rfl
    · rw [fr_sub hd ht hne (by omega), he, Nat.sub_self, fr_zero, cmpI_eq, rsgn_zero, Int.mul_zero]
    · rw [fr_sub hd ht hne (Nat.le_of_lt hgt), fr_rsgn _ (by omega) hdt, cmpI_gt hgt]
      cases na <;> rfl
theorem rcmp_signs {p q : Rat} (h : rsgn p ≠ rsgn q) : rcmp p q = Lib.compareInt (rsgn p) (rsgn q) ∧ Lib.compareInt (rsgn p) (rsgn q) ≠ 0 := by
  unfold rcmp Lib.compareInt
  rcases rsgn_cases p with ⟨h1, e⟩ | ⟨h1, e⟩ | ⟨h1, e⟩ <;> rcases rsgn_cases q with ⟨h2, e'⟩ | ⟨h2, e'⟩ | ⟨h2, e'⟩ <;> rw [e, e'] at h ⊢ <;> first | exact absurd rfl h | (refine ⟨?_, by decide⟩)
  · exact rsgn_neg.2 (by grind)
  · exact rsgn_neg.2 (by grind)
  · exact rsgn_pos.2 (by grind)
  · exact rsgn_neg.2 (by grind)
  · exact rsgn_pos.2 (by grind)
  · exact rsgn_pos.2 (by grind)
theorem wrap_sign {s c : Int} (h : -1 ≤ s ∧ s ≤ 1) (k : -1 ≤ c ∧ c ≤ 1) : IntKind.i64.wrap (s * c) = s * c := by
  have h1 : s = -1 ∨ s = 0 ∨ s = 1 := by omega
  rcases h1 with rfl | rfl | rfl <;> simp only [IntKind.wrap_i64] <;> omega
theorem compare_same (x : Int) : Lib.compareInt x x = 0 := by
  unfold Lib.compareInt
  simp
end Dig

theorem Fcl.set {w : World} {g : Nat} {b : Bool} {x y : Value} (h : Fcl w g b x y) {a : Addr} (hne : g ≠ a.block) (u : Value) : Fcl (w.setCell a u) g b x y := h.of_block (Below.heap_setCell w a u g hne)
section
variable {w : World} {va vb : Value} {p q : Rat} {k l : Nat}

end
end Go.Proofs.Ytkdnmmbnljaahaa

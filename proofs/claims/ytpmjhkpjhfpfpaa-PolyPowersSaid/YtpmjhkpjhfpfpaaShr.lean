/- x^n times a polynomial: what Shift of package poly gives for every exponent. -/
import Derived.Test.YtpmjhkpjhfpfpaaSzp
import Derived.Test.YtpmjhkpjhfpfpaaPlyz
namespace Go.Proofs.Ytpmjhkpjhfpfpaa
open Go.RowKit Dig
set_option linter.unusedVariables false

namespace Dig
/-- x^n times a polynomial. -/
def shr (n : Nat) (p : List Rat) : List Rat := if (tr p).length = 0 then [] else mk n (fun _ => 0) ++ tr p
theorem cf_shr (n : Nat) (p : List Rat) (i : Nat) : cf (shr n p) i = if i < n then 0 else cf p (i - n) := by
  unfold shr
  by_cases h : (tr p).length = 0
  · have h1 : ∀ t, cf p t = 0 := (tr_nil_iff p).1 (List.eq_nil_of_length_eq_zero h)
    rw [if_pos h, cf_nil, h1]
    split <;> rfl
  · rw [if_neg h, mk_zero_append, cf_tr]
theorem shr_len {n m : Nat} {p : List Rat} (h : p.length ≤ m) : (shr n p).length ≤ n + m := by
  unfold shr
  split
  · simp
  · rw [List.length_append, mk_length]
    have := tr_le p
    omega
theorem tr_shr (n : Nat) (p : List Rat) : tr (shr n p) = shr n p := by
  unfold shr
  by_cases h : (tr p).length = 0
  · rw [if_pos h]; rfl
  · rw [if_neg h]
    apply tr_id
    right
    have h1 := (tr_last p).resolve_left h
    rw [List.length_append, mk_length, mk_zero_append, if_neg (by omega), show n + (tr p).length - 1 - n = (tr p).length - 1 by omega]
    exact h1
theorem tr_shifted (n : Nat) (p : List Rat) : tr (mk n (fun _ => 0) ++ tr p) = shr n p := by
  refine norm_ext (tr_tr _) (tr_shr n p) fun i => ?_
  rw [cf_tr, mk_zero_append, cf_tr, cf_shr]
theorem shr_nil {p : List Rat} (n : Nat) (h : tr p = []) : shr n p = [] := by
  unfold shr
  rw [if_pos (by rw [h]; rfl)]
end Dig
theorem shift_any {k n : Nat} {w : World} {v : Value} {qs : List Rat} (hF : Fls (FV k) w v qs) (hk : k ≤ 400000) (h2 : 2 ≤ k) (hm : qs.length ≤ 1000000) (hn : n + qs.length ≤ 1024) :
    Calls Try.prog 31 #[v, .int .i64 (n : Int)] w (RPolE w (shr n qs) k) := by
  have hl := tr_le qs
  unfold shr
  by_cases h : (tr qs).length = 0
  · rw [if_pos h]
    refine (shift_none_p hF hk (by omega) hm (List.eq_nil_of_length_eq_zero h)).mono ?_
    rintro e w' ⟨rfl, hB⟩
    exact ⟨_, rfl, Ofl.nil _ _ _, hB⟩
  · rw [if_neg h]
    exact shift_p hF hk h2 hm (by omega) (by omega)
end Go.Proofs.Ytpmjhkpjhfpfpaa

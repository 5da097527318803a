/- The contracts of size, FracNew, FracSign of the reference; of credencebase.Frac; of raw and same of the laws. -/
import Derived.Test.YtpmjhkpjhfpfpaaDoorRefJ
namespace Go.Proofs.YtpmjhkpjhfpfpaaDoor
open Go.RowKit Dig
set_option linter.unusedVariables false


section
variable {w : World} {va vb : Value} {na nb : Bool} {xs ys us vs : List Nat} {p q : Rat} {k l : Nat}
theorem same_x (ha : Fx w va na xs ys) (hb : Fx w vb nb us vs) : Calls Tryd.prog 10 #[va, vb] w (RVal w (.bool (decide (na = nb ∧ xs = us ∧ ys = vs)))) := by
  have S := Lib.hid (fun w1 hB => fracSame_v (w := w1) (ha.below hB) (hb.below hB))
  obtain ⟨vn, vd, rfl, hx, hy⟩ := ha
  obtain ⟨vn', vd', rfl, hu, hv⟩ := hb
  clear hx hy hu hv
  generalize decide (na = nb ∧ xs = us ∧ ys = vs) = b at *
  go_enter Tryd.func10, Tryd.ntmps10
  go_wp2_with fail
  refine (S.out _ (below_alloc2 _ _ _)).mono ?_
  rintro e w1 ⟨rfl, hB⟩
  go_wp2_with fail
  go_ret
  exact ⟨rfl, below_then (below_alloc2 _ _ _) hB⟩
theorem same_f (ha : CanF w va p k) (hb : CanF w vb q l) : Calls Tryd.prog 10 #[va, vb] w (RVal w (.bool (decide (p = q)))) := by
  have := same_x ha.fx hb.fx
  rwa [show decide (decide (p.num < 0) = decide (q.num < 0) ∧ dg p.num.natAbs = dg q.num.natAbs ∧ dg p.den = dg q.den) = decide (p = q) from decide_eq_decide.2 ⟨fun h => rat_ext_parts.2 ⟨h.1, dg_inj h.2.1, dg_inj h.2.2⟩, fun h => by rw [h]; exact ⟨rfl, rfl, rfl⟩⟩] at this
theorem same_ft (ha : CanF w va p k) (hb : CanF w vb q l) (h : p = q) : Calls Tryd.prog 10 #[va, vb] w (RVal w (.bool true)) := by
  have := same_f ha hb
  rwa [show decide (p = q) = true from decide_eq_true h] at this
theorem same_zero (w : World) : Calls Tryd.prog 10 #[.agg #[.bool false, .slice none 0 0, .slice none 0 0], .agg #[.bool false, .slice none 0 0, .slice none 0 0]] w (RVal w (.bool true)) := same_x (Fx.zero w) (Fx.zero w)
end
end Go.Proofs.YtpmjhkpjhfpfpaaDoor

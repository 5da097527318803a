/- Bounds for the laws on polynomials: lengths, digits of values. -/
import Derived.Test.YtjemnankgjjgcaaSiz
import Derived.Test.YtjemnankgjjgcaaPlyd
import Derived.Test.YtjemnankgjjgcaaPlyG
namespace Go.Proofs.Ytjemnankgjjgcaa
open Go.RowKit Dig
set_option linter.unusedVariables false

namespace Dig
theorem rem3_le : ∀ (r n : Nat), n ≤ 2 ^ (r + 1) → rem3 n ≤ r
  | 0, n, h => by rw [rem3_small (by omega)]; exact Nat.le_refl _
  | r + 1, n, h => by
    by_cases h2 : n ≤ 2
    · rw [rem3_small h2]; omega
    · rw [rem3_step (by omega)]
      have := rem3_le r ((n + 1) / 2) (by rw [Nat.pow_succ] at h; omega)
      omega
theorem ev_bound {n a M : Nat} (r : Nat) (h : n ≤ 2 ^ (r + 1)) (hM : a * 3 ^ r ≤ M) : a * 3 ^ rem3 n ≤ M := Nat.le_trans (Nat.mul_le_mul_left _ (Nat.pow_le_pow_right (by omega) (rem3_le r n h))) hM
theorem tr_len {p : List Rat} {n : Nat} (h : p.length ≤ n) : (tr p).length ≤ n := Nat.le_trans (tr_le p) h
theorem pmul_len {p q : List Rat} {m n : Nat} (hp : p.length ≤ m) (hq : q.length ≤ n) : (pmul p q).length ≤ m + n := by
  unfold pmul
  exact tr_len (by rw [mk_length]; omega)
theorem padd_len {p q : List Rat} {m n : Nat} (hp : p.length ≤ m) (hq : q.length ≤ n) : (padd p q).length ≤ max m n := by
  unfold padd
  exact tr_len (by rw [mk_length]; omega)
theorem pder_len {p : List Rat} {m : Nat} (hp : p.length ≤ m) : (pder p).length ≤ m := by
  unfold pder
  exact tr_len (by rw [mk_length]; omega)
theorem pscale_len {p : List Rat} {m : Nat} (a : Rat) (hp : p.length ≤ m) : (pscale p a).length ≤ m := by
  unfold pscale
  exact tr_len (by rw [List.length_map]; exact hp)
theorem ofl_len (zs : List Int) : (ofl zs).length ≤ 7 := by rw [ofl_length]; omega
end Dig
theorem Fls.fv {k : Nat} {w : World} {v : Value} {qs : List Rat} (h : Fls (CV k) w v qs) : Fls (FV k) w v qs := h.weaken fun v q _ h => CanF.fracV h
theorem Fls.keepF {k : Nat} {w w' : World} {v : Value} {qs : List Rat} (h : Fls (FV k) w v qs) (hb : Below w.heap.size w w') : Fls (FV k) w' v qs := h.below (keeps_FV k) hb
theorem Fls.keepC {k : Nat} {w w' : World} {v : Value} {qs : List Rat} (h : Fls (CV k) w v qs) (hb : Below w.heap.size w w') : Fls (CV k) w' v qs := h.below (keeps_CV k) hb
end Go.Proofs.Ytjemnankgjjgcaa

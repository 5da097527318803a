/- Plain lemmas: long multiplication, digit by digit. -/
import Derived.Test.YticakmcjiofhoaaSum
namespace Go.Proofs.Yticakmcjiofhoaa
namespace Dig

/-- After i digits of b: what has been summed up. -/
def OutRel (ps qs zs : List Nat) (i : Nat) : Prop :=
  zs.length = ps.length + qs.length ∧ Small zs ∧ (∀ j, i + ps.length ≤ j → zs.getD j 0 = 0) ∧ val (zs.take (i + ps.length)) = val ps * val (qs.take i)
/-- After j digits of a, with digit d of b. -/
def InRel (ps zs0 zs : List Nat) (i d j c : Nat) : Prop :=
  zs.length = zs0.length ∧ Small zs ∧ (∀ t, i + j ≤ t → zs.getD t 0 = zs0.getD t 0) ∧ val (zs.take (i + j)) + 4294967296 ^ (i + j) * c = val (zs0.take (i + j)) + 4294967296 ^ i * (d * val (ps.take j)) ∧ c < 4294967296

theorem OutRel.start (ps qs : List Nat) : OutRel ps qs (List.replicate (ps.length + qs.length) 0) 0 := by
  refine ⟨by simp, Small.replicate _, fun j _ => ?_, ?_⟩
  · rw [List.getD_eq_getElem?_getD, List.getElem?_replicate]
    split <;> rfl
  · have := val_replicate (min (0 + ps.length) (ps.length + qs.length))
    rw [List.take_replicate, this]
    simp [val]
theorem InRel.start (ps zs : List Nat) (i d : Nat) (hs : Small zs) : InRel ps zs zs i d 0 0 := ⟨rfl, hs, fun _ _ => rfl, by simp [val], by omega⟩

theorem mul_le_digits {d e : Nat} (hd : d < 4294967296) (he : e < 4294967296) : d * e ≤ 18446744065119617025 := by
  have := Nat.mul_le_mul (show d ≤ 4294967295 by omega) (show e ≤ 4294967295 by omega)
  omega

theorem InRel.step {ps zs0 zs : List Nat} {i d j c e x : Nat} (h : InRel ps zs0 zs i d j c) (hi : i + j < zs0.length) (hd : d < 4294967296) (he : ps.getD j 0 = e) (hx : zs.getD (i + j) 0 = x) (heb : e < 4294967296) (hxb : x < 4294967296) :
    InRel ps zs0 (zs.set (i + j) ((c + (d * e + x)) % 4294967296)) i d (j + 1) ((c + (d * e + x)) / 4294967296) := by
  obtain ⟨hl, hs, ha, hv, hc⟩ := h
  have hm := mul_le_digits hd heb
  refine ⟨by simpa using hl, hs.set _ _ (Nat.mod_lt _ (by omega)), fun t ht => ?_, ?_, by omega⟩
  · rw [getD_set_ne _ _ _ _ (by omega)]
    exact ha t (by omega)
  · have e0 : (c + (d * e + x)) % 4294967296 + 4294967296 * ((c + (d * e + x)) / 4294967296) = c + (d * e + x) := Nat.mod_add_div _ _
    generalize (c + (d * e + x)) % 4294967296 = r at *
    generalize (c + (d * e + x)) / 4294967296 = s at *
    rw [← Nat.add_assoc, take_set_succ _ _ _ (by omega), take_all_getD zs0, take_all_getD ps, ← ha (i + j) (Nat.le_refl _), hx, he, Nat.pow_succ, Nat.mul_assoc]
    have e1 : 4294967296 ^ (i + j) * (r + 4294967296 * s) = 4294967296 ^ (i + j) * (c + (d * e + x)) := by rw [e0]
    have e2 : 4294967296 ^ i * (d * (val (ps.take j) + 4294967296 ^ j * e)) = 4294967296 ^ i * (d * val (ps.take j)) + 4294967296 ^ (i + j) * (d * e) := by
      rw [Nat.pow_add, Nat.mul_add, Nat.mul_add]
      congr 1
      rw [Nat.mul_assoc]
      congr 1
      exact Nat.mul_left_comm _ _ _
    rw [e2]
    rw [Nat.mul_add, Nat.mul_add, Nat.mul_add] at e1
    omega
theorem InRel.done {ps qs zs0 zs : List Nat} {i d c : Nat} (h : InRel ps zs0 zs i d ps.length c) (h0 : OutRel ps qs zs0 i) (hi : i < qs.length) (hd : qs.getD i 0 = d) : OutRel ps qs (zs.set (i + ps.length) c) (i + 1) := by
  obtain ⟨hl, hs, ha, hv, hc⟩ := h
  obtain ⟨hl0, hs0, hz0, hv0⟩ := h0
  refine ⟨by simp; omega, hs.set _ _ hc, fun j hj => ?_, ?_⟩
  · rw [getD_set_ne _ _ _ _ (by omega), ha _ (by omega)]
    exact hz0 _ (by omega)
  · rw [show i + 1 + ps.length = i + ps.length + 1 by omega, take_set_succ _ _ _ (by omega), hv, List.take_of_length_le (Nat.le_refl ps.length), hv0, val_take_succ qs i hi, hd, Nat.mul_add]
    congr 1
    rw [Nat.mul_comm d, ← Nat.mul_assoc, Nat.mul_comm (4294967296 ^ i), Nat.mul_assoc]
theorem OutRel.done {ps qs zs : List Nat} (h : OutRel ps qs zs qs.length) : val zs = val ps * val qs := by
  obtain ⟨hl, hs, hz, hv⟩ := h
  rw [List.take_of_length_le (by omega), List.take_of_length_le (Nat.le_refl _)] at hv
  exact hv
end Dig
end Go.Proofs.Yticakmcjiofhoaa

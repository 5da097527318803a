/- Plain lemmas: sums and differences, digit by digit, in place. -/
import Derived.Test.YticakmcjiofhoaaDigb
namespace Go.Proofs.Yticakmcjiofhoaa
namespace Dig

theorem take_set_succ (zs : List Nat) (k v : Nat) (hk : k < zs.length) : val ((zs.set k v).take (k + 1)) = val (zs.take k) + 4294967296 ^ k * v := by
  rw [val_take_succ _ k (by simpa using hk)]
  have h1 : (zs.set k v).take k = zs.take k := by
    apply List.ext_getElem?
    intro j
    rw [List.getElem?_take, List.getElem?_take]
    split
    · next h => rw [List.getElem?_set_ne (by omega)]
    · rfl
  rw [h1]
  simp [List.getD_eq_getElem?_getD, hk]
theorem getD_set_ne (zs : List Nat) (k v j : Nat) (h : j ≠ k) : (zs.set k v).getD j 0 = zs.getD j 0 := by
  simp [List.getD_eq_getElem?_getD, List.getElem?_set_ne (show k ≠ j by omega)]
theorem getD_set_same (zs : List Nat) (k v : Nat) (h : k < zs.length) : (zs.set k v).getD k 0 = v := by
  simp [List.getD_eq_getElem?_getD, h]
theorem take_all_getD (ys : List Nat) (k : Nat) : val (ys.take (k + 1)) = val (ys.take k) + 4294967296 ^ k * ys.getD k 0 := by
  rcases Nat.lt_or_ge k ys.length with h | h
  · exact val_take_succ ys k h
  · rw [List.take_of_length_le (by omega), List.take_of_length_le h, List.getD_eq_getElem?_getD, List.getElem?_eq_none h]
    simp

/-- After k digits of a sum in place: the digits below k are those of the sum but for the carry, those above are as they were. -/
def AddRel (xs ys zs : List Nat) (k c : Nat) : Prop :=
  zs.length = xs.length ∧ Small zs ∧ (∀ j, k ≤ j → zs.getD j 0 = xs.getD j 0) ∧ val (zs.take k) + 4294967296 ^ k * c = val (xs.take k) + val (ys.take k) ∧ c ≤ 1

theorem AddRel.start (xs ys : List Nat) (h : Small xs) : AddRel xs ys xs 0 0 := ⟨rfl, h, fun _ _ => rfl, by simp [val], by omega⟩
theorem AddRel.step {xs ys zs : List Nat} {k c x y : Nat} (h : AddRel xs ys zs k c) (hk : k < xs.length) (hx : zs.getD k 0 = x) (hy : ys.getD k 0 = y) (hyb : y < 4294967296) :
    AddRel xs ys (zs.set k ((c + (x + y)) % 4294967296)) (k + 1) ((c + (x + y)) / 4294967296) := by
  obtain ⟨hl, hs, ha, hv, hc⟩ := h
  have hx2 := hs.get k
  rw [hx] at hx2
  refine ⟨by simpa using hl, hs.set _ _ (Nat.mod_lt _ (by omega)), fun j hj => ?_, ?_, by omega⟩
  · rw [getD_set_ne _ _ _ _ (by omega)]
    exact ha j (by omega)
  · rw [take_set_succ _ _ _ (by omega), take_all_getD, take_all_getD, ← ha k (Nat.le_refl _), hx, hy, Nat.pow_succ]
    have e : (c + (x + y)) % 4294967296 + 4294967296 * ((c + (x + y)) / 4294967296) = c + (x + y) := Nat.mod_add_div _ _
    rw [Nat.mul_assoc, Nat.add_assoc, ← Nat.mul_add, e, Nat.mul_add, Nat.mul_add]
    omega
theorem AddRel.done {xs ys zs : List Nat} {k : Nat} (h : AddRel xs ys zs k 0) (hk : k ≤ xs.length) (hy : ys.length ≤ k) : val zs = val xs + val ys := by
  obtain ⟨hl, hs, ha, hv, hc⟩ := h
  rw [List.take_of_length_le hy] at hv
  rw [val_take_drop zs k (by omega), val_take_drop xs k hk]
  have e : zs.drop k = xs.drop k := by
    apply ext_getD (by simp; omega)
    intro j hj
    rw [getD_drop, getD_drop]
    exact ha _ (by omega)
  rw [e]
  omega
theorem AddRel.more {xs ys zs : List Nat} {k c : Nat} (h : AddRel xs ys zs k c) (hk : k ≤ xs.length) (hy : ys.length ≤ k) (hf : val xs + val ys < 4294967296 ^ xs.length) (hc0 : c ≠ 0) : k < xs.length ∧ c = 1 := by
  obtain ⟨hl, hs, ha, hv, hc⟩ := h
  refine ⟨?_, by omega⟩
  rcases Nat.lt_or_ge k xs.length with h1 | h1
  · exact h1
  · exfalso
    have hk' : k = xs.length := by omega
    subst hk'
    rw [List.take_of_length_le hy, List.take_of_length_le (Nat.le_refl _)] at hv
    have : c = 1 := by omega
    subst this
    omega

/-- The same for a difference, with a borrow. -/
def SubRel (xs ys zs : List Nat) (k c : Nat) : Prop :=
  zs.length = xs.length ∧ Small zs ∧ (∀ j, k ≤ j → zs.getD j 0 = xs.getD j 0) ∧ val (zs.take k) + val (ys.take k) = val (xs.take k) + 4294967296 ^ k * c ∧ c ≤ 1
theorem SubRel.start (xs ys : List Nat) (h : Small xs) : SubRel xs ys xs 0 0 := ⟨rfl, h, fun _ _ => rfl, by simp [val], by omega⟩
theorem SubRel.step {xs ys zs : List Nat} {k c x y d b : Nat} (h : SubRel xs ys zs k c) (hk : k < xs.length) (hx : zs.getD k 0 = x) (hy : ys.getD k 0 = y) (hd : d < 4294967296) (hb : b ≤ 1) (he : d + y + c = x + 4294967296 * b) :
    SubRel xs ys (zs.set k d) (k + 1) b := by
  obtain ⟨hl, hs, ha, hv, hc⟩ := h
  refine ⟨by simpa using hl, hs.set _ _ hd, fun j hj => ?_, ?_, hb⟩
  · rw [getD_set_ne _ _ _ _ (by omega)]
    exact ha j (by omega)
  · rw [take_set_succ _ _ _ (by omega), take_all_getD, take_all_getD, ← ha k (Nat.le_refl _), hx, hy, Nat.pow_succ, Nat.mul_assoc]
    have e : 4294967296 ^ k * (d + y + c) = 4294967296 ^ k * (x + 4294967296 * b) := by rw [he]
    rw [Nat.mul_add, Nat.mul_add, Nat.mul_add] at e
    omega
theorem SubRel.done {xs ys zs : List Nat} {k : Nat} (h : SubRel xs ys zs k 0) (hk : k ≤ xs.length) (hy : ys.length ≤ k) : val zs + val ys = val xs := by
  obtain ⟨hl, hs, ha, hv, hc⟩ := h
  rw [List.take_of_length_le hy] at hv
  rw [val_take_drop zs k (by omega), val_take_drop xs k hk]
  have e : zs.drop k = xs.drop k := by
    apply ext_getD (by simp; omega)
    intro j hj
    rw [getD_drop, getD_drop]
    exact ha _ (by omega)
  rw [e]
  omega
theorem SubRel.more {xs ys zs : List Nat} {k c : Nat} (h : SubRel xs ys zs k c) (hk : k ≤ xs.length) (hy : ys.length ≤ k) (hf : val ys ≤ val xs) (hc0 : c ≠ 0) : k < xs.length ∧ c = 1 := by
  obtain ⟨hl, hs, ha, hv, hc⟩ := h
  refine ⟨?_, by omega⟩
  rcases Nat.lt_or_ge k xs.length with h1 | h1
  · exact h1
  · exfalso
    have hk' : k = xs.length := by omega
    subst hk'
    rw [List.take_of_length_le hy, List.take_of_length_le (Nat.le_refl _)] at hv
    have hlt := val_lt (zs.take xs.length) (hs.take _)
    rw [List.length_take, Nat.min_eq_left (by omega)] at hlt
    have : c = 1 := by omega
    subst this
    omega
end Dig
end Go.Proofs.Yticakmcjiofhoaa

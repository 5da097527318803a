/- The contract of splitProduct: three products of numbers with half of the digits. -/
import Derived.Deep.RegionHeld3
import Derived.Test.YtkdnmmbnljaahaaMuls
import Derived.Test.YtkdnmmbnljaahaaDivs
import Derived.Test.YtkdnmmbnljaahaaAdds
namespace Go.Proofs.Ytkdnmmbnljaahaa
open Go.RowKit Dig
set_option linter.unusedVariables false

namespace Dig
theorem drop_replicate' (n k : Nat) : (List.replicate n 0).drop k = List.replicate (n - k) 0 := by simp
/-- Digits laid over zeros. -/
theorem over_val (ys : List Nat) (n : Nat) : val (ys ++ (List.replicate n 0).drop ys.length) = val ys := by
  rw [val_append, drop_replicate', val_replicate]; omega
theorem over_take (ys : List Nat) (n m : Nat) (h : ys.length ≤ m) : val ((ys ++ (List.replicate n 0).drop ys.length).take m) = val ys := by
  rw [List.take_append, List.take_of_length_le h, drop_replicate', List.take_replicate, val_append, val_replicate]; omega
theorem over_drop (ys : List Nat) (n m : Nat) (h : ys.length ≤ m) (hm : m ≤ n) : (ys ++ (List.replicate n 0).drop ys.length).drop m = List.replicate (n - m) 0 := by
  rw [List.drop_append, List.drop_of_length_le h, drop_replicate', List.drop_replicate, List.nil_append]
  congr 1
  omega
theorem over_length (ys : List Nat) (n : Nat) (h : ys.length ≤ n) : (ys ++ (List.replicate n 0).drop ys.length).length = n := by
  rw [List.length_append, drop_replicate', List.length_replicate]; omega
theorem over_small (ys : List Nat) (n : Nat) (h : Small ys) : Small (ys ++ (List.replicate n 0).drop ys.length) := h.append ((Small.replicate n).drop _)
/-- Karatsuba's equation. -/
theorem kara (x0 x1 y0 y1 T : Nat) : (x0 + x1) * (y0 + y1) - x0 * y0 - x1 * y1 = x0 * y1 + x1 * y0 ∧ x0 * y0 ≤ (x0 + x1) * (y0 + y1) ∧ x1 * y1 ≤ (x0 + x1) * (y0 + y1) - x0 * y0 ∧
    x0 * y0 + T * T * (x1 * y1) + T * (x0 * y1 + x1 * y0) = (x0 + T * x1) * (y0 + T * y1) := by
  have e : (x0 + x1) * (y0 + y1) = x0 * y0 + x1 * y1 + (x0 * y1 + x1 * y0) := by
    rw [Nat.add_mul, Nat.mul_add, Nat.mul_add]; omega
  refine ⟨by omega, by omega, by omega, ?_⟩
  rw [Nat.add_mul, Nat.mul_add, Nat.mul_add, Nat.mul_add]
  have e1 : T * T * (x1 * y1) = T * x1 * (T * y1) := by rw [Nat.mul_mul_mul_comm]
  have e2 : T * (x0 * y1) = x0 * (T * y1) := Nat.mul_left_comm _ _ _
  have e3 : T * (x1 * y0) = T * x1 * y0 := (Nat.mul_assoc _ _ _).symm
  rw [e1, e2, e3]
  omega
end Dig
theorem own_apart {b1 b2 : Nat} {w1 w2 : World} {v1 v2 : Value} {xs ys : List Nat} (h1 : Own b1 w1 v1 xs) (h2 : Own b2 w2 v2 ys) (hb : w1.heap.size ≤ b2) : 0 < xs.length → v1.ownBlock ≠ v2.ownBlock := by
  intro hp e
  obtain ⟨_, h⟩ := h1
  rcases h with ⟨_, rfl⟩ | ⟨g, rest, rfl, _, _, hseg⟩
  · simp at hp
  · have := (h2.block g e.symm).1
    have := hseg.lt
    omega
/-- A part of a slice of digits. -/
theorem Num.part {w : World} {b off n c : Nat} {X : List Nat} (h : Num w (.slice (some ⟨b, off, none⟩) n c) X) (i m c' : Nat) (hi : i + m ≤ n) (hc : m ≤ c') (hm : c' ≤ 9223372036854775807) :
    Num w (.slice (some ⟨b, off + i, none⟩) m c') ((X.drop i).take m) := by
  obtain ⟨A, c0, e, _, _, hs, hr⟩ := h
  simp only [Value.slice.injEq] at e
  obtain ⟨rfl, rfl, rfl⟩ := e
  have hl : ((X.drop i).take m).length = m := by rw [List.length_take, List.length_drop]; omega
  refine ⟨some ⟨b, off + i, none⟩, c', by rw [hl], ⟨by omega, fun e => by cases e⟩, by unfold maxLen; omega, (hs.drop i).take m, fun hp => ?_⟩
  rw [hl] at hp
  obtain ⟨b', off', e, hb, hcell⟩ := hr (by omega)
  simp only [Option.some.injEq, Addr.mk.injEq, and_true] at e
  obtain ⟨rfl, rfl⟩ := e
  refine ⟨b, off + i, rfl, hb, fun j hj => ?_⟩
  rw [hl] at hj
  rw [Nat.add_assoc, hcell (i + j) (by omega), getD_take _ _ _ hj, getD_drop]


end Go.Proofs.Ytkdnmmbnljaahaa

/- The contract of pieceProduct, and of Mul for all numbers. -/
namespace Go.Proofs.Ytkdnmmbnljaahaa
open Go.RowKit Dig
set_option linter.unusedVariables false

end Go.Proofs.Ytkdnmmbnljaahaa

/- The contract of Mul for all numbers. -/
namespace Go.Proofs.Ytkdnmmbnljaahaa
open Go.RowKit Dig
set_option linter.unusedVariables false





end Go.Proofs.Ytkdnmmbnljaahaa

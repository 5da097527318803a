/- The contracts of the reference functions NatAdd, double and half. -/
import Derived.Test.YtpmjhkpjhfpfpaaDoorRefs
import Derived.Test.YtpmjhkpjhfpfpaaDoorPlain
import Derived.Test.YtpmjhkpjhfpfpaaDoorTexts
namespace Go.Proofs.YtpmjhkpjhfpfpaaDoor
open Go.RowKit Dig
set_option linter.unusedVariables false

namespace Dig
/-- zs holds the first k digits of a number whose rest is c, as the equation S says. -/
def AppRel (S : Nat → Nat → Nat → Prop) (zs : List Nat) (k c : Nat) : Prop := zs.length = k ∧ Small zs ∧ S k (val zs) c
def AddEq (xs ys : List Nat) (k v c : Nat) : Prop := v + 4294967296 ^ k * c = val (xs.take k) + val (ys.take k) ∧ c ≤ 1
def DblEq (xs : List Nat) (b k v c : Nat) : Prop := v + 4294967296 ^ k * c = 2 * val (xs.take k) + b ∧ c ≤ 1
theorem Small.snoc {zs : List Nat} (h : Small zs) {d : Nat} (hd : d < 4294967296) : Small (zs ++ [d]) := by
  intro x hx
  rcases List.mem_append.1 hx with h1 | h1
  · exact h x h1
  · simp at h1; omega
theorem val_snoc (zs : List Nat) (d : Nat) : val (zs ++ [d]) = val zs + 4294967296 ^ zs.length * d := by
  rw [val_append]
  simp [val]
theorem AddEq.step {xs ys zs : List Nat} {k c x y : Nat} (h : AppRel (AddEq xs ys) zs k c) (hx : xs.getD k 0 = x) (hy : ys.getD k 0 = y) (hxb : x < 4294967296) (hyb : y < 4294967296) :
    AppRel (AddEq xs ys) (zs ++ [(c + x + y) % 4294967296]) (k + 1) ((c + x + y) / 4294967296) := by
  obtain ⟨hl, hs, he, hc⟩ := h
  refine ⟨by simp [hl], hs.snoc (Nat.mod_lt _ (by omega)), ?_, by omega⟩
  rw [val_snoc, hl, take_all_getD, take_all_getD, hx, hy, Nat.pow_succ, Nat.mul_assoc]
  have e : (c + x + y) % 4294967296 + 4294967296 * ((c + x + y) / 4294967296) = c + x + y := Nat.mod_add_div _ _
  have e2 : 4294967296 ^ k * ((c + x + y) % 4294967296) + 4294967296 ^ k * (4294967296 * ((c + x + y) / 4294967296)) = 4294967296 ^ k * (c + x + y) := by rw [← Nat.mul_add, e]
  rw [Nat.mul_add, Nat.mul_add] at e2
  omega
theorem DblEq.step {xs zs : List Nat} {b k c x : Nat} (h : AppRel (DblEq xs b) zs k c) (hx : xs.getD k 0 = x) (hxb : x < 4294967296) :
    AppRel (DblEq xs b) (zs ++ [x * 2 % 4294967296 + c]) (k + 1) (x / 2147483648) := by
  obtain ⟨hl, hs, he, hc⟩ := h
  refine ⟨by simp [hl], hs.snoc (by omega), ?_, by omega⟩
  rw [val_snoc, hl, take_all_getD, hx, Nat.pow_succ, Nat.mul_assoc]
  have e : x * 2 % 4294967296 + c + 4294967296 * (x / 2147483648) = 2 * x + c := by omega
  have e2 : 4294967296 ^ k * (x * 2 % 4294967296 + c) + 4294967296 ^ k * (4294967296 * (x / 2147483648)) = 4294967296 ^ k * (2 * x + c) := by rw [← Nat.mul_add, e]
  rw [Nat.mul_add (4294967296 ^ k) (2 * x) c] at e2
  have e3 : 4294967296 ^ k * (2 * x) = 2 * (4294967296 ^ k * x) := by rw [Nat.mul_left_comm]
  omega
end Dig
theorem or_bit (x b : Nat) (hx : x < 4294967296) (hb : b ≤ 1) : bits .or .u32 ((x * 2 % 4294967296 : Nat) : Int) (b : Int) = ((x * 2 % 4294967296 + b : Nat) : Int) := by
  have h := u32_or_nat (x * 2 % 4294967296) b (by omega) (by omega)
  rw [h]
  congr 1
  have := Nat.shiftLeft_add_eq_or_of_lt (i := 1) (b := b) (by omega) (x % 2147483648)
  rw [Nat.shiftLeft_eq] at this
  rw [show x * 2 % 4294967296 = x % 2147483648 * 2 ^ 1 by omega]
  exact this.symm


end Go.Proofs.YtpmjhkpjhfpfpaaDoor

/- The contract of the reference function NatDivMod. -/
namespace Go.Proofs.YtpmjhkpjhfpfpaaDoor
open Go.RowKit Dig
set_option linter.unusedVariables false

theorem Own.far {base : Nat} {w : World} {v : Value} {xs : List Nat} (h : Own base w v xs) {p : Addr} (hp : p.block < base) (u : Value) : Own base (w.setCell p u) v xs := by
  obtain ⟨hs, h⟩ := h
  refine ⟨hs, ?_⟩
  rcases h with h | ⟨g, rest, e, hg, hm, hh⟩
  · exact .inl h
  · exact .inr ⟨g, rest, e, hg, hm, hh.far (by omega) u⟩
theorem or_shift (d s : Nat) (h : d % 2 ^ (s + 1) = 0) (hs : s < 32) (hd : d < 4294967296) : bits .or .u32 (d : Int) (2 ^ s % 4294967296) = ((d + 2 ^ s : Nat) : Int) := by
  have hp : 2 ^ s < 4294967296 := by
    have : (2 : Nat) ^ s ≤ 2 ^ 31 := Nat.pow_le_pow_right (by omega) (by omega)
    omega
  have h1 := u32_or_nat d (2 ^ s) hd hp
  have e : ((2 ^ s : Nat) : Int) = 2 ^ s % 4294967296 := by
    have e0 : ((2 ^ s : Nat) : Int) = 2 ^ s := by rw [Int.natCast_pow]; rfl
    rw [← e0]
    omega
  rw [e] at h1
  rw [h1, or_low d s h]
theorem and_bit (x s : Nat) (hx : x < 4294967296) : bits .and .u32 ((x : Int) / 2 ^ s) 1 = ((x / 2 ^ s % 2 : Nat) : Int) := by
  have h1 := u32_and_nat (x / 2 ^ s) 1 (Nat.lt_of_le_of_lt (Nat.div_le_self _ _) hx) (by omega)
  have e : ((x / 2 ^ s : Nat) : Int) = (x : Int) / 2 ^ s := by rw [Int.natCast_ediv, Int.natCast_pow]; rfl
  rw [e] at h1
  exact h1.trans (by rw [Nat.and_one_is_mod])

section
variable (w : World) (va vb : Value) (xs ys : List Nat) (ha : Num w va xs) (hb : Num w vb ys) (hza : xs.length ≤ 1099511627776) (hzb : ys.length ≤ 1099511627776)
include ha hb hza hzb



end
end Go.Proofs.YtpmjhkpjhfpfpaaDoor

/- The contracts of the reference functions half, NatGCD and NatUint64. -/
import Derived.Deep.RegionHeld3
import Derived.Test.YtpmjhkpjhfpfpaaDoorRefd
import Derived.Test.YtpmjhkpjhfpfpaaDoorGcds
import Derived.Test.YtpmjhkpjhfpfpaaDoorPlain
import Derived.Test.YtpmjhkpjhfpfpaaDoorLawf
namespace Go.Proofs.YtpmjhkpjhfpfpaaDoor
open Go.RowKit Dig
set_option linter.unusedVariables false

namespace Dig
/-- After k digits of the half. -/
def HalfEq (xs : List Nat) (k v _c : Nat) : Prop := 2 * v + xs.getD 0 0 % 2 = val (xs.take k) + 4294967296 ^ k * (xs.getD k 0 % 2)
theorem HalfEq.start (xs : List Nat) : AppRel (HalfEq xs) [] 0 0 := ⟨rfl, Small.nil, by simp [HalfEq, val]⟩
theorem half_digit {x y : Nat} (hx : x < 4294967296) : x / 2 + 2147483648 * (y % 2) < 4294967296 := by
  have := Nat.mod_lt y (show 0 < 2 by omega)
  omega
theorem HalfEq.step {xs zs : List Nat} {k x y : Nat} (h : AppRel (HalfEq xs) zs k 0) (hx : xs.getD k 0 = x) (hy : xs.getD (k + 1) 0 = y) (hxb : x < 4294967296) :
    AppRel (HalfEq xs) (zs ++ [x / 2 + 2147483648 * (y % 2)]) (k + 1) 0 := by
  obtain ⟨hl, hs, he⟩ := h
  refine ⟨by simp [hl], hs.snoc (half_digit hxb), ?_⟩
  unfold HalfEq at he ⊢
  rw [val_snoc, hl, take_all_getD xs, hx, hy, Nat.pow_succ]
  rw [hx] at he
  have hd := Nat.div_add_mod x 2
  generalize x / 2 = h at *
  generalize x % 2 = m at *
  subst hd
  generalize (4294967296 : Nat) ^ k = P at *
  generalize y % 2 = m2 at *
  generalize val (xs.take k) = X at *
  have e1 : P * (h + 2147483648 * m2) * 2 = P * (2 * h) + P * 4294967296 * m2 := by grind
  have e2 : P * (2 * h + m) = P * (2 * h) + P * m := Nat.mul_add _ _ _
  omega
theorem HalfEq.done {xs zs : List Nat} (h : AppRel (HalfEq xs) zs xs.length 0) : val zs = val xs / 2 := by
  obtain ⟨hl, hs, he⟩ := h
  unfold HalfEq at he
  rw [List.take_of_length_le (Nat.le_refl _), show xs.getD xs.length 0 = 0 by rw [List.getD_eq_getElem?_getD, List.getElem?_eq_none (Nat.le_refl _)]; rfl] at he
  have := Nat.mod_lt (xs.getD 0 0) (show 0 < 2 by omega)
  simp at he
  omega
end Dig
theorem or_top (x y : Nat) (hx : x < 4294967296) (hy : y < 4294967296) : bits .or .u32 ((x : Int) / 2) ((y : Int) * 2147483648 % 4294967296) = ((x / 2 + 2147483648 * (y % 2) : Nat) : Int) := by
  have h := u32_or_nat (x / 2) (2147483648 * (y % 2)) (by omega) (by omega)
  have e1 : ((x / 2 : Nat) : Int) = (x : Int) / 2 := by omega
  have e2 : ((2147483648 * (y % 2) : Nat) : Int) = (y : Int) * 2147483648 % 4294967296 := by omega
  rw [e1, e2] at h
  rw [h]
  congr 1
  have := Nat.shiftLeft_add_eq_or_of_lt (i := 31) (b := x / 2) (by omega) (y % 2)
  rw [Nat.shiftLeft_eq] at this
  rw [Nat.or_comm, Nat.mul_comm 2147483648, show (2147483648 : Nat) = 2 ^ 31 from rfl, ← this, Nat.add_comm]


namespace Dig
theorem dg_par (n : Nat) : (dg n).getD 0 0 % 2 = n % 2 := by
  have h := drop_any (dg n) 0
  rw [List.drop_zero, val_dg] at h
  omega
theorem gcd_half {P Q : Nat} (hP : P % 2 = 0) (hQ : Q % 2 = 1) : Nat.gcd (P / 2) Q = Nat.gcd P Q := by
  have e : P = 2 * (P / 2) := by omega
  have hc : Nat.Coprime 2 Q := by
    rw [Nat.coprime_iff_gcd_eq_one, Nat.gcd_rec, hQ, Nat.gcd_one_left]
  rw [e, Nat.mul_div_cancel_left _ (by omega)]
  exact (Nat.Coprime.gcd_mul_left_cancel (P / 2) hc).symm
theorem gcd_halves {P Q : Nat} (hP : P % 2 = 0) (hQ : Q % 2 = 0) : Nat.gcd P Q = Nat.gcd (P / 2) (Q / 2) * 2 := by
  have e1 : P = P / 2 * 2 := by omega
  have e2 : Q = Q / 2 * 2 := by omega
  conv => lhs; rw [e1, e2]
  exact Nat.gcd_mul_right _ _ _
theorem gcd_sub {P Q : Nat} (h : P ≤ Q) : Nat.gcd P (Q - P) = Nat.gcd P Q := by
  conv => rhs; rw [show Q = (Q - P) + P by omega]
  simp
end Dig
theorem and_one (x : Nat) (hx : x < 4294967296) : bits .and .u32 (x : Int) 1 = ((x % 2 : Nat) : Int) := by
  have h1 := u32_and_nat x 1 hx (by omega)
  exact h1.trans (by rw [Nat.and_one_is_mod])
/-- The lowest digit of a number above 0. -/
theorem Num.low {w : World} {A : Option Addr} {c P : Nat} (h : Num w (.slice A (dg P).length c) (dg P)) (hP : 0 < P) : ∃ b off d, A = some ⟨b, off, none⟩ ∧ w.cell? ⟨b, off, none⟩ = some (.int .u32 (d : Nat)) ∧ bits .and .u32 (d : Int) 1 = ((P % 2 : Nat) : Int) ∧ 0 < (dg P).length ∧ d < 4294967296 := by
  have hl : 0 < (dg P).length := by
    rcases Nat.eq_zero_or_pos (dg P).length with h | h
    · have := dg_len0 h; omega
    · exact h
  obtain ⟨b, off, rfl, _, hall⟩ := h.cells hl
  have h0 := hall 0 hl
  have hd := (small_dg P).get 0
  exact ⟨b, off, (dg P).getD 0 0, rfl, h0, by rw [and_one _ hd, dg_par], hl, hd⟩

section
variable (w : World) (va vb : Value) (xs ys : List Nat) (ha : Num w va xs) (hb : Num w vb ys) (hza : xs.length ≤ 1000000) (hzb : ys.length ≤ 1000000)
include ha hb hza hzb


end

/-- n holds the digits from place k on. -/
def UpTo (x : Nat) (k m : Nat) : Prop := m = val ((dg x).drop k)

end Go.Proofs.YtpmjhkpjhfpfpaaDoor

/- The contract of the reference function NatGCD where both numbers are above 0. -/
namespace Go.Proofs.YtpmjhkpjhfpfpaaDoor
open Go.RowKit Dig
set_option linter.unusedVariables false

namespace Dig
theorem shift_bound {P k X : Nat} (hP : 0 < P) (h : P * 2 ^ k = X) : k ≤ 32 * (dg X).length := by
  have h1 := dg_lt X
  rw [pow_base] at h1
  have h2 : 1 * 2 ^ k ≤ P * 2 ^ k := Nat.mul_le_mul_right _ hP
  have h3 : 2 ^ k < 2 ^ (32 * (dg X).length) := by omega
  exact Nat.le_of_lt ((Nat.pow_lt_pow_iff_right (by omega : 1 < 2)).1 h3)
theorem dg_add_len {X Y L : Nat} (hx : (dg X).length ≤ L) (hy : (dg Y).length ≤ L) : (dg (X + Y)).length ≤ L + 1 :=
  dg_length_le _ _ (add_fit _ _ _ (Nat.lt_of_lt_of_le (dg_lt X) (pow_le hx)) (Nat.lt_of_lt_of_le (dg_lt Y) (pow_le hy)))
end Dig
section
variable (w : World) (va vb : Value) (xs ys : List Nat) (ha : Num w va xs) (hb : Num w vb ys) (hza : xs.length ≤ 1000000) (hzb : ys.length ≤ 1000000)
include ha hb hza hzb

end
end Go.Proofs.YtpmjhkpjhfpfpaaDoor

/- The contracts of the reference functions on natural numbers in the form in which the laws use them. -/
namespace Go.Proofs.YtpmjhkpjhfpfpaaDoor
open Go.RowKit Dig
set_option linter.unusedVariables false
section
variable {w : World} {va vb : Value} {a b k l : Nat}
theorem uint64_w (ha : NumV w va a k) : Calls Tryd.prog 54 #[va] w (RVal w (.tuple #[.int .u64 (u64Of a), .bool (fits a)])) := by
  obtain ⟨L, h1, h2, h3⟩ := ha
  subst h2
  obtain ⟨A, c, rfl⟩ := h1.form
  exact (uint64_c w A _ c L h1).mono fun e w' ⟨x, N, y⟩ => ⟨x, by rw [y]; exact below_drewN (Below.refl _ _) N⟩
end
end Go.Proofs.YtpmjhkpjhfpfpaaDoor

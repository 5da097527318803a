/- The reference of stage 2, what stage 8 wants of it (laid by minchain.py out of: RefG RefH RefI Lawh RefJ). -/
import Derived.Test.YtpbkmkcfhkdjjaaDoorQrb
namespace Go.Proofs.YtpbkmkcfhkdjjaaDoor
open Go.RowKit Dig
set_option linter.unusedVariables false

namespace Dig
/-- After k digits of the half. -/
def HalfEq (xs : List Nat) (k v _c : Nat) : Prop := 2 * v + xs.getD 0 0 % 2 = val (xs.take k) + 4294967296 ^ k * (xs.getD k 0 % 2)
theorem HalfEq.start (xs : List Nat) : AppRel (HalfEq xs) [] 0 0 := ⟨rfl, Small.nil, by simp [HalfEq, val]⟩
theorem half_digit {x y : Nat} (hx : x < 4294967296) : x / 2 + 2147483648 * (y % 2) < 4294967296 := by
  have := Nat.mod_lt y (show 0 < 2 by omega)
  omega
theorem HalfEq.step {xs zs : List Nat} {k x y : Nat} (h : AppRel (HalfEq xs) zs k 0) (hx : xs.getD k 0 = x) (hy : xs.getD (k + 1) 0 = y) (hxb : x < 4294967296) :
    AppRel (HalfEq xs) (zs ++ [x / 2 + 2147483648 * (y % 2)]) (k + 1) 0 := by
  obtain ⟨hl, hs, he⟩ := h
  refine ⟨by simp [hl], hs.snoc (half_digit hxb), ?_⟩
  unfold HalfEq at he ⊢
  rw [val_snoc, hl, take_all_getD xs, hx, hy, Nat.pow_succ]
  rw [hx] at he
  have hd := Nat.div_add_mod x 2
  generalize x / 2 = h at *
  generalize x % 2 = m at *
  subst hd
  generalize (4294967296 : Nat) ^ k = P at *
  generalize y % 2 = m2 at *
  generalize val (xs.take k) = X at *
  have e1 : P * (h + 2147483648 * m2) * 2 = P * (2 * h) + P * 4294967296 * m2 := by grind
  have e2 : P * (2 * h + m) = P * (2 * h) + P * m := Nat.mul_add _ _ _
  omega
theorem HalfEq.done {xs zs : List Nat} (h : AppRel (HalfEq xs) zs xs.length 0) : val zs = val xs / 2 := by
  obtain ⟨hl, hs, he⟩ := h
  unfold HalfEq at he
  rw [List.take_of_length_le (Nat.le_refl _), show xs.getD xs.length 0 = 0 by rw [List.getD_eq_getElem?_getD, List.getElem?_eq_none (Nat.le_refl _)]; rfl] at he
  have := Nat.mod_lt (xs.getD 0 0) (show 0 < 2 by omega)
  simp at he
  omega
end Dig
theorem or_top (x y : Nat) (hx : x < 4294967296) (hy : y < 4294967296) : bits .or .u32 ((x : Int) / 2) ((y : Int) * 2147483648 % 4294967296) = ((x / 2 + 2147483648 * (y % 2) : Nat) : Int) := by
  have h := u32_or_nat (x / 2) (2147483648 * (y % 2)) (by omega) (by omega)
  have e1 : ((x / 2 : Nat) : Int) = (x : Int) / 2 := by omega
  have e2 : ((2147483648 * (y % 2) : Nat) : Int) = (y : Int) * 2147483648 % 4294967296 := by omega
  rw [e1, e2] at h
  rw [h]
  congr 1
  have := Nat.shiftLeft_add_eq_or_of_lt (i := 31) (b := x / 2) (by omega) (y % 2)
  rw [Nat.shiftLeft_eq] at this
  rw [Nat.or_comm, Nat.mul_comm 2147483648, show (2147483648 : Nat) = 2 ^ 31 from rfl, ← this, Nat.add_comm]
set_option maxHeartbeats 4000000 in
theorem half_c (w : World) (va : Value) (xs : List Nat) (ha : Num w va xs) (hza : xs.length ≤ 4398046511104) :
    Calls Tryd.prog 108 #[va] w (RNat w (val xs / 2)) := by
  obtain ⟨A, c, rfl⟩ := ha.form
  have hba := ha.bounds.2
  have hla : (xs.length : Int) ≤ 4398046511104 := by omega
  go_enter Tryd.func108, Tryd.ntmps108
  go_wp2_with fail
  go_loopw [3, 4] (fun out i wr => ∃ (k : Nat) (zs : List Nat), k ≤ xs.length ∧ i = .int .i64 k ∧ AppRel (HalfEq xs) zs k 0 ∧ Own w.heap.size wr out zs ∧ Below w.heap.size w wr) (fun _ i _ => xs.length - (intOf i).toNat)
  case atStart => exact ⟨0, [], Nat.zero_le _, rfl, HalfEq.start xs, Own.nil _ _, Below.refl _ _⟩
  case round =>
    obtain ⟨k, zs, hk, rfl, hr, hO, hB⟩ := hrel
    have hzl := hr.1
    have hki : (k : Int) ≤ 4398046511104 := by omega
    have bx := ha.small.get k
    have bbx := ha.small.get (k + 1)
    by_cases h1 : k < xs.length
    · obtain ⟨b, off, rfl, hbw, hall⟩ := ha.cells (by omega)
      have hcw := hall k h1
      have hcy := hall (k + 1)
      clear hall
      generalize hxx : xs.getD k 0 = x at hcw bx
      generalize hyy : xs.getD (k + 1) 0 = y at hcy bbx
      have hcx := (hB.cell (p := ⟨b, off + k, none⟩) hbw).trans hcw
      clear hcw
      have h1i : (k : Int) < xs.length := by omega
      have HR := Lib.hid (HalfEq.step hr hxx hyy bx)
      have HOO := Lib.hid hO
      have HBB := Lib.hid hB
      have HZL := Lib.hid (show zs.length ≤ 4398046511104 by omega)
      by_cases h2 : k + 1 < xs.length
      · have hcy2 := (hB.cell (p := ⟨b, off + (k + 1), none⟩) hbw).trans (hcy h2)
        have h2i : (k : Int) + 1 < xs.length := by omega
        have hor := or_top x y bx bbx
        have HN := Lib.hid (Num.one wr (x / 2 + 2147483648 * (y % 2)) (bits .or .u32 ((x : Int) / 2) ((y : Int) * 2147483648 % 4294967296)) (half_digit bx) hor)
        have HOA := Lib.hid (hO.alloc (.cells #[.int .u32 (bits .or .u32 ((x : Int) / 2) ((y : Int) * 2147483648 % 4294967296))] 95))
        clear hr hxx hyy hzl hk h1 h2 hO hB hor hcy
        go_wp2_with (at_builtin; refine wp_append rfl _ _ rfl w.heap.size _ zs rfl HOA.out (.slice (some ⟨wr.heap.size, 0, none⟩) 1 1) [x / 2 + 2147483648 * (y % 2)] rfl HN.out (by have := HZL.out; simp; omega) (by have := HBB.out.size; simp; omega) ?_; intro v' w' hv' hg' _; have hB3 := below_ownQ HBB.out (grown_after_alloc hg') HOO.out (Nat.le_refl _))
        go_roundw
        case rel => exact ⟨k + 1, _, by omega, by go_num, HR.out, hv', hB3⟩
        case measure => simp [intOf]; omega
      · have h2i : ¬ (k : Int) + 1 < xs.length := by omega
        have hy0 : y = 0 := by rw [← hyy, List.getD_eq_getElem?_getD, List.getElem?_eq_none (by omega)]; rfl
        subst hy0
        have HN := Lib.hid (Num.one wr (x / 2 + 2147483648 * (0 % 2)) ((x : Int) / 2) (by omega) (by omega))
        have HOA := Lib.hid (hO.alloc (.cells #[.int .u32 ((x : Int) / 2)] 95))
        clear hr hxx hyy hzl hk h1 h2 hO hB hcy
        go_wp2_with (at_builtin; refine wp_append rfl _ _ rfl w.heap.size _ zs rfl HOA.out (.slice (some ⟨wr.heap.size, 0, none⟩) 1 1) [x / 2 + 2147483648 * (0 % 2)] rfl HN.out (by have := HZL.out; simp; omega) (by have := HBB.out.size; simp; omega) ?_; intro v' w' hv' hg' _; have hB3 := below_ownQ HBB.out (grown_after_alloc hg') HOO.out (Nat.le_refl _))
        go_roundw
        case rel => exact ⟨k + 1, _, by omega, by go_num, HR.out, hv', hB3⟩
        case measure => simp [intOf]; omega
    · have h1i : ¬ (k : Int) < xs.length := by omega
      obtain rfl : k = xs.length := by omega
      have he := HalfEq.done hr
      have NN := natNorm_c wr _ _ hO.num (by omega)
      rw [he] at NN
      have HNN := Lib.hid NN
      clear NN hr he hO
      go_wp2_with fail
      refine (HNN.out).mono ?_
      rintro e w3 ⟨r, rfl, hO3, hB4⟩
      go_wp2_with fail
      go_ret
      exact ⟨_, rfl, hO3.mono hB.size, below_then hB hB4⟩
namespace Dig
theorem dg_par (n : Nat) : (dg n).getD 0 0 % 2 = n % 2 := by
  have h := drop_any (dg n) 0
  rw [List.drop_zero, val_dg] at h
  omega
theorem gcd_half {P Q : Nat} (hP : P % 2 = 0) (hQ : Q % 2 = 1) : Nat.gcd (P / 2) Q = Nat.gcd P Q := by
  have e : P = 2 * (P / 2) := by omega
  have hc : Nat.Coprime 2 Q := by
    rw [Nat.coprime_iff_gcd_eq_one, Nat.gcd_rec, hQ, Nat.gcd_one_left]
  rw [e, Nat.mul_div_cancel_left _ (by omega)]
  exact (Nat.Coprime.gcd_mul_left_cancel (P / 2) hc).symm
theorem gcd_halves {P Q : Nat} (hP : P % 2 = 0) (hQ : Q % 2 = 0) : Nat.gcd P Q = Nat.gcd (P / 2) (Q / 2) * 2 := by
  have e1 : P = P / 2 * 2 := by omega
  have e2 : Q = Q / 2 * 2 := by omega
  conv => lhs; rw [e1, e2]
  exact Nat.gcd_mul_right _ _ _
theorem gcd_sub {P Q : Nat} (h : P ≤ Q) : Nat.gcd P (Q - P) = Nat.gcd P Q := by
  conv => rhs; rw [show Q = (Q - P) + P by omega]
  simp
end Dig
theorem and_oneQ (x : Nat) (hx : x < 4294967296) : bits .and .u32 (x : Int) 1 = ((x % 2 : Nat) : Int) := by
  have h1 := u32_and_nat x 1 hx (by omega)
  exact h1.trans (by rw [Nat.and_one_is_mod])
/-- The lowest digit of a number above 0. -/
theorem Num.low {w : World} {A : Option Addr} {c P : Nat} (h : Num w (.slice A (dg P).length c) (dg P)) (hP : 0 < P) : ∃ b off d, A = some ⟨b, off, none⟩ ∧ w.cell? ⟨b, off, none⟩ = some (.int .u32 (d : Nat)) ∧ bits .and .u32 (d : Int) 1 = ((P % 2 : Nat) : Int) ∧ 0 < (dg P).length ∧ d < 4294967296 := by
  have hl : 0 < (dg P).length := by
    rcases Nat.eq_zero_or_pos (dg P).length with h | h
    · have := dg_len0 h; omega
    · exact h
  obtain ⟨b, off, rfl, _, hall⟩ := h.cells hl
  have h0 := hall 0 hl
  have hd := (small_dg P).get 0
  exact ⟨b, off, (dg P).getD 0 0, rfl, h0, by rw [and_oneQ _ hd, dg_par], hl, hd⟩
section
variable (w : World) (va vb : Value) (xs ys : List Nat) (ha : Num w va xs) (hb : Num w vb ys) (hza : xs.length ≤ 1000000) (hzb : ys.length ≤ 1000000)
include ha hb hza hzb

set_option maxHeartbeats 1000000 in
theorem natGCD_x0 (h0 : val xs = 0) : Calls Tryd.prog 86 #[va, vb] w (RNat w (Nat.gcd (val xs) (val ys))) := by
  have Na := natNorm_c w va xs ha (by omega)
  have Nb := fun w1 hB => natNorm_c w1 vb ys (Num.below (w' := w1) hb hB) (by omega)
  rw [h0] at Na ⊢
  rw [Nat.gcd_zero_left]
  have HNa := Lib.hid Na
  have HNb := Lib.hid Nb
  clear Na Nb
  go_enter Tryd.func86, Tryd.ntmps86
  go_wp2_with fail
  refine (HNa.out).mono ?_
  rintro e w1 ⟨x, rfl, hO1, hB1⟩
  go_wp2_with fail
  refine (HNb.out w1 hB1).mono ?_
  rintro e w2 ⟨y, rfl, hO2, hB2⟩
  obtain ⟨A, c, e0⟩ := hO1.num.form
  rw [show (dg 0).length = 0 from rfl] at e0
  subst e0
  have hB := below_then hB1 hB2
  have hO3 := hO2.mono hB1.size
  clear hO1 hO2 hB2
  go_wp2_with fail
  go_ret
  exact ⟨_, rfl, hO3, hB⟩
set_option maxHeartbeats 1000000 in
theorem natGCD_y0 (hp : 0 < val xs) (h0 : val ys = 0) : Calls Tryd.prog 86 #[va, vb] w (RNat w (Nat.gcd (val xs) (val ys))) := by
  have Na := natNorm_c w va xs ha (by omega)
  have Nb := fun w1 hB => natNorm_c w1 vb ys (Num.below (w' := w1) hb hB) (by omega)
  rw [h0] at Nb ⊢
  rw [Nat.gcd_zero_right]
  generalize val xs = X at *
  have hl : ((dg X).length : Int) ≠ 0 := by
    intro h
    have := dg_len0 (show (dg X).length = 0 by omega)
    omega
  have hlb : (((dg X).length : Int) == 0) = false := by rw [beq_eq_false_iff_ne]; exact hl
  have HNa := Lib.hid Na
  have HNb := Lib.hid Nb
  clear Na Nb
  go_enter Tryd.func86, Tryd.ntmps86
  go_wp2_with fail
  refine (HNa.out).mono ?_
  rintro e w1 ⟨x, rfl, hO1, hB1⟩
  go_wp2_with fail
  refine (HNb.out w1 hB1).mono ?_
  rintro e w2 ⟨y, rfl, hO2, hB2⟩
  obtain ⟨A, c, e0⟩ := hO2.num.form
  rw [show (dg 0).length = 0 from rfl] at e0
  subst e0
  have hO3 := hO1.below hB2 (Nat.le_refl _)
  have hB := below_then hB1 hB2
  obtain ⟨A', c', e1⟩ := hO3.num.form
  subst e1
  clear hO1 hO2 hB2
  go_wp2_with fail
  go_ret
  exact ⟨_, rfl, hO3, hB⟩
end

end Go.Proofs.YtpbkmkcfhkdjjaaDoor

namespace Go.Proofs.YtpbkmkcfhkdjjaaDoor
open Go.RowKit Dig
set_option linter.unusedVariables false

namespace Dig
theorem shift_bound {P k X : Nat} (hP : 0 < P) (h : P * 2 ^ k = X) : k ≤ 32 * (dg X).length := by
  have h1 := dg_lt X
  rw [pow_base] at h1
  have h2 : 1 * 2 ^ k ≤ P * 2 ^ k := Nat.mul_le_mul_right _ hP
  have h3 : 2 ^ k < 2 ^ (32 * (dg X).length) := by omega
  exact Nat.le_of_lt ((Nat.pow_lt_pow_iff_right (by omega : 1 < 2)).1 h3)
theorem dg_add_len {X Y L : Nat} (hx : (dg X).length ≤ L) (hy : (dg Y).length ≤ L) : (dg (X + Y)).length ≤ L + 1 :=
  dg_length_le _ _ (add_fit _ _ _ (Nat.lt_of_lt_of_le (dg_lt X) (pow_le hx)) (Nat.lt_of_lt_of_le (dg_lt Y) (pow_le hy)))
end Dig
section
variable (w : World) (va vb : Value) (xs ys : List Nat) (ha : Num w va xs) (hb : Num w vb ys) (hza : xs.length ≤ 1000000) (hzb : ys.length ≤ 1000000)
include ha hb hza hzb

set_option maxHeartbeats 16000000 in
theorem natGCD_pos (hxp : 0 < val xs) (hyp : 0 < val ys) : Calls Tryd.prog 86 #[va, vb] w (RNat w (Nat.gcd (val xs) (val ys))) := by
  have Na := natNorm_c w va xs ha (by omega)
  have Nb := fun w1 hB => natNorm_c w1 vb ys (Num.below (w' := w1) hb hB) (by omega)
  have hla := dg_length_val xs ha.small
  have hlb := dg_length_val ys hb.small
  generalize val xs = X at *
  generalize val ys = Y at *
  have hlx : (dg X).length ≤ 1000000 := by omega
  have hly : (dg Y).length ≤ 1000000 := by omega
  have hX0 : (((dg X).length : Int) == 0) = false := by
    rw [beq_eq_false_iff_ne]
    intro h
    have := dg_len0 (show (dg X).length = 0 by omega)
    omega
  have hY0 : (((dg Y).length : Int) == 0) = false := by
    rw [beq_eq_false_iff_ne]
    intro h
    have := dg_len0 (show (dg Y).length = 0 by omega)
    omega
  have HNa := Lib.hid Na
  have HNb := Lib.hid Nb
  clear Na Nb ha hb
  go_enter Tryd.func86, Tryd.ntmps86
  go_wp2_with fail
  refine (HNa.out).mono ?_
  rintro e w1 ⟨x, rfl, hO1, hB1⟩
  go_wp2_with fail
  refine (HNb.out w1 hB1).mono ?_
  rintro e w2 ⟨y, rfl, hO2, hB2⟩
  have hO3 := hO1.below hB2 (Nat.le_refl _)
  have hO4 := hO2.mono hB1.size
  have hB := below_then hB1 hB2
  clear hO1 hO2 hB1 hB2 HNa HNb
  obtain ⟨A1, c1, e1⟩ := hO3.num.form
  obtain ⟨A2, c2, e2⟩ := hO4.num.form
  subst e1
  subst e2
  go_wp2_with fail
  go_loopw [5, 6, 7] (fun x y s wr => ∃ P Q k : Nat, s = .int .i64 (k : Int) ∧ 0 < P ∧ 0 < Q ∧ P * 2 ^ k = X ∧ Q ≤ Y ∧ Nat.gcd P Q * 2 ^ k = Nat.gcd X Y ∧ Own w.heap.size wr x (dg P) ∧ Own w.heap.size wr y (dg Q) ∧ Below w.heap.size w wr) (fun x _ _ wr => valIn wr x)
  case atStart => exact ⟨X, Y, 0, rfl, hxp, hyp, by omega, Nat.le_refl _, by omega, hO3, hO4, hB⟩
  case round =>
    clear hO3 hO4 hB
    obtain ⟨P, Q, k, rfl, hP0, hQ0, hPX, hQY, hg, hO1, hO2, hB⟩ := hrel
    obtain ⟨A1, c1, e1⟩ := hO1.num.form
    obtain ⟨A2, c2, e2⟩ := hO2.num.form
    subst e1
    subst e2
    obtain ⟨b1, f1, d1, rfl, hc1, hand1, hl1, hd1⟩ := hO1.num.low hP0
    obtain ⟨b2, f2, d2, rfl, hc2, hand2, hl2, hd2⟩ := hO2.num.low hQ0
    have hm := valIn_dg hO1.num
    have hk : k ≤ 32000000 := by
      have := shift_bound hP0 hPX
      omega
    have hPXl : P ≤ X := by
      have h1 : P * 1 ≤ P * 2 ^ k := Nat.mul_le_mul_left _ (Nat.pow_pos (by omega))
      omega
    have hXY := dg_add_len hlx hly
    have hPl : (dg P).length ≤ 1000000 := by
      have h1 : P * 1 ≤ P * 2 ^ k := Nat.mul_le_mul_left _ (Nat.pow_pos (by omega))
      have := dg_length_mono (show P ≤ X by omega)
      omega
    have hQl : (dg Q).length ≤ 1000000 := by
      have := dg_length_mono hQY
      omega
    by_cases hb : P % 2 = 0 ∧ Q % 2 = 0
    · obtain ⟨hp2, hq2⟩ := hb
      rw [hp2] at hand1
      rw [hq2] at hand2
      have H1 := half_c wr _ _ hO1.num (by omega)
      have H2 := fun w1 hB => half_c w1 _ _ (Num.below (w' := w1) hO2.num hB) (by omega)
      rw [val_dg] at H1 H2
      have HH1 := Lib.hid H1
      have HH2 := Lib.hid H2
      have HM := Lib.hid hm
      have HG := Lib.hid (show Nat.gcd (P / 2) (Q / 2) * 2 ^ (k + 1) = Nat.gcd X Y by rw [Nat.pow_succ, Nat.mul_comm (2 ^ k), ← Nat.mul_assoc, ← gcd_halves hp2 hq2, hg])
      have HPX := Lib.hid (show P / 2 * 2 ^ (k + 1) = X by rw [Nat.pow_succ, Nat.mul_comm (2 ^ k), ← Nat.mul_assoc, show P / 2 * 2 = P by omega, hPX])
      have hki : (k : Int) ≤ 32000000 := by omega
      clear H1 H2 hm hg hO1 hO2 hPX
      go_wp2_with fail
      refine (HH1.out).mono ?_
      rintro e w1 ⟨r, rfl, hO3, hB3⟩
      go_wp2_with fail
      refine (HH2.out w1 hB3).mono ?_
      rintro e w2 ⟨s, rfl, hO4, hB4⟩
      have hB5 := below_then hB hB3
      have HO3 := Lib.hid ((hO3.mono hB.size).below hB4 (Nat.le_refl _))
      have HO4 := Lib.hid (hO4.mono hB5.size)
      have HMR := Lib.hid (valIn_dg HO3.out.num)
      have HB6 := Lib.hid (below_then hB5 hB4)
      clear hO3 hO4 hB3 hB4 hB5 HH1 HH2
      go_wp2_with fail
      go_roundw
      case rel => exact ⟨P / 2, Q / 2, k + 1, by go_num, by omega, by omega, HPX.out, by omega, HG.out, HO3.out, HO4.out, HB6.out⟩
      case measure => rw [HMR.out, HM.out]; omega
    · have hpar : P % 2 = 1 ∨ Q % 2 = 1 := by omega
      by_cases hpo : P % 2 = 1
      · rw [hpo] at hand1
        have hki : (k : Int) ≤ 32000000 := by omega
        have HG := Lib.hid hg
        have HO1 := Lib.hid hO1
        have HO2 := Lib.hid hO2
        clear hm hg hPX hO1 hO2
        go_wp2_with fail
        go_loopw [5, 6] (fun x y wr => ∃ P2 Q2 : Nat, 0 < P2 ∧ (P2 % 2 = 1 ∨ Q2 % 2 = 1) ∧ P2 ≤ X + Y ∧ Q2 ≤ X + Y ∧ Nat.gcd P2 Q2 = Nat.gcd P Q ∧ Own w.heap.size wr x (dg P2) ∧ Own w.heap.size wr y (dg Q2) ∧ Below w.heap.size w wr) (fun x y wr => valIn wr x + valIn wr y)
        case atStart => exact ⟨P, Q, hP0, hpar, by omega, by omega, rfl, HO1.out, HO2.out, hB⟩
        case round =>
          clear HO1 HO2 hB hand1 hand2 hc1 hc2
          obtain ⟨P2, Q2, hP20, hpar2, hP2M, hQ2M, hg2, hO1, hO2, hB⟩ := hrel
          have hP2l := Nat.le_trans (dg_length_mono hP2M) hXY
          have hQ2l := Nat.le_trans (dg_length_mono hQ2M) hXY
          obtain ⟨A2, c2, e2⟩ := hO2.num.form
          rcases Nat.eq_zero_or_pos Q2 with hq0 | hq0
          · subst hq0
            rw [show (dg 0).length = 0 from rfl] at e2
            subst e2
            rw [Nat.gcd_zero_right] at hg2
            have hGE : P2 * 2 ^ k = Nat.gcd X Y := by rw [hg2]; exact HG.out
            have hbnd : ∀ j, j ≤ k → (dg (P2 * 2 ^ j)).length ≤ 1000000 := by
              intro j hj
              have h1 : P2 * 2 ^ j ≤ P2 * 2 ^ k := Nat.mul_le_mul_left _ (Nat.pow_le_pow_right (by omega) hj)
              rw [hGE] at h1
              have h2 := Nat.le_of_dvd hxp (Nat.gcd_dvd_left X Y)
              have := dg_length_mono (Nat.le_trans h1 h2)
              omega
            have HGE := Lib.hid hGE
            have HBND := Lib.hid hbnd
            clear hGE hbnd hO2 hg2
            go_wp2_with fail
            go_loopw [5, 8] (fun x i wr => ∃ j : Nat, j ≤ k ∧ i = .int .i64 j ∧ Own w.heap.size wr x (dg (P2 * 2 ^ j)) ∧ Below w.heap.size w wr) (fun _ i _ => k - (intOf i).toNat)
            case atStart => exact ⟨0, Nat.zero_le _, rfl, by rw [Nat.pow_zero, Nat.mul_one]; exact hO1, hB⟩
            case round =>
              clear hO1 hB
              obtain ⟨j, hj, rfl, hO, hB⟩ := hrel
              by_cases hjk : j < k
              · have hjki : (j : Int) < k := by omega
                have D := double_c _ _ _ 0 hO.num (by have := HBND.out j hj; omega) (by omega)
                rw [val_dg, show 2 * (P2 * 2 ^ j) + 0 = P2 * 2 ^ (j + 1) by rw [Nat.pow_succ, Nat.mul_comm (2 ^ j), Nat.mul_left_comm]; rfl] at D
                have HD := Lib.hid D
                clear D hO
                go_wp2_with fail
                refine (HD.out).mono ?_
                rintro e w7 ⟨r7, rfl, hO7, hB7⟩
                have HO7 := Lib.hid (hO7.mono hB.size)
                have HB7 := Lib.hid (below_then hB hB7)
                clear hO7 hB7 hB HD
                go_wp2_with fail
                go_roundw
                case rel => exact ⟨j + 1, by omega, by go_num, HO7.out, HB7.out⟩
                case measure => simp [intOf]; omega
              · have hjki : ¬ (j : Int) < k := by omega
                obtain rfl : j = k := by omega
                rw [HGE.out] at hO
                have HO := Lib.hid hO
                clear hO
                go_wp2_with fail
                go_ret
                exact ⟨_, rfl, HO.out, hB⟩
          · have hml := valIn_dg hO1.num
            have hmr := valIn_dg hO2.num
            subst e2
            have hlq : 0 < (dg Q2).length := by
              rcases Nat.eq_zero_or_pos (dg Q2).length with h | h
              · have := dg_len0 h; omega
              · omega
            have hlqi : (0 : Int) < (dg Q2).length := by omega
            have HML := Lib.hid hml
            have HMR := Lib.hid hmr
            have HG2 := Lib.hid hg2
            have HO1 := Lib.hid hO1
            have HO2 := Lib.hid hO2
            clear hml hmr hg2 hO1 hO2
            go_wp2_with fail
            go_loopw [5] (fun x wr => ∃ P3 : Nat, 0 < P3 ∧ P3 ≤ P2 ∧ (P3 % 2 = 1 ∨ Q2 % 2 = 1) ∧ Nat.gcd P3 Q2 = Nat.gcd P2 Q2 ∧ Own w.heap.size wr x (dg P3) ∧ Own w.heap.size wr (.slice A2 (dg Q2).length c2) (dg Q2) ∧ Below w.heap.size w wr) (fun x wr => valIn wr x)
            case atStart => exact ⟨P2, hP20, Nat.le_refl _, hpar2, rfl, HO1.out, HO2.out, hB⟩
            case round =>
              clear HO1 HO2 hB
              obtain ⟨P3, hP30, hP32, hpar3, hg3, hO1, hO2, hB⟩ := hrel
              have hP3l := Nat.le_trans (dg_length_mono hP32) hP2l
              obtain ⟨A1, c1, e1⟩ := hO1.num.form
              have hml := valIn_dg hO1.num
              subst e1
              obtain ⟨b1, f1, d1, rfl, hc1, hand1, hl1, hd1⟩ := hO1.num.low hP30
              by_cases hp3 : P3 % 2 = 0
              · rw [hp3] at hand1
                have H1 := half_c _ _ _ hO1.num (by omega)
                rw [val_dg] at H1
                have HH1 := Lib.hid H1
                have HM3 := Lib.hid hml
                have HG3 := Lib.hid ((gcd_half hp3 (by omega : Q2 % 2 = 1)).trans hg3)
                have HO2 := Lib.hid hO2
                clear H1 hml hg3 hO1 hO2
                go_wp2_with fail
                refine (HH1.out).mono ?_
                rintro e w3 ⟨r, rfl, hO3, hB3⟩
                have HO3 := Lib.hid (hO3.mono hB.size)
                have HO4 := Lib.hid (HO2.out.below hB3 (Nat.le_refl _))
                have HMR3 := Lib.hid (valIn_dg HO3.out.num)
                have HB3 := Lib.hid (below_then hB hB3)
                clear hO3 hB3 hB HH1 HO2
                go_wp2_with fail
                go_roundw
                case rel => exact ⟨P3 / 2, by omega, by omega, by omega, HG3.out, HO3.out, HO4.out, HB3.out⟩
                case measure => rw [HMR3.out, HM3.out]; omega
              · have hp31 : P3 % 2 = 1 := by omega
                rw [hp31] at hand1
                have HG3 := Lib.hid hg3
                have HO1 := Lib.hid hO1
                have HO2 := Lib.hid hO2
                clear hml hg3 hO1 hO2
                go_wp2_with fail
                go_loopw [6] (fun y wr => ∃ Q3 : Nat, 0 < Q3 ∧ Q3 ≤ Q2 ∧ Nat.gcd P3 Q3 = Nat.gcd P2 Q2 ∧ Own w.heap.size wr (.slice (some ⟨b1, f1, none⟩) (dg P3).length c1) (dg P3) ∧ Own w.heap.size wr y (dg Q3) ∧ Below w.heap.size w wr) (fun y wr => valIn wr y)
                case atStart => exact ⟨Q2, hq0, Nat.le_refl _, HG3.out, HO1.out, HO2.out, hB⟩
                case round =>
                  clear HO1 HO2 hB hc1
                  obtain ⟨Q3, hQ30, hQ32, hg3, hO1, hO2, hB⟩ := hrel
                  have hQ3l := Nat.le_trans (dg_length_mono hQ32) hQ2l
                  obtain ⟨A3, c3, e3⟩ := hO2.num.form
                  have hml := valIn_dg hO2.num
                  subst e3
                  obtain ⟨b3, f3, d3, rfl, hc3, hand3, hl3, hd3⟩ := hO2.num.low hQ30
                  by_cases hq3 : Q3 % 2 = 0
                  · rw [hq3] at hand3
                    have H1 := half_c _ _ _ hO2.num (by omega)
                    rw [val_dg] at H1
                    have HH1 := Lib.hid H1
                    have HM3 := Lib.hid hml
                    have HG4 := Lib.hid (show Nat.gcd P3 (Q3 / 2) = Nat.gcd P2 Q2 by rw [Nat.gcd_comm, gcd_half hq3 hp31, Nat.gcd_comm, hg3])
                    have HO1 := Lib.hid hO1
                    clear H1 hml hg3 hO1 hO2
                    go_wp2_with fail
                    refine (HH1.out).mono ?_
                    rintro e w3 ⟨r, rfl, hO3, hB3⟩
                    have HO3 := Lib.hid (hO3.mono hB.size)
                    have HO4 := Lib.hid (HO1.out.below hB3 (Nat.le_refl _))
                    have HMR3 := Lib.hid (valIn_dg HO3.out.num)
                    have HB3 := Lib.hid (below_then hB hB3)
                    clear hO3 hB3 hB HH1 HO1
                    go_wp2_with fail
                    go_roundw
                    case rel => exact ⟨Q3 / 2, by omega, by omega, HG4.out, HO4.out, HO3.out, HB3.out⟩
                    case measure => rw [HMR3.out, HM3.out]; omega
                  · have hq31 : Q3 % 2 = 1 := by omega
                    rw [hq31] at hand3
                    have C := natCmp_c _ _ _ _ _ hO1.num hO2.num (by omega) (by omega)
                    rw [val_dg, val_dg] at C
                    have HG4 := Lib.hid (hg3.trans HG2.out)
                    rcases Nat.lt_or_ge Q3 P3 with hlt | hge
                    · rw [cmpI_gt hlt] at C
                      have HC := Lib.hid C
                      have SC := fun w1 hB => natSub_ge w1 _ _ _ _ (Num.below (w' := w1) hO1.num hB) (Num.below (w' := w1) hO2.num hB) (by omega) (by omega) (by rw [val_dg, val_dg]; omega)
                      rw [val_dg, val_dg] at SC
                      have HSC := Lib.hid SC
                      have HG5 := Lib.hid (show Nat.gcd Q3 (P3 - Q3) = Nat.gcd P Q by rw [gcd_sub (by omega), Nat.gcd_comm, HG4.out])
                      have HO2 := Lib.hid hO2
                      clear C SC hml hO1 hO2 hg3
                      go_wp2_with fail
                      refine (HC.out).mono ?_
                      rintro e w5 ⟨rfl, hB5⟩
                      have hB6 := below_then hB hB5
                      go_wp2_with fail
                      refine (HSC.out w5 hB5).mono ?_
                      rintro e w6 ⟨r, rfl, hO6, hB7⟩
                      have HO6 := Lib.hid (hO6.mono hB6.size)
                      have HO7 := Lib.hid ((HO2.out.below hB5 (Nat.le_refl _)).below hB7 (Nat.le_refl _))
                      have HB8 := Lib.hid (below_then hB6 hB7)
                      have HV1 := Lib.hid (valIn_dg HO6.out.num)
                      have HV2 := Lib.hid (valIn_dg HO7.out.num)
                      clear hO6 hB5 hB6 hB7 hB HO2 HC HSC
                      go_wp2_with fail
                      go_roundw
                      case rel => exact ⟨Q3, P3 - Q3, hQ30, .inl hq31, by omega, by omega, HG5.out, HO7.out, HO6.out, HB8.out⟩
                      case measure => rw [HV1.out, HV2.out, HML.out, HMR.out]; omega
                    · obtain ⟨z, hz, hz0⟩ : ∃ z : Int, cmpI P3 Q3 = z ∧ z ≤ 0 := by
                        refine ⟨_, rfl, ?_⟩
                        rcases Nat.lt_or_ge P3 Q3 with h | h
                        · rw [cmpI_lt h]; omega
                        · rw [show P3 = Q3 by omega, cmpI_eq]; omega
                      rw [hz] at C
                      have HC := Lib.hid C
                      have SC := fun w1 hB => natSub_ge w1 _ _ _ _ (Num.below (w' := w1) hO2.num hB) (Num.below (w' := w1) hO1.num hB) (by omega) (by omega) (by rw [val_dg, val_dg]; omega)
                      rw [val_dg, val_dg] at SC
                      have HSC := Lib.hid SC
                      have HG5 := Lib.hid (show Nat.gcd P3 (Q3 - P3) = Nat.gcd P Q by rw [gcd_sub (by omega), HG4.out])
                      have HO1 := Lib.hid hO1
                      clear C SC hml hO1 hO2 hg3 hz
                      go_wp2_with fail
                      refine (HC.out).mono ?_
                      rintro e w5 ⟨rfl, hB5⟩
                      have hB6 := below_then hB hB5
                      go_wp2_with fail
                      refine (HSC.out w5 hB5).mono ?_
                      rintro e w6 ⟨r, rfl, hO6, hB7⟩
                      have HO6 := Lib.hid (hO6.mono hB6.size)
                      have HO7 := Lib.hid ((HO1.out.below hB5 (Nat.le_refl _)).below hB7 (Nat.le_refl _))
                      have HB8 := Lib.hid (below_then hB6 hB7)
                      have HV1 := Lib.hid (valIn_dg HO6.out.num)
                      have HV2 := Lib.hid (valIn_dg HO7.out.num)
                      clear hO6 hB5 hB6 hB7 hB HO1 HC HSC
                      go_wp2_with fail
                      go_roundw
                      case rel => exact ⟨P3, Q3 - P3, hP30, .inl hp31, by omega, by omega, HG5.out, HO7.out, HO6.out, HB8.out⟩
                      case measure => rw [HV1.out, HV2.out, HML.out, HMR.out]; omega
      · have hpe : P % 2 = 0 := by omega
        have hqo : Q % 2 = 1 := by omega
        rw [hpe] at hand1
        rw [hqo] at hand2
        have hki : (k : Int) ≤ 32000000 := by omega
        have HG := Lib.hid hg
        have HO1 := Lib.hid hO1
        have HO2 := Lib.hid hO2
        clear hm hg hPX hO1 hO2
        go_wp2_with fail
        go_loopw [5, 6] (fun x y wr => ∃ P2 Q2 : Nat, 0 < P2 ∧ (P2 % 2 = 1 ∨ Q2 % 2 = 1) ∧ P2 ≤ X + Y ∧ Q2 ≤ X + Y ∧ Nat.gcd P2 Q2 = Nat.gcd P Q ∧ Own w.heap.size wr x (dg P2) ∧ Own w.heap.size wr y (dg Q2) ∧ Below w.heap.size w wr) (fun x y wr => valIn wr x + valIn wr y)
        case atStart => exact ⟨P, Q, hP0, hpar, by omega, by omega, rfl, HO1.out, HO2.out, hB⟩
        case round =>
          clear HO1 HO2 hB hand1 hand2 hc1 hc2
          obtain ⟨P2, Q2, hP20, hpar2, hP2M, hQ2M, hg2, hO1, hO2, hB⟩ := hrel
          have hP2l := Nat.le_trans (dg_length_mono hP2M) hXY
          have hQ2l := Nat.le_trans (dg_length_mono hQ2M) hXY
          obtain ⟨A2, c2, e2⟩ := hO2.num.form
          rcases Nat.eq_zero_or_pos Q2 with hq0 | hq0
          · subst hq0
            rw [show (dg 0).length = 0 from rfl] at e2
            subst e2
            rw [Nat.gcd_zero_right] at hg2
            have hGE : P2 * 2 ^ k = Nat.gcd X Y := by rw [hg2]; exact HG.out
            have hbnd : ∀ j, j ≤ k → (dg (P2 * 2 ^ j)).length ≤ 1000000 := by
              intro j hj
              have h1 : P2 * 2 ^ j ≤ P2 * 2 ^ k := Nat.mul_le_mul_left _ (Nat.pow_le_pow_right (by omega) hj)
              rw [hGE] at h1
              have h2 := Nat.le_of_dvd hxp (Nat.gcd_dvd_left X Y)
              have := dg_length_mono (Nat.le_trans h1 h2)
              omega
            have HGE := Lib.hid hGE
            have HBND := Lib.hid hbnd
            clear hGE hbnd hO2 hg2
            go_wp2_with fail
            go_loopw [5, 8] (fun x i wr => ∃ j : Nat, j ≤ k ∧ i = .int .i64 j ∧ Own w.heap.size wr x (dg (P2 * 2 ^ j)) ∧ Below w.heap.size w wr) (fun _ i _ => k - (intOf i).toNat)
            case atStart => exact ⟨0, Nat.zero_le _, rfl, by rw [Nat.pow_zero, Nat.mul_one]; exact hO1, hB⟩
            case round =>
              clear hO1 hB
              obtain ⟨j, hj, rfl, hO, hB⟩ := hrel
              by_cases hjk : j < k
              · have hjki : (j : Int) < k := by omega
                have D := double_c _ _ _ 0 hO.num (by have := HBND.out j hj; omega) (by omega)
                rw [val_dg, show 2 * (P2 * 2 ^ j) + 0 = P2 * 2 ^ (j + 1) by rw [Nat.pow_succ, Nat.mul_comm (2 ^ j), Nat.mul_left_comm]; rfl] at D
                have HD := Lib.hid D
                clear D hO
                go_wp2_with fail
                refine (HD.out).mono ?_
                rintro e w7 ⟨r7, rfl, hO7, hB7⟩
                have HO7 := Lib.hid (hO7.mono hB.size)
                have HB7 := Lib.hid (below_then hB hB7)
                clear hO7 hB7 hB HD
                go_wp2_with fail
                go_roundw
                case rel => exact ⟨j + 1, by omega, by go_num, HO7.out, HB7.out⟩
                case measure => simp [intOf]; omega
              · have hjki : ¬ (j : Int) < k := by omega
                obtain rfl : j = k := by omega
                rw [HGE.out] at hO
                have HO := Lib.hid hO
                clear hO
                go_wp2_with fail
                go_ret
                exact ⟨_, rfl, HO.out, hB⟩
          · have hml := valIn_dg hO1.num
            have hmr := valIn_dg hO2.num
            subst e2
            have hlq : 0 < (dg Q2).length := by
              rcases Nat.eq_zero_or_pos (dg Q2).length with h | h
              · have := dg_len0 h; omega
              · omega
            have hlqi : (0 : Int) < (dg Q2).length := by omega
            have HML := Lib.hid hml
            have HMR := Lib.hid hmr
            have HG2 := Lib.hid hg2
            have HO1 := Lib.hid hO1
            have HO2 := Lib.hid hO2
            clear hml hmr hg2 hO1 hO2
            go_wp2_with fail
            go_loopw [5] (fun x wr => ∃ P3 : Nat, 0 < P3 ∧ P3 ≤ P2 ∧ (P3 % 2 = 1 ∨ Q2 % 2 = 1) ∧ Nat.gcd P3 Q2 = Nat.gcd P2 Q2 ∧ Own w.heap.size wr x (dg P3) ∧ Own w.heap.size wr (.slice A2 (dg Q2).length c2) (dg Q2) ∧ Below w.heap.size w wr) (fun x wr => valIn wr x)
            case atStart => exact ⟨P2, hP20, Nat.le_refl _, hpar2, rfl, HO1.out, HO2.out, hB⟩
            case round =>
              clear HO1 HO2 hB
              obtain ⟨P3, hP30, hP32, hpar3, hg3, hO1, hO2, hB⟩ := hrel
              have hP3l := Nat.le_trans (dg_length_mono hP32) hP2l
              obtain ⟨A1, c1, e1⟩ := hO1.num.form
              have hml := valIn_dg hO1.num
              subst e1
              obtain ⟨b1, f1, d1, rfl, hc1, hand1, hl1, hd1⟩ := hO1.num.low hP30
              by_cases hp3 : P3 % 2 = 0
              · rw [hp3] at hand1
                have H1 := half_c _ _ _ hO1.num (by omega)
                rw [val_dg] at H1
                have HH1 := Lib.hid H1
                have HM3 := Lib.hid hml
                have HG3 := Lib.hid ((gcd_half hp3 (by omega : Q2 % 2 = 1)).trans hg3)
                have HO2 := Lib.hid hO2
                clear H1 hml hg3 hO1 hO2
                go_wp2_with fail
                refine (HH1.out).mono ?_
                rintro e w3 ⟨r, rfl, hO3, hB3⟩
                have HO3 := Lib.hid (hO3.mono hB.size)
                have HO4 := Lib.hid (HO2.out.below hB3 (Nat.le_refl _))
                have HMR3 := Lib.hid (valIn_dg HO3.out.num)
                have HB3 := Lib.hid (below_then hB hB3)
                clear hO3 hB3 hB HH1 HO2
                go_wp2_with fail
                go_roundw
                case rel => exact ⟨P3 / 2, by omega, by omega, by omega, HG3.out, HO3.out, HO4.out, HB3.out⟩
                case measure => rw [HMR3.out, HM3.out]; omega
              · have hp31 : P3 % 2 = 1 := by omega
                rw [hp31] at hand1
                have HG3 := Lib.hid hg3
                have HO1 := Lib.hid hO1
                have HO2 := Lib.hid hO2
                clear hml hg3 hO1 hO2
                go_wp2_with fail
                go_loopw [6] (fun y wr => ∃ Q3 : Nat, 0 < Q3 ∧ Q3 ≤ Q2 ∧ Nat.gcd P3 Q3 = Nat.gcd P2 Q2 ∧ Own w.heap.size wr (.slice (some ⟨b1, f1, none⟩) (dg P3).length c1) (dg P3) ∧ Own w.heap.size wr y (dg Q3) ∧ Below w.heap.size w wr) (fun y wr => valIn wr y)
                case atStart => exact ⟨Q2, hq0, Nat.le_refl _, HG3.out, HO1.out, HO2.out, hB⟩
                case round =>
                  clear HO1 HO2 hB hc1
                  obtain ⟨Q3, hQ30, hQ32, hg3, hO1, hO2, hB⟩ := hrel
                  have hQ3l := Nat.le_trans (dg_length_mono hQ32) hQ2l
                  obtain ⟨A3, c3, e3⟩ := hO2.num.form
                  have hml := valIn_dg hO2.num
                  subst e3
                  obtain ⟨b3, f3, d3, rfl, hc3, hand3, hl3, hd3⟩ := hO2.num.low hQ30
                  by_cases hq3 : Q3 % 2 = 0
                  · rw [hq3] at hand3
                    have H1 := half_c _ _ _ hO2.num (by omega)
                    rw [val_dg] at H1
                    have HH1 := Lib.hid H1
                    have HM3 := Lib.hid hml
                    have HG4 := Lib.hid (show Nat.gcd P3 (Q3 / 2) = Nat.gcd P2 Q2 by rw [Nat.gcd_comm, gcd_half hq3 hp31, Nat.gcd_comm, hg3])
                    have HO1 := Lib.hid hO1
                    clear H1 hml hg3 hO1 hO2
                    go_wp2_with fail
                    refine (HH1.out).mono ?_
                    rintro e w3 ⟨r, rfl, hO3, hB3⟩
                    have HO3 := Lib.hid (hO3.mono hB.size)
                    have HO4 := Lib.hid (HO1.out.below hB3 (Nat.le_refl _))
                    have HMR3 := Lib.hid (valIn_dg HO3.out.num)
                    have HB3 := Lib.hid (below_then hB hB3)
                    clear hO3 hB3 hB HH1 HO1
                    go_wp2_with fail
                    go_roundw
                    case rel => exact ⟨Q3 / 2, by omega, by omega, HG4.out, HO4.out, HO3.out, HB3.out⟩
                    case measure => rw [HMR3.out, HM3.out]; omega
                  · have hq31 : Q3 % 2 = 1 := by omega
                    rw [hq31] at hand3
                    have C := natCmp_c _ _ _ _ _ hO1.num hO2.num (by omega) (by omega)
                    rw [val_dg, val_dg] at C
                    have HG4 := Lib.hid (hg3.trans HG2.out)
                    rcases Nat.lt_or_ge Q3 P3 with hlt | hge
                    · rw [cmpI_gt hlt] at C
                      have HC := Lib.hid C
                      have SC := fun w1 hB => natSub_ge w1 _ _ _ _ (Num.below (w' := w1) hO1.num hB) (Num.below (w' := w1) hO2.num hB) (by omega) (by omega) (by rw [val_dg, val_dg]; omega)
                      rw [val_dg, val_dg] at SC
                      have HSC := Lib.hid SC
                      have HG5 := Lib.hid (show Nat.gcd Q3 (P3 - Q3) = Nat.gcd P Q by rw [gcd_sub (by omega), Nat.gcd_comm, HG4.out])
                      have HO2 := Lib.hid hO2
                      clear C SC hml hO1 hO2 hg3
                      go_wp2_with fail
                      refine (HC.out).mono ?_
                      rintro e w5 ⟨rfl, hB5⟩
                      have hB6 := below_then hB hB5
                      go_wp2_with fail
                      refine (HSC.out w5 hB5).mono ?_
                      rintro e w6 ⟨r, rfl, hO6, hB7⟩
                      have HO6 := Lib.hid (hO6.mono hB6.size)
                      have HO7 := Lib.hid ((HO2.out.below hB5 (Nat.le_refl _)).below hB7 (Nat.le_refl _))
                      have HB8 := Lib.hid (below_then hB6 hB7)
                      have HV1 := Lib.hid (valIn_dg HO6.out.num)
                      have HV2 := Lib.hid (valIn_dg HO7.out.num)
                      clear hO6 hB5 hB6 hB7 hB HO2 HC HSC
                      go_wp2_with fail
                      go_roundw
                      case rel => exact ⟨Q3, P3 - Q3, hQ30, .inl hq31, by omega, by omega, HG5.out, HO7.out, HO6.out, HB8.out⟩
                      case measure => rw [HV1.out, HV2.out, HML.out, HMR.out]; omega
                    · obtain ⟨z, hz, hz0⟩ : ∃ z : Int, cmpI P3 Q3 = z ∧ z ≤ 0 := by
                        refine ⟨_, rfl, ?_⟩
                        rcases Nat.lt_or_ge P3 Q3 with h | h
                        · rw [cmpI_lt h]; omega
                        · rw [show P3 = Q3 by omega, cmpI_eq]; omega
                      rw [hz] at C
                      have HC := Lib.hid C
                      have SC := fun w1 hB => natSub_ge w1 _ _ _ _ (Num.below (w' := w1) hO2.num hB) (Num.below (w' := w1) hO1.num hB) (by omega) (by omega) (by rw [val_dg, val_dg]; omega)
                      rw [val_dg, val_dg] at SC
                      have HSC := Lib.hid SC
                      have HG5 := Lib.hid (show Nat.gcd P3 (Q3 - P3) = Nat.gcd P Q by rw [gcd_sub (by omega), HG4.out])
                      have HO1 := Lib.hid hO1
                      clear C SC hml hO1 hO2 hg3 hz
                      go_wp2_with fail
                      refine (HC.out).mono ?_
                      rintro e w5 ⟨rfl, hB5⟩
                      have hB6 := below_then hB hB5
                      go_wp2_with fail
                      refine (HSC.out w5 hB5).mono ?_
                      rintro e w6 ⟨r, rfl, hO6, hB7⟩
                      have HO6 := Lib.hid (hO6.mono hB6.size)
                      have HO7 := Lib.hid ((HO1.out.below hB5 (Nat.le_refl _)).below hB7 (Nat.le_refl _))
                      have HB8 := Lib.hid (below_then hB6 hB7)
                      have HV1 := Lib.hid (valIn_dg HO6.out.num)
                      have HV2 := Lib.hid (valIn_dg HO7.out.num)
                      clear hO6 hB5 hB6 hB7 hB HO1 HC HSC
                      go_wp2_with fail
                      go_roundw
                      case rel => exact ⟨P3, Q3 - P3, hP30, .inl hp31, by omega, by omega, HG5.out, HO7.out, HO6.out, HB8.out⟩
                      case measure => rw [HV1.out, HV2.out, HML.out, HMR.out]; omega
end
theorem natGCD_c (w : World) (va vb : Value) (xs ys : List Nat) (ha : Num w va xs) (hb : Num w vb ys) (hza : xs.length ≤ 1000000) (hzb : ys.length ≤ 1000000) :
    Calls Tryd.prog 86 #[va, vb] w (RNat w (Nat.gcd (val xs) (val ys))) := by
  rcases Nat.eq_zero_or_pos (val xs) with h | h
  · exact natGCD_x0 w va vb xs ys ha hb hza hzb h
  · rcases Nat.eq_zero_or_pos (val ys) with h2 | h2
    · exact natGCD_y0 w va vb xs ys ha hb hza hzb h h2
    · exact natGCD_pos w va vb xs ys ha hb hza hzb h h2
end Go.Proofs.YtpbkmkcfhkdjjaaDoor

namespace Go.Proofs.YtpbkmkcfhkdjjaaDoor
open Go.RowKit Dig
set_option linter.unusedVariables false

/-- v is a fraction with this sign and these digits. -/
def Fx (w : World) (v : Value) (neg : Bool) (xs ys : List Nat) : Prop := ∃ vn vd, v = .agg #[.bool neg, vn, vd] ∧ Num w vn xs ∧ Num w vd ys
theorem Fx.below {w w' : World} {v : Value} {neg : Bool} {xs ys : List Nat} (h : Fx w v neg xs ys) (hb : Below w.heap.size w w') : Fx w' v neg xs ys := by
  obtain ⟨vn, vd, e, h1, h2⟩ := h
  exact ⟨vn, vd, e, h1.below hb, h2.below hb⟩
theorem Fx.zero (w : World) : Fx w (.agg #[.bool false, .slice none 0 0, .slice none 0 0]) false [] [] := ⟨_, _, rfl, Num.nil w, Num.nil w⟩
end Go.Proofs.YtpbkmkcfhkdjjaaDoor

namespace Go.Proofs.YtpbkmkcfhkdjjaaDoor
open Go.RowKit Dig
set_option linter.unusedVariables false
section
variable {w : World} {va vb : Value} {a b k l : Nat}
theorem natOf_v (n : Nat) (hn : n < 18446744073709551616) : Calls Tryd.prog 54 #[.int .u64 (n : Int)] w (RCan w n 2) :=
  (natOf_c w n hn).mono fun e w' h => RCan.of h (by omega)
theorem natCmp_v (ha : NumV w va a k) (hb : NumV w vb b l) (hk : k ≤ 1000000) (hl : l ≤ 1000000) : Calls Tryd.prog 53 #[va, vb] w (RVal w (.int .i64 (cmpI a b))) := by
  obtain ⟨L, h1, h2, h3⟩ := ha
  obtain ⟨M, g1, g2, g3⟩ := hb
  subst h2
  subst g2
  exact natCmp_c w va vb L M h1 g1 (by omega) (by omega)
theorem natGCD_v (ha : NumV w va a k) (hb : NumV w vb b l) (hk : k ≤ 1000000) (hl : l ≤ 1000000) : Calls Tryd.prog 86 #[va, vb] w (RCan w (Nat.gcd a b) (k + l)) := by
  have hf := gcd_lt_pow ha.lt hb.lt
  obtain ⟨L, h1, h2, h3⟩ := ha
  obtain ⟨M, g1, g2, g3⟩ := hb
  subst h2
  subst g2
  exact (natGCD_c w va vb L M h1 g1 (by omega) (by omega)).mono fun e w' h => RCan.of h hf
end
end Go.Proofs.YtpbkmkcfhkdjjaaDoor

namespace Go.Proofs.YtpbkmkcfhkdjjaaDoor
open Go.RowKit Dig
set_option linter.unusedVariables false

theorem Can.form0 {w : World} {v : Value} {k : Nat} (h : Can w v 0 k) : ∃ A c, v = .slice A 0 c := by
  obtain ⟨A, c, e⟩ := h.1.form
  exact ⟨A, c, e⟩
theorem Can.formP {w : World} {v : Value} {n k : Nat} (h : Can w v n k) (hn : n ≠ 0) : ∃ A l c, v = .slice A l c ∧ ((l : Int) == 0) = false := by
  obtain ⟨A, c, e⟩ := h.1.form
  refine ⟨A, _, c, e, ?_⟩
  rw [beq_eq_false_iff_ne]
  intro h0
  exact hn (dg_len0 (by omega))
theorem RCanF.zero {w w2 : World} {y : Value} {k g : Nat} {p : Bool} {A A' : Option Addr} {m m' e e' : Nat} (hy : Can w2 y 1 k) (hF : Fcl w2 g p (.slice A m e) (.slice A' m' e')) (hB : Below w.heap.size w w2) (hg : w.heap.size ≤ g) (z : Value) :
    RCanF w 0 k (.returned (.agg #[.bool false, .slice none 0 0, y])) (stor3 w2 g z (.slice none 0 0) y) :=
  RCanF.stored (q := 0) rfl (show Can w2 _ 0 k from ⟨Num.nil _, pow_pos' k⟩) (show Can w2 _ 1 k from hy) hF hB hg z
section
variable {w : World} {vn vd : Value} {n d k : Nat}
set_option maxHeartbeats 2000000 in
theorem frac_zero (neg : Bool) (hn : NumV w vn n k) (hd : NumV w vd d k) (hk : k ≤ 400000) (h1 : 2 ≤ k) (h0 : n = 0 ∨ d = 0) :
    Calls Tryd.prog 63 #[.bool neg, vn, vd] w (RCanF w (fr neg n d) k) := by
  have hq : fr neg n d = 0 := (fr_eq_zero neg n d).2 h0
  rw [hq]
  have R0 := Lib.hid (Fcl.new w false (.slice none 0 0) (.slice none 0 0))
  have hB0 : Below w.heap.size w (w.alloc (.cells #[.bool false, .slice none 0 0, .slice none 0 0] 66)) := (Below.refl _ _).alloc (Nat.le_refl _) _
  have G := fun w1 hB => natGCD_v (w := w1) (hn.below hB) (hd.below hB) (by omega) (by omega)
  have O1 := Lib.hid (fun w1 : World => natOf_v (w := w1) 1 (by omega))
  by_cases hb : n = 0 ∧ d = 0
  · obtain ⟨rfl, rfl⟩ := hb
    rw [Nat.gcd_zero_left] at G
    have GG := Lib.hid G
    have D1 := Lib.hid (fun w1 hB x (hx : Can w1 x 0 (k + k)) => natDiv0_v (w := w1) (hn.below hB) hx.numV (by omega) (by omega))
    have D2 := Lib.hid (fun w1 hB x (hx : Can w1 x 0 (k + k)) => natDiv0_v (w := w1) (hd.below hB) hx.numV (by omega) (by omega))
    clear G hn hd hq h0
    go_enter Tryd.func63, Tryd.ntmps63
    go_wp2_with fail
    refine (GG.out _ hB0).mono ?_
    rintro e w1 ⟨x, rfl, hx, _, hB1⟩
    have R1 := R0.out.below hB1
    have hB1 := below_then hB0 hB1
    go_wp2_with fail
    refine (D1.out _ hB1 _ hx).mono ?_
    rintro e w2 ⟨rfl, hB2⟩
    have R2 := R1.below hB2
    have hx := hx.below hB2
    have hB2 := below_then hB1 hB2
    go_wp2_with fail
    refine (D2.out _ hB2 _ hx).mono ?_
    rintro e w3 ⟨rfl, hB3⟩
    have R3 := R2.below hB3
    have hB3 := below_then hB2 hB3
    go_wp2_with fail
    refine (O1.out _).mono ?_
    rintro e w4 ⟨y, rfl, hy, _, hB4⟩
    have R4 := R3.below hB4
    have hB4 := below_then hB3 hB4
    obtain ⟨C', o', r', rfl⟩ := hy.form
    obtain ⟨k0, k1, k2⟩ := R4.cells
    obtain ⟨f0, f1, f2⟩ := R4.frozen
    go_wp2_with fail
    refine bodyPost_ret (v := .agg #[.bool false, .slice none 0 0, .slice C' o' r']) (by rw [results_oneQ rfl]; go_simp) rfl ?_
    exact RCanF.zero (hy.le h1) R4 hB4 (Nat.le_refl _) _
  · have hg : 0 < Nat.gcd n d := by
      rcases Nat.eq_zero_or_pos n with h | h
      · exact Nat.gcd_pos_of_pos_right n (by omega)
      · exact Nat.gcd_pos_of_pos_left d h
    have GG := Lib.hid G
    by_cases hz : n = 0
    · subst hz
      have D1 := fun w1 hB x (hx : Can w1 x (Nat.gcd 0 d) (k + k)) => natDiv_v (w := w1) (hn.below hB) hx.numV (by omega) (by omega) hg
      have D2 := Lib.hid (fun w1 hB x (hx : Can w1 x (Nat.gcd 0 d) (k + k)) => natDiv_v (w := w1) (hd.below hB) hx.numV (by omega) (by omega) hg)
      rw [Nat.zero_div] at D1
      have D1 := Lib.hid D1
      clear G hn hd hq
      go_enter Tryd.func63, Tryd.ntmps63
      go_wp2_with fail
      refine (GG.out _ hB0).mono ?_
      rintro e w1 ⟨x, rfl, hx, _, hB1⟩
      have R1 := R0.out.below hB1
      have hB1 := below_then hB0 hB1
      go_wp2_with fail
      refine (D1.out _ hB1 _ hx).mono ?_
      rintro e w2 ⟨u, ur, rfl, hu, hur, _, _, hB2⟩
      have R2 := R1.below hB2
      have hx := hx.below hB2
      have hB2 := below_then hB1 hB2
      obtain ⟨ra, rb, rc, rfl⟩ := hur.form
      obtain ⟨ua, ub, rfl⟩ := hu.form0
      go_wp2_with fail
      refine (D2.out _ hB2 _ hx).mono ?_
      rintro e w3 ⟨v, vr, rfl, hv, hvr, _, _, hB3⟩
      have R3 := R2.below hB3
      have hu := hu.below hB3
      have hB3 := below_then hB2 hB3
      obtain ⟨sa, sb, sc, rfl⟩ := hvr.form
      obtain ⟨va, vb, vc, rfl⟩ := hv.form
      go_wp2_with fail
      refine (O1.out _).mono ?_
      rintro e w4 ⟨y, rfl, hy, _, hB4⟩
      have R4 := R3.below hB4
      have hB4 := below_then hB3 hB4
      obtain ⟨C', o', r', rfl⟩ := hy.form
      obtain ⟨k0, k1, k2⟩ := R4.cells
      obtain ⟨f0, f1, f2⟩ := R4.frozen
      go_wp2_with fail
      refine bodyPost_ret (v := .agg #[.bool false, .slice none 0 0, .slice C' o' r']) (by rw [results_oneQ rfl]; go_simp) rfl ?_
      exact RCanF.zero (hy.le h1) R4 hB4 (Nat.le_refl _) _
    · have hdz : d = 0 := by omega
      subst hdz
      have hne : n / Nat.gcd n 0 ≠ 0 := by rw [Nat.gcd_zero_right, Nat.div_self (by omega)]; omega
      have D1 := Lib.hid (fun w1 hB x (hx : Can w1 x (Nat.gcd n 0) (k + k)) => natDiv_v (w := w1) (hn.below hB) hx.numV (by omega) (by omega) hg)
      have D2 := fun w1 hB x (hx : Can w1 x (Nat.gcd n 0) (k + k)) => natDiv_v (w := w1) (hd.below hB) hx.numV (by omega) (by omega) hg
      rw [Nat.zero_div] at D2
      have D2 := Lib.hid D2
      clear G hn hd hq
      go_enter Tryd.func63, Tryd.ntmps63
      go_wp2_with fail
      refine (GG.out _ hB0).mono ?_
      rintro e w1 ⟨x, rfl, hx, _, hB1⟩
      have R1 := R0.out.below hB1
      have hB1 := below_then hB0 hB1
      go_wp2_with fail
      refine (D1.out _ hB1 _ hx).mono ?_
      rintro e w2 ⟨u, ur, rfl, hu, hur, _, _, hB2⟩
      have R2 := R1.below hB2
      have hx := hx.below hB2
      have hB2 := below_then hB1 hB2
      obtain ⟨ra, rb, rc, rfl⟩ := hur.form
      obtain ⟨ua, ub, uc, rfl, hul⟩ := hu.formP hne
      go_wp2_with fail
      refine (D2.out _ hB2 _ hx).mono ?_
      rintro e w3 ⟨v, vr, rfl, hv, hvr, _, _, hB3⟩
      have R3 := R2.below hB3
      have hu := hu.below hB3
      have hB3 := below_then hB2 hB3
      obtain ⟨sa, sb, sc, rfl⟩ := hvr.form
      obtain ⟨va, vb, rfl⟩ := hv.form0
      go_wp2_with fail
      refine (O1.out _).mono ?_
      rintro e w4 ⟨y, rfl, hy, _, hB4⟩
      have R4 := R3.below hB4
      have hB4 := below_then hB3 hB4
      obtain ⟨C', o', r', rfl⟩ := hy.form
      obtain ⟨k0, k1, k2⟩ := R4.cells
      obtain ⟨f0, f1, f2⟩ := R4.frozen
      go_wp2_with fail
      refine bodyPost_ret (v := .agg #[.bool false, .slice none 0 0, .slice C' o' r']) (by rw [results_oneQ rfl]; go_simp) rfl ?_
      exact RCanF.zero (hy.le h1) R4 hB4 (Nat.le_refl _) _
set_option maxHeartbeats 2000000 in
theorem frac_pos (neg : Bool) (hn : NumV w vn n k) (hd : NumV w vd d k) (hk : k ≤ 400000) (h0 : n ≠ 0) (h0' : d ≠ 0) :
    Calls Tryd.prog 63 #[.bool neg, vn, vd] w (RCanF w (fr neg n d) k) := by
  obtain ⟨e1, e2, e3⟩ := fr_parts neg h0 h0'
  have hg := gcd_div_pos h0 h0'
  have hn1 : n / Nat.gcd n d ≠ 0 := by
    have := Nat.div_pos (Nat.gcd_le_left d (by omega)) hg
    omega
  have hd1 : d / Nat.gcd n d ≠ 0 := by
    have := Nat.div_pos (Nat.gcd_le_right n (by omega)) hg
    omega
  have R0 := Lib.hid (Fcl.new w false (.slice none 0 0) (.slice none 0 0))
  have hB0 : Below w.heap.size w (w.alloc (.cells #[.bool false, .slice none 0 0, .slice none 0 0] 66)) := (Below.refl _ _).alloc (Nat.le_refl _) _
  have GG := Lib.hid (fun w1 hB => natGCD_v (w := w1) (hn.below hB) (hd.below hB) (by omega) (by omega))
  have D1 := fun w1 hB x (hx : Can w1 x (Nat.gcd n d) (k + k)) => natDiv_v (w := w1) (hn.below hB) hx.numV (by omega) (by omega) hg
  have D2 := fun w1 hB x (hx : Can w1 x (Nat.gcd n d) (k + k)) => natDiv_v (w := w1) (hd.below hB) hx.numV (by omega) (by omega) hg
  rw [← e2] at D1 hn1
  rw [← e3] at D2 hd1
  have D1 := Lib.hid D1
  have D2 := Lib.hid D2
  generalize fr neg n d = q at *
  have E1 := Lib.hid e1
  clear e1 e2 e3 hn hd hg
  generalize Nat.gcd n d = gg at *
  go_enter Tryd.func63, Tryd.ntmps63
  go_wp2_with fail
  refine (GG.out _ hB0).mono ?_
  rintro e w1 ⟨x, rfl, hx, _, hB1⟩
  have R1 := R0.out.below hB1
  have hB1 := below_then hB0 hB1
  go_wp2_with fail
  refine (D1.out _ hB1 _ hx).mono ?_
  rintro e w2 ⟨u, ur, rfl, hu, hur, _, _, hB2⟩
  have R2 := R1.below hB2
  have hx := hx.below hB2
  have hB2 := below_then hB1 hB2
  obtain ⟨ra, rb, rc, rfl⟩ := hur.form
  obtain ⟨ua, ub, uc, rfl, hul⟩ := hu.formP hn1
  go_wp2_with fail
  refine (D2.out _ hB2 _ hx).mono ?_
  rintro e w3 ⟨v, vr, rfl, hv, hvr, _, _, hB3⟩
  have R3 := R2.below hB3
  have hu := hu.below hB3
  have hB3 := below_then hB2 hB3
  obtain ⟨sa, sb, sc, rfl⟩ := hvr.form
  obtain ⟨va, vb, vc, rfl, hvl⟩ := hv.formP hd1
  obtain ⟨k0, k1, k2⟩ := R3.cells
  obtain ⟨f0, f1, f2⟩ := R3.frozen
  go_wp2_with fail
  refine bodyPost_ret (v := .agg #[.bool neg, .slice ua ub uc, .slice va vb vc]) (by rw [results_oneQ rfl]; go_simp) rfl ?_
  exact RCanF.stored E1.out hu hv R3 hB3 (Nat.le_refl _) _
theorem frac_v (neg : Bool) (hn : NumV w vn n k) (hd : NumV w vd d k) (hk : k ≤ 400000) (h1 : 2 ≤ k) :
    Calls Tryd.prog 63 #[.bool neg, vn, vd] w (RCanF w (fr neg n d) k) := by
  by_cases h0 : n = 0 ∨ d = 0
  · exact frac_zero neg hn hd hk h1 h0
  · exact frac_pos neg hn hd hk (fun h => h0 (.inl h)) (fun h => h0 (.inr h))
end

section
variable {w w' : World} {v : Value} {q : Rat} {k : Nat}
set_option maxHeartbeats 1000000 in
theorem fracNorm_v (h : FracV w v q k) (hk : k ≤ 400000) (h1 : 2 ≤ k) : Calls Tryd.prog 51 #[v] w (RCanF w q k) := by
  obtain ⟨neg, A, m, c, A', m', c', n, d, rfl, hn, hd, hq⟩ := h.parts
  have R0 := Lib.hid (Fcl.new2 w (.cells #[.bool neg, .slice A m c, .slice A' m' c'] 66) false (.slice none 0 0) (.slice none 0 0))
  have hB0 := below_alloc2 w (.cells #[.bool neg, .slice A m c, .slice A' m' c'] 66) (.cells #[.bool false, .slice none 0 0, .slice none 0 0] 66)
  have RD := fun w1 hB => frac_v (w := w1) neg (hn.below hB) (hd.below hB) hk h1
  rw [hq] at RD
  have RR := Lib.hid RD
  clear RD hn hd hq h
  go_enter Tryd.func51, Tryd.ntmps51
  go_wp2_with fail
  refine (RR.out _ hB0).mono ?_
  rintro e w1 ⟨v, rfl, hv, hB1⟩
  have R1 := R0.out.below hB1
  have hB1 := below_then hB0 hB1
  obtain ⟨b, B, i, j, B', i', j', rfl, hb, hx, hy⟩ := hv.parts
  obtain ⟨c0, c1, c2⟩ := R1.cells
  obtain ⟨f0, f1, f2⟩ := R1.frozen
  have HR := Lib.hid R1
  have HX := Lib.hid hx
  have HY := Lib.hid hy
  have HBB := Lib.hid hb
  clear R1 hx hy hv hb
  go_wp2_with fail
  refine bodyPost_ret (v := .agg #[.bool b, .slice B i j, .slice B' i' j']) (by rw [results_oneQ rfl]; go_simp) rfl ?_
  exact RCanF.stored HBB.out HX.out HY.out HR.out hB1 (by omega) _
end
end Go.Proofs.YtpbkmkcfhkdjjaaDoor

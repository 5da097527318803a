/- The contracts of the reference functions half, NatGCD and NatUint64. -/
import Derived.Test.YticakmcjiofhoaaRefD
import Derived.Test.YticakmcjiofhoaaGcd
namespace Go.Proofs.Yticakmcjiofhoaa
open Go.RowKit Dig
set_option linter.unusedVariables false

namespace Dig
/-- After k digits of the half. -/
def HalfEq (xs : List Nat) (k v _c : Nat) : Prop := 2 * v + xs.getD 0 0 % 2 = val (xs.take k) + 4294967296 ^ k * (xs.getD k 0 % 2)
theorem HalfEq.start (xs : List Nat) : AppRel (HalfEq xs) [] 0 0 := ⟨rfl, Small.nil, by simp [HalfEq, val]⟩
theorem half_digit {x y : Nat} (hx : x < 4294967296) : x / 2 + 2147483648 * (y % 2) < 4294967296 := by
  have := Nat.mod_lt y (show 0 < 2 by omega)
  omega
theorem HalfEq.step {xs zs : List Nat} {k x y : Nat} (h : AppRel (HalfEq xs) zs k 0) (hx : xs.getD k 0 = x) (hy : xs.getD (k + 1) 0 = y) (hxb : x < 4294967296) :
    AppRel (HalfEq xs) (zs ++ [x / 2 + 2147483648 * (y % 2)]) (k + 1) 0 := by
  obtain ⟨hl, hs, he⟩ := h
  refine ⟨by simp [hl], hs.snoc (half_digit hxb), ?_⟩
  unfold HalfEq at he ⊢
  rw [val_snoc, hl, take_all_getD xs, hx, hy, Nat.pow_succ]
  rw [hx] at he
  have hd := Nat.div_add_mod x 2
  generalize x / 2 = h at *
  generalize x % 2 = m at *
  subst hd
  generalize (4294967296 : Nat) ^ k = P at *
  generalize y % 2 = m2 at *
  generalize val (xs.take k) = X at *
  have e1 : P * (h + 2147483648 * m2) * 2 = P * (2 * h) + P * 4294967296 * m2 := by grind
  have e2 : P * (2 * h + m) = P * (2 * h) + P * m := Nat.mul_add _ _ _
  omega
theorem HalfEq.done {xs zs : List Nat} (h : AppRel (HalfEq xs) zs xs.length 0) : val zs = val xs / 2 := by
  obtain ⟨hl, hs, he⟩ := h
  unfold HalfEq at he
  rw [List.take_of_length_le (Nat.le_refl _), show xs.getD xs.length 0 = 0 by rw [List.getD_eq_getElem?_getD, List.getElem?_eq_none (Nat.le_refl _)]; rfl] at he
  have := Nat.mod_lt (xs.getD 0 0) (show 0 < 2 by omega)
  simp at he
  omega
end Dig
theorem or_top (x y : Nat) (hx : x < 4294967296) (hy : y < 4294967296) : bits .or .u32 ((x : Int) / 2) ((y : Int) * 2147483648 % 4294967296) = ((x / 2 + 2147483648 * (y % 2) : Nat) : Int) := by
  have h := u32_or_nat (x / 2) (2147483648 * (y % 2)) (by omega) (by omega)
  have e1 : ((x / 2 : Nat) : Int) = (x : Int) / 2 := by omega
  have e2 : ((2147483648 * (y % 2) : Nat) : Int) = (y : Int) * 2147483648 % 4294967296 := by omega
  rw [e1, e2] at h
  rw [h]
  congr 1
  have := Nat.shiftLeft_add_eq_or_of_lt (i := 31) (b := x / 2) (by omega) (y % 2)
  rw [Nat.shiftLeft_eq] at this
  rw [Nat.or_comm, Nat.mul_comm 2147483648, show (2147483648 : Nat) = 2 ^ 31 from rfl, ← this, Nat.add_comm]

set_option maxHeartbeats 4000000 in
theorem half_c (w : World) (va : Value) (xs : List Nat) (ha : Num w va xs) (hza : xs.length ≤ 4398046511104) :
    Calls Try.prog 54 #[va] w (RNat w (val xs / 2)) := by
  obtain ⟨A, c, rfl⟩ := ha.form
  have hba := ha.bounds.2
  have hla : (xs.length : Int) ≤ 4398046511104 := by omega
  go_enter Try.func54, Try.ntmps54
  go_wp2_with fail
  go_loopw [3, 4] (fun out i wr => ∃ (k : Nat) (zs : List Nat), k ≤ xs.length ∧ i = .int .i64 k ∧ AppRel (HalfEq xs) zs k 0 ∧ Own w.heap.size wr out zs ∧ Below w.heap.size w wr) (fun _ i _ => xs.length - (intOf i).toNat)
  case atStart => exact ⟨0, [], Nat.zero_le _, rfl, HalfEq.start xs, Own.nil _ _, Below.refl _ _⟩
  case round =>
    obtain ⟨k, zs, hk, rfl, hr, hO, hB⟩ := hrel
    have hzl := hr.1
    have hki : (k : Int) ≤ 4398046511104 := by omega
    have bx := ha.small.get k
    have bbx := ha.small.get (k + 1)
    by_cases h1 : k < xs.length
    · obtain ⟨b, off, rfl, hbw, hall⟩ := ha.cells (by omega)
      have hcw := hall k h1
      have hcy := hall (k + 1)
      clear hall
      generalize hxx : xs.getD k 0 = x at hcw bx
      generalize hyy : xs.getD (k + 1) 0 = y at hcy bbx
      have hcx := (hB.cell (p := ⟨b, off + k, none⟩) hbw).trans hcw
      clear hcw
      have h1i : (k : Int) < xs.length := by omega
      have HR := Lib.hid (HalfEq.step hr hxx hyy bx)
      have HOO := Lib.hid hO
      have HBB := Lib.hid hB
      have HZL := Lib.hid (show zs.length ≤ 4398046511104 by omega)
      by_cases h2 : k + 1 < xs.length
      · have hcy2 := (hB.cell (p := ⟨b, off + (k + 1), none⟩) hbw).trans (hcy h2)
        have h2i : (k : Int) + 1 < xs.length := by omega
        have hor := or_top x y bx bbx
        have HN := Lib.hid (Num.one wr (x / 2 + 2147483648 * (y % 2)) (bits .or .u32 ((x : Int) / 2) ((y : Int) * 2147483648 % 4294967296)) (half_digit bx) hor)
        have HOA := Lib.hid (hO.alloc (.cells #[.int .u32 (bits .or .u32 ((x : Int) / 2) ((y : Int) * 2147483648 % 4294967296))] 50))
        clear hr hxx hyy hzl hk h1 h2 hO hB hor hcy
        go_wp2_with (at_builtin; refine wp_append rfl _ _ rfl w.heap.size _ zs rfl HOA.out (.slice (some ⟨wr.heap.size, 0, none⟩) 1 1) [x / 2 + 2147483648 * (y % 2)] rfl HN.out (by have := HZL.out; simp; omega) (by have := HBB.out.size; simp; omega) ?_; intro v' w' hv' hg' _; have hB3 := below_own HBB.out (grown_after_alloc hg') HOO.out (Nat.le_refl _))
        go_roundw
        case rel => exact ⟨k + 1, _, by omega, by go_num, HR.out, hv', hB3⟩
        case measure => simp [intOf]; omega
      · have h2i : ¬ (k : Int) + 1 < xs.length := by omega
        have hy0 : y = 0 := by rw [← hyy, List.getD_eq_getElem?_getD, List.getElem?_eq_none (by omega)]; rfl
        subst hy0
        have HN := Lib.hid (Num.one wr (x / 2 + 2147483648 * (0 % 2)) ((x : Int) / 2) (by omega) (by omega))
        have HOA := Lib.hid (hO.alloc (.cells #[.int .u32 ((x : Int) / 2)] 50))
        clear hr hxx hyy hzl hk h1 h2 hO hB hcy
        go_wp2_with (at_builtin; refine wp_append rfl _ _ rfl w.heap.size _ zs rfl HOA.out (.slice (some ⟨wr.heap.size, 0, none⟩) 1 1) [x / 2 + 2147483648 * (0 % 2)] rfl HN.out (by have := HZL.out; simp; omega) (by have := HBB.out.size; simp; omega) ?_; intro v' w' hv' hg' _; have hB3 := below_own HBB.out (grown_after_alloc hg') HOO.out (Nat.le_refl _))
        go_roundw
        case rel => exact ⟨k + 1, _, by omega, by go_num, HR.out, hv', hB3⟩
        case measure => simp [intOf]; omega
    · have h1i : ¬ (k : Int) < xs.length := by omega
      obtain rfl : k = xs.length := by omega
      have he := HalfEq.done hr
      have NN := natNorm_c wr _ _ hO.num (by omega)
      rw [he] at NN
      have HNN := Lib.hid NN
      clear NN hr he hO
      go_wp2_with fail
      refine (HNN.out).mono ?_
      rintro e w3 ⟨r, rfl, hO3, hB4⟩
      go_wp2_with fail
      go_ret
      exact ⟨_, rfl, hO3.mono hB.size, below_then hB hB4⟩

namespace Dig
theorem dg_par (n : Nat) : (dg n).getD 0 0 % 2 = n % 2 := by
  have h := drop_any (dg n) 0
  rw [List.drop_zero, val_dg] at h
  omega
theorem gcd_half {P Q : Nat} (hP : P % 2 = 0) (hQ : Q % 2 = 1) : Nat.gcd (P / 2) Q = Nat.gcd P Q := by
  have e : P = 2 * (P / 2) := by omega
  have hc : Nat.Coprime 2 Q := by
    rw [Nat.coprime_iff_gcd_eq_one, Nat.gcd_rec, hQ, Nat.gcd_one_left]
  rw [e, Nat.mul_div_cancel_left _ (by omega)]
  exact (Nat.Coprime.gcd_mul_left_cancel (P / 2) hc).symm
theorem gcd_halves {P Q : Nat} (hP : P % 2 = 0) (hQ : Q % 2 = 0) : Nat.gcd P Q = Nat.gcd (P / 2) (Q / 2) * 2 := by
  have e1 : P = P / 2 * 2 := by omega
  have e2 : Q = Q / 2 * 2 := by omega
  conv => lhs; rw [e1, e2]
  exact Nat.gcd_mul_right _ _ _
theorem gcd_sub {P Q : Nat} (h : P ≤ Q) : Nat.gcd P (Q - P) = Nat.gcd P Q := by
  conv => rhs; rw [show Q = (Q - P) + P by omega]
  simp
end Dig
theorem and_one (x : Nat) (hx : x < 4294967296) : bits .and .u32 (x : Int) 1 = ((x % 2 : Nat) : Int) := by
  have h1 := u32_and_nat x 1 hx (by omega)
  exact h1.trans (by rw [Nat.and_one_is_mod])
/-- The lowest digit of a number above 0. -/
theorem Num.low {w : World} {A : Option Addr} {c P : Nat} (h : Num w (.slice A (dg P).length c) (dg P)) (hP : 0 < P) : ∃ b off d, A = some ⟨b, off, none⟩ ∧ w.cell? ⟨b, off, none⟩ = some (.int .u32 (d : Nat)) ∧ bits .and .u32 (d : Int) 1 = ((P % 2 : Nat) : Int) ∧ 0 < (dg P).length ∧ d < 4294967296 := by
  have hl : 0 < (dg P).length := by
    rcases Nat.eq_zero_or_pos (dg P).length with h | h
    · have := dg_len0 h; omega
    · exact h
  obtain ⟨b, off, rfl, _, hall⟩ := h.cells hl
  have h0 := hall 0 hl
  have hd := (small_dg P).get 0
  exact ⟨b, off, (dg P).getD 0 0, rfl, h0, by rw [and_one _ hd, dg_par], hl, hd⟩

section
variable (w : World) (va vb : Value) (xs ys : List Nat) (ha : Num w va xs) (hb : Num w vb ys) (hza : xs.length ≤ 1000000) (hzb : ys.length ≤ 1000000)
include ha hb hza hzb

set_option maxHeartbeats 1000000 in
theorem natGCD_x0 (h0 : val xs = 0) : Calls Try.prog 33 #[va, vb] w (RNat w (Nat.gcd (val xs) (val ys))) := by
  have Na := natNorm_c w va xs ha (by omega)
  have Nb := fun w1 hB => natNorm_c w1 vb ys (Num.below (w' := w1) hb hB) (by omega)
  rw [h0] at Na ⊢
  rw [Nat.gcd_zero_left]
  have HNa := Lib.hid Na
  have HNb := Lib.hid Nb
  clear Na Nb
  go_enter Try.func33, Try.ntmps33
  go_wp2_with fail
  refine (HNa.out).mono ?_
  rintro e w1 ⟨x, rfl, hO1, hB1⟩
  go_wp2_with fail
  refine (HNb.out w1 hB1).mono ?_
  rintro e w2 ⟨y, rfl, hO2, hB2⟩
  obtain ⟨A, c, e0⟩ := hO1.num.form
  rw [show (dg 0).length = 0 from rfl] at e0
  subst e0
  have hB := below_then hB1 hB2
  have hO3 := hO2.mono hB1.size
  clear hO1 hO2 hB2
  go_wp2_with fail
  go_ret
  exact ⟨_, rfl, hO3, hB⟩

set_option maxHeartbeats 1000000 in
theorem natGCD_y0 (hp : 0 < val xs) (h0 : val ys = 0) : Calls Try.prog 33 #[va, vb] w (RNat w (Nat.gcd (val xs) (val ys))) := by
  have Na := natNorm_c w va xs ha (by omega)
  have Nb := fun w1 hB => natNorm_c w1 vb ys (Num.below (w' := w1) hb hB) (by omega)
  rw [h0] at Nb ⊢
  rw [Nat.gcd_zero_right]
  generalize val xs = X at *
  have hl : ((dg X).length : Int) ≠ 0 := by
    intro h
    have := dg_len0 (show (dg X).length = 0 by omega)
    omega
  have hlb : (((dg X).length : Int) == 0) = false := by rw [beq_eq_false_iff_ne]; exact hl
  have HNa := Lib.hid Na
  have HNb := Lib.hid Nb
  clear Na Nb
  go_enter Try.func33, Try.ntmps33
  go_wp2_with fail
  refine (HNa.out).mono ?_
  rintro e w1 ⟨x, rfl, hO1, hB1⟩
  go_wp2_with fail
  refine (HNb.out w1 hB1).mono ?_
  rintro e w2 ⟨y, rfl, hO2, hB2⟩
  obtain ⟨A, c, e0⟩ := hO2.num.form
  rw [show (dg 0).length = 0 from rfl] at e0
  subst e0
  have hO3 := hO1.below hB2 (Nat.le_refl _)
  have hB := below_then hB1 hB2
  obtain ⟨A', c', e1⟩ := hO3.num.form
  subst e1
  clear hO1 hO2 hB2
  go_wp2_with fail
  go_ret
  exact ⟨_, rfl, hO3, hB⟩
end

/-- n holds the digits from place k on. -/
def UpTo (x : Nat) (k m : Nat) : Prop := m = val ((dg x).drop k)

set_option maxHeartbeats 2000000 in
theorem natU64_c (w : World) (va : Value) (xs : List Nat) (ha : Num w va xs) (hza : xs.length ≤ 1000000) :
    Calls Try.prog 14 #[va] w fun e w' => e = .returned (.tuple #[.int .u64 (u64Of (val xs)), .bool (fits (val xs))]) ∧ Below w.heap.size w w' := by
  have Na := natNorm_c w va xs ha (by omega)
  have hla := dg_length_val xs ha.small
  generalize val xs = X at *
  have HNa := Lib.hid Na
  clear Na ha
  obtain ⟨n, hn⟩ : ∃ n, (dg X).length = n := ⟨_, rfl⟩
  rcases Nat.lt_or_ge 2 n with h2 | h2
  · obtain ⟨e1, e2⟩ := u64_large (n := X) (dg_len3 (by omega))
    rw [e1, e2]
    go_enter Try.func14, Try.ntmps14
    go_wp2_with fail
    refine (HNa.out).mono ?_
    rintro e w1 ⟨x, rfl, hO1, hB1⟩
    obtain ⟨A, c, e0⟩ := hO1.num.form
    subst e0
    rw [hn]
    have h2i : (2 : Int) < n := by omega
    go_wp2_with fail
    go_ret2
    exact ⟨rfl, hB1⟩
  · have hs := small_of_len (n := X) (by omega)
    obtain ⟨e1, e2⟩ := u64_small hs
    rw [e1, e2]
    go_enter Try.func14, Try.ntmps14
    go_wp2_with fail
    refine (HNa.out).mono ?_
    rintro e w1 ⟨x, rfl, hO1, hB1⟩
    have hN := hO1.num
    obtain ⟨A, c, e0⟩ := hN.form
    subst e0
    rw [hn] at hN ⊢
    have h2i : ¬ (2 : Int) < n := by omega
    have HN := Lib.hid hn
    clear hO1 hn
    go_wp2_with fail
    go_loopw [5, 6] (fun m i wr => ∃ k m' : Nat, k ≤ n ∧ i = .int .i64 ((k : Int) - 1) ∧ m = .int .u64 (m' : Int) ∧ UpTo X k m' ∧ wr = w1) (fun _ i _ => (intOf i + 1).toNat)
    case atStart => exact ⟨n, 0, Nat.le_refl _, rfl, rfl, by unfold UpTo; rw [List.drop_of_length_le (by rw [HN.out]; exact Nat.le_refl _)]; rfl, rfl⟩
    case round =>
      obtain ⟨k, m, hk, rfl, rfl, hu, rfl⟩ := hrel
      rcases Nat.eq_zero_or_pos k with h0 | h0
      · subst h0
        unfold UpTo at hu
        rw [List.drop_zero, val_dg] at hu
        subst hu
        go_wp2_with fail
        go_ret2
        exact ⟨rfl, hB1⟩
      · obtain ⟨j, rfl⟩ : ∃ j, k = j + 1 := ⟨k - 1, by omega⟩
        rw [show (((j + 1 : Nat) : Int) - 1) = (j : Int) by omega]
        obtain ⟨b, off, rfl, _, hall⟩ := hN.cells (by omega)
        have hc := hall j (by omega)
        have bd := (small_dg X).get j
        have hd := drop_any (dg X) j
        unfold UpTo at hu
        have hm : m < 4294967296 := by
          have h1 := val_lt ((dg X).drop (j + 1)) ((small_dg X).drop _)
          have h3 : ((dg X).drop (j + 1)).length ≤ 1 := by rw [List.length_drop, HN.out]; omega
          have h4 := pow_le h3
          rw [← hu] at h1
          omega
        rw [← hu] at hd
        generalize (dg X).getD j 0 = d at hc bd hd
        have HU := Lib.hid (show UpTo X j (d + 4294967296 * m) from hd.symm)
        have hji : (j : Int) < n := by omega
        clear hall hu hd
        go_wp2_with fail
        go_roundw
        case rel => exact ⟨j, d + 4294967296 * m, by omega, by go_num, by go_num, HU.out, trivial⟩
        case measure => simp [intOf]
end Go.Proofs.Yticakmcjiofhoaa

/- The contracts of the reference functions NatAdd, double and half. -/
import Derived.Test.YtgjhgpfjeoeojaaDoorRefs
import Derived.Test.YtgjhgpfjeoeojaaDoorPlain
import Derived.Test.YtgjhgpfjeoeojaaDoorTexts
namespace Go.Proofs.YtgjhgpfjeoeojaaDoor
open Go.RowKit Dig
set_option linter.unusedVariables false

namespace Dig
/-- zs holds the first k digits of a number whose rest is c, as the equation S says. -/
def AppRel (S : Nat → Nat → Nat → Prop) (zs : List Nat) (k c : Nat) : Prop := zs.length = k ∧ Small zs ∧ S k (val zs) c
def AddEq (xs ys : List Nat) (k v c : Nat) : Prop := v + 4294967296 ^ k * c = val (xs.take k) + val (ys.take k) ∧ c ≤ 1
def DblEq (xs : List Nat) (b k v c : Nat) : Prop := v + 4294967296 ^ k * c = 2 * val (xs.take k) + b ∧ c ≤ 1
theorem Small.snoc {zs : List Nat} (h : Small zs) {d : Nat} (hd : d < 4294967296) : Small (zs ++ [d]) := by
  intro x hx
  rcases List.mem_append.1 hx with h1 | h1
  · exact h x h1
  · simp at h1; omega
theorem val_snoc (zs : List Nat) (d : Nat) : val (zs ++ [d]) = val zs + 4294967296 ^ zs.length * d := by
  rw [val_append]
  simp [val]
theorem AddEq.step {xs ys zs : List Nat} {k c x y : Nat} (h : AppRel (AddEq xs ys) zs k c) (hx : xs.getD k 0 = x) (hy : ys.getD k 0 = y) (hxb : x < 4294967296) (hyb : y < 4294967296) :
    AppRel (AddEq xs ys) (zs ++ [(c + x + y) % 4294967296]) (k + 1) ((c + x + y) / 4294967296) := by
  obtain ⟨hl, hs, he, hc⟩ := h
  refine ⟨by simp [hl], hs.snoc (Nat.mod_lt _ (by omega)), ?_, by omega⟩
  rw [val_snoc, hl, take_all_getD, take_all_getD, hx, hy, Nat.pow_succ, Nat.mul_assoc]
  have e : (c + x + y) % 4294967296 + 4294967296 * ((c + x + y) / 4294967296) = c + x + y := Nat.mod_add_div _ _
  have e2 : 4294967296 ^ k * ((c + x + y) % 4294967296) + 4294967296 ^ k * (4294967296 * ((c + x + y) / 4294967296)) = 4294967296 ^ k * (c + x + y) := by rw [← Nat.mul_add, e]
  rw [Nat.mul_add, Nat.mul_add] at e2
  omega
theorem DblEq.step {xs zs : List Nat} {b k c x : Nat} (h : AppRel (DblEq xs b) zs k c) (hx : xs.getD k 0 = x) (hxb : x < 4294967296) :
    AppRel (DblEq xs b) (zs ++ [x * 2 % 4294967296 + c]) (k + 1) (x / 2147483648) := by
  obtain ⟨hl, hs, he, hc⟩ := h
  refine ⟨by simp [hl], hs.snoc (by omega), ?_, by omega⟩
  rw [val_snoc, hl, take_all_getD, hx, Nat.pow_succ, Nat.mul_assoc]
  have e : x * 2 % 4294967296 + c + 4294967296 * (x / 2147483648) = 2 * x + c := by omega
  have e2 : 4294967296 ^ k * (x * 2 % 4294967296 + c) + 4294967296 ^ k * (4294967296 * (x / 2147483648)) = 4294967296 ^ k * (2 * x + c) := by rw [← Nat.mul_add, e]
  rw [Nat.mul_add (4294967296 ^ k) (2 * x) c] at e2
  have e3 : 4294967296 ^ k * (2 * x) = 2 * (4294967296 ^ k * x) := by rw [Nat.mul_left_comm]
  omega
end Dig
theorem or_bit (x b : Nat) (hx : x < 4294967296) (hb : b ≤ 1) : bits .or .u32 ((x * 2 % 4294967296 : Nat) : Int) (b : Int) = ((x * 2 % 4294967296 + b : Nat) : Int) := by
  have h := u32_or_nat (x * 2 % 4294967296) b (by omega) (by omega)
  rw [h]
  congr 1
  have := Nat.shiftLeft_add_eq_or_of_lt (i := 1) (b := b) (by omega) (x % 2147483648)
  rw [Nat.shiftLeft_eq] at this
  rw [show x * 2 % 4294967296 = x % 2147483648 * 2 ^ 1 by omega]
  exact this.symm


set_option maxHeartbeats 2000000 in
theorem double_c (w : World) (va : Value) (xs : List Nat) (b0 : Nat) (ha : Num w va xs) (hza : xs.length ≤ 4398046511104) (hb0 : b0 ≤ 1) :
    Calls Tryd.prog 68 #[va, .int .u32 (b0 : Int)] w (RNat w (2 * val xs + b0)) := by
  obtain ⟨A, c, rfl⟩ := ha.form
  have hba := ha.bounds.2
  have hla : (xs.length : Int) ≤ 4398046511104 := by omega
  have hbi : (b0 : Int) ≤ 1 := by omega
  go_enter Tryd.func68, Tryd.ntmps68
  go_wp2_with fail
  go_loopw [1, 5, 6] (fun bt out i wr => ∃ (k q : Nat) (zs : List Nat), k ≤ xs.length ∧ i = .int .i64 k ∧ bt = .int .u32 q ∧ AppRel (DblEq xs b0) zs k q ∧ Own w.heap.size wr out zs ∧ Below w.heap.size w wr) (fun _ _ i _ => xs.length - (intOf i).toNat)
  case atStart => exact ⟨0, b0, [], Nat.zero_le _, rfl, rfl, ⟨rfl, Small.nil, by simp [DblEq, val]; omega⟩, Own.nil _ _, Below.refl _ _⟩
  case round =>
    obtain ⟨k, q, zs, hk, rfl, rfl, hr, hO, hB⟩ := hrel
    have hq := hr.2.2.2
    have hzl := hr.1
    have hki : (k : Int) ≤ 4398046511104 := by omega
    have hqi : (q : Int) ≤ 1 := by omega
    have bx := ha.small.get k
    by_cases h1 : k < xs.length
    · obtain ⟨b, off, rfl, hbw, hall⟩ := ha.cells (by omega)
      have hcw := hall k h1
      clear hall
      generalize hxx : xs.getD k 0 = x at hcw bx
      have CELL := Lib.hid (fun w' (hB' : Below w.heap.size w w') => (hB'.cell (p := ⟨b, off + k, none⟩) hbw).trans hcw)
      have hcx := CELL.out wr hB
      clear hcw
      have h1i : (k : Int) < xs.length := by omega
      have HR := Lib.hid (DblEq.step hr hxx bx)
      have hor : bits .or .u32 ((x : Int) * 2 % 4294967296) (q : Int) = ((x * 2 % 4294967296 + q : Nat) : Int) := or_bit x q bx hq
      have HN := Lib.hid (Num.one wr (x * 2 % 4294967296 + q) (bits .or .u32 ((x : Int) * 2 % 4294967296) (q : Int)) (by omega) hor)
      have HOA := Lib.hid (hO.alloc (.cells #[.int .u32 (bits .or .u32 ((x : Int) * 2 % 4294967296) (q : Int))] 32))
      have HOO := Lib.hid hO
      have HBB := Lib.hid hB
      have HZL := Lib.hid (show zs.length ≤ 4398046511104 by omega)
      have HC := Lib.hid (show (x : Int) / 2147483648 = ((x / 2147483648 : Nat) : Int) by omega)
      clear hr hxx hq hzl hk h1 hO hB hor
      go_wp2_with (at_builtin; refine wp_append rfl _ _ rfl w.heap.size u5 zs rfl HOA.out (.slice (some ⟨wr.heap.size, 0, none⟩) 1 1) [x * 2 % 4294967296 + q] rfl HN.out (by have := HZL.out; simp; omega) (by have := HBB.out.size; simp; omega) ?_; intro v' w' hv' hg' _; have hB3 := below_own HBB.out (grown_after_alloc hg') HOO.out (Nat.le_refl _); have hcx2 := CELL.out w' hB3)
      go_roundw
      case rel => exact ⟨k + 1, x / 2147483648, _, by omega, by go_num, congrArg (Value.int .u32) HC.out, HR.out, hv', hB3⟩
      case measure => simp [intOf]; omega
    · have h1i : ¬ (k : Int) < xs.length := by omega
      have HN := Lib.hid (Num.one wr q (q : Int) (by omega) rfl)
      have HOA := Lib.hid (hO.alloc (.cells #[.int .u32 (q : Int)] 32))
      have HOO := Lib.hid hO
      have HBB := Lib.hid hB
      have HZL := Lib.hid (show zs.length ≤ 4398046511104 by omega)
      have he := hr.2.2.1
      rw [List.take_of_length_le (by omega)] at he
      have HE := Lib.hid (show val (zs ++ [q]) = 2 * val xs + b0 by rw [val_snoc, hzl]; exact he)
      have HS := Lib.hid (show (zs ++ [q]).length ≤ 8796093022208 by simp; omega)
      clear hr hq hzl hk h1 hO hB he
      go_wp2_with (at_builtin; refine wp_append rfl _ _ rfl w.heap.size u5 zs rfl HOA.out (.slice (some ⟨wr.heap.size, 0, none⟩) 1 1) [q] rfl HN.out (by have := HZL.out; simp; omega) (by have := HBB.out.size; simp; omega) ?_; intro v' w' hv' hg' _)
      have NN := natNorm_c w' v' _ hv'.num HS.out
      rw [HE.out] at NN
      have HNN := Lib.hid NN
      have hB3 := below_own HBB.out (grown_after_alloc hg') HOO.out (Nat.le_refl _)
      clear NN
      go_wp2_with fail
      refine (HNN.out).mono ?_
      rintro e w3 ⟨r, rfl, hO3, hB4⟩
      go_wp2_with fail
      go_ret
      exact ⟨_, rfl, hO3.mono hB3.size, below_then hB3 hB4⟩
end Go.Proofs.YtgjhgpfjeoeojaaDoor

/- The contract of the reference function NatDivMod. -/
namespace Go.Proofs.YtgjhgpfjeoeojaaDoor
open Go.RowKit Dig
set_option linter.unusedVariables false

theorem Own.far {base : Nat} {w : World} {v : Value} {xs : List Nat} (h : Own base w v xs) {p : Addr} (hp : p.block < base) (u : Value) : Own base (w.setCell p u) v xs := by
  obtain ⟨hs, h⟩ := h
  refine ⟨hs, ?_⟩
  rcases h with h | ⟨g, rest, e, hg, hm, hh⟩
  · exact .inl h
  · exact .inr ⟨g, rest, e, hg, hm, hh.far (by omega) u⟩
theorem or_shift (d s : Nat) (h : d % 2 ^ (s + 1) = 0) (hs : s < 32) (hd : d < 4294967296) : bits .or .u32 (d : Int) (2 ^ s % 4294967296) = ((d + 2 ^ s : Nat) : Int) := by
  have hp : 2 ^ s < 4294967296 := by
    have : (2 : Nat) ^ s ≤ 2 ^ 31 := Nat.pow_le_pow_right (by omega) (by omega)
    omega
  have h1 := u32_or_nat d (2 ^ s) hd hp
  have e : ((2 ^ s : Nat) : Int) = 2 ^ s % 4294967296 := by
    have e0 : ((2 ^ s : Nat) : Int) = 2 ^ s := by rw [Int.natCast_pow]; rfl
    rw [← e0]
    omega
  rw [e] at h1
  rw [h1, or_low d s h]
theorem and_bit (x s : Nat) (hx : x < 4294967296) : bits .and .u32 ((x : Int) / 2 ^ s) 1 = ((x / 2 ^ s % 2 : Nat) : Int) := by
  have h1 := u32_and_nat (x / 2 ^ s) 1 (Nat.lt_of_le_of_lt (Nat.div_le_self _ _) hx) (by omega)
  have e : ((x / 2 ^ s : Nat) : Int) = (x : Int) / 2 ^ s := by rw [Int.natCast_ediv, Int.natCast_pow]; rfl
  rw [e] at h1
  exact h1.trans (by rw [Nat.and_one_is_mod])

section
variable (w : World) (va vb : Value) (xs ys : List Nat) (ha : Num w va xs) (hb : Num w vb ys) (hza : xs.length ≤ 1099511627776) (hzb : ys.length ≤ 1099511627776)
include ha hb hza hzb

set_option maxHeartbeats 1000000 in
theorem natDiv_zero (h0 : val ys = 0) : Calls Tryd.prog 48 #[va, vb] w fun e w' => e = .returned (.tuple #[.slice none 0 0, .slice none 0 0, .bool false]) ∧ Below w.heap.size w w' := by
  have Na := Lib.hid (natNorm_c w va xs ha (by omega))
  have N2 := fun w1 hB => natNorm_c w1 vb ys (Num.below (w' := w1) hb hB) (by omega)
  rw [h0] at N2
  have Nb := Lib.hid N2
  clear N2
  go_enter Tryd.func48, Tryd.ntmps48
  go_wp2_with fail
  refine (Na.out).mono ?_
  rintro e w1 ⟨x, rfl, hO1, hB1⟩
  go_wp2_with fail
  refine (Nb.out w1 hB1).mono ?_
  rintro e w2 ⟨y, rfl, hO2, hB2⟩
  obtain ⟨A, c, e0⟩ := hO2.num.form
  rw [show (dg 0).length = 0 from rfl] at e0
  subst e0
  have hB := below_then hB1 hB2
  clear hB1 hB2 hO1 hO2
  go_wp2_with fail
  go_ret3
  exact ⟨rfl, hB⟩

set_option maxHeartbeats 8000000 in
theorem natDiv_pos (h0 : 0 < val ys) : Calls Tryd.prog 48 #[va, vb] w (RDiv w (val xs) (val ys)) := by
  have Na := natNorm_c w va xs ha (by omega)
  have Nb := fun w1 hB => natNorm_c w1 vb ys (Num.below (w' := w1) hb hB) (by omega)
  have hla := dg_length_val xs ha.small
  have hlb := dg_length_val ys hb.small
  generalize val xs = a at *
  generalize val ys = b at *
  have HNa := Lib.hid Na
  have HNb := Lib.hid Nb
  clear Na Nb
  obtain ⟨n, hn⟩ : ∃ n, (dg a).length = n := ⟨_, rfl⟩
  obtain ⟨m, hm⟩ : ∃ m, (dg b).length = m := ⟨_, rfl⟩
  have hm0 : 0 < m := by
    rcases Nat.eq_zero_or_pos m with h | h
    · have := dg_len0 (hm.trans h); omega
    · exact h
  have hX := small_dg a
  rw [hn] at hla
  rw [hm] at hlb
  go_enter Tryd.func48, Tryd.ntmps48
  go_wp2_with fail
  refine (HNa.out).mono ?_
  rintro e w1 ⟨x, rfl, hO1, hB1⟩
  go_wp2_with fail
  refine (HNb.out w1 hB1).mono ?_
  rintro e w2 ⟨y, rfl, hO2, hB2⟩
  have hNx := hO1.num.below hB2
  have hNy := hO2.num
  have hB := below_then hB1 hB2
  obtain ⟨A, c, e1⟩ := hNx.form
  rw [hn] at e1
  subst e1
  obtain ⟨A', c', e2⟩ := hNy.form
  rw [hm] at e2
  subst e2
  have HN := Lib.hid hn
  have HM := Lib.hid hm
  have hmi : ((m : Int) == 0) = false := by rw [beq_eq_false_iff_ne]; omega
  have hni : (n : Int) ≤ 1099511627776 := by omega
  clear hO1 hO2 hB1 hB2 hn hm
  go_wp2_with (at_make; refine wp_make rfl _ _ rfl _ _ n rfl rfl rfl rfl (by omega) ?_; intro w3 hS hB3)
  go_loopw [10, 11] (fun r i wr => ∃ (k : Nat) (zs : List Nat), k ≤ 32 * n ∧ i = .int .i64 ((k : Int) - 1) ∧ Own (w2.heap.size + 1) wr r (dg (a / 2 ^ k % b)) ∧ Seg wr w2.heap.size [] zs [] ∧ zs.length = n ∧ Small zs ∧ val zs = 2 ^ k * (a / 2 ^ k / b) ∧ Below w2.heap.size w2 wr) (fun _ i _ => (intOf i + 1).toNat)
  case atStart =>
    have hz : a / 2 ^ (32 * n) = 0 := by
      rw [← pow_base]
      exact Nat.div_eq_of_lt (by have := dg_lt a; rw [HN.out] at this; exact this)
    refine ⟨32 * n, _, Nat.le_refl _, by go_num, ?_, hS, by simp, Small.replicate n, ?_, hB3⟩
    · rw [hz, Nat.zero_mod]; exact Own.nil _ _
    · rw [hz, Nat.zero_div, Nat.mul_zero, val_replicate]
  case round =>
    obtain ⟨k, zs, hk, rfl, hr, hseg, hzl, hzs, hzv, hbel⟩ := hrel
    clear hS hB3
    rcases Nat.eq_zero_or_pos k with hk0 | hk0
    · subst hk0
      rw [Nat.pow_zero, Nat.div_one] at hr hzv
      rw [Nat.one_mul] at hzv
      have hOq := Own.of_seg (base := w.heap.size) (c := n) hseg hzs hzl hB.size (by simp) (by omega)
      have Nq := natNorm_c wr _ _ hOq.num (by omega)
      rw [hzv] at Nq
      have HNq := Lib.hid Nq
      have Nr := fun w1 hB => natNorm_c w1 _ _ (Num.below (w' := w1) hr.num hB) (by
        have h1 := dg_length_mono (Nat.le_of_lt (Nat.mod_lt a h0))
        rw [HM.out] at h1
        omega)
      rw [val_dg] at Nr
      have HNr := Lib.hid Nr
      have hB4 := below_then hB hbel
      clear Nq Nr hr hzv hseg hOq
      go_wp2_with fail
      refine (HNq.out).mono ?_
      rintro e w4 ⟨q, rfl, hO4, hB5⟩
      go_wp2_with fail
      refine (HNr.out w4 hB5).mono ?_
      rintro e w5 ⟨r2, rfl, hO5, hB6⟩
      have hB7 := below_then hB4 hB5
      have hO6 := (hO4.mono hB4.size).below hB6 (Nat.le_refl _)
      go_wp2_with fail
      go_ret3
      exact ⟨_, _, rfl, hO6, hO5.mono hB7.size, below_then hB7 hB6⟩
    · obtain ⟨i, rfl⟩ : ∃ i, k = i + 1 := ⟨k - 1, by omega⟩
      rw [show (((i + 1 : Nat) : Int) - 1) = (i : Int) by omega]
      obtain ⟨j, hj⟩ : ∃ j, i / 32 = j := ⟨_, rfl⟩
      obtain ⟨s, hs⟩ : ∃ s, i % 32 = s := ⟨_, rfl⟩
      have hjn : j < n := by omega
      have hs32 : s < 32 := by omega
      have hdiv : (i : Int) / 32 = (j : Int) := by omega
      have hmod : (i : Int) % 32 = (s : Int) := by omega
      have hX2 := hX
      obtain ⟨bx, off, rfl, hbx, hall⟩ := (hNx.below hbel).cells (by omega)
      have hcx := hall j hjn
      clear hall
      have hbit := bit_of (dg a) hX i (by rw [HN.out]; omega)
      rw [val_dg, hj, hs] at hbit
      have bd := hX.get j
      generalize hdd : (dg a).getD j 0 = d at hcx hbit bd
      have hlow := low_of zs hzs i (by omega) (by rw [hzv]; exact Nat.dvd_mul_right _ _)
      have hvs := val_set_bit zs i (by omega)
      rw [hj, hs] at hlow hvs
      have bz := hzs.get j
      have hds := div_step a b i h0
      have hand := and_bit d s bd
      rw [hbit] at hand
      have hb1 : a / 2 ^ i % 2 ≤ 1 := by have := Nat.mod_lt (a / 2 ^ i) (show 2 > 0 by omega); omega
      generalize a / 2 ^ i % 2 = bb at *
      have hRl : (dg (a / 2 ^ (i + 1) % b)).length ≤ m := by
        have h1 := dg_length_mono (Nat.le_of_lt (Nat.mod_lt (a / 2 ^ (i + 1)) h0))
        rw [HM.out] at h1
        exact h1
      have D := double_c wr _ _ bb hr.num (by omega) hb1
      rw [val_dg] at D
      obtain ⟨R1, hR1⟩ : ∃ R1, 2 * (a / 2 ^ (i + 1) % b) + bb = R1 := ⟨_, rfl⟩
      rw [hR1] at D hds
      have HD := Lib.hid D
      have hR1l : (dg R1).length ≤ m + 1 := by
        have h1 := dg_lt b
        rw [HM.out] at h1
        exact dg_length_le _ _ (by rw [Nat.pow_succ]; omega)
      have HDS := Lib.hid hds
      have hji : (j : Int) < n := by omega
      have hii : (i : Int) < 32 * n := by omega
      have HZV := Lib.hid hzv
      have HVS := Lib.hid hvs
      have HLOW := Lib.hid hlow
      have HZS := Lib.hid hzs
      have HZL := Lib.hid hzl
      have HJ := Lib.hid hj
      have hNy2 := hNy.below hbel
      clear hds D hdd hbit hR1 hRl hzv hvs hlow hj hs hr hX2 hzs hzl
      go_wp2_with fail
      refine (HD.out).mono ?_
      rintro e w4 ⟨r1, rfl, hO4, hB4⟩
      have hNy4 := hNy2.below hB4
      have seg4 := hseg.below hB4 hseg.lt
      have hbel4 := below_then hbel hB4
      have hsz := hseg.lt
      have hO5 := hO4.mono (show w2.heap.size + 1 ≤ wr.heap.size from hsz)
      have C := natCmp_c w4 r1 _ _ _ hO4.num hNy4 (by omega) (by rw [HM.out]; omega)
      rw [val_dg, val_dg] at C
      clear hO4 hseg hbel hNy2 hB4
      rcases Nat.lt_or_ge R1 b with hlt | hge
      · rw [cmpI_lt hlt] at C
        have HC := Lib.hid C
        clear C
        go_wp2_with fail
        refine (HC.out).mono ?_
        rintro e w5 ⟨rfl, hB5⟩
        have hO6 := hO5.below hB5 (Nat.le_refl _)
        have seg6 := seg4.below hB5 seg4.lt
        have hbel6 := below_then hbel4 hB5
        obtain ⟨e1, e2⟩ := HDS.out.2.2 hlt
        rw [← e1] at hO6
        have HV2 := Lib.hid (HZV.out.trans e2.symm)
        clear e1 e2 hO5 seg4 hbel4
        go_wp2_with fail
        go_roundw
        case rel => exact ⟨i, zs, by omega, by go_num, hO6, seg6, HZL.out, HZS.out, HV2.out, hbel6⟩
        case measure => simp [intOf]
      · obtain ⟨hc0, hc1⟩ : 0 ≤ cmpI R1 b ∧ cmpI R1 b ≤ 1 := by
          rcases Nat.lt_or_ge b R1 with h1 | h1
          · rw [cmpI_gt h1]; omega
          · rw [show R1 = b by omega, cmpI_eq]; omega
        generalize cmpI R1 b = cz at *
        have HC := Lib.hid C
        clear C
        go_wp2_with fail
        refine (HC.out).mono ?_
        rintro e w5 ⟨rfl, hB5⟩
        have hO6 := hO5.below hB5 (Nat.le_refl _)
        have seg6 := seg4.below hB5 seg4.lt
        have hbel6 := below_then hbel4 hB5
        have hNy6 := hNy4.below hB5
        have S := natSub_ge w5 r1 _ _ _ hO6.num hNy6 (by omega) (by rw [HM.out]; omega) (by rw [val_dg, val_dg]; exact hge)
        rw [val_dg, val_dg] at S
        have HS := Lib.hid S
        clear S hO5 seg4 hbel4 hNy4
        go_wp2_with fail
        refine (HS.out).mono ?_
        rintro e w6 ⟨r2, rfl, hO7, hB7⟩
        have seg7 := seg6.below hB7 seg6.lt
        have hbel7 := below_then hbel6 hB7
        have hsz6 := seg6.lt
        have hO8 := hO7.mono (show w2.heap.size + 1 ≤ w5.heap.size from hsz6)
        obtain ⟨e1, e2⟩ := HDS.out.2.1 hge
        rw [← e1] at hO8
        have hcz := seg7.cell0 (j := j) (by rw [HZL.out]; exact hjn)
        have hfz := seg7.frozen j
        have hor := or_shift (zs.getD j 0) s HLOW.out hs32 bz
        have hfit := set_fits (zs.getD j 0) s HLOW.out hs32 bz
        have hv := HVS.out
        generalize hzz : zs.getD j 0 = z at *
        have HOR := Lib.hid hor
        have HV2 := Lib.hid (show val (zs.set j (z + 2 ^ s)) = 2 ^ i * (a / 2 ^ i / b) by rw [e2, ← HZV.out]; exact hv)
        have HS7 := Lib.hid (seg7.put0 j (z + 2 ^ s) (bits .or .u32 (z : Int) (2 ^ s % 4294967296)) (by rw [HZL.out]; exact hjn) hor)
        have HO8 := Lib.hid (hO8.far (p := ⟨w2.heap.size, j, none⟩) (Nat.lt_succ_self _) (.int .u32 (bits .or .u32 (z : Int) (2 ^ s % 4294967296))))
        have HB8 := Lib.hid (hbel7.setCell (p := ⟨w2.heap.size, j, none⟩) (Nat.le_refl _) (.int .u32 (bits .or .u32 (z : Int) (2 ^ s % 4294967296))))
        have HSM := Lib.hid (HZS.out.set j (z + 2 ^ s) hfit)
        clear hor hv hzz hO8 seg7 hbel7 e1 e2 hO6 seg6 hbel6 hNy6 hO7 hB7 hfit
        go_wp2_with fail
        go_roundw
        case rel => exact ⟨i, _, by omega, by go_num, HO8.out, HS7.out, by rw [List.length_set]; exact HZL.out, HSM.out, HV2.out, HB8.out⟩
        case measure => simp [intOf]

theorem natDiv_c (h0 : 0 < val ys) : Calls Tryd.prog 48 #[va, vb] w (RDiv w (val xs) (val ys)) := natDiv_pos w va vb xs ys ha hb hza hzb h0
end
end Go.Proofs.YtgjhgpfjeoeojaaDoor

/- The contracts of shiftLeft and shiftRight. -/
import Derived.Test.YticakmcjiofhoaaDivOne
import Derived.Test.YticakmcjiofhoaaKnuth
namespace Go.Proofs.Yticakmcjiofhoaa
open Go.RowKit Dig
set_option linter.unusedVariables false

namespace Dig
theorem pow31 {s : Nat} (hs : s ≤ 31) : 2 ^ s ≤ 2147483648 := by
  have := Nat.pow_le_pow_right (show 0 < 2 by omega) hs
  omega
theorem mul_pow31 {x s : Nat} (hx : x < 4294967296) (hs : s ≤ 31) : x * 2 ^ s ≤ 9223372034707292160 := by
  have := Nat.mul_le_mul (show x ≤ 4294967295 by omega) (pow31 hs)
  omega
/-- After k digits, shifted left by s. -/
def ShlRel (xs zs : List Nat) (s k q : Nat) : Prop :=
  zs.length = xs.length + 1 ∧ Small zs ∧ (∀ j, k ≤ j → zs.getD j 0 = 0) ∧ val (zs.take k) + 4294967296 ^ k * q = val (xs.take k) * 2 ^ s ∧ q < 2 ^ s
theorem ShlRel.start (xs : List Nat) (s : Nat) : ShlRel xs (List.replicate (xs.length + 1) 0) s 0 0 := by
  refine ⟨by simp, Small.replicate _, fun j _ => ?_, by simp [val], Nat.pow_pos (by omega)⟩
  rw [List.getD_eq_getElem?_getD, List.getElem?_replicate]
  split <;> rfl
theorem ShlRel.step {xs zs : List Nat} {s k q x S : Nat} (h : ShlRel xs zs s k q) (hk : k < xs.length) (hx : xs.getD k 0 = x) (hxb : x < 4294967296) (hS : S = q + x * 2 ^ s) :
    ShlRel xs (zs.set k (S % 4294967296)) s (k + 1) (S / 4294967296) := by
  obtain ⟨hl, hs, ha, hv, hq⟩ := h
  refine ⟨by simpa using hl, hs.set _ _ (Nat.mod_lt _ (by omega)), fun j hj => ?_, ?_, ?_⟩
  · rw [getD_set_ne _ _ _ _ (by omega)]
    exact ha j (by omega)
  · rw [take_set_succ _ _ _ (by omega), val_take_succ xs k hk, hx, Nat.pow_succ, Nat.mul_assoc, Nat.add_assoc, ← Nat.mul_add, Nat.mod_add_div, hS, Nat.mul_add, Nat.add_mul, Nat.mul_assoc]
    omega
  · rw [hS, Nat.div_lt_iff_lt_mul (by omega)]
    have h1 : (x + 1) * 2 ^ s ≤ 4294967296 * 2 ^ s := Nat.mul_le_mul_right _ (by omega)
    rw [Nat.add_mul] at h1
    rw [Nat.mul_comm (2 ^ s) 4294967296]
    omega
theorem ShlRel.done {xs zs : List Nat} {s q : Nat} (h : ShlRel xs zs s xs.length q) (hq : q < 4294967296) : (zs.set xs.length q).length = xs.length + 1 ∧ Small (zs.set xs.length q) ∧ val (zs.set xs.length q) = val xs * 2 ^ s := by
  obtain ⟨hl, hs, ha, hv, _⟩ := h
  refine ⟨by simpa using hl, hs.set _ _ hq, ?_⟩
  have h1 := take_set_succ zs xs.length q (by omega)
  rw [List.take_of_length_le (by simp; omega), hv, List.take_of_length_le (Nat.le_refl _)] at h1
  exact h1

/-- Below place k nothing is done yet; the digits from k on are shifted right by s; hi holds the digit at k. -/
def ShrRel (xs zs : List Nat) (s k hi : Nat) : Prop :=
  zs.length = xs.length ∧ Small zs ∧ val (zs.drop k) = val (xs.drop k) / 2 ^ s ∧ hi % 4294967296 = xs.getD k 0
theorem ShrRel.start (xs : List Nat) (s : Nat) : ShrRel xs (List.replicate xs.length 0) s xs.length 0 := by
  refine ⟨by simp, Small.replicate _, ?_, ?_⟩
  · rw [List.drop_of_length_le (by simp), List.drop_of_length_le (Nat.le_refl _)]; simp [val]
  · rw [List.getD_eq_getElem?_getD, List.getElem?_eq_none (Nat.le_refl _)]; rfl
theorem drop_getD' (zs : List Nat) (k : Nat) (h : k < zs.length) : val (zs.drop k) = zs.getD k 0 + 4294967296 * val (zs.drop (k + 1)) := by
  rw [List.drop_eq_getElem_cons h]
  simp [val, List.getD_eq_getElem?_getD, h]
theorem shr_digit {y V T x t : Nat} (hT : 4294967296 = t * T) (hx : x < 4294967296) (hy : y = V % 4294967296) (hT0 : 0 < T) (ht0 : 0 < t) :
    (x + 4294967296 * V) / T = (x + 4294967296 * y) / T % 4294967296 + 4294967296 * (V / T) := by
  have e1 : (x + 4294967296 * V) / T = x / T + t * V := by
    rw [hT, show x + t * T * V = x + T * (t * V) by rw [Nat.mul_comm t T, Nat.mul_assoc], Nat.add_mul_div_left _ _ hT0]
  have e2 : (x + 4294967296 * y) / T = x / T + t * y := by
    rw [hT, show x + t * T * y = x + T * (t * y) by rw [Nat.mul_comm t T, Nat.mul_assoc], Nat.add_mul_div_left _ _ hT0]
  have e3 : x / T < t := by rw [Nat.div_lt_iff_lt_mul hT0, ← hT]; exact hx
  rw [e1, e2]
  -- t * V = t * (V mod T) + 2^32 * (V / T)
  have e4 : t * V = t * (V % T) + 4294967296 * (V / T) := by
    conv => lhs; rw [← Nat.mod_add_div V T]
    rw [Nat.mul_add, hT, Nat.mul_assoc]
  have e5 : y % T = V % T := by
    rw [hy, hT]
    exact Nat.mod_mul_left_mod V t T
  have e6 : t * y = t * (V % T) + 4294967296 * (y / T) := by
    conv => lhs; rw [← Nat.mod_add_div y T]
    rw [Nat.mul_add, e5, hT, Nat.mul_assoc]
  have e7 : x / T + t * (V % T) < 4294967296 := by
    have h1 := Nat.mod_lt V hT0
    have h2 : t * (V % T + 1) ≤ t * T := Nat.mul_le_mul_left _ h1
    rw [← hT, Nat.mul_add, Nat.mul_one] at h2
    omega
  rw [e4, e6, ← Nat.add_assoc, ← Nat.add_assoc, Nat.add_mul_mod_self_left, Nat.mod_eq_of_lt e7]
theorem ShrRel.step {xs zs : List Nat} {s k hi x S : Nat} (h : ShrRel xs zs s (k + 1) hi) (hs31 : s ≤ 31) (hxs : Small xs) (hk : k < xs.length) (hx : xs.getD k 0 = x) (hS : S = x + 4294967296 * (hi % 4294967296)) :
    ShrRel xs (zs.set k (S / 2 ^ s % 4294967296)) s k S := by
  obtain ⟨hl, hs, hv, hh⟩ := h
  have hxb := hxs.get k
  rw [hx] at hxb
  refine ⟨by simpa using hl, hs.set _ _ (Nat.mod_lt _ (by omega)), ?_, ?_⟩
  · rw [drop_getD' _ k (by rw [List.length_set]; omega), getD_set_same _ _ _ (by omega), List.drop_set_of_lt (by omega), hv, drop_getD' xs k hk, hx, hS]
    have hT : 4294967296 = 2 ^ (32 - s) * 2 ^ s := by rw [← Nat.pow_add, show 32 - s + s = 32 by omega]
    have hy : hi % 4294967296 = val (xs.drop (k + 1)) % 4294967296 := by
      rw [hh]
      rcases Nat.lt_or_ge (k + 1) xs.length with h1 | h1
      · rw [drop_getD' xs (k + 1) h1, Nat.add_mul_mod_self_left, Nat.mod_eq_of_lt (hxs.get _)]
      · rw [List.drop_of_length_le h1, List.getD_eq_getElem?_getD, List.getElem?_eq_none h1]; rfl
    exact (shr_digit hT hxb hy (Nat.pow_pos (by omega)) (Nat.pow_pos (by omega))).symm
  · rw [hS, Nat.add_mul_mod_self_left, Nat.mod_eq_of_lt hxb, hx]
end Dig

theorem or_shl (q x s : Nat) (hq : q < 2 ^ s) (hx : x < 4294967296) (hs : s ≤ 31) : bits .or .u64 (q : Int) ((x : Int) * 2 ^ s) = ((q + x * 2 ^ s : Nat) : Int) := by
  have h1 := mul_pow31 hx hs
  have h2 := pow31 hs
  have h := u64_or_nat q (x * 2 ^ s) (by omega) (by omega)
  have e : ((x * 2 ^ s : Nat) : Int) = (x : Int) * 2 ^ s := by rw [Int.natCast_mul, Int.natCast_pow]; rfl
  rw [e] at h
  rw [h]
  congr 1
  have := Nat.shiftLeft_add_eq_or_of_lt (i := s) (b := q) hq x
  rw [Nat.shiftLeft_eq] at this
  rw [Nat.or_comm, ← this, Nat.add_comm]

set_option maxHeartbeats 1000000 in
theorem shl_c (w : World) (va : Value) (xs : List Nat) (s : Nat) (ha : Num w va xs) (hz : xs.length ≤ 8796093022208) (hs : s ≤ 31) :
    Calls Try.prog 62 #[va, .int .i64 (s : Int)] w fun e w' => ∃ g zs, e = .returned (.slice (some ⟨g, 0, none⟩) (xs.length + 1) (xs.length + 1)) ∧ w.heap.size ≤ g ∧ Seg w' g [] zs [] ∧ Small zs ∧ zs.length = xs.length + 1 ∧ val zs = val xs * 2 ^ s ∧ Below w.heap.size w w' := by
  obtain ⟨A, c, rfl⟩ := ha.form
  have hbd := ha.bounds.2
  have hsi : (s : Int) ≤ 31 := by omega
  go_enter Try.func62, Try.ntmps62
  go_wp2_with (at_make; refine wp_make rfl _ _ rfl _ _ (xs.length + 1) rfl rfl (by omega) (by omega) (by omega) ?_; intro w1 hS hB1)
  go_loopw [6, 15] (fun cc i wr => ∃ (k q : Nat) (zs : List Nat), k ≤ xs.length ∧ i = .int .i64 k ∧ cc = .int .u64 q ∧ ShlRel xs zs s k q ∧ Seg wr w.heap.size [] zs [] ∧ Below w.heap.size w wr) (fun _ i _ => xs.length - (intOf i).toNat)
  case atStart => exact ⟨0, 0, _, Nat.zero_le _, rfl, rfl, ShlRel.start xs s, hS, hB1⟩
  case round =>
    obtain ⟨k, q, zs, hk, rfl, rfl, hr, hseg, hbel⟩ := hrel
    have hq := hr.2.2.2.2
    have hzl := hr.1
    have hqb : q < 2147483648 := Nat.lt_of_lt_of_le hq (pow31 hs)
    by_cases hlt : k < xs.length
    · obtain ⟨b, off, rfl, hbb, hall⟩ := (ha.below hbel).cells (by omega)
      have hcx := hall k hlt
      have hcz := hseg.cell0 (j := k) (by omega)
      have hfz := hseg.frozen k
      have bx := ha.small.get k
      generalize hxx : xs.getD k 0 = x at hcx bx
      generalize ((zs.getD k 0 : Nat) : Int) = z0 at hcz
      have m1 := mul_pow31 bx hs
      have e0 : ((x * 2 ^ s : Nat) : Int) = (x : Int) * 2 ^ s := by rw [Int.natCast_mul, Int.natCast_pow]; rfl
      have m2 : (x : Int) * 2 ^ s ≤ 9223372034707292160 := by rw [← e0]; omega
      have m3 : 0 ≤ (x : Int) * 2 ^ s := by rw [← e0]; exact Int.natCast_nonneg _
      have hor := or_shl q x s hq bx hs
      obtain ⟨S, hSd⟩ : ∃ S, S = q + x * 2 ^ s := ⟨_, rfl⟩
      rw [← hSd] at hor
      have hSb : S < 18446744073709551616 := by rw [hSd]; omega
      have HR := Lib.hid (hr.step hlt hxx bx hSd)
      have HS := Lib.hid (hseg.put0 k (S % 4294967296) ((S : Int) % 4294967296) (by omega) (by omega))
      have HB := Lib.hid (hbel.setCell (p := ⟨w.heap.size, k, none⟩) (Nat.le_refl _) (.int .u32 ((S : Int) % 4294967296)))
      have hki : (k : Int) < xs.length := by omega
      clear hall hr hseg hbel hxx e0 hSd m1 hzl hq
      go_wp2_with fail
      go_roundw
      case rel => exact ⟨k + 1, S / 4294967296, _, by omega, by go_num, by go_num, HR.out, HS.out, HB.out⟩
      case measure => simp [intOf]; omega
    · have : k = xs.length := by omega
      subst this
      have hcz := hseg.cell0 (j := xs.length) (by omega)
      have hfz := hseg.frozen xs.length
      generalize ((zs.getD xs.length 0 : Nat) : Int) = z0 at hcz
      obtain ⟨d1, d2, d3⟩ := hr.done (by omega)
      have HS := Lib.hid (hseg.put0 xs.length q (q : Int) (by omega) rfl)
      have HB := Lib.hid (hbel.setCell (p := ⟨w.heap.size, xs.length, none⟩) (Nat.le_refl _) (.int .u32 (q : Int)))
      have H1 := Lib.hid d1
      have H3 := Lib.hid d3
      clear hr hseg hbel d1 d3 hzl hq
      go_wp2_with fail
      go_ret
      exact ⟨w.heap.size, _, rfl, Nat.le_refl _, HS.out, d2, H1.out, H3.out, HB.out⟩

set_option maxHeartbeats 1000000 in
theorem shr_c (w : World) (va : Value) (xs : List Nat) (s : Nat) (ha : Num w va xs) (hz : xs.length ≤ 8796093022208) (hs : s ≤ 31) :
    Calls Try.prog 66 #[va, .int .i64 (s : Int)] w fun e w' => ∃ r zs, e = .returned r ∧ Own w.heap.size w' r zs ∧ val zs = val xs / 2 ^ s ∧ Below w.heap.size w w' := by
  obtain ⟨A, c, rfl⟩ := ha.form
  have hbd := ha.bounds.2
  have hsi : (s : Int) ≤ 31 := by omega
  go_enter Try.func66, Try.ntmps66
  go_wp2_with (at_make; refine wp_make rfl _ _ rfl _ _ xs.length rfl rfl (by omega) (by omega) (by omega) ?_; intro w1 hS hB1)
  go_loopw [6, 7] (fun hh i wr => ∃ (k hi : Nat) (zs : List Nat), k ≤ xs.length ∧ i = .int .i64 ((k : Int) - 1) ∧ hh = .int .u64 hi ∧ hi < 18446744073709551616 ∧ ShrRel xs zs s k hi ∧ Seg wr w.heap.size [] zs [] ∧ Below w.heap.size w wr) (fun _ i _ => (intOf i + 1).toNat)
  case atStart => exact ⟨xs.length, 0, _, Nat.le_refl _, rfl, rfl, by omega, ShrRel.start xs s, hS, hB1⟩
  case round =>
    obtain ⟨k, hi, zs, hk, rfl, rfl, hhi, hr, hseg, hbel⟩ := hrel
    have hzl := hr.1
    rcases Nat.eq_zero_or_pos k with h0 | h0
    · subst h0
      have hv := hr.2.2.1
      simp only [List.drop_zero] at hv
      have HV := Lib.hid hv
      have HO := Lib.hid (Own.of_seg (base := w.heap.size) (c := xs.length) hseg hr.2.1 hzl (Nat.le_refl _) rfl (by omega))
      clear hv hr hseg hzl
      go_wp2_with fail
      go_ret
      exact ⟨_, zs, rfl, HO.out, HV.out, hbel⟩
    · obtain ⟨j, rfl⟩ : ∃ j, k = j + 1 := ⟨k - 1, by omega⟩
      obtain ⟨b, off, rfl, hbb, hall⟩ := (ha.below hbel).cells (by omega)
      have hcx := hall j (by omega)
      have hcz := hseg.cell0 (j := j) (by omega)
      have hfz := hseg.frozen j
      have bx := ha.small.get j
      generalize hxx : xs.getD j 0 = x at hcx bx
      generalize ((zs.getD j 0 : Nat) : Int) = z0 at hcz
      rw [show (((j + 1 : Nat) : Int) - 1) = (j : Int) by omega]
      have hki : (j : Int) < xs.length := by omega
      have hwr : IntKind.u64.wrap ((hi : Int) * 4294967296) = ((hi % 4294967296 : Nat) : Int) * 4294967296 := by rw [IntKind.wrap_u64]; omega
      have hor := or_u64 x (hi % 4294967296) bx (Nat.mod_lt _ (by omega))
      rw [← hwr] at hor
      obtain ⟨S, hSd⟩ : ∃ S, S = x + 4294967296 * (hi % 4294967296) := ⟨_, rfl⟩
      rw [← hSd] at hor
      have hSb : S < 18446744073709551616 := by rw [hSd]; omega
      have HR := Lib.hid (hr.step hs ha.small (by omega) hxx hSd)
      have e2 : (S : Int) / 2 ^ s % 4294967296 = ((S / 2 ^ s % 4294967296 : Nat) : Int) := by rw [Int.natCast_emod, Int.natCast_ediv, Int.natCast_pow]; rfl
      have HS := Lib.hid (hseg.put0 j (S / 2 ^ s % 4294967296) ((S : Int) / 2 ^ s % 4294967296) (by omega) e2)
      have HB := Lib.hid (hbel.setCell (p := ⟨w.heap.size, j, none⟩) (Nat.le_refl _) (.int .u32 ((S : Int) / 2 ^ s % 4294967296)))
      clear hall hr hseg hbel hxx hSd hzl hwr e2
      go_wp2_with fail
      go_roundw
      case rel => exact ⟨j, S, _, by omega, by go_num, rfl, hSb, HR.out, HS.out, HB.out⟩
      case measure => simp [intOf]
end Go.Proofs.Yticakmcjiofhoaa

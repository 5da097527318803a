/- The contracts of the reference functions NatAdd, double and half. -/
import Derived.Test.YticakmcjiofhoaaRefS
namespace Go.Proofs.Yticakmcjiofhoaa
open Go.RowKit Dig
set_option linter.unusedVariables false

namespace Dig
/-- zs holds the first k digits of a number whose rest is c, as the equation S says. -/
def AppRel (S : Nat → Nat → Nat → Prop) (zs : List Nat) (k c : Nat) : Prop := zs.length = k ∧ Small zs ∧ S k (val zs) c
def AddEq (xs ys : List Nat) (k v c : Nat) : Prop := v + 4294967296 ^ k * c = val (xs.take k) + val (ys.take k) ∧ c ≤ 1
def DblEq (xs : List Nat) (b k v c : Nat) : Prop := v + 4294967296 ^ k * c = 2 * val (xs.take k) + b ∧ c ≤ 1
theorem Small.snoc {zs : List Nat} (h : Small zs) {d : Nat} (hd : d < 4294967296) : Small (zs ++ [d]) := by
  intro x hx
  rcases List.mem_append.1 hx with h1 | h1
  · exact h x h1
  · simp at h1; omega
theorem val_snoc (zs : List Nat) (d : Nat) : val (zs ++ [d]) = val zs + 4294967296 ^ zs.length * d := by
  rw [val_append]
  simp [val]
theorem AddEq.step {xs ys zs : List Nat} {k c x y : Nat} (h : AppRel (AddEq xs ys) zs k c) (hx : xs.getD k 0 = x) (hy : ys.getD k 0 = y) (hxb : x < 4294967296) (hyb : y < 4294967296) :
    AppRel (AddEq xs ys) (zs ++ [(c + x + y) % 4294967296]) (k + 1) ((c + x + y) / 4294967296) := by
  obtain ⟨hl, hs, he, hc⟩ := h
  refine ⟨by simp [hl], hs.snoc (Nat.mod_lt _ (by omega)), ?_, by omega⟩
  rw [val_snoc, hl, take_all_getD, take_all_getD, hx, hy, Nat.pow_succ, Nat.mul_assoc]
  have e : (c + x + y) % 4294967296 + 4294967296 * ((c + x + y) / 4294967296) = c + x + y := Nat.mod_add_div _ _
  have e2 : 4294967296 ^ k * ((c + x + y) % 4294967296) + 4294967296 ^ k * (4294967296 * ((c + x + y) / 4294967296)) = 4294967296 ^ k * (c + x + y) := by rw [← Nat.mul_add, e]
  rw [Nat.mul_add, Nat.mul_add] at e2
  omega
theorem DblEq.step {xs zs : List Nat} {b k c x : Nat} (h : AppRel (DblEq xs b) zs k c) (hx : xs.getD k 0 = x) (hxb : x < 4294967296) :
    AppRel (DblEq xs b) (zs ++ [x * 2 % 4294967296 + c]) (k + 1) (x / 2147483648) := by
  obtain ⟨hl, hs, he, hc⟩ := h
  refine ⟨by simp [hl], hs.snoc (by omega), ?_, by omega⟩
  rw [val_snoc, hl, take_all_getD, hx, Nat.pow_succ, Nat.mul_assoc]
  have e : x * 2 % 4294967296 + c + 4294967296 * (x / 2147483648) = 2 * x + c := by omega
  have e2 : 4294967296 ^ k * (x * 2 % 4294967296 + c) + 4294967296 ^ k * (4294967296 * (x / 2147483648)) = 4294967296 ^ k * (2 * x + c) := by rw [← Nat.mul_add, e]
  rw [Nat.mul_add (4294967296 ^ k) (2 * x) c] at e2
  have e3 : 4294967296 ^ k * (2 * x) = 2 * (4294967296 ^ k * x) := by rw [Nat.mul_left_comm]
  omega
end Dig
theorem or_bit (x b : Nat) (hx : x < 4294967296) (hb : b ≤ 1) : bits .or .u32 ((x * 2 % 4294967296 : Nat) : Int) (b : Int) = ((x * 2 % 4294967296 + b : Nat) : Int) := by
  have h := u32_or_nat (x * 2 % 4294967296) b (by omega) (by omega)
  rw [h]
  congr 1
  have := Nat.shiftLeft_add_eq_or_of_lt (i := 1) (b := b) (by omega) (x % 2147483648)
  rw [Nat.shiftLeft_eq] at this
  rw [show x * 2 % 4294967296 = x % 2147483648 * 2 ^ 1 by omega]
  exact this.symm

set_option maxHeartbeats 2000000 in
theorem natAdd_c (w : World) (va vb : Value) (xs ys : List Nat) (ha : Num w va xs) (hb : Num w vb ys) (hza : xs.length ≤ 4398046511104) (hzb : ys.length ≤ 4398046511104) :
    Calls Try.prog 29 #[va, vb] w (RNat w (val xs + val ys)) := by
  obtain ⟨A, c, rfl⟩ := ha.form
  obtain ⟨A', c', rfl⟩ := hb.form
  have hba := ha.bounds.2
  have hbb := hb.bounds.2
  have hla : (xs.length : Int) ≤ 4398046511104 := by omega
  have hlb : (ys.length : Int) ≤ 4398046511104 := by omega
  go_enter Try.func29, Try.ntmps29
  go_wp2_with fail
  go_loopw [5, 6, 7] (fun out cy i wr => ∃ (k q : Nat) (zs : List Nat), (k ≤ xs.length ∨ k ≤ ys.length) ∧ i = .int .i64 k ∧ cy = .int .u64 q ∧ AppRel (AddEq xs ys) zs k q ∧ Own w.heap.size wr out zs ∧ Below w.heap.size w wr) (fun _ _ i _ => xs.length + ys.length - (intOf i).toNat)
  case atStart => exact ⟨0, 0, [], .inl (Nat.zero_le _), rfl, rfl, ⟨rfl, Small.nil, by simp [AddEq, val]⟩, Own.nil _ _, Below.refl _ _⟩
  case round =>
    obtain ⟨k, q, zs, hk, rfl, rfl, hr, hO, hB⟩ := hrel
    have hq := hr.2.2.2
    have hzl := hr.1
    have hki : (k : Int) ≤ 4398046511104 := by omega
    have hqi : (q : Int) ≤ 1 := by omega
    have bx := ha.small.get k
    have by' := hb.small.get k
    have hB2 := hB
    rcases Nat.lt_or_ge k xs.length with h1 | h1 <;> rcases Nat.lt_or_ge k ys.length with h2 | h2
    · obtain ⟨b, off, rfl, _, hall⟩ := (ha.below hB).cells (by omega)
      have hcx := hall k h1
      clear hall
      obtain ⟨b2, off2, rfl, _, hall⟩ := (hb.below hB).cells (by omega)
      have hcy := hall k h2
      clear hall
      generalize hxx : xs.getD k 0 = x at hcx bx
      have h1i : (k : Int) < xs.length := by omega
      generalize hyy : ys.getD k 0 = y at hcy by'
      have h2i : (k : Int) < ys.length := by omega
      have HR := Lib.hid (show AppRel (AddEq xs ys) (zs ++ [(q + x + y) % 4294967296]) (k + 1) ((q + x + y) / 4294967296) from AddEq.step hr hxx hyy (by omega) (by omega))
      have HN := Lib.hid (Num.one wr ((q + x + y) % 4294967296) (((q : Int) + (x : Int) + (y : Int)) % 4294967296) (by omega) (by omega))
      have HOA := Lib.hid (hO.alloc (.cells #[.int .u32 (((q : Int) + (x : Int) + (y : Int)) % 4294967296)] 50))
      have HOO := Lib.hid hO
      have HBB := Lib.hid hB
      have HZL := Lib.hid (show zs.length ≤ 4398046511104 by omega)
      have HC := Lib.hid (show ((q : Int) + (x : Int) + (y : Int)) / 4294967296 = (((q + x + y) / 4294967296 : Nat) : Int) by omega)
      clear hr hxx hyy hq hzl hk h1 h2 hO hB hB2
      go_wp2_with (at_builtin; refine wp_append rfl _ _ rfl w.heap.size u5 zs rfl HOA.out (.slice (some ⟨wr.heap.size, 0, none⟩) 1 1) [(q + x + y) % 4294967296] rfl HN.out (by have := HZL.out; simp; omega) (by have := HBB.out.size; simp; omega) ?_; intro v' w' hv' hg' _)
      have hB3 := below_own HBB.out (grown_after_alloc hg') HOO.out (Nat.le_refl _)
      go_roundw
      case rel => exact ⟨k + 1, (q + x + y) / 4294967296, _, by omega, by go_num, congrArg (Value.int .u64) HC.out, HR.out, hv', hB3⟩
      case measure => simp [intOf]; omega
    · obtain ⟨b, off, rfl, _, hall⟩ := (ha.below hB).cells (by omega)
      have hcx := hall k h1
      clear hall
      generalize hxx : xs.getD k 0 = x at hcx bx
      have h1i : (k : Int) < xs.length := by omega
      have hyy : ys.getD k 0 = 0 := by rw [List.getD_eq_getElem?_getD, List.getElem?_eq_none h2]; rfl
      have h2i : ¬ (k : Int) < ys.length := by omega
      have HR := Lib.hid (show AppRel (AddEq xs ys) (zs ++ [(q + x) % 4294967296]) (k + 1) ((q + x) / 4294967296) from AddEq.step hr hxx hyy (by omega) (by omega))
      have HN := Lib.hid (Num.one wr ((q + x) % 4294967296) (((q : Int) + (x : Int)) % 4294967296) (by omega) (by omega))
      have HOA := Lib.hid (hO.alloc (.cells #[.int .u32 (((q : Int) + (x : Int)) % 4294967296)] 50))
      have HOO := Lib.hid hO
      have HBB := Lib.hid hB
      have HZL := Lib.hid (show zs.length ≤ 4398046511104 by omega)
      have HC := Lib.hid (show ((q : Int) + (x : Int)) / 4294967296 = (((q + x) / 4294967296 : Nat) : Int) by omega)
      clear hr hxx hyy hq hzl hk h1 h2 hO hB hB2
      go_wp2_with (at_builtin; refine wp_append rfl _ _ rfl w.heap.size u5 zs rfl HOA.out (.slice (some ⟨wr.heap.size, 0, none⟩) 1 1) [(q + x) % 4294967296] rfl HN.out (by have := HZL.out; simp; omega) (by have := HBB.out.size; simp; omega) ?_; intro v' w' hv' hg' _)
      have hB3 := below_own HBB.out (grown_after_alloc hg') HOO.out (Nat.le_refl _)
      go_roundw
      case rel => exact ⟨k + 1, (q + x) / 4294967296, _, by omega, by go_num, congrArg (Value.int .u64) HC.out, HR.out, hv', hB3⟩
      case measure => simp [intOf]; omega
    · obtain ⟨b2, off2, rfl, _, hall⟩ := (hb.below hB).cells (by omega)
      have hcy := hall k h2
      clear hall
      have hxx : xs.getD k 0 = 0 := by rw [List.getD_eq_getElem?_getD, List.getElem?_eq_none h1]; rfl
      have h1i : ¬ (k : Int) < xs.length := by omega
      generalize hyy : ys.getD k 0 = y at hcy by'
      have h2i : (k : Int) < ys.length := by omega
      have HR := Lib.hid (show AppRel (AddEq xs ys) (zs ++ [(q + y) % 4294967296]) (k + 1) ((q + y) / 4294967296) from AddEq.step hr hxx hyy (by omega) (by omega))
      have HN := Lib.hid (Num.one wr ((q + y) % 4294967296) (((q : Int) + (y : Int)) % 4294967296) (by omega) (by omega))
      have HOA := Lib.hid (hO.alloc (.cells #[.int .u32 (((q : Int) + (y : Int)) % 4294967296)] 50))
      have HOO := Lib.hid hO
      have HBB := Lib.hid hB
      have HZL := Lib.hid (show zs.length ≤ 4398046511104 by omega)
      have HC := Lib.hid (show ((q : Int) + (y : Int)) / 4294967296 = (((q + y) / 4294967296 : Nat) : Int) by omega)
      clear hr hxx hyy hq hzl hk h1 h2 hO hB hB2
      go_wp2_with (at_builtin; refine wp_append rfl _ _ rfl w.heap.size u5 zs rfl HOA.out (.slice (some ⟨wr.heap.size, 0, none⟩) 1 1) [(q + y) % 4294967296] rfl HN.out (by have := HZL.out; simp; omega) (by have := HBB.out.size; simp; omega) ?_; intro v' w' hv' hg' _)
      have hB3 := below_own HBB.out (grown_after_alloc hg') HOO.out (Nat.le_refl _)
      go_roundw
      case rel => exact ⟨k + 1, (q + y) / 4294967296, _, by omega, by go_num, congrArg (Value.int .u64) HC.out, HR.out, hv', hB3⟩
      case measure => simp [intOf]; omega
    · have h1i : ¬ (k : Int) < xs.length := by omega
      have h2i : ¬ (k : Int) < ys.length := by omega
      have HN := Lib.hid (Num.one wr (q) ((q : Int)) (by omega) (by omega))
      have HOA := Lib.hid (hO.alloc (.cells #[.int .u32 ((q : Int))] 50))
      have HOO := Lib.hid hO
      have HBB := Lib.hid hB
      have HZL := Lib.hid (show zs.length ≤ 4398046511104 by omega)
      have he := hr.2.2.1
      rw [List.take_of_length_le h1, List.take_of_length_le h2] at he
      have HE := Lib.hid (show val (zs ++ [q]) = val xs + val ys by rw [val_snoc, hzl]; exact he)
      have HS := Lib.hid (show (zs ++ [q]).length ≤ 8796093022208 by simp; omega)
      clear hr hq hzl hk h1 h2 hO hB hB2 he
      go_wp2_with (at_builtin; refine wp_append rfl _ _ rfl w.heap.size u5 zs rfl HOA.out (.slice (some ⟨wr.heap.size, 0, none⟩) 1 1) [q] rfl HN.out (by have := HZL.out; simp; omega) (by have := HBB.out.size; simp; omega) ?_; intro v' w' hv' hg' _)
      have NN := natNorm_c w' v' _ hv'.num HS.out
      rw [HE.out] at NN
      have HNN := Lib.hid NN
      have hB3 := below_own HBB.out (grown_after_alloc hg') HOO.out (Nat.le_refl _)
      clear NN
      go_wp2_with fail
      refine (HNN.out).mono ?_
      rintro e w3 ⟨r, rfl, hO3, hB4⟩
      go_wp2_with fail
      go_ret
      exact ⟨_, rfl, hO3.mono hB3.size, below_then hB3 hB4⟩

set_option maxHeartbeats 2000000 in
theorem double_c (w : World) (va : Value) (xs : List Nat) (b0 : Nat) (ha : Num w va xs) (hza : xs.length ≤ 4398046511104) (hb0 : b0 ≤ 1) :
    Calls Try.prog 45 #[va, .int .u32 (b0 : Int)] w (RNat w (2 * val xs + b0)) := by
  obtain ⟨A, c, rfl⟩ := ha.form
  have hba := ha.bounds.2
  have hla : (xs.length : Int) ≤ 4398046511104 := by omega
  have hbi : (b0 : Int) ≤ 1 := by omega
  go_enter Try.func45, Try.ntmps45
  go_wp2_with fail
  go_loopw [1, 5, 6] (fun bt out i wr => ∃ (k q : Nat) (zs : List Nat), k ≤ xs.length ∧ i = .int .i64 k ∧ bt = .int .u32 q ∧ AppRel (DblEq xs b0) zs k q ∧ Own w.heap.size wr out zs ∧ Below w.heap.size w wr) (fun _ _ i _ => xs.length - (intOf i).toNat)
  case atStart => exact ⟨0, b0, [], Nat.zero_le _, rfl, rfl, ⟨rfl, Small.nil, by simp [DblEq, val]; omega⟩, Own.nil _ _, Below.refl _ _⟩
  case round =>
    obtain ⟨k, q, zs, hk, rfl, rfl, hr, hO, hB⟩ := hrel
    have hq := hr.2.2.2
    have hzl := hr.1
    have hki : (k : Int) ≤ 4398046511104 := by omega
    have hqi : (q : Int) ≤ 1 := by omega
    have bx := ha.small.get k
    by_cases h1 : k < xs.length
    · obtain ⟨b, off, rfl, hbw, hall⟩ := ha.cells (by omega)
      have hcw := hall k h1
      clear hall
      generalize hxx : xs.getD k 0 = x at hcw bx
      have CELL := Lib.hid (fun w' (hB' : Below w.heap.size w w') => (hB'.cell (p := ⟨b, off + k, none⟩) hbw).trans hcw)
      have hcx := CELL.out wr hB
      clear hcw
      have h1i : (k : Int) < xs.length := by omega
      have HR := Lib.hid (DblEq.step hr hxx bx)
      have hor : bits .or .u32 ((x : Int) * 2 % 4294967296) (q : Int) = ((x * 2 % 4294967296 + q : Nat) : Int) := or_bit x q bx hq
      have HN := Lib.hid (Num.one wr (x * 2 % 4294967296 + q) (bits .or .u32 ((x : Int) * 2 % 4294967296) (q : Int)) (by omega) hor)
      have HOA := Lib.hid (hO.alloc (.cells #[.int .u32 (bits .or .u32 ((x : Int) * 2 % 4294967296) (q : Int))] 50))
      have HOO := Lib.hid hO
      have HBB := Lib.hid hB
      have HZL := Lib.hid (show zs.length ≤ 4398046511104 by omega)
      have HC := Lib.hid (show (x : Int) / 2147483648 = ((x / 2147483648 : Nat) : Int) by omega)
      clear hr hxx hq hzl hk h1 hO hB hor
      go_wp2_with (at_builtin; refine wp_append rfl _ _ rfl w.heap.size u5 zs rfl HOA.out (.slice (some ⟨wr.heap.size, 0, none⟩) 1 1) [x * 2 % 4294967296 + q] rfl HN.out (by have := HZL.out; simp; omega) (by have := HBB.out.size; simp; omega) ?_; intro v' w' hv' hg' _; have hB3 := below_own HBB.out (grown_after_alloc hg') HOO.out (Nat.le_refl _); have hcx2 := CELL.out w' hB3)
      go_roundw
      case rel => exact ⟨k + 1, x / 2147483648, _, by omega, by go_num, congrArg (Value.int .u32) HC.out, HR.out, hv', hB3⟩
      case measure => simp [intOf]; omega
    · have h1i : ¬ (k : Int) < xs.length := by omega
      have HN := Lib.hid (Num.one wr q (q : Int) (by omega) rfl)
      have HOA := Lib.hid (hO.alloc (.cells #[.int .u32 (q : Int)] 50))
      have HOO := Lib.hid hO
      have HBB := Lib.hid hB
      have HZL := Lib.hid (show zs.length ≤ 4398046511104 by omega)
      have he := hr.2.2.1
      rw [List.take_of_length_le (by omega)] at he
      have HE := Lib.hid (show val (zs ++ [q]) = 2 * val xs + b0 by rw [val_snoc, hzl]; exact he)
      have HS := Lib.hid (show (zs ++ [q]).length ≤ 8796093022208 by simp; omega)
      clear hr hq hzl hk h1 hO hB he
      go_wp2_with (at_builtin; refine wp_append rfl _ _ rfl w.heap.size u5 zs rfl HOA.out (.slice (some ⟨wr.heap.size, 0, none⟩) 1 1) [q] rfl HN.out (by have := HZL.out; simp; omega) (by have := HBB.out.size; simp; omega) ?_; intro v' w' hv' hg' _)
      have NN := natNorm_c w' v' _ hv'.num HS.out
      rw [HE.out] at NN
      have HNN := Lib.hid NN
      have hB3 := below_own HBB.out (grown_after_alloc hg') HOO.out (Nat.le_refl _)
      clear NN
      go_wp2_with fail
      refine (HNN.out).mono ?_
      rintro e w3 ⟨r, rfl, hO3, hB4⟩
      go_wp2_with fail
      go_ret
      exact ⟨_, rfl, hO3.mono hB3.size, below_then hB3 hB4⟩
end Go.Proofs.Yticakmcjiofhoaa

/- The contracts of subtractMultiple, addBack, shiftLeft and shiftRight. -/
import Derived.Test.YticakmcjiofhoaaDivOne
import Derived.Test.YticakmcjiofhoaaKnuth
namespace Go.Proofs.Yticakmcjiofhoaa
open Go.RowKit Dig
set_option linter.unusedVariables false

namespace Dig
/-- After k digits of the multiple: cy is the carry and br the borrow. -/
def MulRel (xs ds zs : List Nat) (q k cy br : Nat) : Prop :=
  zs.length = xs.length ∧ Small zs ∧ (∀ j, k ≤ j → zs.getD j 0 = xs.getD j 0) ∧ val (zs.take k) + q * val (ds.take k) = val (xs.take k) + 4294967296 ^ k * (cy + br) ∧ cy < 4294967296 ∧ br ≤ 1
theorem MulRel.start (xs ds : List Nat) (q : Nat) (h : Small xs) : MulRel xs ds xs q 0 0 0 := ⟨rfl, h, fun _ _ => rfl, by simp [val], by omega, by omega⟩
theorem MulRel.step {xs ds zs : List Nat} {q k cy br x d z b : Nat} (h : MulRel xs ds zs q k cy br) (hk : k < xs.length) (hx : zs.getD k 0 = x) (hd : ds.getD k 0 = d) (hdb : d < 4294967296) (hq : q < 4294967296)
    (hz : z < 4294967296) (hb : b ≤ 1) (he : z + (cy + q * d) % 4294967296 + br = x + 4294967296 * b) :
    MulRel xs ds (zs.set k z) q (k + 1) ((cy + q * d) / 4294967296) b := by
  obtain ⟨hl, hs, ha, hv, hc, hbr⟩ := h
  have hm := mul_le_digits hq hdb
  refine ⟨by simpa using hl, hs.set _ _ hz, fun j hj => ?_, ?_, by omega, hb⟩
  · rw [getD_set_ne _ _ _ _ (by omega)]
    exact ha j (by omega)
  · rw [take_set_succ _ _ _ (by omega), take_all_getD ds, take_all_getD xs, ← ha k (Nat.le_refl _), hx, hd, Nat.pow_succ, Nat.mul_assoc]
    have e0 := Nat.mod_add_div (cy + q * d) 4294967296
    generalize (cy + q * d) % 4294967296 = lo at *
    generalize (cy + q * d) / 4294967296 = hi at *
    have e1 : 4294967296 ^ k * (z + lo + br) = 4294967296 ^ k * (x + 4294967296 * b) := by rw [he]
    have e2 : 4294967296 ^ k * (lo + 4294967296 * hi) = 4294967296 ^ k * (cy + q * d) := by rw [e0]
    have e3 : q * (4294967296 ^ k * d) = 4294967296 ^ k * (q * d) := Nat.mul_left_comm _ _ _
    rw [Nat.mul_add q, e3]
    simp only [Nat.mul_add] at e1 e2 hv ⊢
    omega
/-- The carry of a digit's product stays a digit. -/
theorem cy_bound {cy q d : Nat} (hc : cy < 4294967296) (hq : q < 4294967296) (hd : d < 4294967296) : cy + q * d ≤ 18446744069414584320 := by
  have := mul_le_digits hq hd
  omega
end Dig

/-- What subtractMultiple leaves: the lower n digits less q times the divisor, cy is what is to be taken from the digit above. -/
def SubMul (w : World) (g : Nat) (pre : List Value) (xs ds : List Nat) (n q : Nat) (post : List Value) (e : Ending) (w' : World) : Prop :=
  ∃ (zs : List Nat) (cy : Nat), e = .returned (.bool (decide (xs.getD n 0 < cy))) ∧ zs.length = xs.length ∧ Small zs ∧ (∀ j, n ≤ j → zs.getD j 0 = xs.getD j 0) ∧
    val (zs.take n) + q * val ds = val (xs.take n) + 4294967296 ^ n * cy ∧ Seg w' g pre zs post ∧ w.grownBy w' (some g) ∧ w'.heap.size = w.heap.size

set_option maxHeartbeats 2000000 in
theorem subMul_c (w : World) (g n c q : Nat) (pre post : List Value) (xs ds : List Nat) (vd : Value) (hs : Seg w g pre xs post) (hx : Small xs) (hxn : n < xs.length) (hc : n + 1 ≤ c ∧ c ≤ 9223372036854775807) (hd : Num w vd ds) (hdl : ds.length = n) (hn0 : 0 < n)
    (hne : vd.ownBlock ≠ some g) (hq : q < 4294967296) :
    Calls Try.prog 64 #[.slice (some ⟨g, pre.length, none⟩) (n + 1) c, vd, .int .u64 (q : Int)] w (SubMul w g pre xs ds n q post) := by
  obtain ⟨A, c', rfl⟩ := hd.form
  rw [hdl] at hd ⊢
  have hbd := hd.bounds.2
  obtain ⟨hc1, hc2⟩ := hc
  have hne' : 0 < ds.length → (Value.slice A n c').ownBlock ≠ some g := by rw [hdl] at hne; exact fun _ => hne
  have HDL := Lib.hid hdl
  clear hdl
  go_enter Try.func64, Try.ntmps64
  go_wp2_with fail
  go_loopw [7, 8, 14] (fun cc bb i wr => ∃ (k cy br : Nat) (zs : List Nat), k ≤ n ∧ i = .int .i64 k ∧ cc = .int .u64 cy ∧ bb = .int .u64 br ∧ MulRel xs ds zs q k cy br ∧ Seg wr g pre zs post ∧ w.grownBy wr (some g) ∧ wr.heap.size = w.heap.size) (fun _ _ i _ => n - (intOf i).toNat)
  case atStart => exact ⟨0, 0, 0, xs, Nat.zero_le _, rfl, rfl, rfl, MulRel.start xs ds q hx, hs, World.grownBy.refl w _, rfl⟩
  case round =>
    obtain ⟨k, cy, br, zs, hk, rfl, rfl, rfl, hr, hseg, hgr, hsz⟩ := hrel
    have hcy := hr.2.2.2.2.1
    have hbr := hr.2.2.2.2.2
    have hzl := hr.1
    by_cases hlt : k < n
    · have hcx := hseg.cell (j := k) (by omega)
      have hfx := hseg.frozen (pre.length + k)
      obtain ⟨b, off, rfl, hbb, hall⟩ := (hd.far hgr hne').cells (by omega)
      have hcd := hall k hlt
      have bx := hr.2.1.get k
      have bd := hd.small.get k
      generalize hxx : zs.getD k 0 = x at hcx bx
      generalize hdd : ds.getD k 0 = d at hcd bd
      have m1 := mul_le_digits hq bd
      have m2 : (q : Int) * (d : Int) ≤ 18446744065119617025 := by rw [← Int.natCast_mul]; omega
      have m3 : (0 : Int) ≤ (q : Int) * (d : Int) := by rw [← Int.natCast_mul]; omega
      have e1 : (cy : Int) + (q : Int) * (d : Int) = ((cy + q * d : Nat) : Int) := by rw [Int.natCast_add, Int.natCast_mul]
      obtain ⟨z, b1, hz, hb1, he, hw0, hw1, hw2⟩ := sub_wrap x ((cy + q * d) % 4294967296) br bx (Nat.mod_lt _ (by omega)) hbr
      have HR := Lib.hid (hr.step (by omega) hxx hdd bd hq hz hb1 (by omega))
      have e2 : (((cy + q * d) % 4294967296 : Nat) : Int) = ((cy : Int) + (q : Int) * (d : Int)) % 4294967296 := by rw [e1]; rfl
      have e3 : (((cy + q * d) / 4294967296 : Nat) : Int) = ((cy : Int) + (q : Int) * (d : Int)) / 4294967296 := by rw [e1]; rfl
      rw [e2] at hw0 hw1 hw2
      have hkz : k < zs.length := by omega
      have HS := Lib.hid (hseg.put k z _ hkz hw1)
      have HG := Lib.hid (grown_set hgr (pre.length + k) (.int .u32 (IntKind.u64.wrap (IntKind.u64.wrap ((x : Int) - ((cy : Int) + (q : Int) * (d : Int)) % 4294967296) - (br : Int)) % 4294967296)))
      have HW := Lib.hid hw2
      have HE3 := Lib.hid e3
      have HZ := Lib.hid hsz
      have hki : (k : Int) < n := by omega
      clear hr hseg hgr hsz hxx hdd hall hw1 hw2 he e1 e2 e3 hzl m1
      go_wp2_with fail
      go_roundw
      case rel => exact ⟨k + 1, (cy + q * d) / 4294967296, b1, _, by omega, by go_num, congrArg (Value.int .u64) HE3.out.symm, congrArg (Value.int .u64) HW.out, HR.out, HS.out, HG.out, by rw [size_set]; exact HZ.out⟩
      case measure => simp [intOf]; omega
    · have : k = n := by omega
      subst this
      have hcx := hseg.cell (j := k) (by omega)
      have e0 := hr.2.2.1 k (Nat.le_refl _)
      rw [e0] at hcx
      have bx := hx.get k
      have hv := hr.2.2.2.1
      rw [show ds.take k = ds from List.take_of_length_le (by rw [HDL.out]; exact Nat.le_refl _)] at hv
      have HV := Lib.hid hv
      have HR := Lib.hid hr
      have HZL := Lib.hid hzl
      obtain ⟨x, hxx⟩ : ∃ x, xs.getD k 0 = x := ⟨_, rfl⟩
      have HXX := Lib.hid hxx
      rw [hxx] at hcx bx
      have hxi : (x : Int) < 4294967296 := by omega
      have hcyi : (cy : Int) < 4294967296 := by omega
      have hbri : (br : Int) ≤ 1 := by omega
      clear hr hv hzl e0 hxx
      go_wp2_with fail
      go_ret
      refine ⟨zs, cy + br, ret_eq (congrArg Value.bool ?_), HZL.out, HR.out.2.1, HR.out.2.2.1, HV.out, hseg, hgr, hsz⟩
      rw [HXX.out, Bool.eq_iff_iff]
      simp
      omega

set_option maxHeartbeats 2000000 in
theorem addBack_c (w : World) (g n m c : Nat) (pre post : List Value) (xs ds : List Nat) (vd : Value) (hs : Seg w g pre xs post) (hx : Small xs) (hxn : n < xs.length) (hc : n ≤ m ∧ m ≤ c ∧ c ≤ 9223372036854775807) (hd : Num w vd ds) (hdl : ds.length = n) (hn0 : 0 < n)
    (hne : vd.ownBlock ≠ some g) :
    Calls Try.prog 65 #[.slice (some ⟨g, pre.length, none⟩) m c, vd] w fun e w' => e = .returned (.tuple #[]) ∧ ∃ zs q, AddRel xs ds zs n q ∧ Seg w' g pre zs post ∧ w.grownBy w' (some g) ∧ w'.heap.size = w.heap.size := by
  obtain ⟨A, c', rfl⟩ := hd.form
  rw [hdl] at hd ⊢
  have hbd := hd.bounds.2
  obtain ⟨hc1, hc2, hc3⟩ := hc
  have hne' : 0 < ds.length → (Value.slice A n c').ownBlock ≠ some g := by rw [hdl] at hne; exact fun _ => hne
  clear hdl
  go_enter Try.func65, Try.ntmps65
  go_wp2_with fail
  go_loopw [4, 9] (fun cc i wr => ∃ (k q : Nat) (zs : List Nat), k ≤ n ∧ i = .int .i64 k ∧ cc = .int .u64 q ∧ AddRel xs ds zs k q ∧ Seg wr g pre zs post ∧ w.grownBy wr (some g) ∧ wr.heap.size = w.heap.size) (fun _ i _ => n - (intOf i).toNat)
  case atStart => exact ⟨0, 0, xs, Nat.zero_le _, rfl, rfl, AddRel.start xs ds hx, hs, World.grownBy.refl w _, rfl⟩
  case round =>
    obtain ⟨k, q, zs, hk, rfl, rfl, hr, hseg, hgr, hsz⟩ := hrel
    have hq := hr.2.2.2.2
    have hzl := hr.1
    by_cases hlt : k < n
    · have hcx := hseg.cell (j := k) (by omega)
      have hfx := hseg.frozen (pre.length + k)
      obtain ⟨b, off, rfl, hbb, hall⟩ := (hd.far hgr hne').cells (by omega)
      have hcy := hall k hlt
      have bx := hr.2.1.get k
      have by' := hd.small.get k
      generalize hxx : zs.getD k 0 = x at hcx bx
      generalize hyy : ds.getD k 0 = y at hcy by'
      have HR := Lib.hid (hr.step (by omega) hxx hyy by')
      have hkz : k < zs.length := by omega
      have HS := Lib.hid (hseg.put k ((q + (x + y)) % 4294967296) (((q : Int) + ((x : Int) + (y : Int))) % 4294967296) hkz (by omega))
      have HG := Lib.hid (grown_set hgr (pre.length + k) (.int .u32 (((q : Int) + ((x : Int) + (y : Int))) % 4294967296)))
      have HZ := Lib.hid hsz
      have hki : (k : Int) < n := by omega
      have hkm : (k : Int) < m := by omega
      clear hr hseg hgr hsz hxx hyy hzl hall
      go_wp2_with fail
      go_roundw
      case rel => exact ⟨k + 1, (q + (x + y)) / 4294967296, _, by omega, by go_num, by go_num, HR.out, HS.out, HG.out, by rw [size_set]; exact HZ.out⟩
      case measure => simp [intOf]; omega
    · have : k = n := by omega
      subst this
      have HR := Lib.hid hr
      clear hr hzl
      go_wp2_with fail
      go_end0
      exact ⟨rfl, zs, q, HR.out, hseg, hgr, hsz⟩
end Go.Proofs.Yticakmcjiofhoaa

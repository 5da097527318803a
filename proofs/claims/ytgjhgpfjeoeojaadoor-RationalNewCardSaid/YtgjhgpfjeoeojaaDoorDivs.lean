/- The contract of estimateDigit: at most one more than the quotient digit. -/
import Derived.Deep.RegionHeld3
import Derived.Test.YtgjhgpfjeoeojaaDoorTexts
import Derived.Test.YtgjhgpfjeoeojaaDoorPlain
import Derived.Test.YtgjhgpfjeoeojaaDoorAdds
import Derived.Test.YtgjhgpfjeoeojaaDoorVals
namespace Go.Proofs.YtgjhgpfjeoeojaaDoor
open Go.RowKit Dig
set_option linter.unusedVariables false

def EstSlots (P D dh p0 p1 : Nat) (dd rr : Value) : Prop := ∃ d r : Nat, dd = .int .u64 (d : Int) ∧ rr = .int .u64 (r : Int) ∧ EstRel P D dh p0 p1 d r
set_option maxHeartbeats 2000000 in
theorem est_c (w : World) (vp vd : Value) (ps ds : List Nat) (n : Nat) (hp : Num w vp ps) (hd : Num w vd ds) (hn : 2 ≤ n) (hpl : ps.length = n + 1) (hdl : ds.length = n) (hbig : 2147483648 ≤ ds.getD (n - 1) 0) (hlt : val ps < 4294967296 * val ds) :
    Calls Tryd.prog 81 #[vp, vd] w fun e w' => ∃ d : Nat, e = .returned (.int .u64 (d : Int)) ∧ (d < 4294967296 ∧ d * val ds < val ps + val ds ∧ val ps < (d + 1) * val ds) ∧ ∃ N, w' = w.drewN N := by
  have E := est_of hn hpl hdl hp.small hd.small hbig hlt
  obtain ⟨A, c, rfl⟩ := hp.form
  obtain ⟨A', c', rfl⟩ := hd.form
  rw [hpl] at hp ⊢
  rw [hdl] at hd ⊢
  have hbp := hp.bounds.2
  have hbd := hd.bounds.2
  obtain ⟨b, off, rfl, hb1, h1⟩ := hp.cells (by omega)
  obtain ⟨b', off', rfl, hb2, h2⟩ := hd.cells (by omega)
  have c0 := h1 n (by omega)
  have c1 := h1 (n - 1) (by omega)
  have c2 := h1 (n - 2) (by omega)
  have d1 := h2 (n - 1) (by omega)
  have d2 := h2 (n - 2) (by omega)
  generalize ps.getD n 0 = p0 at *
  generalize ps.getD (n - 1) 0 = p1 at *
  generalize ps.getD (n - 2) 0 = p2 at *
  generalize ds.getD (n - 1) 0 = dh at *
  generalize ds.getD (n - 2) 0 = dn at *
  generalize val ps = P at *
  generalize val ds = D at *
  have e0 := E.p0_le
  have e1 := E.hb
  have e2 := E.nxb
  have e3 := E.p1b
  have e4 := E.p2b
  have HE := Lib.hid E
  have HST := Lib.hid E.start
  have hdiv : (p0 * 4294967296 + p1) / dh ≤ 4294967297 := E.start.2.2.1
  have ho1 := or_u64 p1 p0 e3 (by omega)
  rw [show p1 + 4294967296 * p0 = p0 * 4294967296 + p1 by omega] at ho1
  have htb : p0 * 4294967296 + p1 < 18446744073709551616 := by omega
  generalize htop : p0 * 4294967296 + p1 = top at *
  have HTOP := Lib.hid htop
  have hdi : (top : Int) / (dh : Int) ≤ 4294967297 := by
    have e : (top : Int) / (dh : Int) = ((top / dh : Nat) : Int) := rfl
    rw [e]; omega
  have hdi0 : 0 ≤ (top : Int) / (dh : Int) := by
    have e : (top : Int) / (dh : Int) = ((top / dh : Nat) : Int) := rfl
    rw [e]; exact Int.natCast_nonneg _
  have hn2 : (2 : Int) ≤ n := by omega
  have hhi : (0 : Int) < dh := by omega
  have hdn0 : ((dh : Int) == 0) = false := by rw [beq_eq_false_iff_ne]; omega
  clear E h1 h2 hp hd hpl hdl htop
  go_enter Tryd.func81, Tryd.ntmps81
  go_wp2_with fail
  go_quiet (fail)
  go_wp2_with fail
  go_quiet (fail)
  go_wp2_with fail
  go_quiet (fail)
  go_wp2_with fail
  go_loop [9, 10] (fun dd rr => EstSlots P D dh p0 p1 dd rr) (fun dd _ => (intOf dd).toNat)
  case atStart => exact ⟨top / dh, top % dh, rfl, rfl, HST.out⟩
  case round =>
    obtain ⟨d, r, rfl, rfl, hr⟩ := hrel
    have hd5 := hr.2.2.1
    have hrb : r < 4294967296 ∨ 4294967296 ≤ r := by omega
    have hsum := hr.1
    have hrt : r ≤ p0 * 4294967296 + p1 := by omega
    rw [HTOP.out] at hrt
    have HR := Lib.hid hr
    clear hr hsum hdi hdi0
    by_cases h1 : 4294967296 ≤ r
    · have t1 : ((r : Int) / 4294967296 == 0) = false := by rw [beq_eq_false_iff_ne]; omega
      have HD := Lib.hid (HE.out.done HR.out (.inl h1))
      go_wp2_with fail
      go_ret
      exact ⟨d, rfl, HD.out, _, by first | rfl | rw [World.drewN_drewN, World.drewN_drewN]⟩
    · have t1 : ((r : Int) / 4294967296 == 0) = true := by rw [beq_iff_eq]; omega
      by_cases h2 : 4294967296 ≤ d
      · have t2 : ((d : Int) / 4294967296 != 0) = true := by rw [bne_iff_ne]; omega
        obtain ⟨s1, s2⟩ := HE.out.step HR.out (.inl h2)
        have HS := Lib.hid s2
        clear s2
        go_wp2_with fail
        go_round
        case rel => exact ⟨d - 1, r + dh, by go_num, by go_num, HS.out⟩
        case measure => simp [intOf]; omega
      · have t2 : ((d : Int) / 4294967296 != 0) = false := by rw [bne_eq_false_iff_eq]; omega
        have ho2 := or_u64 p2 r e4 (by omega)
        have m1 := mul_le_digits (show d < 4294967296 by omega) e2
        have m2 : (d : Int) * (dn : Int) ≤ 18446744065119617025 := by rw [← Int.natCast_mul]; omega
        have m3 : (0 : Int) ≤ (d : Int) * (dn : Int) := by rw [← Int.natCast_mul]; omega
        by_cases h3 : r * 4294967296 + p2 < d * dn
        · obtain ⟨s1, s2⟩ := HE.out.step HR.out (.inr h3)
          have HS := Lib.hid s2
          have t3 : decide (((p2 + 4294967296 * r : Nat) : Int) < (d : Int) * (dn : Int)) = true := by rw [← Int.natCast_mul]; simp only [decide_eq_true_eq]; omega
          generalize p2 + 4294967296 * r = sr at *
          clear s2
          go_wp2_with fail
          go_round
          case rel => exact ⟨d - 1, r + dh, by go_num, by go_num, HS.out⟩
          case measure => simp [intOf]; omega
        · have HD := Lib.hid (HE.out.done HR.out (.inr ⟨by omega, by omega⟩))
          have t3 : decide (((p2 + 4294967296 * r : Nat) : Int) < (d : Int) * (dn : Int)) = false := by rw [← Int.natCast_mul]; simp only [decide_eq_false_iff_not]; omega
          generalize p2 + 4294967296 * r = sr at *
          go_wp2_with fail
          go_ret
          exact ⟨d, rfl, HD.out, _, by first | rfl | rw [World.drewN_drewN, World.drewN_drewN]⟩
end Go.Proofs.YtgjhgpfjeoeojaaDoor

/- The contracts of subtractMultiple, addBack, shiftLeft and shiftRight. -/
namespace Go.Proofs.YtgjhgpfjeoeojaaDoor
open Go.RowKit Dig
set_option linter.unusedVariables false

namespace Dig
/-- After k digits of the multiple: cy is the carry and br the borrow. -/
def MulRel (xs ds zs : List Nat) (q k cy br : Nat) : Prop :=
  zs.length = xs.length ∧ Small zs ∧ (∀ j, k ≤ j → zs.getD j 0 = xs.getD j 0) ∧ val (zs.take k) + q * val (ds.take k) = val (xs.take k) + 4294967296 ^ k * (cy + br) ∧ cy < 4294967296 ∧ br ≤ 1
theorem MulRel.start (xs ds : List Nat) (q : Nat) (h : Small xs) : MulRel xs ds xs q 0 0 0 := ⟨rfl, h, fun _ _ => rfl, by simp [val], by omega, by omega⟩
theorem MulRel.step {xs ds zs : List Nat} {q k cy br x d z b : Nat} (h : MulRel xs ds zs q k cy br) (hk : k < xs.length) (hx : zs.getD k 0 = x) (hd : ds.getD k 0 = d) (hdb : d < 4294967296) (hq : q < 4294967296)
    (hz : z < 4294967296) (hb : b ≤ 1) (he : z + (cy + q * d) % 4294967296 + br = x + 4294967296 * b) :
    MulRel xs ds (zs.set k z) q (k + 1) ((cy + q * d) / 4294967296) b := by
  obtain ⟨hl, hs, ha, hv, hc, hbr⟩ := h
  have hm := mul_le_digits hq hdb
  refine ⟨by simpa using hl, hs.set _ _ hz, fun j hj => ?_, ?_, by omega, hb⟩
  · rw [getD_set_ne _ _ _ _ (by omega)]
    exact ha j (by omega)
  · rw [take_set_succ _ _ _ (by omega), take_all_getD ds, take_all_getD xs, ← ha k (Nat.le_refl _), hx, hd, Nat.pow_succ, Nat.mul_assoc]
    have e0 := Nat.mod_add_div (cy + q * d) 4294967296
    generalize (cy + q * d) % 4294967296 = lo at *
    generalize (cy + q * d) / 4294967296 = hi at *
    have e1 : 4294967296 ^ k * (z + lo + br) = 4294967296 ^ k * (x + 4294967296 * b) := by rw [he]
    have e2 : 4294967296 ^ k * (lo + 4294967296 * hi) = 4294967296 ^ k * (cy + q * d) := by rw [e0]
    have e3 : q * (4294967296 ^ k * d) = 4294967296 ^ k * (q * d) := Nat.mul_left_comm _ _ _
    rw [Nat.mul_add q, e3]
    simp only [Nat.mul_add] at e1 e2 hv ⊢
    omega
/-- The carry of a digit's product stays a digit. -/
theorem cy_bound {cy q d : Nat} (hc : cy < 4294967296) (hq : q < 4294967296) (hd : d < 4294967296) : cy + q * d ≤ 18446744069414584320 := by
  have := mul_le_digits hq hd
  omega
end Dig

/-- What subtractMultiple leaves: the lower n digits less q times the divisor, cy is what is to be taken from the digit above. -/
def SubMul (w : World) (g : Nat) (pre : List Value) (xs ds : List Nat) (n q : Nat) (post : List Value) (e : Ending) (w' : World) : Prop :=
  ∃ (zs : List Nat) (cy : Nat), e = .returned (.bool (decide (xs.getD n 0 < cy))) ∧ zs.length = xs.length ∧ Small zs ∧ (∀ j, n ≤ j → zs.getD j 0 = xs.getD j 0) ∧
    val (zs.take n) + q * val ds = val (xs.take n) + 4294967296 ^ n * cy ∧ Seg w' g pre zs post ∧ w.grownBy w' (some g) ∧ w'.heap.size = w.heap.size

set_option maxHeartbeats 2000000 in
theorem subMul_c (w : World) (g n c q : Nat) (pre post : List Value) (xs ds : List Nat) (vd : Value) (hs : Seg w g pre xs post) (hx : Small xs) (hxn : n < xs.length) (hc : n + 1 ≤ c ∧ c ≤ 9223372036854775807) (hd : Num w vd ds) (hdl : ds.length = n) (hn0 : 0 < n)
    (hne : vd.ownBlock ≠ some g) (hq : q < 4294967296) :
    Calls Tryd.prog 82 #[.slice (some ⟨g, pre.length, none⟩) (n + 1) c, vd, .int .u64 (q : Int)] w (SubMul w g pre xs ds n q post) := by
  obtain ⟨A, c', rfl⟩ := hd.form
  rw [hdl] at hd ⊢
  have hbd := hd.bounds.2
  obtain ⟨hc1, hc2⟩ := hc
  have hne' : 0 < ds.length → (Value.slice A n c').ownBlock ≠ some g := by rw [hdl] at hne; exact fun _ => hne
  have HDL := Lib.hid hdl
  clear hdl
  go_enter Tryd.func82, Tryd.ntmps82
  go_wp2_with fail
  go_loopw [7, 8, 14] (fun cc bb i wr => ∃ (k cy br : Nat) (zs : List Nat), k ≤ n ∧ i = .int .i64 k ∧ cc = .int .u64 cy ∧ bb = .int .u64 br ∧ MulRel xs ds zs q k cy br ∧ Seg wr g pre zs post ∧ w.grownBy wr (some g) ∧ wr.heap.size = w.heap.size) (fun _ _ i _ => n - (intOf i).toNat)
  case atStart => exact ⟨0, 0, 0, xs, Nat.zero_le _, rfl, rfl, rfl, MulRel.start xs ds q hx, hs, World.grownBy.refl w _, rfl⟩
  case round =>
    obtain ⟨k, cy, br, zs, hk, rfl, rfl, rfl, hr, hseg, hgr, hsz⟩ := hrel
    have hcy := hr.2.2.2.2.1
    have hbr := hr.2.2.2.2.2
    have hzl := hr.1
    by_cases hlt : k < n
    · have hcx := hseg.cell (j := k) (by omega)
      have hfx := hseg.frozen (pre.length + k)
      obtain ⟨b, off, rfl, hbb, hall⟩ := (hd.far hgr hne').cells (by omega)
      have hcd := hall k hlt
      have bx := hr.2.1.get k
      have bd := hd.small.get k
      generalize hxx : zs.getD k 0 = x at hcx bx
      generalize hdd : ds.getD k 0 = d at hcd bd
      have m1 := mul_le_digits hq bd
      have m2 : (q : Int) * (d : Int) ≤ 18446744065119617025 := by rw [← Int.natCast_mul]; omega
      have m3 : (0 : Int) ≤ (q : Int) * (d : Int) := by rw [← Int.natCast_mul]; omega
      have e1 : (cy : Int) + (q : Int) * (d : Int) = ((cy + q * d : Nat) : Int) := by rw [Int.natCast_add, Int.natCast_mul]
      obtain ⟨z, b1, hz, hb1, he, hw0, hw1, hw2⟩ := sub_wrap x ((cy + q * d) % 4294967296) br bx (Nat.mod_lt _ (by omega)) hbr
      have HR := Lib.hid (hr.step (by omega) hxx hdd bd hq hz hb1 (by omega))
      have e2 : (((cy + q * d) % 4294967296 : Nat) : Int) = ((cy : Int) + (q : Int) * (d : Int)) % 4294967296 := by rw [e1]; rfl
      have e3 : (((cy + q * d) / 4294967296 : Nat) : Int) = ((cy : Int) + (q : Int) * (d : Int)) / 4294967296 := by rw [e1]; rfl
      rw [e2] at hw0 hw1 hw2
      have hkz : k < zs.length := by omega
      have HS := Lib.hid (hseg.put k z _ hkz hw1)
      have HG := Lib.hid (grown_set hgr (pre.length + k) (.int .u32 (IntKind.u64.wrap (IntKind.u64.wrap ((x : Int) - ((cy : Int) + (q : Int) * (d : Int)) % 4294967296) - (br : Int)) % 4294967296)))
      have HW := Lib.hid hw2
      have HE3 := Lib.hid e3
      have HZ := Lib.hid hsz
      have hki : (k : Int) < n := by omega
      clear hr hseg hgr hsz hxx hdd hall hw1 hw2 he e1 e2 e3 hzl m1
      go_wp2_with fail
      go_roundw
      case rel => exact ⟨k + 1, (cy + q * d) / 4294967296, b1, _, by omega, by go_num, congrArg (Value.int .u64) HE3.out.symm, congrArg (Value.int .u64) HW.out, HR.out, HS.out, HG.out, by rw [size_set]; exact HZ.out⟩
      case measure => simp [intOf]; omega
    · have : k = n := by omega
      subst this
      have hcx := hseg.cell (j := k) (by omega)
      have e0 := hr.2.2.1 k (Nat.le_refl _)
      rw [e0] at hcx
      have bx := hx.get k
      have hv := hr.2.2.2.1
      rw [show ds.take k = ds from List.take_of_length_le (by rw [HDL.out]; exact Nat.le_refl _)] at hv
      have HV := Lib.hid hv
      have HR := Lib.hid hr
      have HZL := Lib.hid hzl
      obtain ⟨x, hxx⟩ : ∃ x, xs.getD k 0 = x := ⟨_, rfl⟩
      have HXX := Lib.hid hxx
      rw [hxx] at hcx bx
      have hxi : (x : Int) < 4294967296 := by omega
      have hcyi : (cy : Int) < 4294967296 := by omega
      have hbri : (br : Int) ≤ 1 := by omega
      clear hr hv hzl e0 hxx
      go_wp2_with fail
      go_ret
      refine ⟨zs, cy + br, ret_eq (congrArg Value.bool ?_), HZL.out, HR.out.2.1, HR.out.2.2.1, HV.out, hseg, hgr, hsz⟩
      rw [HXX.out, Bool.eq_iff_iff]
      simp
      omega

set_option maxHeartbeats 2000000 in
theorem addBack_c (w : World) (g n m c : Nat) (pre post : List Value) (xs ds : List Nat) (vd : Value) (hs : Seg w g pre xs post) (hx : Small xs) (hxn : n < xs.length) (hc : n ≤ m ∧ m ≤ c ∧ c ≤ 9223372036854775807) (hd : Num w vd ds) (hdl : ds.length = n) (hn0 : 0 < n)
    (hne : vd.ownBlock ≠ some g) :
    Calls Tryd.prog 83 #[.slice (some ⟨g, pre.length, none⟩) m c, vd] w fun e w' => e = .returned (.tuple #[]) ∧ ∃ zs q, AddRel xs ds zs n q ∧ Seg w' g pre zs post ∧ w.grownBy w' (some g) ∧ w'.heap.size = w.heap.size := by
  obtain ⟨A, c', rfl⟩ := hd.form
  rw [hdl] at hd ⊢
  have hbd := hd.bounds.2
  obtain ⟨hc1, hc2, hc3⟩ := hc
  have hne' : 0 < ds.length → (Value.slice A n c').ownBlock ≠ some g := by rw [hdl] at hne; exact fun _ => hne
  clear hdl
  go_enter Tryd.func83, Tryd.ntmps83
  go_wp2_with fail
  go_loopw [4, 9] (fun cc i wr => ∃ (k q : Nat) (zs : List Nat), k ≤ n ∧ i = .int .i64 k ∧ cc = .int .u64 q ∧ AddRel xs ds zs k q ∧ Seg wr g pre zs post ∧ w.grownBy wr (some g) ∧ wr.heap.size = w.heap.size) (fun _ i _ => n - (intOf i).toNat)
  case atStart => exact ⟨0, 0, xs, Nat.zero_le _, rfl, rfl, AddRel.start xs ds hx, hs, World.grownBy.refl w _, rfl⟩
  case round =>
    obtain ⟨k, q, zs, hk, rfl, rfl, hr, hseg, hgr, hsz⟩ := hrel
    have hq := hr.2.2.2.2
    have hzl := hr.1
    by_cases hlt : k < n
    · have hcx := hseg.cell (j := k) (by omega)
      have hfx := hseg.frozen (pre.length + k)
      obtain ⟨b, off, rfl, hbb, hall⟩ := (hd.far hgr hne').cells (by omega)
      have hcy := hall k hlt
      have bx := hr.2.1.get k
      have by' := hd.small.get k
      generalize hxx : zs.getD k 0 = x at hcx bx
      generalize hyy : ds.getD k 0 = y at hcy by'
      have HR := Lib.hid (hr.step (by omega) hxx hyy by')
      have hkz : k < zs.length := by omega
      have HS := Lib.hid (hseg.put k ((q + (x + y)) % 4294967296) (((q : Int) + ((x : Int) + (y : Int))) % 4294967296) hkz (by omega))
      have HG := Lib.hid (grown_set hgr (pre.length + k) (.int .u32 (((q : Int) + ((x : Int) + (y : Int))) % 4294967296)))
      have HZ := Lib.hid hsz
      have hki : (k : Int) < n := by omega
      have hkm : (k : Int) < m := by omega
      clear hr hseg hgr hsz hxx hyy hzl hall
      go_wp2_with fail
      go_roundw
      case rel => exact ⟨k + 1, (q + (x + y)) / 4294967296, _, by omega, by go_num, by go_num, HR.out, HS.out, HG.out, by rw [size_set]; exact HZ.out⟩
      case measure => simp [intOf]; omega
    · have : k = n := by omega
      subst this
      have HR := Lib.hid hr
      clear hr hzl
      go_wp2_with fail
      go_end0
      exact ⟨rfl, zs, q, HR.out, hseg, hgr, hsz⟩
end Go.Proofs.YtgjhgpfjeoeojaaDoor

/- The contracts of shiftLeft and shiftRight. -/
namespace Go.Proofs.YtgjhgpfjeoeojaaDoor
open Go.RowKit Dig
set_option linter.unusedVariables false

namespace Dig
theorem pow31 {s : Nat} (hs : s ≤ 31) : 2 ^ s ≤ 2147483648 := by
  have := Nat.pow_le_pow_right (show 0 < 2 by omega) hs
  omega
theorem mul_pow31 {x s : Nat} (hx : x < 4294967296) (hs : s ≤ 31) : x * 2 ^ s ≤ 9223372034707292160 := by
  have := Nat.mul_le_mul (show x ≤ 4294967295 by omega) (pow31 hs)
  omega
/-- After k digits, shifted left by s. -/
def ShlRel (xs zs : List Nat) (s k q : Nat) : Prop :=
  zs.length = xs.length + 1 ∧ Small zs ∧ (∀ j, k ≤ j → zs.getD j 0 = 0) ∧ val (zs.take k) + 4294967296 ^ k * q = val (xs.take k) * 2 ^ s ∧ q < 2 ^ s
theorem ShlRel.start (xs : List Nat) (s : Nat) : ShlRel xs (List.replicate (xs.length + 1) 0) s 0 0 := by
  refine ⟨by simp, Small.replicate _, fun j _ => ?_, by simp [val], Nat.pow_pos (by omega)⟩
  rw [List.getD_eq_getElem?_getD, List.getElem?_replicate]
  split <;> rfl
theorem ShlRel.step {xs zs : List Nat} {s k q x S : Nat} (h : ShlRel xs zs s k q) (hk : k < xs.length) (hx : xs.getD k 0 = x) (hxb : x < 4294967296) (hS : S = q + x * 2 ^ s) :
    ShlRel xs (zs.set k (S % 4294967296)) s (k + 1) (S / 4294967296) := by
  obtain ⟨hl, hs, ha, hv, hq⟩ := h
  refine ⟨by simpa using hl, hs.set _ _ (Nat.mod_lt _ (by omega)), fun j hj => ?_, ?_, ?_⟩
  · rw [getD_set_ne _ _ _ _ (by omega)]
    exact ha j (by omega)
  · rw [take_set_succ _ _ _ (by omega), val_take_succ xs k hk, hx, Nat.pow_succ, Nat.mul_assoc, Nat.add_assoc, ← Nat.mul_add, Nat.mod_add_div, hS, Nat.mul_add, Nat.add_mul, Nat.mul_assoc]
    omega
  · rw [hS, Nat.div_lt_iff_lt_mul (by omega)]
    have h1 : (x + 1) * 2 ^ s ≤ 4294967296 * 2 ^ s := Nat.mul_le_mul_right _ (by omega)
    rw [Nat.add_mul] at h1
    rw [Nat.mul_comm (2 ^ s) 4294967296]
    omega
theorem ShlRel.done {xs zs : List Nat} {s q : Nat} (h : ShlRel xs zs s xs.length q) (hq : q < 4294967296) : (zs.set xs.length q).length = xs.length + 1 ∧ Small (zs.set xs.length q) ∧ val (zs.set xs.length q) = val xs * 2 ^ s := by
  obtain ⟨hl, hs, ha, hv, _⟩ := h
  refine ⟨by simpa using hl, hs.set _ _ hq, ?_⟩
  have h1 := take_set_succ zs xs.length q (by omega)
  rw [List.take_of_length_le (by simp; omega), hv, List.take_of_length_le (Nat.le_refl _)] at h1
  exact h1

/-- Below place k nothing is done yet; the digits from k on are shifted right by s; hi holds the digit at k. -/
def ShrRel (xs zs : List Nat) (s k hi : Nat) : Prop :=
  zs.length = xs.length ∧ Small zs ∧ val (zs.drop k) = val (xs.drop k) / 2 ^ s ∧ hi % 4294967296 = xs.getD k 0
theorem ShrRel.start (xs : List Nat) (s : Nat) : ShrRel xs (List.replicate xs.length 0) s xs.length 0 := by
  refine ⟨by simp, Small.replicate _, ?_, ?_⟩
  · rw [List.drop_of_length_le (by simp), List.drop_of_length_le (Nat.le_refl _)]; simp [val]
  · rw [List.getD_eq_getElem?_getD, List.getElem?_eq_none (Nat.le_refl _)]; rfl
theorem drop_getD' (zs : List Nat) (k : Nat) (h : k < zs.length) : val (zs.drop k) = zs.getD k 0 + 4294967296 * val (zs.drop (k + 1)) := by
  rw [List.drop_eq_getElem_cons h]
  simp [val, List.getD_eq_getElem?_getD, h]
theorem shr_digit {y V T x t : Nat} (hT : 4294967296 = t * T) (hx : x < 4294967296) (hy : y = V % 4294967296) (hT0 : 0 < T) (ht0 : 0 < t) :
    (x + 4294967296 * V) / T = (x + 4294967296 * y) / T % 4294967296 + 4294967296 * (V / T) := by
  have e1 : (x + 4294967296 * V) / T = x / T + t * V := by
    rw [hT, show x + t * T * V = x + T * (t * V) by rw [Nat.mul_comm t T, Nat.mul_assoc], Nat.add_mul_div_left _ _ hT0]
  have e2 : (x + 4294967296 * y) / T = x / T + t * y := by
    rw [hT, show x + t * T * y = x + T * (t * y) by rw [Nat.mul_comm t T, Nat.mul_assoc], Nat.add_mul_div_left _ _ hT0]
  have e3 : x / T < t := by rw [Nat.div_lt_iff_lt_mul hT0, ← hT]; exact hx
  rw [e1, e2]
  -- t * V = t * (V mod T) + 2^32 * (V / T)
  have e4 : t * V = t * (V % T) + 4294967296 * (V / T) := by
    conv => lhs; rw [← Nat.mod_add_div V T]
    rw [Nat.mul_add, hT, Nat.mul_assoc]
  have e5 : y % T = V % T := by
    rw [hy, hT]
    exact Nat.mod_mul_left_mod V t T
  have e6 : t * y = t * (V % T) + 4294967296 * (y / T) := by
    conv => lhs; rw [← Nat.mod_add_div y T]
    rw [Nat.mul_add, e5, hT, Nat.mul_assoc]
  have e7 : x / T + t * (V % T) < 4294967296 := by
    have h1 := Nat.mod_lt V hT0
    have h2 : t * (V % T + 1) ≤ t * T := Nat.mul_le_mul_left _ h1
    rw [← hT, Nat.mul_add, Nat.mul_one] at h2
    omega
  rw [e4, e6, ← Nat.add_assoc, ← Nat.add_assoc, Nat.add_mul_mod_self_left, Nat.mod_eq_of_lt e7]
theorem ShrRel.step {xs zs : List Nat} {s k hi x S : Nat} (h : ShrRel xs zs s (k + 1) hi) (hs31 : s ≤ 31) (hxs : Small xs) (hk : k < xs.length) (hx : xs.getD k 0 = x) (hS : S = x + 4294967296 * (hi % 4294967296)) :
    ShrRel xs (zs.set k (S / 2 ^ s % 4294967296)) s k S := by
  obtain ⟨hl, hs, hv, hh⟩ := h
  have hxb := hxs.get k
  rw [hx] at hxb
  refine ⟨by simpa using hl, hs.set _ _ (Nat.mod_lt _ (by omega)), ?_, ?_⟩
  · rw [drop_getD' _ k (by rw [List.length_set]; omega), getD_set_same _ _ _ (by omega), List.drop_set_of_lt (by omega), hv, drop_getD' xs k hk, hx, hS]
    have hT : 4294967296 = 2 ^ (32 - s) * 2 ^ s := by rw [← Nat.pow_add, show 32 - s + s = 32 by omega]
    have hy : hi % 4294967296 = val (xs.drop (k + 1)) % 4294967296 := by
      rw [hh]
      rcases Nat.lt_or_ge (k + 1) xs.length with h1 | h1
      · rw [drop_getD' xs (k + 1) h1, Nat.add_mul_mod_self_left, Nat.mod_eq_of_lt (hxs.get _)]
      · rw [List.drop_of_length_le h1, List.getD_eq_getElem?_getD, List.getElem?_eq_none h1]; rfl
    exact (shr_digit hT hxb hy (Nat.pow_pos (by omega)) (Nat.pow_pos (by omega))).symm
  · rw [hS, Nat.add_mul_mod_self_left, Nat.mod_eq_of_lt hxb, hx]
end Dig

theorem or_shl (q x s : Nat) (hq : q < 2 ^ s) (hx : x < 4294967296) (hs : s ≤ 31) : bits .or .u64 (q : Int) ((x : Int) * 2 ^ s) = ((q + x * 2 ^ s : Nat) : Int) := by
  have h1 := mul_pow31 hx hs
  have h2 := pow31 hs
  have h := u64_or_nat q (x * 2 ^ s) (by omega) (by omega)
  have e : ((x * 2 ^ s : Nat) : Int) = (x : Int) * 2 ^ s := by rw [Int.natCast_mul, Int.natCast_pow]; rfl
  rw [e] at h
  rw [h]
  congr 1
  have := Nat.shiftLeft_add_eq_or_of_lt (i := s) (b := q) hq x
  rw [Nat.shiftLeft_eq] at this
  rw [Nat.or_comm, ← this, Nat.add_comm]

set_option maxHeartbeats 1000000 in
theorem shl_c (w : World) (va : Value) (xs : List Nat) (s : Nat) (ha : Num w va xs) (hz : xs.length ≤ 8796093022208) (hs : s ≤ 31) :
    Calls Tryd.prog 80 #[va, .int .i64 (s : Int)] w fun e w' => ∃ g zs, e = .returned (.slice (some ⟨g, 0, none⟩) (xs.length + 1) (xs.length + 1)) ∧ w.heap.size ≤ g ∧ Seg w' g [] zs [] ∧ Small zs ∧ zs.length = xs.length + 1 ∧ val zs = val xs * 2 ^ s ∧ Below w.heap.size w w' := by
  obtain ⟨A, c, rfl⟩ := ha.form
  have hbd := ha.bounds.2
  have hsi : (s : Int) ≤ 31 := by omega
  go_enter Tryd.func80, Tryd.ntmps80
  go_wp2_with (at_make; refine wp_make rfl _ _ rfl _ _ (xs.length + 1) rfl rfl (by omega) (by omega) (by omega) ?_; intro w1 hS hB1)
  go_loopw [6, 15] (fun cc i wr => ∃ (k q : Nat) (zs : List Nat), k ≤ xs.length ∧ i = .int .i64 k ∧ cc = .int .u64 q ∧ ShlRel xs zs s k q ∧ Seg wr w.heap.size [] zs [] ∧ Below w.heap.size w wr) (fun _ i _ => xs.length - (intOf i).toNat)
  case atStart => exact ⟨0, 0, _, Nat.zero_le _, rfl, rfl, ShlRel.start xs s, hS, hB1⟩
  case round =>
    obtain ⟨k, q, zs, hk, rfl, rfl, hr, hseg, hbel⟩ := hrel
    have hq := hr.2.2.2.2
    have hzl := hr.1
    have hqb : q < 2147483648 := Nat.lt_of_lt_of_le hq (pow31 hs)
    by_cases hlt : k < xs.length
    · obtain ⟨b, off, rfl, hbb, hall⟩ := (ha.below hbel).cells (by omega)
      have hcx := hall k hlt
      have hcz := hseg.cell0 (j := k) (by omega)
      have hfz := hseg.frozen k
      have bx := ha.small.get k
      generalize hxx : xs.getD k 0 = x at hcx bx
      generalize ((zs.getD k 0 : Nat) : Int) = z0 at hcz
      have m1 := mul_pow31 bx hs
      have e0 : ((x * 2 ^ s : Nat) : Int) = (x : Int) * 2 ^ s := by rw [Int.natCast_mul, Int.natCast_pow]; rfl
      have m2 : (x : Int) * 2 ^ s ≤ 9223372034707292160 := by rw [← e0]; omega
      have m3 : 0 ≤ (x : Int) * 2 ^ s := by rw [← e0]; exact Int.natCast_nonneg _
      have hor := or_shl q x s hq bx hs
      obtain ⟨S, hSd⟩ : ∃ S, S = q + x * 2 ^ s := ⟨_, rfl⟩
      rw [← hSd] at hor
      have hSb : S < 18446744073709551616 := by rw [hSd]; omega
      have HR := Lib.hid (hr.step hlt hxx bx hSd)
      have HS := Lib.hid (hseg.put0 k (S % 4294967296) ((S : Int) % 4294967296) (by omega) (by omega))
      have HB := Lib.hid (hbel.setCell (p := ⟨w.heap.size, k, none⟩) (Nat.le_refl _) (.int .u32 ((S : Int) % 4294967296)))
      have hki : (k : Int) < xs.length := by omega
      clear hall hr hseg hbel hxx e0 hSd m1 hzl hq
      go_wp2_with fail
      go_roundw
      case rel => exact ⟨k + 1, S / 4294967296, _, by omega, by go_num, by go_num, HR.out, HS.out, HB.out⟩
      case measure => simp [intOf]; omega
    · have : k = xs.length := by omega
      subst this
      have hcz := hseg.cell0 (j := xs.length) (by omega)
      have hfz := hseg.frozen xs.length
      generalize ((zs.getD xs.length 0 : Nat) : Int) = z0 at hcz
      obtain ⟨d1, d2, d3⟩ := hr.done (by omega)
      have HS := Lib.hid (hseg.put0 xs.length q (q : Int) (by omega) rfl)
      have HB := Lib.hid (hbel.setCell (p := ⟨w.heap.size, xs.length, none⟩) (Nat.le_refl _) (.int .u32 (q : Int)))
      have H1 := Lib.hid d1
      have H3 := Lib.hid d3
      clear hr hseg hbel d1 d3 hzl hq
      go_wp2_with fail
      go_ret
      exact ⟨w.heap.size, _, rfl, Nat.le_refl _, HS.out, d2, H1.out, H3.out, HB.out⟩

set_option maxHeartbeats 1000000 in
theorem shr_c (w : World) (va : Value) (xs : List Nat) (s : Nat) (ha : Num w va xs) (hz : xs.length ≤ 8796093022208) (hs : s ≤ 31) :
    Calls Tryd.prog 84 #[va, .int .i64 (s : Int)] w fun e w' => ∃ r zs, e = .returned r ∧ Own w.heap.size w' r zs ∧ val zs = val xs / 2 ^ s ∧ Below w.heap.size w w' := by
  obtain ⟨A, c, rfl⟩ := ha.form
  have hbd := ha.bounds.2
  have hsi : (s : Int) ≤ 31 := by omega
  go_enter Tryd.func84, Tryd.ntmps84
  go_wp2_with (at_make; refine wp_make rfl _ _ rfl _ _ xs.length rfl rfl (by omega) (by omega) (by omega) ?_; intro w1 hS hB1)
  go_loopw [6, 7] (fun hh i wr => ∃ (k hi : Nat) (zs : List Nat), k ≤ xs.length ∧ i = .int .i64 ((k : Int) - 1) ∧ hh = .int .u64 hi ∧ hi < 18446744073709551616 ∧ ShrRel xs zs s k hi ∧ Seg wr w.heap.size [] zs [] ∧ Below w.heap.size w wr) (fun _ i _ => (intOf i + 1).toNat)
  case atStart => exact ⟨xs.length, 0, _, Nat.le_refl _, rfl, rfl, by omega, ShrRel.start xs s, hS, hB1⟩
  case round =>
    obtain ⟨k, hi, zs, hk, rfl, rfl, hhi, hr, hseg, hbel⟩ := hrel
    have hzl := hr.1
    rcases Nat.eq_zero_or_pos k with h0 | h0
    · subst h0
      have hv := hr.2.2.1
      simp only [List.drop_zero] at hv
      have HV := Lib.hid hv
      have HO := Lib.hid (Own.of_seg (base := w.heap.size) (c := xs.length) hseg hr.2.1 hzl (Nat.le_refl _) rfl (by omega))
      clear hv hr hseg hzl
      go_wp2_with fail
      go_ret
      exact ⟨_, zs, rfl, HO.out, HV.out, hbel⟩
    · obtain ⟨j, rfl⟩ : ∃ j, k = j + 1 := ⟨k - 1, by omega⟩
      obtain ⟨b, off, rfl, hbb, hall⟩ := (ha.below hbel).cells (by omega)
      have hcx := hall j (by omega)
      have hcz := hseg.cell0 (j := j) (by omega)
      have hfz := hseg.frozen j
      have bx := ha.small.get j
      generalize hxx : xs.getD j 0 = x at hcx bx
      generalize ((zs.getD j 0 : Nat) : Int) = z0 at hcz
      rw [show (((j + 1 : Nat) : Int) - 1) = (j : Int) by omega]
      have hki : (j : Int) < xs.length := by omega
      have hwr : IntKind.u64.wrap ((hi : Int) * 4294967296) = ((hi % 4294967296 : Nat) : Int) * 4294967296 := by rw [IntKind.wrap_u64]; omega
      have hor := or_u64 x (hi % 4294967296) bx (Nat.mod_lt _ (by omega))
      rw [← hwr] at hor
      obtain ⟨S, hSd⟩ : ∃ S, S = x + 4294967296 * (hi % 4294967296) := ⟨_, rfl⟩
      rw [← hSd] at hor
      have hSb : S < 18446744073709551616 := by rw [hSd]; omega
      have HR := Lib.hid (hr.step hs ha.small (by omega) hxx hSd)
      have e2 : (S : Int) / 2 ^ s % 4294967296 = ((S / 2 ^ s % 4294967296 : Nat) : Int) := by rw [Int.natCast_emod, Int.natCast_ediv, Int.natCast_pow]; rfl
      have HS := Lib.hid (hseg.put0 j (S / 2 ^ s % 4294967296) ((S : Int) / 2 ^ s % 4294967296) (by omega) e2)
      have HB := Lib.hid (hbel.setCell (p := ⟨w.heap.size, j, none⟩) (Nat.le_refl _) (.int .u32 ((S : Int) / 2 ^ s % 4294967296)))
      clear hall hr hseg hbel hxx hSd hzl hwr e2
      go_wp2_with fail
      go_roundw
      case rel => exact ⟨j, S, _, by omega, by go_num, rfl, hSb, HR.out, HS.out, HB.out⟩
      case measure => simp [intOf]
end Go.Proofs.YtgjhgpfjeoeojaaDoor

/- Long division: plain lemmas of a round, and the calls in it over one row of digits. -/
namespace Go.Proofs.YtgjhgpfjeoeojaaDoor
open Go.RowKit Dig
set_option linter.unusedVariables false

namespace Dig
theorem div_keep {P L L' D E M p cy : Nat} (hP : P = L + M * p) (hs : L' + E = L + M * cy) (hlt : P < E + D) (hD : D < M) (h : cy ≤ p) : L' + E = P ∧ L' < D := by
  obtain ⟨t, rfl⟩ : ∃ t, p = cy + t := ⟨p - cy, by omega⟩
  rw [Nat.mul_add] at hP
  rcases Nat.eq_zero_or_pos t with h0 | h0
  · subst h0; omega
  · have := Nat.mul_le_mul_left M (show 1 ≤ t from h0)
    omega
theorem div_back {P L L' L2 D E F M p cy c2 : Nat} (hP : P = L + M * p) (hs : L' + E = L + M * cy) (hlt : E < P + D) (hD : D < M) (hL' : L' < M) (h : p < cy) (hF : E = F + D) (ha : L2 + M * c2 = L' + D) (hc2 : c2 ≤ 1) (hL2 : L2 < M) : L2 + F = P ∧ L2 < D := by
  obtain ⟨t, rfl⟩ : ∃ t, cy = p + t := ⟨cy - p, by omega⟩
  rw [Nat.mul_add] at hs
  have ht : t = 1 := by
    rcases Nat.lt_or_ge t 2 with h1 | h1
    · omega
    · have := Nat.mul_le_mul_left M h1
      omega
  subst ht
  have : c2 = 0 ∨ c2 = 1 := by omega
  rcases this with rfl | rfl
  · omega
  · omega
theorem div_back_pos {P L L' D M p cy d : Nat} (hP : P = L + M * p) (hs : L' + d * D = L + M * cy) (hL' : L' < M) (h : p < cy) : 1 ≤ d := by
  rcases Nat.eq_zero_or_pos d with h0 | h0
  · subst h0
    obtain ⟨t, rfl⟩ : ∃ t, cy = p + 1 + t := ⟨cy - p - 1, by omega⟩
    rw [Nat.mul_add, Nat.mul_add] at hs
    omega
  · exact h0

/-- What is known in long division when the digits of the quotient from place k on are done: R the dividend, D the divisor. -/
def LongRel (R D : Nat) (rs qs : List Nat) (n m k : Nat) : Prop :=
  rs.length = m + 1 ∧ Small rs ∧ Small qs ∧ qs.length = m - n + 1 ∧ val ((rs.drop k).take n) < D ∧ R = val (rs.take k) + 4294967296 ^ k * (val ((rs.drop k).take n) + D * val (qs.drop k))

theorem part_val (rs : List Nat) (i n : Nat) (h : i < rs.length) : val ((rs.drop i).take (n + 1)) = rs.getD i 0 + 4294967296 * val ((rs.drop (i + 1)).take n) := by
  rw [List.drop_eq_getElem_cons h, List.take_succ_cons]
  simp [val, List.getD_eq_getElem?_getD, h]
theorem LongRel.part_lt {R D : Nat} {rs qs : List Nat} {n m i : Nat} (h : LongRel R D rs qs n m (i + 1)) (hi : i < rs.length) : val ((rs.drop i).take (n + 1)) < 4294967296 * D := by
  rw [part_val rs i n hi]
  have := h.2.1.get i
  have := h.2.2.2.2.1
  omega
theorem LongRel.step {R D : Nat} {rs rs' qs : List Nat} {n m i d : Nat} (h : LongRel R D rs qs n m (i + 1)) (hi : i < m - n + 1) (hnm : n ≤ m) (hl : rs'.length = rs.length) (hs : Small rs') (ht : rs'.take i = rs.take i) (hd : d < 4294967296)
    (hv : val ((rs'.drop i).take n) + d * D = val ((rs.drop i).take (n + 1))) (hlt : val ((rs'.drop i).take n) < D) : LongRel R D rs' (qs.set i d) n m i := by
  obtain ⟨h1, h2, h3, h4, h5, h6⟩ := h
  refine ⟨by omega, hs, h3.set _ _ hd, by simpa using h4, hlt, ?_⟩
  rw [part_val rs i n (by omega)] at hv
  rw [val_take_succ rs i (by omega)] at h6
  have e1 : val ((qs.set i d).drop i) = d + 4294967296 * val (qs.drop (i + 1)) := by
    rw [drop_set _ _ _ (by omega)]
  rw [ht, e1, h6, Nat.pow_succ, Nat.mul_assoc, Nat.add_assoc, ← Nat.mul_add]
  congr 2
  have e2 : D * (d + 4294967296 * val (qs.drop (i + 1))) = d * D + 4294967296 * (D * val (qs.drop (i + 1))) := by
    rw [Nat.mul_add, Nat.mul_comm D d, Nat.mul_left_comm]
  rw [e2]
  omega
theorem LongRel.done {R D : Nat} {rs qs : List Nat} {n m : Nat} (h : LongRel R D rs qs n m 0) : val (rs.take n) < D ∧ R = val (rs.take n) + D * val qs := by
  obtain ⟨h1, h2, h3, h4, h5, h6⟩ := h
  simp only [List.drop_zero, List.take_zero, val, Nat.pow_zero, Nat.one_mul, Nat.zero_add] at h5 h6
  exact ⟨h5, h6⟩
end Dig

theorem Seg.sub {w : World} {g : Nat} {rs : List Nat} {post : List Value} (h : Seg w g [] rs post) (hs : Small rs) (off n c : Nat) (hn : off + n ≤ rs.length) (hc : n ≤ c) (hm : c ≤ 9223372036854775807) :
    Num w (.slice (some ⟨g, off, none⟩) n c) ((rs.drop off).take n) := by
  have hl : ((rs.drop off).take n).length = n := by rw [List.length_take, List.length_drop]; omega
  refine ⟨some ⟨g, off, none⟩, c, by rw [hl], ⟨by omega, fun e => by cases e⟩, by unfold maxLen; omega, (hs.drop off).take n, fun _ => ⟨g, off, rfl, h.lt, fun j hj => ?_⟩⟩
  rw [hl] at hj
  have := h.cell0 (j := off + j) (by omega)
  rw [this, getD_take _ _ _ hj, getD_drop]
theorem Seg.at_ {w : World} {g : Nat} {rs : List Nat} {post : List Value} (h : Seg w g [] rs post) (i : Nat) : Seg w g (U (rs.take i)) (rs.drop i) post := by
  have h' : Seg w g [] (rs.take i ++ rs.drop i) post := by rw [List.take_append_drop]; exact h
  simpa using h'.right
theorem Seg.back {w : World} {g : Nat} {xs ys : List Nat} {post : List Value} (h : Seg w g (U xs) ys post) : Seg w g [] (xs ++ ys) post := by
  have h' : Seg w g ([] ++ U xs) ys post := by simpa using h
  exact h'.ofRight

/-- subtractMultiple over the digits from place i on of one row. -/
theorem subMul_i (w : World) (g n c q i : Nat) (post : List Value) (rs ds : List Nat) (vd : Value) (hs : Seg w g [] rs post) (hx : Small rs) (hxn : i + n < rs.length) (hc : n + 1 ≤ c ∧ c ≤ 9223372036854775807) (hd : Num w vd ds) (hdl : ds.length = n) (hn0 : 0 < n)
    (hne : vd.ownBlock ≠ some g) (hq : q < 4294967296) :
    Calls Tryd.prog 82 #[.slice (some ⟨g, i, none⟩) (n + 1) c, vd, .int .u64 (q : Int)] w fun e w' => ∃ (rs' : List Nat) (cy : Nat), e = .returned (.bool (decide (rs.getD (i + n) 0 < cy))) ∧ rs'.length = rs.length ∧ Small rs' ∧ rs'.take i = rs.take i ∧
      val ((rs'.drop i).take n) + q * val ds = val ((rs.drop i).take n) + 4294967296 ^ n * cy ∧ Seg w' g [] rs' post ∧ w.grownBy w' (some g) ∧ w'.heap.size = w.heap.size := by
  have hlen : (U (rs.take i)).length = i := by rw [U_length, List.length_take]; omega
  have h := subMul_c w g n c q (U (rs.take i)) post (rs.drop i) ds vd (hs.at_ i) (hx.drop i) (by rw [List.length_drop]; omega) hc hd hdl hn0 hne hq
  rw [hlen] at h
  refine h.mono ?_
  rintro e w' ⟨zs, cy, a1, a2, a3, a4, a5, a6, a7, a8⟩
  rw [getD_drop] at a1
  have hti : (rs.take i).length = i := by rw [List.length_take]; omega
  refine ⟨rs.take i ++ zs, cy, a1, ?_, (hx.take i).append a3, ?_, ?_, a6.back, a7, a8⟩
  · rw [List.length_append, a2, List.length_drop, hti]; omega
  · rw [List.take_append_of_le_length (by omega), List.take_take, Nat.min_self]
  · rw [show (rs.take i ++ zs).drop i = zs by rw [List.drop_append_of_le_length (by omega), List.drop_of_length_le (by omega)]; rfl]
    exact a5
theorem addBack_i (w : World) (g n c i : Nat) (post : List Value) (rs ds : List Nat) (vd : Value) (hs : Seg w g [] rs post) (hx : Small rs) (hxn : i + n < rs.length) (hc : n + 1 ≤ c ∧ c ≤ 9223372036854775807) (hd : Num w vd ds) (hdl : ds.length = n) (hn0 : 0 < n)
    (hne : vd.ownBlock ≠ some g) :
    Calls Tryd.prog 83 #[.slice (some ⟨g, i, none⟩) (n + 1) c, vd] w fun e w' => e = .returned (.tuple #[]) ∧ ∃ (rs' : List Nat) (q : Nat), rs'.length = rs.length ∧ Small rs' ∧ rs'.take i = rs.take i ∧
      val ((rs'.drop i).take n) + 4294967296 ^ n * q = val ((rs.drop i).take n) + val ds ∧ q ≤ 1 ∧ Seg w' g [] rs' post ∧ w.grownBy w' (some g) ∧ w'.heap.size = w.heap.size := by
  have hlen : (U (rs.take i)).length = i := by rw [U_length, List.length_take]; omega
  have h := addBack_c w g n (n + 1) c (U (rs.take i)) post (rs.drop i) ds vd (hs.at_ i) (hx.drop i) (by rw [List.length_drop]; omega) ⟨by omega, hc⟩ hd hdl hn0 hne
  rw [hlen] at h
  refine h.mono ?_
  rintro e w' ⟨a0, zs, q, ⟨b1, b2, b3, b4, b5⟩, a6, a7, a8⟩
  rw [show ds.take n = ds from List.take_of_length_le (by omega)] at b4
  have hti : (rs.take i).length = i := by rw [List.length_take]; omega
  refine ⟨a0, rs.take i ++ zs, q, ?_, (hx.take i).append b2, ?_, ?_, b5, a6.back, a7, a8⟩
  · rw [List.length_append, b1, List.length_drop, hti]; omega
  · rw [List.take_append_of_le_length (by omega), List.take_take, Nat.min_self]
  · rw [show (rs.take i ++ zs).drop i = zs by rw [List.drop_append_of_le_length (by omega), List.drop_of_length_le (by omega)]; rfl]
    exact b4
end Go.Proofs.YtgjhgpfjeoeojaaDoor

/- The contract of longDivision. -/
namespace Go.Proofs.YtgjhgpfjeoeojaaDoor
open Go.RowKit Dig
set_option linter.unusedVariables false

/-- The shift that makes the highest bit of the divisor 1. -/
theorem norm_top {b n s t : Nat} (hn : (dg b).length = n) (hn0 : 1 ≤ n) (ht : (dg b).getD (n - 1) 0 = t) (hs : s + nbits t = 32) {ds : List Nat} (hdl : ds.length = n) (hds : Small ds) (hv : val ds = b * 2 ^ s) : 2147483648 ≤ ds.getD (n - 1) 0 := by
  obtain ⟨k, rfl⟩ : ∃ k, n = k + 1 := ⟨n - 1, by omega⟩
  rw [Nat.add_sub_cancel] at ht ⊢
  have hnb := nbits_dg b k hn
  rw [ht] at hnb
  have htop := dg_top b k hn
  rw [ht] at htop
  have hb0 : 0 < b := by
    rcases Nat.eq_zero_or_pos b with h | h
    · subst h; cases hn
    · exact h
  have h1 := (nbits_le b hb0).2
  have hnt := (nbits_le t htop).1
  have h2 := val_take_succ ds k (by omega)
  rw [List.take_of_length_le (by omega), hv] at h2
  have h3 := take_lt ds hds k
  rcases Nat.lt_or_ge (ds.getD k 0) 2147483648 with hlt | hge
  · exfalso
    have h4 : 4294967296 ^ k * (ds.getD k 0 + 1) ≤ 4294967296 ^ k * 2147483648 := Nat.mul_le_mul_left _ hlt
    rw [Nat.mul_add, Nat.mul_one] at h4
    have h5 : 2 ^ (nbits b - 1) * 2 ^ s ≤ b * 2 ^ s := Nat.mul_le_mul_right _ h1
    rw [← Nat.pow_add] at h5
    have h6 : 4294967296 ^ k * 2147483648 = 2 ^ (nbits b - 1 + s) := by
      rw [show (4294967296 : Nat) = 2 ^ 32 from rfl, show (2147483648 : Nat) = 2 ^ 31 from rfl, ← Nat.pow_mul, ← Nat.pow_add]
      congr 1
      omega
    omega
  · exact hge
theorem nbits32 {t : Nat} (h0 : 0 < t) (h : t < 4294967296) : 1 ≤ nbits t ∧ nbits t ≤ 32 := by
  obtain ⟨a, b⟩ := nbits_le t h0
  refine ⟨a, ?_⟩
  rcases Nat.lt_or_ge 32 (nbits t) with h1 | h1
  · have h4 : 2 ^ 32 ≤ 2 ^ (nbits t - 1) := Nat.pow_le_pow_right (by omega) (by omega)
    omega
  · exact h1

set_option maxHeartbeats 4000000 in
theorem longDiv_c (w : World) (va vb : Value) (a b n m : Nat) (ha : Num w va (dg a)) (hb : Num w vb (dg b)) (hn : (dg b).length = n) (hm : (dg a).length = m) (hn2 : 2 ≤ n) (hnm : n ≤ m) (hz : m ≤ 8796093022200) :
    Calls Tryd.prog 63 #[va, vb] w fun e w' => ∃ q r zq zr, e = .returned (.tuple #[q, r]) ∧ Own w.heap.size w' q zq ∧ val zq = a / b ∧ Own w.heap.size w' r zr ∧ val zr = a % b ∧ Below w.heap.size w w' := by
  obtain ⟨A, c, rfl⟩ := ha.form
  obtain ⟨A', c', rfl⟩ := hb.form
  rw [hm] at ha ⊢
  rw [hn] at hb ⊢
  have hbd := hb.bounds.2
  have hba := ha.bounds.2
  obtain ⟨bb, off, rfl, hb1, hcell⟩ := hb.cells (by omega)
  have hct := hcell (n - 1) (by omega)
  have htb := (small_dg b).get (n - 1)
  have htp : 0 < (dg b).getD (n - 1) 0 := by
    have := dg_top b (n - 1) (by omega)
    exact this
  generalize ht : (dg b).getD (n - 1) 0 = t at hct htb htp
  obtain ⟨nt1, nt2⟩ := nbits32 htp htb
  obtain ⟨s, hs⟩ : ∃ s, s + nbits t = 32 := ⟨32 - nbits t, by omega⟩
  have hs31 : s ≤ 31 := by omega
  have hlz := Tryd.bits_LeadingZeros32 (t : Int) w (by omega) (by omega)
  rw [Int.toNat_natCast, bitLen_eq t (by omega), show (32 : Int) - (nbits t : Int) = (s : Int) by omega] at hlz
  have HLZ := Lib.hid hlz
  have SB := Lib.hid (shl_c w _ _ s hb (by rw [hn]; omega) hs31)
  rw [hn, val_dg] at SB
  have hb0 : 0 < b := by
    rcases Nat.eq_zero_or_pos b with h | h
    · subst h; rw [dg_zero] at hn; simp at hn; omega
    · exact h
  have hbl := dg_lt b
  have hal := dg_lt a
  rw [hn] at hbl
  rw [hm] at hal
  have hbs : b * 2 ^ s < 4294967296 ^ n := by
    have h1 := nbits_dg b (n - 1) (by omega)
    rw [ht] at h1
    have h2 := nbits_lt b
    have h3 : b * 2 ^ s < 2 ^ nbits b * 2 ^ s := Nat.mul_lt_mul_of_pos_right h2 (Nat.pow_pos (by omega))
    rw [← Nat.pow_add] at h3
    have h4 : 4294967296 ^ n = 2 ^ (nbits b + s) := by
      rw [show (4294967296 : Nat) = 2 ^ 32 from rfl, ← Nat.pow_mul]
      congr 1
      omega
    omega
  have HT := Lib.hid ht
  have HS := Lib.hid hs
  have HN := Lib.hid hn
  have HM := Lib.hid hm
  have HBS := Lib.hid hbs
  have HAL := Lib.hid hal
  have hn2i : (2 : Int) ≤ n := by omega
  have hnmi : (n : Int) ≤ m := by omega
  clear hlz hcell ht hs hn hm hbs hal hbl nt1 nt2
  go_enter Tryd.func63, Tryd.ntmps63
  go_wp2_with fail
  refine (HLZ.out).mono ?_
  rintro e w' ⟨rfl, hw⟩
  obtain rfl : w = w' := hw.symm
  clear hw
  go_wp2_with fail
  refine (SB.out).mono ?_
  rintro e w1 ⟨g2, zs2, rfl, hg2, hseg2, hsm2, hl2, hv2, hB1⟩
  have SA := shl_c w1 _ _ s (ha.below hB1) (by rw [HM.out]; omega) hs31
  rw [HM.out, val_dg] at SA
  have HSA := Lib.hid SA
  -- the digits of the divisor
  have htop0 : zs2.getD n 0 = 0 := by
    have h1 := val_top zs2 n hl2
    rw [hv2] at h1
    rcases Nat.eq_zero_or_pos (zs2.getD n 0) with h | h
    · exact h
    · have := Nat.mul_le_mul_left (4294967296 ^ n) (show 1 ≤ zs2.getD n 0 from h)
      have := HBS.out
      omega
  have hdv : val (zs2.take n) = b * 2 ^ s := by
    have h1 := val_top zs2 n hl2
    rw [hv2, htop0] at h1
    omega
  have hdl : (zs2.take n).length = n := by rw [List.length_take]; omega
  have hdt := norm_top HN.out (by omega) HT.out HS.out hdl (hsm2.take n) hdv
  have hnd := hseg2.sub hsm2 0 n (n + 1) (by omega) (by omega) (by omega)
  rw [List.drop_zero] at hnd
  have hg2l := hseg2.lt
  generalize zs2.take n = ds at *
  have HDV := Lib.hid hdv
  have HDL := Lib.hid hdl
  clear hdv hdl htop0 hv2 hl2 SA hsm2 hseg2
  go_wp2_with fail
  refine (HSA.out).mono ?_
  rintro e w2 ⟨g1, rs, rfl, hg1, hseg1, hsm1, hl1, hv1, hB2⟩
  have hg1l := hseg1.lt
  have hnd2 := hnd.below hB2
  have hB12 := below_then hB1 hB2
  go_wp2_with (at_make; refine wp_make rfl _ _ rfl _ _ (m - n + 1) rfl rfl (by omega) (by omega) (by omega) ?_; intro w3 hS3 hB3)
  have hseg13 := hseg1.below hB3 hg1l
  have hnd3 := hnd2.below hB3
  have hB13 := below_then hB12 hB3
  have hg3l := hS3.lt
  have hgw : w.heap.size ≤ g1 := by have := hB1.size; omega
  have hgw3 : w.heap.size ≤ w2.heap.size := hB12.size
  generalize hg3 : w2.heap.size = g3 at *
  clear hnd hnd2 hB1 hB2 hB3 hB12 hseg1 HSA SB HLZ hg3
  have hrel0 : LongRel (a * 2 ^ s) (b * 2 ^ s) rs (List.replicate (m - n + 1) 0) n m (m - n + 1) := by
    refine ⟨hl1, hsm1, Small.replicate _, by simp, ?_, ?_⟩
    · have h1 := val_take_drop rs (m - n + 1) (by omega)
      have h2 : (rs.drop (m - n + 1)).take n = rs.drop (m - n + 1) := List.take_of_length_le (by rw [List.length_drop]; omega)
      rw [h2]
      rw [hv1] at h1
      have h3 : a * 2 ^ s < 4294967296 ^ m * 2 ^ s := Nat.mul_lt_mul_of_pos_right HAL.out (Nat.pow_pos (by omega))
      have h4 : 4294967296 ^ m * 2 ^ s ≤ 4294967296 ^ m * 2147483648 := Nat.mul_le_mul_left _ (pow31 hs31)
      have h5 : 4294967296 ^ m * 2147483648 = 4294967296 ^ (m - n + 1) * (4294967296 ^ (n - 1) * 2147483648) := by
        rw [← Nat.mul_assoc, ← Nat.pow_add]
        congr 2
        omega
      have h6 : 4294967296 ^ (n - 1) * 2147483648 ≤ b * 2 ^ s := by
        rw [← HDV.out]
        have e1 := val_take_succ ds (n - 1) (by rw [HDL.out]; omega)
        rw [List.take_of_length_le (by rw [HDL.out]; omega)] at e1
        rw [e1]
        have := Nat.mul_le_mul_left (4294967296 ^ (n - 1)) hdt
        omega
      have h7 : 4294967296 ^ (m - n + 1) * val (rs.drop (m - n + 1)) < 4294967296 ^ (m - n + 1) * (4294967296 ^ (n - 1) * 2147483648) := by omega
      have := Nat.lt_of_mul_lt_mul_left h7
      omega
    · have h1 := val_take_drop rs (m - n + 1) (by omega)
      have h2 : (rs.drop (m - n + 1)).take n = rs.drop (m - n + 1) := List.take_of_length_le (by rw [List.length_drop]; omega)
      have h8 : (List.replicate (m - n + 1) 0).drop (m - n + 1) = [] := by simp
      rw [h2, h8]
      rw [hv1] at h1
      rw [h1]
      simp [val]
  have HR0 := Lib.hid hrel0
  clear hrel0 hv1 hl1 hsm1
  go_loopw [10] (fun i wr => ∃ (k : Nat) (rs qs : List Nat), k ≤ m - n + 1 ∧ i = .int .i64 ((k : Int) - 1) ∧ LongRel (a * 2 ^ s) (b * 2 ^ s) rs qs n m k ∧ Seg wr g1 [] rs [] ∧ Seg wr g3 [] qs [] ∧ Num wr (.slice (some ⟨g2, 0, none⟩) n (n + 1)) ds ∧ Below w.heap.size w wr) (fun i _ => (intOf i + 1).toNat)
  case atStart => exact ⟨m - n + 1, rs, _, Nat.le_refl _, by go_num, HR0.out, hseg13, hS3, hnd3, hB13⟩
  case round =>
    clear hseg13 hS3 hnd3 hB13 HR0
    obtain ⟨k, rs, qs, hk, rfl, hr, hseg, hsq, hnd, hB⟩ := hrel
    have hrl := hr.1
    have hql := hr.2.2.2.1
    rcases Nat.eq_zero_or_pos k with h0 | h0
    · subst h0
      obtain ⟨d1, d2⟩ := hr.done
      have hnr := hseg.sub hr.2.1 0 n (m + 1) (by omega) (by omega) (by omega)
      rw [List.drop_zero] at hnr
      have hlr : (rs.take n).length = n := by rw [List.length_take]; omega
      have SR := Lib.hid (shr_c wr _ _ s hnr (by rw [hlr]; omega) hs31)
      have HD1 := Lib.hid d1
      have HD2 := Lib.hid d2
      have hqo := Own.of_seg (base := w.heap.size) (c := m - n + 1) hsq hr.2.2.1 hql hgw3 rfl (by omega)
      clear d1 d2 hr hrl hql hseg hsq hnr hlr hnd
      go_wp2_with fail
      refine (SR.out).mono ?_
      rintro e w4 ⟨r, zr, rfl, hro, hrv, hB4⟩
      have hq4 := hqo.below hB4 (Nat.le_refl _)
      have hP : 0 < 2 ^ s := Nat.pow_pos (by omega)
      have e1 : a * 2 ^ s = val (rs.take n) + (b * val qs) * 2 ^ s := by rw [HD2.out, Nat.mul_right_comm]
      have e2 : val (rs.take n) = (a - b * val qs) * 2 ^ s := by rw [Nat.sub_mul]; omega
      have e3 : b * val qs ≤ a := Nat.le_of_mul_le_mul_right (show b * val qs * 2 ^ s ≤ a * 2 ^ s by omega) hP
      have e4 : a - b * val qs < b := Nat.lt_of_mul_lt_mul_right (show (a - b * val qs) * 2 ^ s < b * 2 ^ s by rw [← e2]; exact HD1.out)
      have e5 : a / b = val qs := by
        rw [show a = (a - b * val qs) + b * val qs by omega, Nat.add_mul_div_left _ _ hb0, Nat.div_eq_of_lt e4, Nat.zero_add]
      have e6 : a % b = a - b * val qs := by
        have := Nat.div_add_mod a b
        rw [e5] at this
        omega
      have E5 := Lib.hid e5
      have E6 := Lib.hid e6
      rw [e2, Nat.mul_div_cancel _ hP, ← e6] at hrv
      have HRV := Lib.hid hrv
      have hB5 := below_then hB hB4
      clear e1 e2 e3 e4 e5 e6 hrv HD1 HD2
      go_wp2_with fail
      go_ret2
      exact ⟨_, _, qs, zr, rfl, hq4, E5.out.symm, hro.mono hB.size, HRV.out, hB5⟩
    · obtain ⟨i, rfl⟩ : ∃ i, k = i + 1 := ⟨k - 1, by omega⟩
      rw [show (((i + 1 : Nat) : Int) - 1) = (i : Int) by omega]
      have hii : (i : Int) + n < (m : Int) + 1 := by omega
      have hsmr := hr.2.1
      have hpl : ((rs.drop i).take (n + 1)).length = n + 1 := by rw [List.length_take, List.length_drop]; omega
      have hlt := hr.part_lt (by omega)
      have hDM := HBS.out
      rw [← HDV.out] at hlt hDM
      have EE := Lib.hid (est_c wr _ _ _ ds n (hseg.sub hsmr i (n + 1) (m + 1 - i) (by omega) (by omega) (by omega)) hnd hn2 hpl HDL.out hdt hlt)
      have hpv := val_top _ n hpl
      have e0 : ((rs.drop i).take (n + 1)).take n = (rs.drop i).take n := by rw [List.take_take, Nat.min_eq_left (by omega)]
      rw [e0, getD_take _ _ _ (by omega), getD_drop] at hpv
      have HPV := Lib.hid hpv
      have HR := Lib.hid hr
      have HRL := Lib.hid hrl
      have HQL := Lib.hid hql
      clear hr hpl hlt e0 hpv hrl hql
      go_wp2_with fail
      rw [show i + n + 1 - i = n + 1 by omega]
      refine (EE.out).mono ?_
      rintro e w4 ⟨d, rfl, ⟨hd1, hd2, hd3⟩, N, hw4⟩
      have hseg4 : Seg w4 g1 [] rs [] := by rw [hw4]; exact hseg
      have hsq4 : Seg w4 g3 [] qs [] := by rw [hw4]; exact hsq
      have hnd4 : Num w4 (.slice (some ⟨g2, 0, none⟩) n (n + 1)) ds := by rw [hw4]; exact hnd
      have hB4 : Below w.heap.size w w4 := by rw [hw4]; exact below_drewN hB N
      have SM := subMul_i w4 g1 n (m + 1 - i) d i [] rs ds _ hseg4 hsmr (by rw [HRL.out]; omega) ⟨by omega, by omega⟩ hnd4 HDL.out (by omega) (by simp [Value.ownBlock]; omega) hd1
      have HSM := Lib.hid SM
      have HD2 := Lib.hid hd2
      have HD3 := Lib.hid hd3
      clear SM hw4 hseg hsq hnd hB EE hd2 hd3 hseg4
      go_wp2_with fail
      refine (HSM.out).mono ?_
      rintro e w5 ⟨rs2, cy, rfl, s1, s2, s3, s4, s5, s6, s7⟩
      have hsq5 := hsq4.grown s6 (by simp; omega)
      have hnd5 := hnd4.far s6 (fun _ => by simp [Value.ownBlock]; omega)
      have hB5 := hB4.grown s6 hB4.size (fun k e => by injection e with e; omega)
      have hqc := hsq5.cell0 (j := i) (by rw [HQL.out]; omega)
      have hqf := hsq5.frozen i
      generalize ((qs.getD i 0 : Nat) : Int) = q0 at hqc
      have S4 := Lib.hid s4
      have S1 := Lib.hid s1
      have S3 := Lib.hid s3
      have hL2 := take_lt (rs2.drop i) (s2.drop i) n
      clear s1 s3 s4 s6 s7 HSM hsq4 hnd4 hB4
      by_cases hc : rs.getD (i + n) 0 < cy
      · have hdec : decide (rs.getD (i + n) 0 < cy) = true := by simpa using hc
        rw [hdec]
        have hdp := div_back_pos HPV.out S4.out hL2 hc
        have HDP := Lib.hid (show d * val ds = (d - 1) * val ds + val ds by
          obtain ⟨c, rfl⟩ : ∃ c, d = c + 1 := ⟨d - 1, by omega⟩
          rw [Nat.add_sub_cancel, Nat.add_mul, Nat.one_mul])
        have AB := addBack_i w5 g1 n (m + 1 - i) i [] rs2 ds _ s5 s2 (by rw [S1.out, HRL.out]; omega) ⟨by omega, by omega⟩ hnd5 HDL.out (by omega) (by simp [Value.ownBlock]; omega)
        have HAB := Lib.hid AB
        have hdi : (1 : Int) ≤ d := by omega
        have hdi2 : (d : Int) < 4294967296 := by omega
        clear AB hdec s5 hqc hqf
        go_wp2_with fail
        refine (HAB.out).mono ?_
        rintro e w6 ⟨rfl, rs3, c2, t1, t2, t3, t4, t5, t6, t7, t8⟩
        have hsq6 := hsq5.grown t7 (by simp; omega)
        have hnd6 := hnd5.far t7 (fun _ => by simp [Value.ownBlock]; omega)
        have hB6 := hB5.grown t7 hB5.size (fun k e => by injection e with e; omega)
        have hL3 := take_lt (rs3.drop i) (t2.drop i) n
        obtain ⟨f1, f2⟩ := div_back HPV.out S4.out HD2.out hDM hL2 hc HDP.out t4 t5 hL3
        rw [HDV.out] at f1 f2
        have HST := Lib.hid (HR.out.step (d := d - 1) hk hnm (t1.trans S1.out) t2 (t3.trans S3.out) (by omega) f1 f2)
        have hqc := hsq6.cell0 (j := i) (by rw [HQL.out]; omega)
        have hqf := hsq6.frozen i
        generalize ((qs.getD i 0 : Nat) : Int) = q0 at hqc
        have HSQ := Lib.hid (hsq6.put0 i (d - 1) ((d : Int) - 1) (by rw [HQL.out]; omega) (by omega))
        have HSG := Lib.hid (t6.far (p := ⟨g3, i, none⟩) (by simp; omega) (.int .u32 ((d : Int) - 1)))
        have HND := Lib.hid (hnd6.far (World.grownBy.refl w6 (some g3) |> fun h => grown_set h i (.int .u32 ((d : Int) - 1))) (fun _ => by simp [Value.ownBlock]; omega))
        have HBB := Lib.hid (hB6.setCell (p := ⟨g3, i, none⟩) hgw3 (.int .u32 ((d : Int) - 1)))
        clear t1 t3 t4 t5 t6 t7 t8 f1 f2 hsq5 hsq6 hnd5 hnd6 hB5 hB6 hL2 hL3 HAB
        go_wp2_with fail
        go_roundw
        case rel => exact ⟨i, rs3, _, by omega, by go_num, HST.out, HSG.out, HSQ.out, HND.out, HBB.out⟩
        case measure => simp [intOf]
      · have hdec : decide (rs.getD (i + n) 0 < cy) = false := by simpa using hc
        rw [hdec]
        obtain ⟨f1, f2⟩ := div_keep HPV.out S4.out (by have := HD3.out; rw [Nat.add_mul, Nat.one_mul] at this; exact this) hDM (by omega)
        rw [HDV.out] at f1 f2
        have HST := Lib.hid (HR.out.step (d := d) hk hnm S1.out s2 S3.out hd1 f1 f2)
        have HSQ := Lib.hid (hsq5.put0 i d (d : Int) (by rw [HQL.out]; omega) rfl)
        have HSG := Lib.hid (s5.far (p := ⟨g3, i, none⟩) (by simp; omega) (.int .u32 (d : Int)))
        have HND := Lib.hid (hnd5.far (World.grownBy.refl w5 (some g3) |> fun h => grown_set h i (.int .u32 (d : Int))) (fun _ => by simp [Value.ownBlock]; omega))
        have HBB := Lib.hid (hB5.setCell (p := ⟨g3, i, none⟩) hgw3 (.int .u32 (d : Int)))
        have hdi2 : (d : Int) < 4294967296 := by omega
        clear f1 f2 hsq5 hnd5 hB5 hL2 s5 hdec
        go_wp2_with fail
        go_roundw
        case rel => exact ⟨i, rs2, _, by omega, by go_num, HST.out, HSG.out, HSQ.out, HND.out, HBB.out⟩
        case measure => simp [intOf]
end Go.Proofs.YtgjhgpfjeoeojaaDoor

/- The contract of DivMod. -/
namespace Go.Proofs.YtgjhgpfjeoeojaaDoor
open Go.RowKit Dig
set_option linter.unusedVariables false

theorem from_i (w : World) (q : Int) (n : Nat) (hq : q = (n : Int)) (hn : n < 18446744073709551616) : Calls Tryd.prog 11 #[.int .u64 q] w (RNat w n) := by
  subst hq
  exact from_c w n hn
def B64 : Int := 18446744073709551616
theorem from_o (w : World) (q : Int) (h0 : 0 ≤ q) (h1 : q < B64) : Calls Tryd.prog 11 #[.int .u64 q] w (RNat w q.toNat) :=
  from_i w q q.toNat (by omega) (by unfold B64 at h1; omega)
/-- A number that a uint64 holds, behind a name. -/
def Fits (q : Int) : Prop := 0 ≤ q ∧ q < B64
theorem from_f (w : World) (q : Int) (h : Fits q) : Calls Tryd.prog 11 #[.int .u64 q] w (RNat w q.toNat) := from_o w q h.1 h.2
theorem uint64_v (w : World) (v : Value) (xs : List Nat) (h : Num w v xs) (hs : val xs < 18446744073709551616) :
    Calls Tryd.prog 62 #[v] w fun e w' => e = .returned (.tuple #[.int .u64 (val xs : Nat), .bool true]) ∧ ∃ N, w' = w.drewN N := by
  obtain ⟨A, c, rfl⟩ := h.form
  have := uint64_c w A _ c xs h
  obtain ⟨e1, e2⟩ := u64_small hs
  rw [e1, e2] at this
  exact this
theorem small_of_len {n : Nat} (h : (dg n).length ≤ 2) : n < 18446744073709551616 := by
  have h1 := dg_lt n
  have h2 := pow_le h
  omega

set_option maxRecDepth 100000 in
set_option maxHeartbeats 2000000 in
theorem div_small (w : World) (va vb : Value) (xs ys : List Nat) (ha : Num w va xs) (hb : Num w vb ys) (hla : (dg (val xs)).length ≤ 2) (hlb : (dg (val ys)).length ≤ 2) (hb0 : 0 < val ys) :
    Calls Tryd.prog 46 #[va, vb] w (RDiv w (val xs) (val ys)) := by
  have Ta := Lib.hid (trim_n w va xs ha)
  have Tb := Lib.hid (trim_n w vb ys hb)
  have ea := small_of_len hla
  have eb := small_of_len hlb
  have hlb1 : 1 ≤ (dg (val ys)).length := by
    rcases Nat.eq_zero_or_pos (dg (val ys)).length with h | h
    · have := dg_len0 h; omega
    · exact h
  have hz : (((dg (val ys)).length : Int) == 0) = false := by rw [beq_eq_false_iff_ne]; omega
  have t1 : decide (((dg (val xs)).length : Int) ≤ 2) = true := by simp; omega
  have t2 : decide (((dg (val ys)).length : Int) ≤ 2) = true := by simp; omega
  have i1 : ((dg (val xs)).length : Int) ≤ 2 := by omega
  have i2 : ((dg (val ys)).length : Int) ≤ 2 := by omega
  go_enter Tryd.func46, Tryd.ntmps46
  go_wp2_with fail
  refine (Ta.out).mono ?_
  rintro e w' ⟨A, c, rfl, hA, rfl⟩
  go_wp2_with fail
  refine (Tb.out).mono ?_
  rintro e w' ⟨A', c', rfl, hB, rfl⟩
  have U1 := uint64_v w _ _ hA (by rw [val_dg]; exact ea)
  rw [val_dg] at U1
  have HU1 := Lib.hid U1
  clear U1
  go_wp2_with fail
  refine (HU1.out).mono ?_
  rintro e w1 ⟨rfl, N, rfl⟩
  have U2 := uint64_v (w.drewN N) _ _ (hB.drewN N) (by rw [val_dg]; exact eb)
  rw [val_dg] at U2
  have HU2 := Lib.hid U2
  clear U2
  go_wp2_with fail
  refine (HU2.out).mono ?_
  rintro e w2 ⟨rfl, N2, rfl⟩
  generalize hx : val xs = x at *
  generalize hy : val ys = y at *
  have hyi : (0 : Int) < y := by omega
  have hy0 : ((y : Int) == 0) = false := by rw [beq_eq_false_iff_ne]; omega
  have q1 : x / y < 18446744073709551616 := Nat.lt_of_le_of_lt (Nat.div_le_self _ _) ea
  have q2 : x % y < 18446744073709551616 := Nat.lt_of_le_of_lt (Nat.mod_le _ _) ea
  have qi1 : (x : Int) / (y : Int) < 18446744073709551616 := by
    have e : (x : Int) / (y : Int) = ((x / y : Nat) : Int) := rfl
    rw [e]; omega
  have qi0 : 0 ≤ (x : Int) / (y : Int) := by
    have e : (x : Int) / (y : Int) = ((x / y : Nat) : Int) := rfl
    rw [e]; exact Int.natCast_nonneg _
  have ri1 : (x : Int) % (y : Int) < 18446744073709551616 := by
    have e : (x : Int) % (y : Int) = ((x % y : Nat) : Int) := rfl
    rw [e]; omega
  have ri0 : 0 ≤ (x : Int) % (y : Int) := by
    have e : (x : Int) % (y : Int) = ((x % y : Nat) : Int) := rfl
    rw [e]; exact Int.natCast_nonneg _
  clear hx hy Ta Tb hA hB HU1 HU2
  go_wp2_with fail
  have hyn : ¬ (y : Int) = 0 := by omega
  have td : (x : Int).tdiv (y : Int) = (x : Int) / (y : Int) := Int.tdiv_eq_ediv_of_nonneg (by omega)
  have tm : (x : Int).tmod (y : Int) = (x : Int) % (y : Int) := Int.tmod_eq_emod_of_nonneg (by omega)
  have wd : IntKind.u64.wrap ((x : Int) / (y : Int)) = (x : Int) / (y : Int) := wrap_u64_nonneg _ qi0 qi1
  have fq : Fits ((x : Int) / (y : Int)) := ⟨qi0, qi1⟩
  have fr : Fits ((x : Int).tmod (y : Int)) := by rw [tm]; exact ⟨ri0, ri1⟩
  have TM := Lib.hid tm
  clear qi1 ri1 ea eb q1 q2 tm td
  have hB0 := below_drewN (Below.refl w.heap.size w) (N + N2)
  generalize w.drewN (N + N2) = W at *
  clear t1 t2 i1 i2 hz hla hlb hlb1 ha hb
  have hyN : ¬ y = 0 := by omega
  go_region_held3 (fun w' => True) (trivial) (first | (go_at_call 11; refine (from_f _ _ (by first | with_reducible exact fq | with_reducible exact fr)).mono ?_; rintro e w3 ⟨q, rfl, hq, hBq⟩))
  rename_i w1 q1 hq3 hB3 _
  go_wp2_with fail
  go_ret3
  have e1 : ((x : Int) / (y : Int)).toNat = x / y := by
    have e : (x : Int) / (y : Int) = ((x / y : Nat) : Int) := rfl
    rw [e, Int.toNat_natCast]
  have e2 : ((x : Int).tmod (y : Int)).toNat = x % y := by
    rw [TM.out]
    have e : (x : Int) % (y : Int) = ((x % y : Nat) : Int) := rfl
    rw [e, Int.toNat_natCast]
  rw [e1] at hq3
  rw [e2] at hq
  have h3 : Below W.heap.size W w1 := ⟨hB3.os, hB3.tape, hB3.output, hB3.size, hB3.block⟩
  have h5 : Below w.heap.size w w1 := hB0.trans (h3.mono hB0.size)
  have h6 : Below w.heap.size w w3 := h5.trans (hBq.mono h5.size)
  exact ⟨_, _, rfl, (hq3.below hBq (Nat.le_refl _)).mono hB0.size, hq.mono h5.size, h6⟩

set_option maxHeartbeats 1000000 in
theorem div_less (w : World) (va vb : Value) (xs ys : List Nat) (ha : Num w va xs) (hb : Num w vb ys) (hza : xs.length ≤ 8796093022208) (h2 : 2 < (dg (val xs)).length ∨ 2 < (dg (val ys)).length) (hlt : val xs < val ys) :
    Calls Tryd.prog 46 #[va, vb] w (RDiv w (val xs) (val ys)) := by
  have Ta := Lib.hid (trim_n w va xs ha)
  have Tb := Lib.hid (trim_n w vb ys hb)
  have hll := dg_length_val xs ha.small
  have hlm := dg_length_mono (Nat.le_of_lt hlt)
  have hz : (((dg (val ys)).length : Int) == 0) = false := by rw [beq_eq_false_iff_ne]; omega
  have hbi : (2 : Int) < (dg (val ys)).length := by omega
  have hle2 : decide (((dg (val ys)).length : Int) ≤ 2) = false := by simp; omega
  have hgt : cmpI (val (dg (val xs))) (val (dg (val ys))) = -1 := by
    rw [val_dg, val_dg]
    exact cmpI_lt hlt
  have HGT := Lib.hid hgt
  have HE1 := Lib.hid (show val xs / val ys = 0 from Nat.div_eq_of_lt hlt)
  have HE2 := Lib.hid (show val xs % val ys = val xs from Nat.mod_eq_of_lt hlt)
  clear hgt h2
  by_cases h2a : (dg (val xs)).length ≤ 2
  all_goals
    have t1 : ((dg (val xs)).length : Int) ≤ 2 ∨ (2 : Int) < (dg (val xs)).length := by omega
    go_enter Tryd.func46, Tryd.ntmps46
    go_wp2_with fail
    refine (Ta.out).mono ?_
    rintro e w' ⟨A, c, rfl, hA, rfl⟩
    go_wp2_with fail
    refine (Tb.out).mono ?_
    rintro e w' ⟨A', c', rfl, hB, rfl⟩
    have C := cmp_c w _ _ _ _ hA hB
    rw [HGT.out] at C
    have CC := Lib.hid C
    clear C
    go_wp2_with fail
    refine (CC.out).mono ?_
    rintro e w' ⟨rfl, N, rfl⟩
    have NN := normalize_c (w.drewN N) _ _ (hA.drewN N) (by omega)
    rw [val_dg] at NN
    have HNN := Lib.hid NN
    clear NN
    go_wp2_with fail
    refine (HNN.out).mono ?_
    rintro e w1 ⟨r, rfl, hr, hB1⟩
    go_wp2_with fail
    go_ret3
    exact ⟨_, _, rfl, by rw [HE1.out]; exact Own.nil _ _, by rw [HE2.out]; exact hr, (below_drewN (Below.refl _ _) N).trans hB1⟩

set_option maxHeartbeats 1000000 in
theorem div_long (w : World) (va vb : Value) (xs ys : List Nat) (ha : Num w va xs) (hb : Num w vb ys) (hza : xs.length ≤ 8796093022200) (hla : 2 < (dg (val xs)).length) (hlb : 2 ≤ (dg (val ys)).length) (hle : val ys ≤ val xs) :
    Calls Tryd.prog 46 #[va, vb] w (RDiv w (val xs) (val ys)) := by
  have Ta := Lib.hid (trim_n w va xs ha)
  have Tb := Lib.hid (trim_n w vb ys hb)
  have hll := dg_length_val xs ha.small
  have hlm := dg_length_mono hle
  have hz : (((dg (val ys)).length : Int) == 0) = false := by rw [beq_eq_false_iff_ne]; omega
  have h1 : (((dg (val ys)).length : Int) == 1) = false := by rw [beq_eq_false_iff_ne]; omega
  have hai : (2 : Int) < (dg (val xs)).length := by omega
  have hci : 0 ≤ cmpI (val (dg (val xs))) (val (dg (val ys))) ∧ cmpI (val (dg (val xs))) (val (dg (val ys))) ≤ 1 := by
    rw [val_dg, val_dg]
    unfold cmpI
    rw [if_neg (by omega)]
    split <;> omega
  go_enter Tryd.func46, Tryd.ntmps46
  go_wp2_with fail
  refine (Ta.out).mono ?_
  rintro e w' ⟨A, c, rfl, hA, rfl⟩
  go_wp2_with fail
  refine (Tb.out).mono ?_
  rintro e w' ⟨A', c', rfl, hB, rfl⟩
  have C := cmp_c w _ _ _ _ hA hB
  generalize cmpI (val (dg (val xs))) (val (dg (val ys))) = ci at *
  have CC := Lib.hid C
  obtain ⟨c0, c1⟩ := hci
  have hdl : decide (ci < 0) = false := by simp; omega
  clear C
  go_wp2_with fail
  refine (CC.out).mono ?_
  rintro e w' ⟨rfl, N, rfl⟩
  have LD := Lib.hid (longDiv_c (w.drewN N) _ _ _ _ _ _ (hA.drewN N) (hB.drewN N) rfl rfl hlb hlm (by omega))
  clear CC
  go_wp2_with fail
  refine (LD.out).mono ?_
  rintro e w1 ⟨q, r, zq, zr, rfl, hq, eq1, hr, er1, hB1⟩
  have T1 := trim_own_any w1 _ q zq hq
  rw [eq1] at T1
  have HT1 := Lib.hid T1
  have T2 := trim_own_any w1 _ r zr hr
  rw [er1] at T2
  have HT2 := Lib.hid T2
  clear T1 T2 LD hq hr
  go_wp2_with fail
  refine (HT1.out).mono ?_
  rintro e w2 ⟨q2, rfl, hq2, rfl⟩
  go_wp2_with fail
  refine (HT2.out).mono ?_
  rintro e w2 ⟨r2, rfl, hr2, rfl⟩
  go_wp2_with fail
  go_ret3
  exact ⟨_, _, rfl, hq2, hr2, (below_drewN (Below.refl _ _) N).trans hB1⟩

theorem div_c (w : World) (va vb : Value) (xs ys : List Nat) (ha : Num w va xs) (hb : Num w vb ys) (hza : xs.length ≤ 8796093022200) (hb0 : 0 < val ys) :
    Calls Tryd.prog 46 #[va, vb] w (RDiv w (val xs) (val ys)) := by
  by_cases h1 : (dg (val xs)).length ≤ 2 ∧ (dg (val ys)).length ≤ 2
  · exact div_small w va vb xs ys ha hb h1.1 h1.2 hb0
  · rcases Nat.lt_or_ge (val xs) (val ys) with h2 | h2
    · exact div_less w va vb xs ys ha hb (by omega) (by omega) h2
    · have hm := dg_length_mono h2
      by_cases h3 : (dg (val ys)).length = 1
      · exact div_one w va vb xs ys ha hb (by omega) (by omega) h3
      · have h4 : (dg (val ys)).length ≠ 0 := fun e => by have := dg_len0 e; omega
        exact div_long w va vb xs ys ha hb hza (by omega) (by omega) h2
end Go.Proofs.YtgjhgpfjeoeojaaDoor

/- The contract of DivMod in the form in which the laws use it. -/
namespace Go.Proofs.YtgjhgpfjeoeojaaDoor
open Go.RowKit Dig
set_option linter.unusedVariables false

section
variable {w : World} {va vb : Value} {a b k l : Nat}
theorem div_v (ha : NumV w va a k) (hb : NumV w vb b l) (hk : k ≤ 1000000) (h0 : 0 < b) :
    Calls Tryd.prog 46 #[va, vb] w fun e w' => ∃ q r, e = .returned (.tuple #[q, r, .bool true]) ∧ Can w' q (a / b) k ∧ Can w' r (a % b) k ∧ Own w.heap.size w' q (dg (a / b)) ∧ Own w.heap.size w' r (dg (a % b)) ∧ Below w.heap.size w w' := by
  have hf := ha.lt
  obtain ⟨L, h1, h2, h3⟩ := ha
  obtain ⟨M, g1, g2, g3⟩ := hb
  subst h2
  subst g2
  exact (div_c w va vb L M h1 g1 (by omega) h0).mono fun e w' ⟨q, r, x, y, z, t⟩ => ⟨q, r, x, ⟨y.num, Nat.lt_of_le_of_lt (Nat.div_le_self _ _) hf⟩, ⟨z.num, Nat.lt_of_le_of_lt (Nat.mod_le _ _) hf⟩, y, z, t⟩
theorem div0_v (ha : NumV w va a k) (hb : NumV w vb 0 l) :
    Calls Tryd.prog 46 #[va, vb] w fun e w' => e = .returned (.tuple #[.slice none 0 0, .slice none 0 0, .bool false]) ∧ Below w.heap.size w w' := by
  obtain ⟨L, h1, h2, h3⟩ := ha
  obtain ⟨M, g1, g2, g3⟩ := hb
  exact (div_zero w va vb L M h1 g1 g2).mono fun e w' ⟨x, y⟩ => ⟨x, by rw [← y]; exact Below.refl _ _⟩
end
end Go.Proofs.YtgjhgpfjeoeojaaDoor

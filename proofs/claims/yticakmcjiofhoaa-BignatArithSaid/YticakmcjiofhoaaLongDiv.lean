/- The contract of longDivision. -/
import Derived.Test.YticakmcjiofhoaaLDiv
import Derived.Test.YticakmcjiofhoaaStep
namespace Go.Proofs.Yticakmcjiofhoaa
open Go.RowKit Dig
set_option linter.unusedVariables false

/-- The shift that makes the highest bit of the divisor 1. -/
theorem norm_top {b n s t : Nat} (hn : (dg b).length = n) (hn0 : 1 ≤ n) (ht : (dg b).getD (n - 1) 0 = t) (hs : s + nbits t = 32) {ds : List Nat} (hdl : ds.length = n) (hds : Small ds) (hv : val ds = b * 2 ^ s) : 2147483648 ≤ ds.getD (n - 1) 0 := by
  obtain ⟨k, rfl⟩ : ∃ k, n = k + 1 := ⟨n - 1, by omega⟩
  rw [Nat.add_sub_cancel] at ht ⊢
  have hnb := nbits_dg b k hn
  rw [ht] at hnb
  have htop := dg_top b k hn
  rw [ht] at htop
  have hb0 : 0 < b := by
    rcases Nat.eq_zero_or_pos b with h | h
    · subst h; cases hn
    · exact h
  have h1 := (nbits_le b hb0).2
  have hnt := (nbits_le t htop).1
  have h2 := val_take_succ ds k (by omega)
  rw [List.take_of_length_le (by omega), hv] at h2
  have h3 := take_lt ds hds k
  rcases Nat.lt_or_ge (ds.getD k 0) 2147483648 with hlt | hge
  · exfalso
    have h4 : 4294967296 ^ k * (ds.getD k 0 + 1) ≤ 4294967296 ^ k * 2147483648 := Nat.mul_le_mul_left _ hlt
    rw [Nat.mul_add, Nat.mul_one] at h4
    have h5 : 2 ^ (nbits b - 1) * 2 ^ s ≤ b * 2 ^ s := Nat.mul_le_mul_right _ h1
    rw [← Nat.pow_add] at h5
    have h6 : 4294967296 ^ k * 2147483648 = 2 ^ (nbits b - 1 + s) := by
      rw [show (4294967296 : Nat) = 2 ^ 32 from rfl, show (2147483648 : Nat) = 2 ^ 31 from rfl, ← Nat.pow_mul, ← Nat.pow_add]
      congr 1
      omega
    omega
  · exact hge
theorem nbits32 {t : Nat} (h0 : 0 < t) (h : t < 4294967296) : 1 ≤ nbits t ∧ nbits t ≤ 32 := by
  obtain ⟨a, b⟩ := nbits_le t h0
  refine ⟨a, ?_⟩
  rcases Nat.lt_or_ge 32 (nbits t) with h1 | h1
  · have h4 : 2 ^ 32 ≤ 2 ^ (nbits t - 1) := Nat.pow_le_pow_right (by omega) (by omega)
    omega
  · exact h1

set_option maxHeartbeats 4000000 in
theorem longDiv_c (w : World) (va vb : Value) (a b n m : Nat) (ha : Num w va (dg a)) (hb : Num w vb (dg b)) (hn : (dg b).length = n) (hm : (dg a).length = m) (hn2 : 2 ≤ n) (hnm : n ≤ m) (hz : m ≤ 8796093022200) :
    Calls Try.prog 44 #[va, vb] w fun e w' => ∃ q r zq zr, e = .returned (.tuple #[q, r]) ∧ Own w.heap.size w' q zq ∧ val zq = a / b ∧ Own w.heap.size w' r zr ∧ val zr = a % b ∧ Below w.heap.size w w' := by
  obtain ⟨A, c, rfl⟩ := ha.form
  obtain ⟨A', c', rfl⟩ := hb.form
  rw [hm] at ha ⊢
  rw [hn] at hb ⊢
  have hbd := hb.bounds.2
  have hba := ha.bounds.2
  obtain ⟨bb, off, rfl, hb1, hcell⟩ := hb.cells (by omega)
  have hct := hcell (n - 1) (by omega)
  have htb := (small_dg b).get (n - 1)
  have htp : 0 < (dg b).getD (n - 1) 0 := by
    have := dg_top b (n - 1) (by omega)
    exact this
  generalize ht : (dg b).getD (n - 1) 0 = t at hct htb htp
  obtain ⟨nt1, nt2⟩ := nbits32 htp htb
  obtain ⟨s, hs⟩ : ∃ s, s + nbits t = 32 := ⟨32 - nbits t, by omega⟩
  have hs31 : s ≤ 31 := by omega
  have hlz := Try.bits_LeadingZeros32 (t : Int) w (by omega) (by omega)
  rw [Int.toNat_natCast, bitLen_eq t (by omega), show (32 : Int) - (nbits t : Int) = (s : Int) by omega] at hlz
  have HLZ := Lib.hid hlz
  have SB := Lib.hid (shl_c w _ _ s hb (by rw [hn]; omega) hs31)
  rw [hn, val_dg] at SB
  have hb0 : 0 < b := by
    rcases Nat.eq_zero_or_pos b with h | h
    · subst h; rw [dg_zero] at hn; simp at hn; omega
    · exact h
  have hbl := dg_lt b
  have hal := dg_lt a
  rw [hn] at hbl
  rw [hm] at hal
  have hbs : b * 2 ^ s < 4294967296 ^ n := by
    have h1 := nbits_dg b (n - 1) (by omega)
    rw [ht] at h1
    have h2 := nbits_lt b
    have h3 : b * 2 ^ s < 2 ^ nbits b * 2 ^ s := Nat.mul_lt_mul_of_pos_right h2 (Nat.pow_pos (by omega))
    rw [← Nat.pow_add] at h3
    have h4 : 4294967296 ^ n = 2 ^ (nbits b + s) := by
      rw [show (4294967296 : Nat) = 2 ^ 32 from rfl, ← Nat.pow_mul]
      congr 1
      omega
    omega
  have HT := Lib.hid ht
  have HS := Lib.hid hs
  have HN := Lib.hid hn
  have HM := Lib.hid hm
  have HBS := Lib.hid hbs
  have HAL := Lib.hid hal
  have hn2i : (2 : Int) ≤ n := by omega
  have hnmi : (n : Int) ≤ m := by omega
  clear hlz hcell ht hs hn hm hbs hal hbl nt1 nt2
  go_enter Try.func44, Try.ntmps44
  go_wp2_with fail
  refine (HLZ.out).mono ?_
  rintro e w' ⟨rfl, hw⟩
  obtain rfl : w = w' := hw.symm
  clear hw
  go_wp2_with fail
  refine (SB.out).mono ?_
  rintro e w1 ⟨g2, zs2, rfl, hg2, hseg2, hsm2, hl2, hv2, hB1⟩
  have SA := shl_c w1 _ _ s (ha.below hB1) (by rw [HM.out]; omega) hs31
  rw [HM.out, val_dg] at SA
  have HSA := Lib.hid SA
  -- the digits of the divisor
  have htop0 : zs2.getD n 0 = 0 := by
    have h1 := val_top zs2 n hl2
    rw [hv2] at h1
    rcases Nat.eq_zero_or_pos (zs2.getD n 0) with h | h
    · exact h
    · have := Nat.mul_le_mul_left (4294967296 ^ n) (show 1 ≤ zs2.getD n 0 from h)
      have := HBS.out
      omega
  have hdv : val (zs2.take n) = b * 2 ^ s := by
    have h1 := val_top zs2 n hl2
    rw [hv2, htop0] at h1
    omega
  have hdl : (zs2.take n).length = n := by rw [List.length_take]; omega
  have hdt := norm_top HN.out (by omega) HT.out HS.out hdl (hsm2.take n) hdv
  have hnd := hseg2.sub hsm2 0 n (n + 1) (by omega) (by omega) (by omega)
  rw [List.drop_zero] at hnd
  have hg2l := hseg2.lt
  generalize zs2.take n = ds at *
  have HDV := Lib.hid hdv
  have HDL := Lib.hid hdl
  clear hdv hdl htop0 hv2 hl2 SA hsm2 hseg2
  go_wp2_with fail
  refine (HSA.out).mono ?_
  rintro e w2 ⟨g1, rs, rfl, hg1, hseg1, hsm1, hl1, hv1, hB2⟩
  have hg1l := hseg1.lt
  have hnd2 := hnd.below hB2
  have hB12 := below_then hB1 hB2
  go_wp2_with (at_make; refine wp_make rfl _ _ rfl _ _ (m - n + 1) rfl rfl (by omega) (by omega) (by omega) ?_; intro w3 hS3 hB3)
  have hseg13 := hseg1.below hB3 hg1l
  have hnd3 := hnd2.below hB3
  have hB13 := below_then hB12 hB3
  have hg3l := hS3.lt
  have hgw : w.heap.size ≤ g1 := by have := hB1.size; omega
  have hgw3 : w.heap.size ≤ w2.heap.size := hB12.size
  generalize hg3 : w2.heap.size = g3 at *
  clear hnd hnd2 hB1 hB2 hB3 hB12 hseg1 HSA SB HLZ hg3
  have hrel0 : LongRel (a * 2 ^ s) (b * 2 ^ s) rs (List.replicate (m - n + 1) 0) n m (m - n + 1) := by
    refine ⟨hl1, hsm1, Small.replicate _, by simp, ?_, ?_⟩
    · have h1 := val_take_drop rs (m - n + 1) (by omega)
      have h2 : (rs.drop (m - n + 1)).take n = rs.drop (m - n + 1) := List.take_of_length_le (by rw [List.length_drop]; omega)
      rw [h2]
      rw [hv1] at h1
      have h3 : a * 2 ^ s < 4294967296 ^ m * 2 ^ s := Nat.mul_lt_mul_of_pos_right HAL.out (Nat.pow_pos (by omega))
      have h4 : 4294967296 ^ m * 2 ^ s ≤ 4294967296 ^ m * 2147483648 := Nat.mul_le_mul_left _ (pow31 hs31)
      have h5 : 4294967296 ^ m * 2147483648 = 4294967296 ^ (m - n + 1) * (4294967296 ^ (n - 1) * 2147483648) := by
        rw [← Nat.mul_assoc, ← Nat.pow_add]
        congr 2
        omega
      have h6 : 4294967296 ^ (n - 1) * 2147483648 ≤ b * 2 ^ s := by
        rw [← HDV.out]
        have e1 := val_take_succ ds (n - 1) (by rw [HDL.out]; omega)
        rw [List.take_of_length_le (by rw [HDL.out]; omega)] at e1
        rw [e1]
        have := Nat.mul_le_mul_left (4294967296 ^ (n - 1)) hdt
        omega
      have h7 : 4294967296 ^ (m - n + 1) * val (rs.drop (m - n + 1)) < 4294967296 ^ (m - n + 1) * (4294967296 ^ (n - 1) * 2147483648) := by omega
      have := Nat.lt_of_mul_lt_mul_left h7
      omega
    · have h1 := val_take_drop rs (m - n + 1) (by omega)
      have h2 : (rs.drop (m - n + 1)).take n = rs.drop (m - n + 1) := List.take_of_length_le (by rw [List.length_drop]; omega)
      have h8 : (List.replicate (m - n + 1) 0).drop (m - n + 1) = [] := by simp
      rw [h2, h8]
      rw [hv1] at h1
      rw [h1]
      simp [val]
  have HR0 := Lib.hid hrel0
  clear hrel0 hv1 hl1 hsm1
  go_loopw [10] (fun i wr => ∃ (k : Nat) (rs qs : List Nat), k ≤ m - n + 1 ∧ i = .int .i64 ((k : Int) - 1) ∧ LongRel (a * 2 ^ s) (b * 2 ^ s) rs qs n m k ∧ Seg wr g1 [] rs [] ∧ Seg wr g3 [] qs [] ∧ Num wr (.slice (some ⟨g2, 0, none⟩) n (n + 1)) ds ∧ Below w.heap.size w wr) (fun i _ => (intOf i + 1).toNat)
  case atStart => exact ⟨m - n + 1, rs, _, Nat.le_refl _, by go_num, HR0.out, hseg13, hS3, hnd3, hB13⟩
  case round =>
    clear hseg13 hS3 hnd3 hB13 HR0
    obtain ⟨k, rs, qs, hk, rfl, hr, hseg, hsq, hnd, hB⟩ := hrel
    have hrl := hr.1
    have hql := hr.2.2.2.1
    rcases Nat.eq_zero_or_pos k with h0 | h0
    · subst h0
      obtain ⟨d1, d2⟩ := hr.done
      have hnr := hseg.sub hr.2.1 0 n (m + 1) (by omega) (by omega) (by omega)
      rw [List.drop_zero] at hnr
      have hlr : (rs.take n).length = n := by rw [List.length_take]; omega
      have SR := Lib.hid (shr_c wr _ _ s hnr (by rw [hlr]; omega) hs31)
      have HD1 := Lib.hid d1
      have HD2 := Lib.hid d2
      have hqo := Own.of_seg (base := w.heap.size) (c := m - n + 1) hsq hr.2.2.1 hql hgw3 rfl (by omega)
      clear d1 d2 hr hrl hql hseg hsq hnr hlr hnd
      go_wp2_with fail
      refine (SR.out).mono ?_
      rintro e w4 ⟨r, zr, rfl, hro, hrv, hB4⟩
      have hq4 := hqo.below hB4 (Nat.le_refl _)
      have hP : 0 < 2 ^ s := Nat.pow_pos (by omega)
      have e1 : a * 2 ^ s = val (rs.take n) + (b * val qs) * 2 ^ s := by rw [HD2.out, Nat.mul_right_comm]
      have e2 : val (rs.take n) = (a - b * val qs) * 2 ^ s := by rw [Nat.sub_mul]; omega
      have e3 : b * val qs ≤ a := Nat.le_of_mul_le_mul_right (show b * val qs * 2 ^ s ≤ a * 2 ^ s by omega) hP
      have e4 : a - b * val qs < b := Nat.lt_of_mul_lt_mul_right (show (a - b * val qs) * 2 ^ s < b * 2 ^ s by rw [← e2]; exact HD1.out)
      have e5 : a / b = val qs := by
        rw [show a = (a - b * val qs) + b * val qs by omega, Nat.add_mul_div_left _ _ hb0, Nat.div_eq_of_lt e4, Nat.zero_add]
      have e6 : a % b = a - b * val qs := by
        have := Nat.div_add_mod a b
        rw [e5] at this
        omega
      have E5 := Lib.hid e5
      have E6 := Lib.hid e6
      rw [e2, Nat.mul_div_cancel _ hP, ← e6] at hrv
      have HRV := Lib.hid hrv
      have hB5 := below_then hB hB4
      clear e1 e2 e3 e4 e5 e6 hrv HD1 HD2
      go_wp2_with fail
      go_ret2
      exact ⟨_, _, qs, zr, rfl, hq4, E5.out.symm, hro.mono hB.size, HRV.out, hB5⟩
    · obtain ⟨i, rfl⟩ : ∃ i, k = i + 1 := ⟨k - 1, by omega⟩
      rw [show (((i + 1 : Nat) : Int) - 1) = (i : Int) by omega]
      have hii : (i : Int) + n < (m : Int) + 1 := by omega
      have hsmr := hr.2.1
      have hpl : ((rs.drop i).take (n + 1)).length = n + 1 := by rw [List.length_take, List.length_drop]; omega
      have hlt := hr.part_lt (by omega)
      have hDM := HBS.out
      rw [← HDV.out] at hlt hDM
      have EE := Lib.hid (est_c wr _ _ _ ds n (hseg.sub hsmr i (n + 1) (m + 1 - i) (by omega) (by omega) (by omega)) hnd hn2 hpl HDL.out hdt hlt)
      have hpv := val_top _ n hpl
      have e0 : ((rs.drop i).take (n + 1)).take n = (rs.drop i).take n := by rw [List.take_take, Nat.min_eq_left (by omega)]
      rw [e0, getD_take _ _ _ (by omega), getD_drop] at hpv
      have HPV := Lib.hid hpv
      have HR := Lib.hid hr
      have HRL := Lib.hid hrl
      have HQL := Lib.hid hql
      clear hr hpl hlt e0 hpv hrl hql
      go_wp2_with fail
      rw [show i + n + 1 - i = n + 1 by omega]
      refine (EE.out).mono ?_
      rintro e w4 ⟨d, rfl, ⟨hd1, hd2, hd3⟩, N, hw4⟩
      have hseg4 : Seg w4 g1 [] rs [] := by rw [hw4]; exact hseg
      have hsq4 : Seg w4 g3 [] qs [] := by rw [hw4]; exact hsq
      have hnd4 : Num w4 (.slice (some ⟨g2, 0, none⟩) n (n + 1)) ds := by rw [hw4]; exact hnd
      have hB4 : Below w.heap.size w w4 := by rw [hw4]; exact below_drewN hB N
      have SM := subMul_i w4 g1 n (m + 1 - i) d i [] rs ds _ hseg4 hsmr (by rw [HRL.out]; omega) ⟨by omega, by omega⟩ hnd4 HDL.out (by omega) (by simp [Value.ownBlock]; omega) hd1
      have HSM := Lib.hid SM
      have HD2 := Lib.hid hd2
      have HD3 := Lib.hid hd3
      clear SM hw4 hseg hsq hnd hB EE hd2 hd3 hseg4
      go_wp2_with fail
      refine (HSM.out).mono ?_
      rintro e w5 ⟨rs2, cy, rfl, s1, s2, s3, s4, s5, s6, s7⟩
      have hsq5 := hsq4.grown s6 (by simp; omega)
      have hnd5 := hnd4.far s6 (fun _ => by simp [Value.ownBlock]; omega)
      have hB5 := hB4.grown s6 hB4.size (fun k e => by injection e with e; omega)
      have hqc := hsq5.cell0 (j := i) (by rw [HQL.out]; omega)
      have hqf := hsq5.frozen i
      generalize ((qs.getD i 0 : Nat) : Int) = q0 at hqc
      have S4 := Lib.hid s4
      have S1 := Lib.hid s1
      have S3 := Lib.hid s3
      have hL2 := take_lt (rs2.drop i) (s2.drop i) n
      clear s1 s3 s4 s6 s7 HSM hsq4 hnd4 hB4
      by_cases hc : rs.getD (i + n) 0 < cy
      · have hdec : decide (rs.getD (i + n) 0 < cy) = true := by simpa using hc
        rw [hdec]
        have hdp := div_back_pos HPV.out S4.out hL2 hc
        have HDP := Lib.hid (show d * val ds = (d - 1) * val ds + val ds by
          obtain ⟨c, rfl⟩ : ∃ c, d = c + 1 := ⟨d - 1, by omega⟩
          rw [Nat.add_sub_cancel, Nat.add_mul, Nat.one_mul])
        have AB := addBack_i w5 g1 n (m + 1 - i) i [] rs2 ds _ s5 s2 (by rw [S1.out, HRL.out]; omega) ⟨by omega, by omega⟩ hnd5 HDL.out (by omega) (by simp [Value.ownBlock]; omega)
        have HAB := Lib.hid AB
        have hdi : (1 : Int) ≤ d := by omega
        have hdi2 : (d : Int) < 4294967296 := by omega
        clear AB hdec s5 hqc hqf
        go_wp2_with fail
        refine (HAB.out).mono ?_
        rintro e w6 ⟨rfl, rs3, c2, t1, t2, t3, t4, t5, t6, t7, t8⟩
        have hsq6 := hsq5.grown t7 (by simp; omega)
        have hnd6 := hnd5.far t7 (fun _ => by simp [Value.ownBlock]; omega)
        have hB6 := hB5.grown t7 hB5.size (fun k e => by injection e with e; omega)
        have hL3 := take_lt (rs3.drop i) (t2.drop i) n
        obtain ⟨f1, f2⟩ := div_back HPV.out S4.out HD2.out hDM hL2 hc HDP.out t4 t5 hL3
        rw [HDV.out] at f1 f2
        have HST := Lib.hid (HR.out.step (d := d - 1) hk hnm (t1.trans S1.out) t2 (t3.trans S3.out) (by omega) f1 f2)
        have hqc := hsq6.cell0 (j := i) (by rw [HQL.out]; omega)
        have hqf := hsq6.frozen i
        generalize ((qs.getD i 0 : Nat) : Int) = q0 at hqc
        have HSQ := Lib.hid (hsq6.put0 i (d - 1) ((d : Int) - 1) (by rw [HQL.out]; omega) (by omega))
        have HSG := Lib.hid (t6.far (p := ⟨g3, i, none⟩) (by simp; omega) (.int .u32 ((d : Int) - 1)))
        have HND := Lib.hid (hnd6.far (World.grownBy.refl w6 (some g3) |> fun h => grown_set h i (.int .u32 ((d : Int) - 1))) (fun _ => by simp [Value.ownBlock]; omega))
        have HBB := Lib.hid (hB6.setCell (p := ⟨g3, i, none⟩) hgw3 (.int .u32 ((d : Int) - 1)))
        clear t1 t3 t4 t5 t6 t7 t8 f1 f2 hsq5 hsq6 hnd5 hnd6 hB5 hB6 hL2 hL3 HAB
        go_wp2_with fail
        go_roundw
        case rel => exact ⟨i, rs3, _, by omega, by go_num, HST.out, HSG.out, HSQ.out, HND.out, HBB.out⟩
        case measure => simp [intOf]
      · have hdec : decide (rs.getD (i + n) 0 < cy) = false := by simpa using hc
        rw [hdec]
        obtain ⟨f1, f2⟩ := div_keep HPV.out S4.out (by have := HD3.out; rw [Nat.add_mul, Nat.one_mul] at this; exact this) hDM (by omega)
        rw [HDV.out] at f1 f2
        have HST := Lib.hid (HR.out.step (d := d) hk hnm S1.out s2 S3.out hd1 f1 f2)
        have HSQ := Lib.hid (hsq5.put0 i d (d : Int) (by rw [HQL.out]; omega) rfl)
        have HSG := Lib.hid (s5.far (p := ⟨g3, i, none⟩) (by simp; omega) (.int .u32 (d : Int)))
        have HND := Lib.hid (hnd5.far (World.grownBy.refl w5 (some g3) |> fun h => grown_set h i (.int .u32 (d : Int))) (fun _ => by simp [Value.ownBlock]; omega))
        have HBB := Lib.hid (hB5.setCell (p := ⟨g3, i, none⟩) hgw3 (.int .u32 (d : Int)))
        have hdi2 : (d : Int) < 4294967296 := by omega
        clear f1 f2 hsq5 hnd5 hB5 hL2 s5 hdec
        go_wp2_with fail
        go_roundw
        case rel => exact ⟨i, rs2, _, by omega, by go_num, HST.out, HSG.out, HSQ.out, HND.out, HBB.out⟩
        case measure => simp [intOf]
end Go.Proofs.Yticakmcjiofhoaa

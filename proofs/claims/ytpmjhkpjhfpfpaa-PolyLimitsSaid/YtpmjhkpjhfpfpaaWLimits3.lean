/- The walk of the law PolyLimits: it returns true and leaves what was there. -/
import Derived.Test.YtpmjhkpjhfpfpaaPlyN
import Derived.Test.YtpmjhkpjhfpfpaaKnow3
namespace Go.Proofs.Ytpmjhkpjhfpfpaa
open Go.RowKit Dig
set_option linter.unusedVariables false

namespace Dig
theorem length_pmul {p q : List Rat} (hp : tr p = p) (hq : tr q = q) (h0 : 0 < p.length) (h1 : 0 < q.length) : (pmul p q).length = p.length + q.length - 1 := by
  have a1 := (tr_last p)
  have a2 := (tr_last q)
  rw [hp] at a1
  rw [hq] at a2
  have b1 := a1.resolve_left (by omega)
  have b2 := a2.resolve_left (by omega)
  unfold pmul
  have e : tr (mk (p.length + q.length) (conv (cf p) (cf q))) = (mk (p.length + q.length) (conv (cf p) (cf q))).take (p.length + q.length - 1) := by
    apply tr_take (by rw [mk_length]; omega)
    · intro i hi1 hi2
      rw [mk_length] at hi2
      rw [cf_mk, if_pos hi2]
      exact conv_over _ _ p.length q.length i (fun _ h => cf_over h) (fun _ h => cf_over h) (by omega)
    · right
      rw [cf_mk, if_pos (by omega), show p.length + q.length - 1 - 1 = (p.length - 1) + (q.length - 1) by omega]
      rw [conv_top _ _ (p.length - 1) (q.length - 1) (fun i hi => cf_over (by omega)) (fun i hi => cf_over (by omega))]
      exact fun e => (Rat.mul_eq_zero.1 e).elim b1 b2
  rw [e, List.length_take, mk_length]
  omega
theorem length_ppow {p : List Rat} (hp : tr p = p) (h0 : 0 < p.length) : ∀ n, (ppow p n).length = (p.length - 1) * n + 1
  | 0 => rfl
  | n + 1 => by
    have ih := length_ppow hp h0 n
    rw [ppow, length_pmul (tr_ppow p n) hp (by omega) h0, ih, Nat.mul_succ]
    omega
def shx (n : Nat) : List Rat := mk n (fun _ => 0) ++ [0, 1]
theorem shx_length (n : Nat) : (shx n).length = n + 2 := by unfold shx; rw [List.length_append, mk_length]; rfl
theorem cf_shx (n i : Nat) : cf (shx n) i = if i = n + 1 then 1 else 0 := by
  unfold shx
  rw [mk_zero_append, cf3]
  by_cases h : i < n
  · rw [if_pos h, if_neg (by omega)]
  · rw [if_neg h]
    by_cases h1 : i - n = 0
    · rw [if_pos h1, if_neg (by omega)]
    · rw [if_neg h1]
      by_cases h2 : i - n = 1
      · rw [if_pos h2, if_pos (by omega)]
      · rw [if_neg h2, if_neg (by omega)]
theorem tr_shx (n : Nat) : tr (shx n) = shx n := by
  apply tr_id
  right
  rw [shx_length, cf_shx, if_pos (by omega)]
  decide
theorem szd_shx (n : Nat) : Szd (shx n) 1 1 1 := by
  refine ⟨by omega, by omega, fun i => ?_, fun i => ?_⟩
  · rw [cf_shx]
    split <;> decide +kernel
  · rw [cf_shx]
    split <;> decide +kernel
theorem tr_x01 : tr [(0 : Rat), 1] = [0, 1] := by decide +kernel
theorem tr_c1 : tr [(1 : Rat)] = [1] := by decide +kernel
theorem szd_c1 : Szd [(1 : Rat)] 1 1 1 := by
  refine ⟨by omega, by omega, fun i => ?_, fun i => ?_⟩
  · match i with
    | 0 => decide +kernel
    | i + 1 => rw [cf_over (by simp)]; decide +kernel
  · match i with
    | 0 => decide +kernel
    | i + 1 => rw [cf_over (by simp)]; decide +kernel
end Dig
set_option maxHeartbeats 8000000 in
theorem limits3_walk (w : World) : Calls Try.prog 6 #[] w fun e w' => e = .returned (.bool true) ∧ Below w.heap.size w w' := by
  have B1 := fun w1 => baseFrac_v w1 21
  rw [kp_a] at B1
  have H1 := Lib.hid B1
  have SH := fun (n : Nat) (hn : n ≤ 1022) w1 v1 (h : Fls (FV 2) w1 v1 [0, 1]) => (show Calls Try.prog 31 #[v1, .int .i64 (n : Int)] w1 (RPolE w1 (shx n) 2) from by
    have := shift_p (w := w1) (n := n) h (by omega) (by omega) (by simp) (by rw [tr_x01]; simp; omega) (by rw [tr_x01]; simp)
    rw [tr_x01] at this
    exact this)
  have SHL := fun w1 v1 (h : Fls (FV 2) w1 v1 [0, 1]) => shift_long_p (w := w1) (n := 1023) h (by omega) (by omega) (by simp) (by rw [tr_x01]; simp) (by rw [tr_x01]; simp)
  have S340 := Lib.hid (SH 340 (by omega))
  have S341 := Lib.hid (SH 341 (by omega))
  have S1022 := Lib.hid (SH 1022 (by omega))
  have S1023 := Lib.hid SHL
  have P3 := fun w1 v1 (h : Fls (FV 2) w1 v1 (shx 340)) => pow_p (w := w1) (n := 3) (K := 1) (M := 1) (D := 1) h (by omega) (by omega) (by omega) (by omega) (by omega) (by omega) (by omega) (by omega) (by rw [shx_length]; omega) (by rw [tr_shx]; exact szd_shx _) (by rw [tr_shx, shx_length]; decide)
  rw [tr_shx] at P3
  have HP3 := Lib.hid P3
  have HL3 := Lib.hid (show (ppow (shx 340) 3).length = 1024 by rw [length_ppow (tr_shx _) (by rw [shx_length]; omega), shx_length])
  have HQ3 := Lib.hid (fun w1 v1 (h : Fls (FV 2) w1 v1 (shx 341)) => pow_long_p (w := w1) (n := 3) h (by omega) (by omega) (by omega) (by rw [shx_length]; omega) (by rw [tr_shx, shx_length]; omega))
  have PC := fun w1 v1 (h : Fls (FV 2) w1 v1 [1]) => pow_p (w := w1) (n := 1024) (K := 1) (M := 1) (D := 1) h (by omega) (by omega) (by omega) (by omega) (by omega) (by omega) (by omega) (by omega) (by simp) (by rw [tr_c1]; exact szd_c1) (by rw [tr_c1]; simp)
  rw [tr_c1] at PC
  have HPC := Lib.hid PC
  have HLC := Lib.hid (show (ppow [1] 1024).length = 1 by rw [length_ppow tr_c1 (by simp)]; rfl)
  have KN := Lib.hid known3_v
  clear B1 SH SHL P3 PC
  go_enter Try.func6, Try.ntmps6
  go_wp2_with fail
  refine (H1.out _).mono ?_
  rintro e w1 ⟨u, rfl, hu, hB1⟩
  obtain ⟨t1, rfl, hu⟩ := hu.tri
  go_wp2_with fail
  have hBk : FBlk (w1.alloc (.cells (tcells [.zero, t1]).toArray 29)) w1.heap.size [.zero, t1] := FBlk.new w1 _
  have hAl : Below w1.heap.size w1 (w1.alloc (.cells (tcells [.zero, t1]).toArray 29)) := (Below.refl _ _).alloc (Nat.le_refl _) _
  have hu := hu.below hAl
  have hL : Fls (FV 2) (w1.alloc (.cells (tcells [.zero, t1]).toArray 29)) (.slice (some ⟨w1.heap.size, 0, none⟩) 2 2) [0, 1] := Fls.of_blk hBk rfl (by simp) (fun j hj => by
    match j, hj with
    | 0, _ => exact FracV.zero _ _
    | 1, _ => exact hu.fracV
    | j + 2, hj => simp at hj; omega)
  have hB2 := below_then hB1 hAl
  have HL := Lib.hid hL
  have HB2 := Lib.hid hB2
  have hw3' : w1.alloc (.cells #[.bool false, .slice none 0 0, .slice none 0 0, .bool t1.b, .slice t1.x.1 t1.x.2.1 t1.x.2.2, .slice t1.y.1 t1.y.2.1 t1.y.2.2] 29) = (w1.alloc (.cells (tcells [.zero, t1]).toArray 29)) := rfl
  rw [hw3']
  clear hu hL hB2 hB1 hBk hAl hw3'
  generalize w1.alloc (.cells (tcells [.zero, t1]).toArray 29) = w2 at *
  refine (S340.out _ _ HL.out).mono ?_
  rintro e w3 ⟨p, rfl, hp, hB3⟩
  have HX3 := Lib.hid (HL.out.below (keeps_FV 2) hB3)
  obtain ⟨A, c, rfl⟩ := hp.fls.form
  have hp := hp.readable
  have hB3 := below_then HB2.out hB3
  have e340 := shx_length 340
  rw [e340] at hp ⊢
  have HP := Lib.hid hp
  clear hp e340
  go_wp2_with fail
  refine (S341.out _ _ HX3.out).mono ?_
  rintro e w4 ⟨q, rfl, hq, hB4⟩
  have HX4 := Lib.hid (HX3.out.below (keeps_FV 2) hB4)
  have hp := HP.out.below (keeps_FV 2) hB4
  have hB4 := below_then hB3 hB4
  obtain ⟨B, d, rfl⟩ := hq.fls.form
  have hq := hq.readable
  have e341 := shx_length 341
  rw [e341] at hq ⊢
  have HQ := Lib.hid hq
  have HPP := Lib.hid (HP3.out _ _ hp)
  clear hp hq e341
  go_wp2_with fail
  refine (HPP.out).mono ?_
  rintro e w5 ⟨a, rfl, ha, hB5⟩
  obtain ⟨C, f, rfl⟩ := ha.fls.form
  rw [HL3.out]
  have HX5 := Lib.hid (HX4.out.below (keeps_FV 2) hB5)
  have hq := HQ.out.below (keeps_FV 2) hB5
  have hB5 := below_then hB4 hB5
  have HQQ := Lib.hid (HQ3.out _ _ hq)
  clear ha hq
  go_wp2_with fail
  refine (HQQ.out).mono ?_
  rintro e w6 ⟨rfl, hB6⟩
  have HX6 := Lib.hid (HX5.out.below (keeps_FV 2) hB6)
  have hB6 := below_then hB5 hB6
  go_wp2_with fail
  refine (H1.out _).mono ?_
  rintro e w7 ⟨u, rfl, hu, hB7⟩
  obtain ⟨t2, rfl, hu⟩ := hu.tri
  have hx7 := HX6.out.below (keeps_FV 2) hB7
  have hB7 := below_then hB6 hB7
  go_wp2_with fail
  have hBk : FBlk (w7.alloc (.cells (tcells [t2]).toArray 29)) w7.heap.size [t2] := FBlk.new w7 _
  have hAl : Below w7.heap.size w7 (w7.alloc (.cells (tcells [t2]).toArray 29)) := (Below.refl _ _).alloc (Nat.le_refl _) _
  have hu := hu.below hAl
  have hL : Fls (FV 2) (w7.alloc (.cells (tcells [t2]).toArray 29)) (.slice (some ⟨w7.heap.size, 0, none⟩) 1 1) [1] := Fls.of_blk hBk rfl (by simp) (fun j hj => by
    match j, hj with
    | 0, _ => exact hu.fracV
    | j + 1, hj => simp at hj)
  have HX8 := Lib.hid (hx7.below (keeps_FV 2) hAl)
  have hB8 := below_then hB7 hAl
  have HL1 := Lib.hid (HPC.out _ _ hL)
  have HB8 := Lib.hid hB8
  have hw3' : w7.alloc (.cells #[.bool t2.b, .slice t2.x.1 t2.x.2.1 t2.x.2.2, .slice t2.y.1 t2.y.2.1 t2.y.2.2] 29) = (w7.alloc (.cells (tcells [t2]).toArray 29)) := rfl
  rw [hw3']
  clear hu hL hB8 hB7 hBk hAl hw3' hx7
  generalize w7.alloc (.cells (tcells [t2]).toArray 29) = w8 at *
  refine (HL1.out).mono ?_
  rintro e w9 ⟨b, rfl, hb, hB9⟩
  obtain ⟨D, g, rfl⟩ := hb.fls.form
  rw [HLC.out]
  have HX9 := Lib.hid (HX8.out.below (keeps_FV 2) hB9)
  have hB9 := below_then HB8.out hB9
  clear hb
  go_wp2_with fail
  refine (pow_big_p w9 none 0 0 1025 (by omega)).mono ?_
  rintro e w10 ⟨rfl, hB10⟩
  have HX10 := Lib.hid (S1022.out _ _ (HX9.out.below (keeps_FV 2) hB10))
  have hx10 := HX9.out.below (keeps_FV 2) hB10
  have hB10 := below_then hB9 hB10
  go_wp2_with fail
  refine (HX10.out).mono ?_
  rintro e w11 ⟨r, rfl, hr, hB11⟩
  obtain ⟨E, g1, rfl⟩ := hr.fls.form
  have e1022 := shx_length 1022
  rw [e1022]
  have HX11 := Lib.hid (S1023.out _ _ (hx10.below (keeps_FV 2) hB11))
  have hB11 := below_then hB10 hB11
  clear hr hx10 e1022
  go_wp2_with fail
  refine (HX11.out).mono ?_
  rintro e w12 ⟨rfl, hB12⟩
  have hB12 := below_then hB11 hB12
  go_wp2_with fail
  refine (shift_big_p w12 none 0 0 1025 (by omega)).mono ?_
  rintro e w13 ⟨rfl, hB13⟩
  have hB13 := below_then hB12 hB13
  go_wp2_with fail
  refine (KN.out _).mono ?_
  rintro e w14 ⟨rfl, hB14⟩
  have hB14 := below_then hB13 hB14
  go_wp2_with fail
  go_ret
  exact ⟨rfl, hB14⟩
end Go.Proofs.Ytpmjhkpjhfpfpaa

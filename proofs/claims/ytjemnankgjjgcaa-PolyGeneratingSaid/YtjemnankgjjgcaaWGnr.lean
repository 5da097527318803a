/- The walk of the law PolyGenerating: it returns true and leaves what was there. -/
import Derived.Test.YtjemnankgjjgcaaGnrs
import Derived.Test.YtjemnankgjjgcaaKnow3
import Derived.Test.YtjemnankgjjgcaaPlyG
import Derived.Test.YtjemnankgjjgcaaPrfd
namespace Go.Proofs.Ytjemnankgjjgcaa
set_option linter.unusedSimpArgs false
open Go.RowKit Dig
set_option linter.unusedVariables false

set_option maxHeartbeats 16000000 in
theorem generating_walk (w : World) (v1 : Value) (l1 : List Int) (n1 : Ints w v1 l1) :
    Calls Try.prog 9 #[v1] w (RVal w (.bool true)) := by
  obtain ⟨A1, c1, rfl⟩ := n1.form
  have hbd := n1.len.2
  obtain ⟨m, hm⟩ : ∃ m, l1.length = m := ⟨_, rfl⟩
  rw [hm] at n1 hbd ⊢
  clear hm
  by_cases hm6 : 6 < m
  · have h6 : (6 : Int) < m := by omega
    clear n1
    go_enter Try.func9, Try.ntmps9
    go_wp2_with fail
    go_ret
    exact ⟨rfl, Below.refl _ _⟩
  have h6 : ¬ (6 : Int) < m := by omega
  obtain ⟨P, hP⟩ : ∃ P : Nat → Rat, (fun i => pq (l1.getD i 0)) = P := ⟨_, rfl⟩
  have HU : Hid (∀ i, Unit1 (P i) 420) := Lib.hid (fun i => by rw [← hP]; exact pq_unit _)
  have HL := Lib.hid (fun w1 (hr : Below w.heap.size w w1) => (n1.below hr).cells)
  have PR := Lib.hid (fun w1 (i : Nat) => (show Calls Try.prog 42 #[.int .i64 (l1.getD i 0)] w1 (RCanF w1 (P i) 2) from by rw [← hP]; exact baseProb_v w1 _))
  have ONE := Lib.hid one_p
  clear n1 hP
  go_enter Try.func9, Try.ntmps9
  go_wp2_with fail
  refine (ONE.out _).mono ?_
  rintro e w1 ⟨u, rfl, hu, hB1⟩
  obtain ⟨b', C, o, r, C', o', r', rfl, hb', hvx, hvy⟩ := hu.parts
  have hAl : Below w1.heap.size w1 (w1.alloc (.cells #[.bool b', .slice C o r, .slice C' o' r'] 29)) := (Below.refl _ _).alloc (Nat.le_refl _) _
  have HE : Hid (Ofl (CV 3) w.heap.size (w1.alloc (.cells #[.bool b', .slice C o r, .slice C' o' r'] 29)) (.slice (some ⟨w1.heap.size, 0, none⟩) 1 1) (gpoly P 0)) := Lib.hid (.inr ⟨w1.heap.size, [⟨b', (C, o, r), (C', o', r')⟩], rfl, hB1.size, Fcl.fblk (Fcl.new w1 _ _ _), by simp [gpoly], by unfold maxLen; simp, fun j hj => by
    obtain rfl : j = 0 := by simp [gpoly] at hj; omega
    exact CanF.le (CanF.below hu hAl) (by omega)⟩)
  have hB2 := below_then hB1 hAl
  clear hu hb' hvx hvy hAl hB1
  go_wp2_with fail
  go_loopw [3, 4, 5] (fun ov pv iv wr => ∃ j : Nat, j ≤ m ∧ iv = .int .i64 j ∧ Ofl (CV 3) w.heap.size wr ov (gpoly P j) ∧ Ofl (CV 2) w.heap.size wr pv (mk j P) ∧ (∀ k, ov.ownBlock = some k → pv.ownBlock ≠ some k) ∧ Below w.heap.size w wr) (fun _ _ iv _ => m - (intOf iv).toNat)
  case atStart => exact ⟨0, Nat.zero_le _, rfl, HE.out, Ofl.nil _ _ _, fun k _ e => by simp [Value.ownBlock] at e, hB2⟩
  case round =>
    clear HE hB2
    obtain ⟨j, hj, rfl, hG, hO, hne, hB⟩ := hrel
    obtain ⟨A5, c5, rfl⟩ := hG.fls.form
    obtain ⟨A6, c6, rfl⟩ := hO.fls.form
    obtain ⟨lg, hlg⟩ : ∃ lg, (gpoly P j).length = lg := ⟨_, rfl⟩
    rw [mk_length] at hO hne ⊢
    rw [hlg] at hG hne ⊢
    have hlg := Lib.hid hlg
    by_cases hjm : j < m
    · have HI : (j : Int) < m := by omega
      obtain ⟨b0, off, rfl, hbb, hall⟩ := HL.out _ hB (by omega)
      obtain ⟨hc, hfit⟩ := hall j hjm
      have PJ := Lib.hid (fun w1 => PR.out w1 j)
      generalize l1.getD j 0 = z at hc hfit PJ
      clear hall
      go_wp2_with fail
      refine (PJ.out _).mono ?_
      rintro e w2 ⟨u, rfl, hu, hB2⟩
      obtain ⟨b, C, o, r, C', o', r', rfl, hb, hvx, hvy⟩ := hu.parts
      obtain ⟨W, g, ew, eg, hBW, hF⟩ := var1 w2 b (.slice C o r) (.slice C' o' r')
      have hO := hO.below (keeps_CV 2) hB2
      have hlt : ∀ k, Value.ownBlock (.slice A6 j c6) = some k → k < g := fun k e => by rw [← eg]; exact (hO.ownLt e).2
      have hO := hO.below (keeps_CV 2) hBW
      have hG := (hG.below (keeps_CV 3) hB2).below (keeps_CV 3) hBW
      have hB := below_then (below_then hB hB2) hBW
      have hu := CanF.below hu hBW
      have hAl : Below W.heap.size W (W.alloc (.cells #[.bool b, .slice C o r, .slice C' o' r'] 29)) := (Below.refl _ _).alloc (Nat.le_refl _) _
      have HE := Lib.hid (CanF.elem hu)
      have HO := Lib.hid (hO.below (keeps_CV 2) hAl)
      have HG := Lib.hid (hG.below (keeps_CV 3) hAl)
      have HB := Lib.hid (below_then hB hAl)
      have HV := Lib.hid (CanF.below hu hAl)
      have HFA := Lib.hid (hF.below hAl)
      have hsz : w.heap.size ≤ W.heap.size + 1 := by have := hB.size; omega
      have HNE := Lib.hid hne
      have HLT := Lib.hid hlt
      obtain ⟨k0, k1, k2⟩ := hF.cells
      clear hu hb hvx hvy hB2 hBW hO hG hB hAl hne hlt hc hbb hfit hF
      go_wp2_with (at_builtin; refine wp_append_f (keeps_CV 2) 23 (by kernel_rfl) rfl _ _ rfl w.heap.size _ (mk j P) rfl HO.out (.slice (some ⟨W.heap.size, 0, none⟩) 1 1) [P j] rfl HE.out (by simp) (by rw [mk_length]; simp; omega) (by simp; omega) ?_; intro v' y hGr)
      obtain ⟨hO, hgb, hown, A9, n9, c9, rfl⟩ := hGr
      have hG := HG.out.grownC HO.out HNE.out hgb
      have hu := CanF.grownO HV.out HO.out hgb
      have hF := HFA.out.grownBy hgb (fun e => Nat.lt_irrefl _ (HLT.out _ e))
      have hB := HB.out.grown hgb HB.out.size (fun k e => (HO.out.ownLt e).1)
      rw [← mk_succ] at hO
      clear HE HO HG HB HV HFA HNE HLT hown hgb k0 k1 k2 ew eg hsz
      refine lw_begin (S := tillU 7 (fun w' => Below y.heap.size y w') (fun w' => Below y.heap.size y w')) 7 (by kernel_rfl) (by kernel_rfl) ?_
      have hK : Below y.heap.size y y.drew := (Below.refl _ _).drew
      have hS : tillU 7 (fun w' => Below y.heap.size y w') (fun w' => Below y.heap.size y w') (Array.replicate 7 false) _ := ⟨fun _ => hK, hK⟩
      refine lu_u (i := 0) (some 33) (.slice A5 lg c5) (by kernel_rfl) (by kernel_rfl) (by kernel_rfl) (by kernel_rfl) (by kernel_rfl) (by kernel_rfl) (fun w hU => by kernel_rfl) (by decide) (by kernel_rfl) (fun _ _ d _ _ h => by cases d <;> exact h) hS (fun hS => ?_)
      simp only [put_lit, put_non, List.set_cons_zero, List.set_cons_succ]
      refine lu_u (i := 1) (some 34) (.agg #[.bool b, .slice C o r, .slice C' o' r']) (by kernel_rfl) (by kernel_rfl) (by kernel_rfl) (by kernel_rfl) (by kernel_rfl) (by kernel_rfl) (fun w hU => exec_load3 6 (hF.below hU) (by kernel_rfl) (by kernel_rfl)) (by decide) (by kernel_rfl) (fun _ _ d _ _ h => by cases d <;> exact h) hS (fun hS => ?_)
      simp only [put_lit, put_non, List.set_cons_zero, List.set_cons_succ]
      refine lu_u (i := 3) (some 36) (.agg #[.bool b, .slice C o r, .slice C' o' r']) (by kernel_rfl) (by kernel_rfl) (by kernel_rfl) (by kernel_rfl) (by kernel_rfl) (by kernel_rfl) (fun w hU => exec_load3 6 (hF.below hU) (by kernel_rfl) (by kernel_rfl)) (by decide) (by kernel_rfl) (fun _ _ d _ _ h => by cases d <;> exact h) hS (fun hS => ?_)
      simp only [put_lit, put_non, List.set_cons_zero, List.set_cons_succ]
      refine lw_one (i := 2) (by kernel_rfl) ?_
      refine op_call (some 35) 41 #[.agg #[.bool b, .slice C o r, .slice C' o' r']] (by kernel_rfl) (by kernel_rfl) (by kernel_rfl) (fun w => by kernel_rfl) ?_
      refine (cpl_p (CanF.below hu hK) (HU.out j)).mono ?_
      rintro e y1 ⟨u, rfl, hu2, hB⟩
      have hK := below_then hK hB
      obtain ⟨b2, D, d1, d2, D', d1', d2', rfl, hb2, hvx2, hvy2⟩ := hu2.parts
      clear hB hb2 hvx2 hvy2
      refine ⟨_, rfl, ?_⟩
      refine and_self_of ⟨fun _ => hK, hK⟩ (fun hS => ?_)
      simp only [put_lit, put_non, List.set_cons_zero, List.set_cons_succ]
      refine lw_one (i := 4) (by kernel_rfl) ?_
      refine op_do (some 37) (.slice (some ⟨y1.heap.size, 0, none⟩) 2 2) (y1.alloc (.cells #[.bool b2, .slice D d1 d2, .slice D' d1' d2', .bool b, .slice C o r, .slice C' o' r'] 29)) (by kernel_rfl) (by kernel_rfl) (by kernel_rfl) (exec_buildF2 35 36 (by kernel_rfl) (by kernel_rfl) (by kernel_rfl)) ?_
      have hPR := FracV.pair hu2.fracV (CanF.below hu hK).fracV
      have hK := hK.alloc hK.size (.cells #[.bool b2, .slice D d1 d2, .slice D' d1' d2', .bool b, .slice C o r, .slice C' o' r'] 29)
      clear hu2
      generalize y1.alloc (.cells #[.bool b2, .slice D d1 d2, .slice D' d1' d2', .bool b, .slice C o r, .slice C' o' r'] 29) = y2 at *
      refine and_self_of ⟨fun _ => hK, hK⟩ (fun hS => ?_)
      simp only [put_lit, put_non, List.set_cons_zero, List.set_cons_succ]
      refine lw_one (i := 5) (by kernel_rfl) ?_
      refine op_call (some 38) 17 #[.slice A5 lg c5, .slice (some ⟨y1.heap.size, 0, none⟩) 2 2] (by kernel_rfl) (by kernel_rfl) (by kernel_rfl) (fun w => by kernel_rfl) ?_
      refine (gmul_p HU.out (by omega) (hlg.out ▸ (hG.below (keeps_CV 3) hK).fls) hPR).mono ?_
      rintro e y3 ⟨u, rfl, hu3, hB⟩
      have hs2 := hK.size
      have hK := below_then hK hB
      obtain ⟨A7, c7, rfl⟩ := hu3.fls.form
      clear hB hPR
      refine ⟨_, rfl, ?_⟩
      refine and_self_of ⟨fun _ => hK, hK⟩ (fun hS => ?_)
      simp only [put_lit, put_non, List.set_cons_zero, List.set_cons_succ]
      refine lu_u (i := 6) (some 3) (.slice A7 (gpoly P (j + 1)).length c7) (by kernel_rfl) (by kernel_rfl) (by kernel_rfl) (by kernel_rfl) (by kernel_rfl) (by kernel_rfl) (fun w hU => by kernel_rfl) (by decide) (by kernel_rfl) (fun _ _ d _ _ h => by cases d <;> exact h) hS (fun hS => ?_)
      simp only [put_lit, put_non, List.set_cons_zero, List.set_cons_succ]
      refine lw_done (by kernel_rfl) ?_
      have hG' := hu3.mono (Nat.le_trans hB.size hs2)
      have hO' := hO.below (keeps_CV 2) hK
      have hne' : ∀ k, Value.ownBlock (.slice A7 (gpoly P (j + 1)).length c7) = some k → Value.ownBlock (.slice (some A9) n9 c9) ≠ some k := fun k e1 e2 => by
        have h1 := (hu3.ownLt e1).1
        have h2 := (hO.ownLt e2).2
        omega
      have hB' := below_then hB hK
      clear hu3 hO hG hu hF hB hK
      go_wp2_with fail
      go_roundw
      case rel => exact ⟨j + 1, by omega, by go_num, hG', hO', hne', hB'⟩
      case measure => simp [intOf]; omega
    · have HI : ¬ (j : Int) < m := by omega
      obtain rfl : j = m := by omega
      clear hne
      have HG := Lib.hid (fun w' (hr : Below wr.heap.size wr w') => (hG.below (keeps_CV 3) hr).fls)
      have HO := Lib.hid (fun w' (hr : Below wr.heap.size wr w') => (hO.below (keeps_CV 2) hr).fls)
      have HB := Lib.hid hB
      have HJ := Lib.hid (show (j : Int) + 1 = ((j + 1 : Nat) : Int) by omega)
      clear hG hO hB
      obtain ⟨N, hN⟩ : ∃ N, 2 ^ j = N := ⟨_, rfl⟩
      have hN64 : N ≤ 64 := by rw [← hN]; exact (Nat.pow_le_pow_right (by omega) (by omega : j ≤ 6) : 2 ^ j ≤ 2 ^ 6)
      have hw : wrap64 ((2 : Int) ^ j) = (N : Int) := by
        have e : (2 : Int) ^ j = (N : Int) := by rw [← hN]; push_cast; rfl
        rw [e]
        exact IntWalk.wrap64_in _ ⟨by omega, by omega⟩
      have HN := Lib.hid hN
      clear hN
      generalize wr = w4 at *
      go_wp2_with (at_make; refine wp_make_f 24 (by kernel_rfl) rfl _ _ rfl _ _ (j + 1) rfl rfl HJ.out HJ.out (by omega) ?_; intro w5 hF5 hB5)
      have hS0 : SRow w5 w4.heap.size (j + 1) (outc P j 0) := (SRow.start hF5).congr (fun _ _ => rfl)
      generalize hge : w4.heap.size = g at hS0 ⊢
      clear hF5
      go_loopw [8] (fun sv wx => ∃ t : Nat, t ≤ N ∧ sv = .int .i64 (t : Int) ∧ SRow wx g (j + 1) (outc P j t) ∧ Below w4.heap.size w4 wx) (fun sv _ => N - (intOf sv).toNat)
      case atStart => exact ⟨0, Nat.zero_le _, rfl, hS0, hB5⟩
      case round =>
        clear hS0 hB5
        obtain ⟨t, ht, rfl, hS, hBx⟩ := hrel
        generalize wr = w6 at *
        by_cases htl : t < N
        · have hti : (t : Int) < N := by omega
          go_wp2_with fail
          clear hw
          refine (ONE.out _).mono ?_
          rintro e w7 ⟨u, rfl, hu, hB7⟩
          obtain ⟨b, C, o, r, C', o', r', rfl, hb, hvx, hvy⟩ := hu.parts
          obtain ⟨W, gp, ew, egp, hBW, hF⟩ := var1 w7 b (.slice C o r) (.slice C' o' r')
          have hK := below_then hB7 hBW
          have hgp : w6.heap.size ≤ gp := by have := hB7.size; omega
          have hu := CanF.below hu hBW
          clear hb hvx hvy hB7 hBW
          go_wp2_with fail
          go_loopw [9, 11] (fun nv iv wy => ∃ i : Nat, i ≤ j ∧ iv = .int .i64 (i : Int) ∧ nv = .int .i64 ((cnt t i : Nat) : Int) ∧ ∃ b C o r C' o' r', Fcl wy gp b (.slice C o r) (.slice C' o' r') ∧ CanF wy (.agg #[.bool b, .slice C o r, .slice C' o' r']) (prb P t i) 2 ∧ Below w6.heap.size w6 wy) (fun _ iv _ => j - (intOf iv).toNat)
          case atStart => exact ⟨0, Nat.zero_le _, rfl, rfl, b, C, o, r, C', o', r', hF, hu, hK⟩
          case round =>
            clear hF hu hK ew egp
            obtain ⟨i, hi, rfl, rfl, b, C, o, r, C', o', r', hF, hu, hK⟩ := hrel
            generalize wr = w8 at *
            by_cases hij : i < j
            · have HIi : (i : Int) < j := by omega
              obtain ⟨bp, offp, rfl, hbp, hcellp⟩ := Fls.cells (HO.out _ hBx) (by omega : 0 < j)
              obtain ⟨tbp, Xp, xmp, xcp, Yp, ymp, ycp, c0p, c1p, c2p, hvp⟩ := hcellp i hij
              have hvp : CanF w6 (.agg #[.bool tbp, .slice Xp xmp xcp, .slice Yp ymp ycp]) (P i) 2 := by
                have : cf (mk j P) i = P i := by rw [cf_mk, if_pos hij]
                rw [← this]; exact hvp
              have SBp := Lib.hid (fun w1 (hr : Below w6.heap.size w6 w1) => (show w1.cell? ⟨bp, offp + i * 3, none⟩ = some (.bool tbp) ∧ w1.cell? ⟨bp, offp + i * 3 + 1, none⟩ = some (.slice Xp xmp xcp) ∧ w1.cell? ⟨bp, offp + i * 3 + 2, none⟩ = some (.slice Yp ymp ycp) from ⟨(hr.cell (p := ⟨bp, _, none⟩) hbp).trans c0p, (hr.cell (p := ⟨bp, _, none⟩) hbp).trans c1p, (hr.cell (p := ⟨bp, _, none⟩) hbp).trans c2p⟩))
              have SVp := Lib.hid (fun w1 (hr : Below w6.heap.size w6 w1) => CanF.below (w' := w1) hvp hr)
              clear hcellp hvp c0p c1p c2p
              have hcl := cnt_le t i
              have hcs : cnt t (i + 1) = cnt t i + bitAt t i := rfl
              have hbw := bit_word t i (by omega)
              rcases (show bitAt t i = 1 ∨ bitAt t i = 0 by have := bitAt_lt t i; omega) with hbt | hbt
              · rw [hbt] at hbw
                have hbw : bits .and .i64 ((t : Int) / 2 ^ i) 1 = 1 := hbw
                go_wp2_with fail
                refine lw_begin (S := tillU 6 (fun w' => Fcl w' gp b (.slice C o r) (.slice C' o' r')) (fun w' => Below w6.heap.size w6 w')) 7 (by kernel_rfl) (by kernel_rfl) ?_
                have hB := (Below.refl w8.heap.size w8).drew
                have hF := hF.below hB
                have hK := below_then hK hB
                have hu := CanF.below hu hB
                clear hB
                generalize w8.drew = y0 at *
                have hS : tillU 6 (fun w' => Fcl w' gp b (.slice C o r) (.slice C' o' r')) (fun w' => Below w6.heap.size w6 w') (Array.replicate 7 false) _ := ⟨fun _ => hF, hK⟩
                refine lu_t (i := 0) (m := 5) (some 65) (.agg #[.bool b, .slice C o r, .slice C' o' r']) (by kernel_rfl) (by kernel_rfl) (by kernel_rfl) (by kernel_rfl) (by kernel_rfl) (by kernel_rfl) (fun w hT => exec_load3 10 hT (by kernel_rfl) (by kernel_rfl)) (by kernel_rfl) (by kernel_rfl) (by decide) (by kernel_rfl) (fun _ _ d _ _ h => by cases d <;> exact h) hS (fun hS => ?_)
                simp only [put_lit, put_non, List.set_cons_zero, List.set_cons_succ]
                refine lu_u (i := 1) (some 66) (.slice (some ⟨bp, offp, none⟩) j c6) (by kernel_rfl) (by kernel_rfl) (by kernel_rfl) (by kernel_rfl) (by kernel_rfl) (by kernel_rfl) (fun w hU => by kernel_rfl) (by decide) (by kernel_rfl) (fun _ _ d _ _ h => by cases d <;> exact h) hS (fun hS => ?_)
                simp only [put_lit, put_non, List.set_cons_zero, List.set_cons_succ]
                refine lu_u (i := 2) (some 67) (.int .i64 i) (by kernel_rfl) (by kernel_rfl) (by kernel_rfl) (by kernel_rfl) (by kernel_rfl) (by kernel_rfl) (fun w hU => by kernel_rfl) (by decide) (by kernel_rfl) (fun _ _ d _ _ h => by cases d <;> exact h) hS (fun hS => ?_)
                simp only [put_lit, put_non, List.set_cons_zero, List.set_cons_succ]
                refine lu_u (i := 3) (some 68) (.pointer (some ⟨bp, offp + i * 3, none⟩)) (by kernel_rfl) (by kernel_rfl) (by kernel_rfl) (by kernel_rfl) (by kernel_rfl) (by kernel_rfl) (fun w hU => exec_indexS (c := c6) 66 67 (by kernel_rfl) (by kernel_rfl) (by kernel_rfl) rfl hij) (by decide) (by kernel_rfl) (fun _ _ d _ _ h => by cases d <;> exact h) hS (fun hS => ?_)
                simp only [put_lit, put_non, List.set_cons_zero, List.set_cons_succ]
                refine lu_u (i := 4) (some 69) (.agg #[.bool tbp, .slice Xp xmp xcp, .slice Yp ymp ycp]) (by kernel_rfl) (by kernel_rfl) (by kernel_rfl) (by kernel_rfl) (by kernel_rfl) (by kernel_rfl) (fun w hU => exec_loadAt 68 (SBp.out _ hU) (by kernel_rfl) (by kernel_rfl)) (by decide) (by kernel_rfl) (fun _ _ d _ _ h => by cases d <;> exact h) hS (fun hS => ?_)
                simp only [put_lit, put_non, List.set_cons_zero, List.set_cons_succ]
                refine lw_one (i := 5) (by kernel_rfl) ?_
                refine op_call (some 70) 39 #[.agg #[.bool b, .slice C o r, .slice C' o' r'], .agg #[.bool tbp, .slice Xp xmp xcp, .slice Yp ymp ycp]] (by kernel_rfl) (by kernel_rfl) (by kernel_rfl) (fun w => by kernel_rfl) ?_
                refine (prb_p HU.out (t := t) (m := i) (by omega) hu (SVp.out _ hK) (if_pos hbt)).mono ?_
                rintro e y2 ⟨u, rfl, hu3, hB⟩
                have hF := hF.below hB
                have hK := below_then hK hB
                obtain ⟨b3, E, e1, e2, E', e1', e2', rfl, hb3, hvx3, hvy3⟩ := hu3.parts
                clear hB hu hu3
                refine ⟨_, rfl, ?_⟩
                refine and_self_of ⟨fun _ => hF, hK⟩ (fun hS => ?_)
                simp only [put_lit, put_non, List.set_cons_zero, List.set_cons_succ]
                refine lw_one (i := 6) (by kernel_rfl) ?_
                refine op_skip none (stor3 y2 gp (.bool b3) (.slice E e1 e2) (.slice E' e1' e2')) (by kernel_rfl) (by kernel_rfl) (by kernel_rfl) (exec_store3 10 70 hF (by kernel_rfl) (by kernel_rfl) (by kernel_rfl)) ?_
                have hu := CanF.ofParts hb3 (hvx3.put3 hF (.bool b3) (.slice E e1 e2) (.slice E' e1' e2')) (hvy3.put3 hF (.bool b3) (.slice E e1 e2) (.slice E' e1' e2'))
                have hK := below_put3 hK hgp (.bool b3) (.slice E e1 e2) (.slice E' e1' e2')
                have hF := hF.put3 b3 (.slice E e1 e2) (.slice E' e1' e2')
                clear hb3 hvx3 hvy3
                generalize stor3 y2 gp (.bool b3) (.slice E e1 e2) (.slice E' e1' e2') = y3 at *
                refine and_self_of ⟨fun h => absurd (h.symm.trans (by kernel_rfl)) Bool.false_ne_true, hK⟩ (fun hS => ?_)
                simp only [put_lit, put_non, List.set_cons_zero, List.set_cons_succ]
                refine lw_done (by kernel_rfl) ?_
                clear hbw
                go_wp2_with fail
                go_roundw
                case rel => exact ⟨i + 1, by omega, by go_num, by rw [hcs, hbt]; go_num, b3, E, e1, e2, E', e1', e2', hF, hu, hK⟩
                case measure => simp [intOf]; omega
              · rw [hbt] at hbw
                have hbw : bits .and .i64 ((t : Int) / 2 ^ i) 1 = 0 := hbw
                go_wp2_with fail
                refine lw_begin (S := tillU 7 (fun w' => Fcl w' gp b (.slice C o r) (.slice C' o' r')) (fun w' => Below w6.heap.size w6 w')) 8 (by kernel_rfl) (by kernel_rfl) ?_
                have hB := (Below.refl w8.heap.size w8).drew
                have hF := hF.below hB
                have hK := below_then hK hB
                have hu := CanF.below hu hB
                clear hB
                generalize w8.drew = y0 at *
                have hS : tillU 7 (fun w' => Fcl w' gp b (.slice C o r) (.slice C' o' r')) (fun w' => Below w6.heap.size w6 w') (Array.replicate 8 false) _ := ⟨fun _ => hF, hK⟩
                refine lu_t (i := 0) (m := 6) (some 73) (.agg #[.bool b, .slice C o r, .slice C' o' r']) (by kernel_rfl) (by kernel_rfl) (by kernel_rfl) (by kernel_rfl) (by kernel_rfl) (by kernel_rfl) (fun w hT => exec_load3 10 hT (by kernel_rfl) (by kernel_rfl)) (by kernel_rfl) (by kernel_rfl) (by decide) (by kernel_rfl) (fun _ _ d _ _ h => by cases d <;> exact h) hS (fun hS => ?_)
                simp only [put_lit, put_non, List.set_cons_zero, List.set_cons_succ]
                refine lu_u (i := 1) (some 74) (.slice (some ⟨bp, offp, none⟩) j c6) (by kernel_rfl) (by kernel_rfl) (by kernel_rfl) (by kernel_rfl) (by kernel_rfl) (by kernel_rfl) (fun w hU => by kernel_rfl) (by decide) (by kernel_rfl) (fun _ _ d _ _ h => by cases d <;> exact h) hS (fun hS => ?_)
                simp only [put_lit, put_non, List.set_cons_zero, List.set_cons_succ]
                refine lu_u (i := 2) (some 75) (.int .i64 i) (by kernel_rfl) (by kernel_rfl) (by kernel_rfl) (by kernel_rfl) (by kernel_rfl) (by kernel_rfl) (fun w hU => by kernel_rfl) (by decide) (by kernel_rfl) (fun _ _ d _ _ h => by cases d <;> exact h) hS (fun hS => ?_)
                simp only [put_lit, put_non, List.set_cons_zero, List.set_cons_succ]
                refine lu_u (i := 3) (some 76) (.pointer (some ⟨bp, offp + i * 3, none⟩)) (by kernel_rfl) (by kernel_rfl) (by kernel_rfl) (by kernel_rfl) (by kernel_rfl) (by kernel_rfl) (fun w hU => exec_indexS (c := c6) 74 75 (by kernel_rfl) (by kernel_rfl) (by kernel_rfl) rfl hij) (by decide) (by kernel_rfl) (fun _ _ d _ _ h => by cases d <;> exact h) hS (fun hS => ?_)
                simp only [put_lit, put_non, List.set_cons_zero, List.set_cons_succ]
                refine lu_u (i := 4) (some 77) (.agg #[.bool tbp, .slice Xp xmp xcp, .slice Yp ymp ycp]) (by kernel_rfl) (by kernel_rfl) (by kernel_rfl) (by kernel_rfl) (by kernel_rfl) (by kernel_rfl) (fun w hU => exec_loadAt 76 (SBp.out _ hU) (by kernel_rfl) (by kernel_rfl)) (by decide) (by kernel_rfl) (fun _ _ d _ _ h => by cases d <;> exact h) hS (fun hS => ?_)
                simp only [put_lit, put_non, List.set_cons_zero, List.set_cons_succ]
                refine lw_one (i := 5) (by kernel_rfl) ?_
                refine op_call (some 78) 41 #[.agg #[.bool tbp, .slice Xp xmp xcp, .slice Yp ymp ycp]] (by kernel_rfl) (by kernel_rfl) (by kernel_rfl) (fun w => by kernel_rfl) ?_
                refine (cpl_p (SVp.out _ hK) (HU.out i)).mono ?_
                rintro e y1 ⟨u, rfl, hu2, hB⟩
                have hF := hF.below hB
                have hK := below_then hK hB
                have hu := CanF.below hu hB
                obtain ⟨b2, D, d1, d2, D', d1', d2', rfl, hb2, hvx2, hvy2⟩ := hu2.parts
                clear hB hb2 hvx2 hvy2
                refine ⟨_, rfl, ?_⟩
                refine and_self_of ⟨fun _ => hF, hK⟩ (fun hS => ?_)
                simp only [put_lit, put_non, List.set_cons_zero, List.set_cons_succ]
                refine lw_one (i := 6) (by kernel_rfl) ?_
                refine op_call (some 79) 39 #[.agg #[.bool b, .slice C o r, .slice C' o' r'], .agg #[.bool b2, .slice D d1 d2, .slice D' d1' d2']] (by kernel_rfl) (by kernel_rfl) (by kernel_rfl) (fun w => by kernel_rfl) ?_
                refine (prb_p HU.out (t := t) (m := i) (by omega) hu hu2 (if_neg (by rw [hbt]; omega))).mono ?_
                rintro e y2 ⟨u, rfl, hu3, hB⟩
                have hF := hF.below hB
                have hK := below_then hK hB
                obtain ⟨b3, E, e1, e2, E', e1', e2', rfl, hb3, hvx3, hvy3⟩ := hu3.parts
                clear hB hu hu3 hu2
                refine ⟨_, rfl, ?_⟩
                refine and_self_of ⟨fun _ => hF, hK⟩ (fun hS => ?_)
                simp only [put_lit, put_non, List.set_cons_zero, List.set_cons_succ]
                refine lw_one (i := 7) (by kernel_rfl) ?_
                refine op_skip none (stor3 y2 gp (.bool b3) (.slice E e1 e2) (.slice E' e1' e2')) (by kernel_rfl) (by kernel_rfl) (by kernel_rfl) (exec_store3 10 79 hF (by kernel_rfl) (by kernel_rfl) (by kernel_rfl)) ?_
                have hu := CanF.ofParts hb3 (hvx3.put3 hF (.bool b3) (.slice E e1 e2) (.slice E' e1' e2')) (hvy3.put3 hF (.bool b3) (.slice E e1 e2) (.slice E' e1' e2'))
                have hK := below_put3 hK hgp (.bool b3) (.slice E e1 e2) (.slice E' e1' e2')
                have hF := hF.put3 b3 (.slice E e1 e2) (.slice E' e1' e2')
                clear hb3 hvx3 hvy3
                generalize stor3 y2 gp (.bool b3) (.slice E e1 e2) (.slice E' e1' e2') = y3 at *
                refine and_self_of ⟨fun h => absurd (h.symm.trans (by kernel_rfl)) Bool.false_ne_true, hK⟩ (fun hS => ?_)
                simp only [put_lit, put_non, List.set_cons_zero, List.set_cons_succ]
                refine lw_done (by kernel_rfl) ?_
                clear hbw
                go_wp2_with fail
                go_roundw
                case rel => exact ⟨i + 1, by omega, by go_num, by rw [hcs, hbt]; go_num, b3, E, e1, e2, E', e1', e2', hF, hu, hK⟩
                case measure => simp [intOf]; omega
            · have HIi : ¬ (i : Int) < j := by omega
              obtain rfl : i = j := by omega
              have HOC := fun w1 va vb ha hb => outc_p (w := w1) (va := va) (vb := vb) HU.out (t := t) (m := i) (by omega) (by rw [HN.out]; exact htl) ha hb
              have hcl := cnt_le t i
              have HST : ∀ q, q < i + 1 → q ≠ cnt t i → outc P i t q = outc P i (t + 1) q := fun q _ hq => by
                rw [outc_step, if_neg (Ne.symm hq)]; grind
              generalize cnt t i = cn at *
              have HOC := Lib.hid HOC
              have HST := Lib.hid HST
              have hcn1 : cn < i + 1 := by omega
              have hgg : gp ≠ g := by have := hS.lt; omega
              have hR := hS.below hK
              have hK := below_then hBx hK
              obtain ⟨tb, X, xm, xc, Y, ym, yc, t0, t1, t2, hv⟩ := hR.cells hcn1
              have hT : _ ∧ _ ∧ _ := ⟨t0, t1, t2⟩
              clear t0 t1 t2 hS
              go_wp2_with fail
              refine lw_begin (S := tillU 9 (fun w' => w'.cell? ⟨g, cn * 3, none⟩ = some (.bool tb) ∧ w'.cell? ⟨g, cn * 3 + 1, none⟩ = some (.slice X xm xc) ∧ w'.cell? ⟨g, cn * 3 + 2, none⟩ = some (.slice Y ym yc)) (fun w' => Below w4.heap.size w4 w' ∧ Fcl w' gp b (.slice C o r) (.slice C' o' r'))) 10 (by kernel_rfl) (by kernel_rfl) ?_
              have hB := (Below.refl w8.heap.size w8).drew
              have hT : _ ∧ _ ∧ _ := ⟨(hB.cell (p := ⟨g, cn * 3, none⟩) hR.lt).trans hT.1, (hB.cell (p := ⟨g, cn * 3 + 1, none⟩) hR.lt).trans hT.2.1, (hB.cell (p := ⟨g, cn * 3 + 2, none⟩) hR.lt).trans hT.2.2⟩
              have hR := hR.below hB
              have hv := FracV.below hv hB
              have hF := hF.below hB
              have hu := CanF.below hu hB
              have hK := below_then hK hB
              clear hB
              generalize w8.drew = y0 at *
              have hS : tillU 9 (fun w' => w'.cell? ⟨g, cn * 3, none⟩ = some (.bool tb) ∧ w'.cell? ⟨g, cn * 3 + 1, none⟩ = some (.slice X xm xc) ∧ w'.cell? ⟨g, cn * 3 + 2, none⟩ = some (.slice Y ym yc)) (fun w' => Below w4.heap.size w4 w' ∧ Fcl w' gp b (.slice C o r) (.slice C' o' r')) (Array.replicate 10 false) _ := ⟨fun _ => hT, ⟨hK, hF⟩⟩
              refine lu_u (i := 0) (some 80) (.slice (some ⟨g, 0, none⟩) (i + 1) (i + 1)) (by kernel_rfl) (by kernel_rfl) (by kernel_rfl) (by kernel_rfl) (by kernel_rfl) (by kernel_rfl) (fun w hU => by kernel_rfl) (by decide) (by kernel_rfl) (fun _ _ d _ _ h => by cases d <;> exact h) hS (fun hS => ?_)
              simp only [put_lit, put_non, List.set_cons_zero, List.set_cons_succ]
              refine lu_u (i := 1) (some 81) (.int .i64 (cn : Int)) (by kernel_rfl) (by kernel_rfl) (by kernel_rfl) (by kernel_rfl) (by kernel_rfl) (by kernel_rfl) (fun w hU => by kernel_rfl) (by decide) (by kernel_rfl) (fun _ _ d _ _ h => by cases d <;> exact h) hS (fun hS => ?_)
              simp only [put_lit, put_non, List.set_cons_zero, List.set_cons_succ]
              refine lu_u (i := 2) (some 82) (.slice (some ⟨g, 0, none⟩) (i + 1) (i + 1)) (by kernel_rfl) (by kernel_rfl) (by kernel_rfl) (by kernel_rfl) (by kernel_rfl) (by kernel_rfl) (fun w hU => by kernel_rfl) (by decide) (by kernel_rfl) (fun _ _ d _ _ h => by cases d <;> exact h) hS (fun hS => ?_)
              simp only [put_lit, put_non, List.set_cons_zero, List.set_cons_succ]
              refine lu_u (i := 3) (some 83) (.int .i64 (cn : Int)) (by kernel_rfl) (by kernel_rfl) (by kernel_rfl) (by kernel_rfl) (by kernel_rfl) (by kernel_rfl) (fun w hU => by kernel_rfl) (by decide) (by kernel_rfl) (fun _ _ d _ _ h => by cases d <;> exact h) hS (fun hS => ?_)
              simp only [put_lit, put_non, List.set_cons_zero, List.set_cons_succ]
              refine lu_u (i := 4) (some 84) (.pointer (some ⟨g, cn * 3, none⟩)) (by kernel_rfl) (by kernel_rfl) (by kernel_rfl) (by kernel_rfl) (by kernel_rfl) (by kernel_rfl) (fun w hU => show_ptr (exec_index (b := g) (off := 0) (n := i + 1) (c := i + 1) (j := cn) 82 83 (by kernel_rfl) (by kernel_rfl) (by kernel_rfl) rfl (by omega))) (by decide) (by kernel_rfl) (fun _ _ d _ _ h => by cases d <;> exact h) hS (fun hS => ?_)
              simp only [put_lit, put_non, List.set_cons_zero, List.set_cons_succ]
              refine lu_t (i := 5) (m := 7) (some 85) (.agg #[.bool tb, .slice X xm xc, .slice Y ym yc]) (by kernel_rfl) (by kernel_rfl) (by kernel_rfl) (by kernel_rfl) (by kernel_rfl) (by kernel_rfl) (fun w hT => exec_loadAt 84 hT (by kernel_rfl) (by kernel_rfl)) (by kernel_rfl) (by kernel_rfl) (by decide) (by kernel_rfl) (fun _ _ d _ _ h => by cases d <;> exact h) hS (fun hS => ?_)
              simp only [put_lit, put_non, List.set_cons_zero, List.set_cons_succ]
              refine lu_u (i := 6) (some 86) (.agg #[.bool b, .slice C o r, .slice C' o' r']) (by kernel_rfl) (by kernel_rfl) (by kernel_rfl) (by kernel_rfl) (by kernel_rfl) (by kernel_rfl) (fun w hU => exec_load3 10 hU.2 (by kernel_rfl) (by kernel_rfl)) (by decide) (by kernel_rfl) (fun _ _ d _ _ h => by cases d <;> exact h) hS (fun hS => ?_)
              simp only [put_lit, put_non, List.set_cons_zero, List.set_cons_succ]
              refine lw_one (i := 7) (by kernel_rfl) ?_
              refine op_call (some 87) 40 #[.agg #[.bool tb, .slice X xm xc, .slice Y ym yc], .agg #[.bool b, .slice C o r, .slice C' o' r']] (by kernel_rfl) (by kernel_rfl) (by kernel_rfl) (fun w => by kernel_rfl) ?_
              refine (HOC.out _ _ _ hv hu).mono ?_
              rintro e y1 ⟨u, rfl, hu2, hB⟩
              have hT : _ ∧ _ ∧ _ := ⟨(hB.cell (p := ⟨g, cn * 3, none⟩) hR.lt).trans hT.1, (hB.cell (p := ⟨g, cn * 3 + 1, none⟩) hR.lt).trans hT.2.1, (hB.cell (p := ⟨g, cn * 3 + 2, none⟩) hR.lt).trans hT.2.2⟩
              have hR := hR.below hB
              have hv := FracV.below hv hB
              have hF := hF.below hB
              have hu := CanF.below hu hB
              have hK := below_then hK hB
              obtain ⟨b2, D, d1, d2, D', d1', d2', rfl, hb2, hvx2, hvy2⟩ := hu2.parts
              clear hB hu hb2 hvx2 hvy2
              refine ⟨_, rfl, ?_⟩
              refine and_self_of ⟨fun _ => hT, ⟨hK, hF⟩⟩ (fun hS => ?_)
              simp only [put_lit, put_non, List.set_cons_zero, List.set_cons_succ]
              refine lu_u (i := 8) (some 88) (.pointer (some ⟨g, cn * 3, none⟩)) (by kernel_rfl) (by kernel_rfl) (by kernel_rfl) (by kernel_rfl) (by kernel_rfl) (by kernel_rfl) (fun w hU => show_ptr (exec_index (b := g) (off := 0) (n := i + 1) (c := i + 1) (j := cn) 80 81 (by kernel_rfl) (by kernel_rfl) (by kernel_rfl) rfl (by omega))) (by decide) (by kernel_rfl) (fun _ _ d _ _ h => by cases d <;> exact h) hS (fun hS => ?_)
              simp only [put_lit, put_non, List.set_cons_zero, List.set_cons_succ]
              refine lw_one (i := 9) (by kernel_rfl) ?_
              refine op_skip none (stor3o y1 g (cn * 3) (.bool b2) (.slice D d1 d2) (.slice D' d1' d2')) (by kernel_rfl) (by kernel_rfl) (by kernel_rfl) (exec_storeAt 88 87 hT hR.frozen (by kernel_rfl) (by kernel_rfl) (by kernel_rfl)) ?_
              have hR := hR.set (G := outc P i (t + 1)) hcn1 hu2.fracV HST.out
              have hK := below_stor3o hK (Nat.le_of_eq hge) (cn * 3) (.bool b2) (.slice D d1 d2) (.slice D' d1' d2')
              have hF := hF.of_block (stor3o_heap y1 g (cn * 3) (.bool b2) (.slice D d1 d2) (.slice D' d1' d2') gp hgg)
              clear hv hT hu2
              generalize stor3o y1 g (cn * 3) (.bool b2) (.slice D d1 d2) (.slice D' d1' d2') = y3 at *
              refine and_self_of ⟨fun h => absurd (h.symm.trans (by kernel_rfl)) Bool.false_ne_true, ⟨hK, hF⟩⟩ (fun hS => ?_)
              simp only [put_lit, put_non, List.set_cons_zero, List.set_cons_succ]
              refine lw_done (by kernel_rfl) ?_
              go_wp2_with fail
              go_roundw
              case rel => exact ⟨t + 1, by omega, by go_num, hR, hK⟩
              case measure => simp [intOf]; omega
        · have hti : ¬ (t : Int) < N := by omega
          obtain rfl : t = N := by omega
          have hSD := hS.done (by omega)
          have NO := fun w1 (hr : Below w6.heap.size w6 w1) => normalize_p (w := w1) (hSD.keepF hr) (by omega) (by omega) (by rw [mk_length]; omega)
          rw [← HN.out, ← gpoly_sums] at NO
          have NO := Lib.hid NO
          have hl13 := gpoly_len P j
          have hGo := HG.out _ hBx
          have hOo := HO.out _ hBx
          have TO := fun w1 (hr : Below w6.heap.size w6 w1) => total_p (w := w1) (by omega) (hGo.keepC hr).fv (Nat.le_trans (fbd_mono (show (gpoly P j).length ≤ 13 by omega) (by omega)) (by decide)) (by omega)
          rw [lsum_gpoly] at TO
          have TO := Lib.hid TO
          have ME := fun w1 (hr : Below w6.heap.size w6 w1) => mean_p (w := w1) (by omega) (hGo.keepC hr).fv (by omega) (Nat.le_trans (fbd_mono (show (pder (gpoly P j)).length ≤ 13 by exact pder_len (by omega)) (by omega)) (by decide)) (by omega)
          rw [mean_gpoly] at ME
          have ME := Lib.hid ME
          have SU := Lib.hid (fun w1 (hr : Below w6.heap.size w6 w1) => sum_r (w := w1) (by omega) (hOo.keepC hr).fv (Nat.le_trans (fbd_mono (show (mk j P).length ≤ 13 by rw [mk_length]; omega) (by omega)) (by decide)) (by rw [mk_length]; omega))
          have F1 := fun w1 v1 (h : FracV w1 v1 1 2) => formatf_v (w := w1) h (by omega) (by omega)
          rw [show ftext 1 = [49] by decide +kernel] at F1
          have F1 := Lib.hid F1
          have HGS := Lib.hid (fun w1 (hr : Below w6.heap.size w6 w1) => hGo.keepC hr)
          have HB6 := Lib.hid (below_then HB.out hBx)
          have HL := Lib.hid (show (gpoly P j).length ≤ 1000000000 by omega)
          have hK : Below w6.heap.size w6 w6 := Below.refl _ _
          clear hSD hGo hOo hS hBx hl13
          go_wp2_with fail
          clear hw
          refine (NO.out _ hK).mono ?_
          rintro e y1 ⟨u, rfl, hu, hB⟩
          have hu := hu.fls
          have hK := below_then hK hB
          clear hB
          go_wp2_with fail
          refine (same3_t (HGS.out _ hK) hu rfl HL.out).mono ?_
          rintro e y2 ⟨rfl, hB⟩
          have hK := below_then hK hB
          clear hB hu
          go_wp2_with fail
          refine (TO.out _ hK).mono ?_
          rintro e y3 ⟨u, rfl, hu, hB⟩
          have hK := below_then hK hB
          have HY := Lib.hid (F1.out _ _ (hu.fit (l := 2) (by decide +kernel) (by decide +kernel)).fracV)
          clear hB hu
          go_wp2_with fail
          refine (HY.out).mono ?_
          rintro e y4 ⟨rfl, hB⟩
          have hK := below_then hK hB
          clear hB
          go_wp2_with fail
          refine (ME.out _ hK).mono ?_
          rintro e y5 ⟨u, rfl, hu, hB⟩
          have hK := below_then hK hB
          clear hB
          go_wp2_with fail
          refine (SU.out _ hK).mono ?_
          rintro e y6 ⟨u2, rfl, hu2, hB⟩
          have hu := CanF.below hu hB
          have hK := below_then hK hB
          clear hB
          go_wp2_with fail
          refine (frac3_t hu hu2 rfl).mono ?_
          rintro e y7 ⟨rfl, hB⟩
          have hK := below_then hK hB
          clear hB hu hu2
          go_wp2_with fail
          refine (known3_v _).mono ?_
          rintro e y8 ⟨rfl, hB⟩
          have hK := below_then HB6.out (below_then hK hB)
          clear hB
          go_wp2_with fail
          go_ret
          exact ⟨rfl, hK⟩
end Go.Proofs.Ytjemnankgjjgcaa

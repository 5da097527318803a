/- The contract of scale of package poly. -/
import Derived.Test.YtpmjhkpjhfpfpaaPlyJ
namespace Go.Proofs.Ytpmjhkpjhfpfpaa
open Go.RowKit Dig
set_option linter.unusedVariables false

namespace Dig
theorem scaled_eq {q : Rat} {d : Nat} (h : q.den ∣ d) (h0 : 0 < d) : q = ((q.num * ((d / q.den : Nat) : Int) : Int) : Rat) / (d : Rat) := by
  obtain ⟨t, rfl⟩ := h
  have ht : 0 < t := Nat.pos_of_ne_zero (fun e => by subst e; simp at h0)
  rw [Nat.mul_div_cancel_left _ q.den_pos]
  have h1 : (q.den : Rat) ≠ 0 := by exact_mod_cast q.den_nz
  have h2 : (t : Rat) ≠ 0 := by exact_mod_cast (by omega : t ≠ 0)
  have h3 := (fr_self q).symm.trans (fr_int q.num q.den)
  conv => lhs; rw [h3]
  push_cast
  grind
theorem scaled_neg {q : Rat} {d : Nat} (h : q.den ∣ d) (h0 : 0 < d) : decide (q.num * ((d / q.den : Nat) : Int) < 0) = decide (q.num < 0) := by
  obtain ⟨t, rfl⟩ := h
  have ht : 0 < t := Nat.pos_of_ne_zero (fun e => by subst e; simp at h0)
  rw [Nat.mul_div_cancel_left _ q.den_pos]
  congr 1
  apply propext
  constructor
  · intro h1
    rcases Int.lt_or_le q.num 0 with h2 | h2
    · exact h2
    · have := Int.mul_nonneg h2 (Int.natCast_nonneg t)
      omega
  · intro h1
    exact Int.mul_neg_of_neg_of_pos h1 (by omega)
theorem scaled_abs (q : Rat) (d : Nat) : (q.num * ((d / q.den : Nat) : Int)).natAbs = q.num.natAbs * (d / q.den) := by
  rw [Int.natAbs_mul, Int.natAbs_natCast]
theorem lcm_step (a b : Nat) : a * (b / Nat.gcd a b) = Nat.lcm a b := by
  unfold Nat.lcm
  rw [Nat.mul_div_assoc _ (Nat.gcd_dvd_right a b)]
end Dig
theorem CanF.open {w : World} {tb : Bool} {X Y : Option Addr} {xm xc ym yc k : Nat} {q : Rat} (h : CanF w (.agg #[.bool tb, .slice X xm xc, .slice Y ym yc]) q k) : decide (q.num < 0) = tb ∧ Can w (.slice X xm xc) q.num.natAbs k ∧ Can w (.slice Y ym yc) q.den k := by
  obtain ⟨vn, vd, e, h1, h2⟩ := h
  cases e
  exact ⟨rfl, h1, h2⟩
def RSc (w : World) (rs : List Rat) (D K M : Nat) (e : Ending) (w' : World) : Prop := ∃ v zs d, e = .returned v ∧ SclV w' v zs d K M ∧ zs.length = rs.length ∧ 0 < d ∧ d ∣ D ∧ (∀ i, cf rs i = (zf zs i : Rat) / (d : Rat)) ∧ Below w.heap.size w w'
def LcRel (w wr : World) (rs : List Rat) (D K j : Nat) (dv : Value) (g0 : Nat) : Prop := ∃ dn, Can wr dv dn K ∧ dn ∣ D ∧ 0 < dn ∧ (∀ i, i < j → (cf rs i).den ∣ dn) ∧ Sbx wr g0 (.slice none 0 0) (.slice none 0 0) ∧ Below w.heap.size w wr
section
variable {w : World} {v : Value} {ps : List Rat} {k K M D : Nat}
set_option maxHeartbeats 16000000 in
theorem scale_q (hF : Fls (FV k) w v ps) (hk : k ≤ 400000) (h2 : 2 ≤ k) (hK : K ≤ 100000) (hn : ps.length ≤ 1000000) (hD0 : 0 < D) (hD : D < 4294967296 ^ K) (hdv : ∀ i, (cf (tr ps) i).den ∣ D) (hnum : ∀ i, (cf (tr ps) i).num.natAbs * D < 4294967296 ^ M) :
    Calls Try.prog 55 #[v] w (RSc w (tr ps) D K M) := by
  have R0 := Sbx.new w (.slice none 0 0) (.slice none 0 0)
  have hB0 : Below w.heap.size w (w.alloc (.cells #[.slice none 0 0, .slice none 0 0] 59)) := (Below.refl _ _).alloc (Nat.le_refl _) _
  have NO := Lib.hid (normalize_p (Fls.below hF (keeps_FV k) hB0) hk h2 (by omega))
  have F1 := fun w1 => from_v (w := w1) 1 (by omega)
  rw [show ((1 : Nat) : Int) = 1 from rfl] at F1
  have FR := Lib.hid F1
  have hl := Nat.le_trans (tr_le ps) hn
  generalize tr ps = rs at *
  clear hF F1
  go_enter Try.func55, Try.ntmps55
  go_wp2_with fail
  refine (NO.out).mono ?_
  rintro e w1 ⟨v1, rfl, hO, hB1⟩
  go_wp2_with fail
  refine (FR.out _).mono ?_
  rintro e w2 ⟨r, rfl, hr, _, hB2⟩
  have hO := (hO.below (keeps_CV k) hB2).fls
  have hR := (R0.below hB1).below hB2
  have hB := below_then (below_then hB0 hB1) hB2
  obtain ⟨A, c, rfl⟩ := hO.form
  have hI : LcRel w w2 rs D K 0 r w.heap.size := ⟨1, ⟨hr.1, by omega⟩, Nat.one_dvd _, by omega, fun i hi => absurd hi (by omega), hR, hB⟩
  have HC := Lib.hid (fun w3 (hB : Below w2.heap.size w2 w3) => (Fls.below hO (keeps_CV k) hB).cells (n := rs.length))
  have HDV := Lib.hid hdv
  have HNU := Lib.hid hnum
  have HD := Lib.hid hD
  clear R0 hB0 NO FR hB1 hB2 hr hO hR hB hD hdv hnum
  obtain ⟨n, hn'⟩ : ∃ n, rs.length = n := ⟨_, rfl⟩
  rw [hn'] at HC hl ⊢
  have HN := Lib.hid hn'
  clear hn'
  have hBr : Below w2.heap.size w2 w2 := Below.refl _ _
  generalize hgw : w2.heap.size = gw at *
  have HGW := Lib.hid hgw
  clear hgw
  go_wp2_with fail
  go_loopw [3, 14] (fun dv i wr => ∃ j : Nat, j ≤ n ∧ i = .int .i64 j ∧ LcRel w wr rs D K j dv w.heap.size ∧ Below gw w2 wr) (fun _ i _ => n - (intOf i).toNat)
  case atStart => exact ⟨0, Nat.zero_le _, rfl, hI, hBr⟩
  case round =>
    obtain ⟨j, hj, rfl, ⟨dn, hd, hdD, hd0, hds, hR, hB⟩, hBr⟩ := hrel
    obtain ⟨X9, m9, c9, rfl⟩ := hd.form
    by_cases hjn : j < n
    · have HI : (j : Int) < n := by omega
      obtain ⟨b, off, rfl, hb, hcell⟩ := HC.out _ hBr (by omega)
      obtain ⟨tb, X, xm, xc, Y, ym, yc, c0, c1, c2, hv⟩ := hcell j hjn
      obtain ⟨_, hx, hy⟩ := CanF.open hv
      have R5 := Fcl.new wr tb (.slice X xm xc) (.slice Y ym yc)
      have hA : Below wr.heap.size wr (wr.alloc (.cells #[.bool tb, .slice X xm xc, .slice Y ym yc] 29)) := (Below.refl _ _).alloc (Nat.le_refl _) _
      have hd' := hd.below hA
      have hy' := hy.below hA
      have HR := Lib.hid (hR.alloc (.cells #[.bool tb, .slice X xm xc, .slice Y ym yc] 29))
      have HB := Lib.hid (hB.trans (hA.mono hB.size))
      have HBR := Lib.hid (hBr.trans (hA.mono (by have := hBr.size; have := HGW.out; omega)))
      have hqd : (cf rs j).den ∣ D := HDV.out j
      have hq0 := (cf rs j).den_pos
      have HNEW := Lib.hid (show Nat.lcm dn (cf rs j).den ∣ D from Nat.lcm_dvd hdD hqd)
      have HPOS := Lib.hid (show 0 < Nat.lcm dn (cf rs j).den from Nat.lcm_pos hd0 hq0)
      have HALL := Lib.hid (show ∀ i, i < j + 1 → (cf rs i).den ∣ Nat.lcm dn (cf rs j).den from fun i hi => by
        rcases Nat.lt_or_ge i j with h | h
        · exact Nat.dvd_trans (hds i h) (Nat.dvd_lcm_left _ _)
        · obtain rfl : i = j := by omega
          exact Nat.dvd_lcm_right _ _)
      have HG0 := Lib.hid (show 0 < Nat.gcd dn (cf rs j).den from Nat.gcd_pos_of_pos_left _ hd0)
      clear hcell hv hd hy hx hR hB hBr hds hdD hd0 hqd hq0 hA
      have hSF := R5
      go_wp2_with fail
      generalize hw5 : wr.alloc (.cells #[.bool tb, .slice X xm xc, .slice Y ym yc] 29) = w5 at *
      generalize wr.heap.size = g5 at *
      clear hw5
      have S0 := Lib.hid (fun w' (hr : Below w5.heap.size w5 w') => (R5.below hr).cells.2.2)
      have hK0 : Below w5.heap.size w5 w5 := Below.refl _ _
      have GC := Lib.hid (fun w' (hr : Below w5.heap.size w5 w') => gcd_v (w := w') (hd'.below hr).numV (hy'.below hr).numV (by omega) (by omega))
      have QU := Lib.hid (fun w' x (hr : Below w5.heap.size w5 w') (hx : Can w' x (Nat.gcd dn (cf rs j).den) (K + k)) => quotient_z (w := w') (hy'.below hr).numV hx.numV (by omega) HG0.out)
      have MU := Lib.hid (fun w' x (hr : Below w5.heap.size w5 w') (hx : Can w' x ((cf rs j).den / Nat.gcd dn (cf rs j).den) k) => mul_w (w := w') (hd'.below hr).numV hx.numV (by omega) (by omega))
      clear hd' hy' R5 hSF
      go_region_held3 (fun w' => w'.cell? ⟨g5, 2, none⟩ = some (.slice Y ym yc)) (first | with_reducible exact S0.out _ hK0 | exact S0.out _ hK0.drew) (first | (go_at_call 85; refine (GC.out _ hK0.drew).mono ?_; rintro e w6 ⟨g, rfl, hg, _, hB6⟩; have hK0 := below_undrew hB6) | (go_at_call 84; refine (QU.out _ _ hK0 hg).mono ?_; rintro e w7 ⟨q, rfl, hq, hB7⟩; have hK0 := below_then hK0 hB7) | (go_at_call 65; refine (MU.out _ _ hK0 hq).mono ?_; rintro e w8 ⟨u, rfl, hu, _, hB8⟩; have hK0 := below_then hK0 hB8))
      have HU : Hid (Can w8 u (Nat.lcm dn (cf rs j).den) K) := Lib.hid ⟨by rw [← lcm_step]; exact hu.1, Nat.lt_of_le_of_lt (Nat.le_of_dvd hD0 HNEW.out) HD.out⟩
      have HR8 := Lib.hid (HR.out.below hK0)
      have HB8 := Lib.hid (below_then HB.out hK0)
      have HBR8 := Lib.hid (HBR.out.trans (hK0.mono (by have := HBR.out.size; have := HGW.out; omega)))
      clear hu
      go_wp2_with fail
      go_roundw
      case rel => exact ⟨j + 1, by omega, by go_num, ⟨_, HU.out, HNEW.out, HPOS.out, HALL.out, HR8.out, HB8.out⟩, HBR8.out⟩
      case measure => simp [intOf]; omega
    · have HI : ¬ (j : Int) < n := by omega
      obtain rfl : j = n := by omega
      have hall : ∀ i, (cf rs i).den ∣ dn := fun i => by
        rcases Nat.lt_or_ge i j with h | h
        · exact hds i h
        · rw [cf_over (by rw [HN.out]; exact h)]; exact Nat.one_dvd _
      have HALL := Lib.hid hall
      have HP := Lib.hid hd0
      have HDD := Lib.hid hdD
      have HD1 := Lib.hid hd
      have HR1 := Lib.hid hR
      have HB1 := Lib.hid hB
      have HBR1 := Lib.hid hBr
      have hLE := Nat.le_of_dvd hD0 hdD
      have HLE := Lib.hid hLE
      generalize hF : (fun i => (cf rs i).num * ((dn / (cf rs i).den : Nat) : Int)) = F at *
      have HF := Lib.hid hF
      clear hall hds hd hd0 hdD hR hB hBr hF hLE hI HD
      go_wp2_with (at_make; refine wp_make_d 57 (by kernel_rfl) rfl _ _ rfl _ _ j rfl rfl rfl rfl (by omega) ?_; intro w3 hZ3 hB3)
      have hz := ZFill.start (k := M) (f := F) hZ3
      have hd := HD1.out.below hB3
      have hR := HR1.out.below hB3
      have hB := below_then HB1.out hB3
      have hBr := HBR1.out.trans (hB3.mono (by have := HBR1.out.size; have := HGW.out; omega))
      have HG := Lib.hid (show w.heap.size ≤ wr.heap.size ∧ gw ≤ wr.heap.size ∧ w.heap.size ≠ wr.heap.size from by
        have := HR1.out.lt; have := HBR1.out.size; have := HGW.out; have := HB1.out.size; omega)
      clear HD1 HR1 HB1 HBR1 hZ3 hB3
      generalize wr.heap.size = g at *
      go_loopw [33] (fun i wr => ∃ a : Nat, a ≤ j ∧ i = .int .i64 a ∧ ZFill M wr g j a F ∧ Can wr (.slice X9 m9 c9) dn K ∧ Sbx wr w.heap.size (.slice none 0 0) (.slice none 0 0) ∧ Below w.heap.size w wr ∧ Below gw w2 wr) (fun i _ => j - (intOf i).toNat)
      case atStart => exact ⟨0, Nat.zero_le _, rfl, hz, hd, hR, hB, hBr⟩
      case round =>
        clear hz hd hR hB hBr
        obtain ⟨a, ha, rfl, hz, hd, hR, hB, hBr⟩ := hrel
        by_cases haj : a < j
        · have HI2 : (a : Int) < j := by omega
          obtain ⟨b, off, rfl, hb, hcell⟩ := HC.out _ hBr (by omega)
          obtain ⟨tb, X, xm, xc, Y, ym, yc, c0, c1, c2, hv⟩ := hcell a haj
          obtain ⟨htb, hx, hy⟩ := CanF.open hv
          have hA : Below wr.heap.size wr (wr.alloc (.cells #[.bool tb, .slice X xm xc, .slice Y ym yc] 29)) := (Below.refl _ _).alloc (Nat.le_refl _) _
          have R8 := Fcl.new wr tb (.slice X xm xc) (.slice Y ym yc)
          have hgl := hz.lt
          have HZ := Lib.hid (hz.below hA)
          have HD2 := Lib.hid (hd.below hA)
          have HR2 := Lib.hid (hR.alloc (.cells #[.bool tb, .slice X xm xc, .slice Y ym yc] 29))
          have HB2 := Lib.hid (hB.trans (hA.mono hB.size))
          have HBR2 := Lib.hid (hBr.trans (hA.mono (by have := hBr.size; have := HGW.out; omega)))
          have hx' := hx.below hA
          have hy' := hy.below hA
          clear hcell hv hx hy hz hd hR hB hBr hA
          go_wp2_with fail
          generalize hw5 : wr.alloc (.cells #[.bool tb, .slice X xm xc, .slice Y ym yc] 29) = w5 at *
          have hg8 : wr.heap.size ≠ g := by omega
          generalize wr.heap.size = g8 at *
          clear hw5
          have hK0 : Below w5.heap.size w5 w5 := Below.refl _ _
          have S0 := Lib.hid (fun w' (hr : Below w5.heap.size w5 w') => (show w'.cell? ⟨g8, 0, none⟩ = some (.bool tb) ∧ w'.cell? ⟨g8, 1, none⟩ = some (.slice X xm xc) ∧ w'.cell? ⟨g8, 2, none⟩ = some (.slice Y ym yc) from (R8.below hr).cells))
          have S1 := Lib.hid (fun w' (hr : Below w5.heap.size w5 w') x y => (show (stor2o w' g (a * 2) x y).cell? ⟨g8, 0, none⟩ = some (.bool tb) ∧ (stor2o w' g (a * 2) x y).cell? ⟨g8, 1, none⟩ = some (.slice X xm xc) ∧ (stor2o w' g (a * 2) x y).cell? ⟨g8, 2, none⟩ = some (.slice Y ym yc) from by
            rw [stor2o_cell hg8, stor2o_cell hg8, stor2o_cell hg8]; exact (R8.below hr).cells))
          have QU := Lib.hid (fun w' (hr : Below w5.heap.size w5 w') => quotient_z (w := w') (HD2.out.below hr).numV (hy'.below hr).numV (by omega) (cf rs a).den_pos)
          have MU := Lib.hid (fun w' x (hr : Below w5.heap.size w5 w') (hx : Can w' x (dn / (cf rs a).den) K) => mul_w (w := w') (hx'.below hr).numV hx.numV (by omega) (by omega))
          have HZ2 := Lib.hid (fun w' (hr : Below w5.heap.size w5 w') => HZ.out.below hr)
          have HIV := Lib.hid (fun w' u (hu : Can w' u ((cf rs a).num.natAbs * (dn / (cf rs a).den)) (k + K)) => (show IntV M w' (.agg #[.bool tb, u]) (F a) from by
            rw [← HF.out]
            refine ⟨u, ?_, ?_⟩
            · show Value.agg #[.bool tb, u] = .agg #[.bool (decide ((cf rs a).num * ((dn / (cf rs a).den : Nat) : Int) < 0)), u]
              rw [scaled_neg (HALL.out a) HP.out, htb]
            · show Can w' u ((cf rs a).num * ((dn / (cf rs a).den : Nat) : Int)).natAbs M
              rw [scaled_abs]
              exact ⟨hu.1, Nat.lt_of_le_of_lt (Nat.mul_le_mul_left _ (Nat.le_trans (Nat.div_le_self _ _) HLE.out)) (HNU.out a)⟩))
          clear hx' hy' R8 htb
          go_region_held3 (fun w' => w'.cell? ⟨g8, 0, none⟩ = some (.bool tb) ∧ w'.cell? ⟨g8, 1, none⟩ = some (.slice X xm xc) ∧ w'.cell? ⟨g8, 2, none⟩ = some (.slice Y ym yc)) (first | with_reducible exact S0.out _ hK0 | exact S0.out _ hK0.drew | exact S1.out _ hK0 _ _) (first | (go_at_call 84; refine (QU.out _ hK0.drew).mono ?_; rintro e w6 ⟨q, rfl, hq, hB6⟩; have hK0 := below_undrew hB6) | (go_at_call 65; refine (MU.out _ _ hK0 hq).mono ?_; rintro e w7 ⟨u, rfl, hu, _, hB7⟩; have hK0 := below_then hK0 hB7; obtain ⟨U, um, uc, rfl⟩ := hu.form; have hZ := HZ2.out _ hK0; have HI7 := Lib.hid (HIV.out _ _ hu); obtain ⟨z0, z1, e0, e1⟩ := hZ.cells haj; have f0 := hZ.frozen (a * 2); have f1 := hZ.frozen (a * 2 + 1)))
          have hs := Nat.le_of_eq (stor2o_size w7 g (a * 2) (.bool tb) (.slice U um uc)).symm
          have hk := stor2o_heap w7 g (a * 2) (.bool tb) (.slice U um uc)
          have HS := Lib.hid (hZ.set haj HI7.out)
          have HD7 := Lib.hid ((HD2.out.below hK0).plain hZ.plain hs hk)
          have HR7 := Lib.hid ((HR2.out.below hK0).far2 HG.out.2.2 (a * 2) (.bool tb) (.slice U um uc))
          have HB7 := Lib.hid (below_stor2o (below_then HB2.out hK0) HG.out.1 (a * 2) (.bool tb) (.slice U um uc))
          have HBR7 := Lib.hid (below_stor2o (HBR2.out.trans (hK0.mono (by have := HBR2.out.size; have := HGW.out; omega))) HG.out.2.1 (a * 2) (.bool tb) (.slice U um uc))
          clear hu hZ hs hk
          go_wp2_with fail
          go_roundw
          case rel => exact ⟨a + 1, by omega, by go_num, HS.out, HD7.out, HR7.out, HB7.out, HBR7.out⟩
          case measure => simp [intOf]; omega
        · have HI2 : ¬ (a : Int) < j := by omega
          obtain rfl : a = j := by omega
          have HZ := Lib.hid (hz.done (by omega))
          have HD2 := Lib.hid hd
          have HR2 := Lib.hid hR
          have HB2 := Lib.hid hB
          obtain ⟨k0, k1⟩ := hR.cells
          obtain ⟨f0, f1⟩ := hR.frozen
          clear hz hd hR hB hBr
          go_wp2_with fail
          refine bodyPost_ret (v := .agg #[.slice (some ⟨g, 0, none⟩) a a, .slice X9 m9 c9]) (by rw [results_one rfl]; go_simp) rfl ?_
          have hs := Nat.le_of_eq (stor2o_size wr w.heap.size 0 (.slice (some ⟨g, 0, none⟩) a a) (.slice X9 m9 c9)).symm
          have hk := stor2o_heap wr w.heap.size 0 (.slice (some ⟨g, 0, none⟩) a a) (.slice X9 m9 c9)
          refine ⟨_, _, dn, rfl, ⟨_, _, rfl, HZ.out.plain HR2.out.plain ?_ hs hk, HD2.out.plain HR2.out.plain hs hk⟩, ?_, HP.out, HDD.out, ?_, below_stor2o HB2.out (Nat.le_refl _) _ _ _⟩
          · intro A' n'' c'' b off e1 e2 _
            cases e1
            cases e2
            exact Ne.symm HG.out.2.2
          · rw [mkz_length, HN.out]
          · intro i
            rw [zf_mkz]
            split
            · rw [← HF.out]
              exact scaled_eq (HALL.out i) HP.out
            · rw [cf_over (by rw [HN.out]; omega)]
              simp [Rat.div_def]
end
end Go.Proofs.Ytpmjhkpjhfpfpaa

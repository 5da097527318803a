/- The contract of scale of package poly. -/
import Derived.Test.YtjemnankgjjgcaaZint
import Derived.Test.YtjemnankgjjgcaaFold
import Derived.Test.YtjemnankgjjgcaaPlyd
namespace Go.Proofs.Ytjemnankgjjgcaa
open Go.RowKit Dig
set_option linter.unusedVariables false

namespace Dig
theorem scaled_eq {q : Rat} {d : Nat} (h : q.den ∣ d) (h0 : 0 < d) : q = ((q.num * ((d / q.den : Nat) : Int) : Int) : Rat) / (d : Rat) := by
  obtain ⟨t, rfl⟩ := h
  have ht : 0 < t := Nat.pos_of_ne_zero (fun e => by subst e; simp at h0)
  rw [Nat.mul_div_cancel_left _ q.den_pos]
  have h1 : (q.den : Rat) ≠ 0 := by exact_mod_cast q.den_nz
  have h2 : (t : Rat) ≠ 0 := by exact_mod_cast (by omega : t ≠ 0)
  have h3 := (fr_self q).symm.trans (fr_int q.num q.den)
  conv => lhs; rw [h3]
  push_cast
  grind
theorem scaled_neg {q : Rat} {d : Nat} (h : q.den ∣ d) (h0 : 0 < d) : decide (q.num * ((d / q.den : Nat) : Int) < 0) = decide (q.num < 0) := by
  obtain ⟨t, rfl⟩ := h
  have ht : 0 < t := Nat.pos_of_ne_zero (fun e => by subst e; simp at h0)
  rw [Nat.mul_div_cancel_left _ q.den_pos]
  congr 1
  apply propext
  constructor
  · intro h1
    rcases Int.lt_or_le q.num 0 with h2 | h2
    · exact h2
    · have := Int.mul_nonneg h2 (Int.natCast_nonneg t)
      omega
  · intro h1
    exact Int.mul_neg_of_neg_of_pos h1 (by omega)
theorem scaled_abs (q : Rat) (d : Nat) : (q.num * ((d / q.den : Nat) : Int)).natAbs = q.num.natAbs * (d / q.den) := by
  rw [Int.natAbs_mul, Int.natAbs_natCast]
theorem lcm_step (a b : Nat) : a * (b / Nat.gcd a b) = Nat.lcm a b := by
  unfold Nat.lcm
  rw [Nat.mul_div_assoc _ (Nat.gcd_dvd_right a b)]
end Dig
theorem CanF.open {w : World} {tb : Bool} {X Y : Option Addr} {xm xc ym yc k : Nat} {q : Rat} (h : CanF w (.agg #[.bool tb, .slice X xm xc, .slice Y ym yc]) q k) : decide (q.num < 0) = tb ∧ Can w (.slice X xm xc) q.num.natAbs k ∧ Can w (.slice Y ym yc) q.den k := by
  obtain ⟨vn, vd, e, h1, h2⟩ := h
  cases e
  exact ⟨rfl, h1, h2⟩
def RSc (w : World) (rs : List Rat) (D K M : Nat) (e : Ending) (w' : World) : Prop := ∃ v zs d, e = .returned v ∧ SclV w' v zs d K M ∧ zs.length = rs.length ∧ 0 < d ∧ d ∣ D ∧ (∀ i, cf rs i = (zf zs i : Rat) / (d : Rat)) ∧ Below w.heap.size w w'
def LcRel (w wr : World) (rs : List Rat) (D K j : Nat) (dv : Value) (g0 : Nat) : Prop := ∃ dn, Can wr dv dn K ∧ dn ∣ D ∧ 0 < dn ∧ (∀ i, i < j → (cf rs i).den ∣ dn) ∧ Sbx wr g0 (.slice none 0 0) (.slice none 0 0) ∧ Below w.heap.size w wr
section
variable {w : World} {v : Value} {ps : List Rat} {k K M D : Nat}
set_option maxHeartbeats 16000000 in
theorem scale_q (hF : Fls (FV k) w v ps) (hk : k ≤ 400000) (h2 : 2 ≤ k) (hK : K ≤ 100000) (hn : ps.length ≤ 1000000) (hD0 : 0 < D) (hD : D < 4294967296 ^ K) (hdv : ∀ i, (cf (tr ps) i).den ∣ D) (hnum : ∀ i, (cf (tr ps) i).num.natAbs * D < 4294967296 ^ M) :
    Calls Try.prog 55 #[v] w (RSc w (tr ps) D K M) := by
  have R0 := Sbx.new w (.slice none 0 0) (.slice none 0 0)
  have hB0 : Below w.heap.size w (w.alloc (.cells #[.slice none 0 0, .slice none 0 0] 59)) := (Below.refl _ _).alloc (Nat.le_refl _) _
  have NO := Lib.hid (normalize_p (Fls.below hF (keeps_FV k) hB0) hk h2 (by omega))
  have F1 := fun w1 => from_v (w := w1) 1 (by omega)
  rw [show ((1 : Nat) : Int) = 1 from rfl] at F1
  have FR := Lib.hid F1
  have hl := Nat.le_trans (tr_le ps) hn
  generalize tr ps = rs at *
  clear hF F1
  go_enter Try.func55, Try.ntmps55
  go_wp2_with fail
  refine (NO.out).mono ?_
  rintro e w1 ⟨v1, rfl, hO, hB1⟩
  go_wp2_with fail
  refine (FR.out _).mono ?_
  rintro e w2 ⟨r, rfl, hr, _, hB2⟩
  have hO := (hO.below (keeps_CV k) hB2).fls
  have hR := (R0.below hB1).below hB2
  have hB := below_then (below_then hB0 hB1) hB2
  obtain ⟨A, c, rfl⟩ := hO.form
  have hI : LcRel w w2 rs D K 0 r w.heap.size := ⟨1, ⟨hr.1, by omega⟩, Nat.one_dvd _, by omega, fun i hi => absurd hi (by omega), hR, hB⟩
  have HC := Lib.hid (fun w3 (hB : Below w2.heap.size w2 w3) => (Fls.below hO (keeps_CV k) hB).cells (n := rs.length))
  have HDV := Lib.hid hdv
  have HNU := Lib.hid hnum
  have HD := Lib.hid hD
  clear R0 hB0 NO FR hB1 hB2 hr hO hR hB hD hdv hnum
  obtain ⟨n, hn'⟩ : ∃ n, rs.length = n := ⟨_, rfl⟩
  rw [hn'] at HC hl ⊢
  have HN := Lib.hid hn'
  clear hn'
  have hBr : Below w2.heap.size w2 w2 := Below.refl _ _
  generalize hgw : w2.heap.size = gw at *
  have HGW := Lib.hid hgw
  clear hgw
  go_wp2_with fail
  go_loopw [3, 14] (fun dv i wr => ∃ j : Nat, j ≤ n ∧ i = .int .i64 j ∧ LcRel w wr rs D K j dv w.heap.size ∧ Below gw w2 wr) (fun _ i _ => n - (intOf i).toNat)
  case atStart => exact ⟨0, Nat.zero_le _, rfl, hI, hBr⟩
  case round =>
    obtain ⟨j, hj, rfl, ⟨dn, hd, hdD, hd0, hds, hR, hB⟩, hBr⟩ := hrel
    obtain ⟨X9, m9, c9, rfl⟩ := hd.form
    by_cases hjn : j < n
    · have HI : (j : Int) < n := by omega
      obtain ⟨b, off, rfl, hb, hcell⟩ := HC.out _ hBr (by omega)
      obtain ⟨tb, X, xm, xc, Y, ym, yc, c0, c1, c2, hv⟩ := hcell j hjn
      obtain ⟨_, hx, hy⟩ := CanF.open hv
      have R5 := Fcl.new wr tb (.slice X xm xc) (.slice Y ym yc)
      have hA : Below wr.heap.size wr (wr.alloc (.cells #[.bool tb, .slice X xm xc, .slice Y ym yc] 29)) := (Below.refl _ _).alloc (Nat.le_refl _) _
      have hd' := hd.below hA
      have hy' := hy.below hA
      have HR := Lib.hid (hR.alloc (.cells #[.bool tb, .slice X xm xc, .slice Y ym yc] 29))
      have HB := Lib.hid (hB.trans (hA.mono hB.size))
      have HBR := Lib.hid (hBr.trans (hA.mono (by have := hBr.size; have := HGW.out; omega)))
      have hqd : (cf rs j).den ∣ D := HDV.out j
      have hq0 := (cf rs j).den_pos
      have HNEW := Lib.hid (show Nat.lcm dn (cf rs j).den ∣ D from Nat.lcm_dvd hdD hqd)
      have HPOS := Lib.hid (show 0 < Nat.lcm dn (cf rs j).den from Nat.lcm_pos hd0 hq0)
      have HALL := Lib.hid (show ∀ i, i < j + 1 → (cf rs i).den ∣ Nat.lcm dn (cf rs j).den from fun i hi => by
        rcases Nat.lt_or_ge i j with h | h
        · exact Nat.dvd_trans (hds i h) (Nat.dvd_lcm_left _ _)
        · obtain rfl : i = j := by omega
          exact Nat.dvd_lcm_right _ _)
      have HG0 := Lib.hid (show 0 < Nat.gcd dn (cf rs j).den from Nat.gcd_pos_of_pos_left _ hd0)
      clear hcell hv hd hy hx hR hB hBr hds hdD hd0 hqd hq0 hA
      have hSF := R5
      go_wp2_with fail
      generalize hw5 : wr.alloc (.cells #[.bool tb, .slice X xm xc, .slice Y ym yc] 29) = w5 at *
      generalize wr.heap.size = g5 at *
      clear hw5
      have S0 := Lib.hid (fun w' (hr : Below w5.heap.size w5 w') => (R5.below hr).cells.2.2)
      have hK0 : Below w5.heap.size w5 w5 := Below.refl _ _
      have GC := Lib.hid (fun w' (hr : Below w5.heap.size w5 w') => gcd_v (w := w') (hd'.below hr).numV (hy'.below hr).numV (by omega) (by omega))
      have QU := Lib.hid (fun w' x (hr : Below w5.heap.size w5 w') (hx : Can w' x (Nat.gcd dn (cf rs j).den) (K + k)) => quotient_z (w := w') (hy'.below hr).numV hx.numV (by omega) HG0.out)
      have MU := Lib.hid (fun w' x (hr : Below w5.heap.size w5 w') (hx : Can w' x ((cf rs j).den / Nat.gcd dn (cf rs j).den) k) => mul_w (w := w') (hd'.below hr).numV hx.numV (by omega) (by omega))
      clear hd' hy' R5 hSF
      go_region_held3 (fun w' => w'.cell? ⟨g5, 2, none⟩ = some (.slice Y ym yc)) (first | with_reducible exact S0.out _ hK0 | exact S0.out _ hK0.drew) (first | (go_at_call 85; refine (GC.out _ hK0.drew).mono ?_; rintro e w6 ⟨g, rfl, hg, _, hB6⟩; have hK0 := below_undrew hB6) | (go_at_call 84; refine (QU.out _ _ hK0 hg).mono ?_; rintro e w7 ⟨q, rfl, hq, hB7⟩; have hK0 := below_then hK0 hB7) | (go_at_call 65; refine (MU.out _ _ hK0 hq).mono ?_; rintro e w8 ⟨u, rfl, hu, _, hB8⟩; have hK0 := below_then hK0 hB8))
      have HU : Hid (Can w8 u (Nat.lcm dn (cf rs j).den) K) := Lib.hid ⟨by rw [← lcm_step]; exact hu.1, Nat.lt_of_le_of_lt (Nat.le_of_dvd hD0 HNEW.out) HD.out⟩
      have HR8 := Lib.hid (HR.out.below hK0)
      have HB8 := Lib.hid (below_then HB.out hK0)
      have HBR8 := Lib.hid (HBR.out.trans (hK0.mono (by have := HBR.out.size; have := HGW.out; omega)))
      clear hu
      go_wp2_with fail
      go_roundw
      case rel => exact ⟨j + 1, by omega, by go_num, ⟨_, HU.out, HNEW.out, HPOS.out, HALL.out, HR8.out, HB8.out⟩, HBR8.out⟩
      case measure => simp [intOf]; omega
    · have HI : ¬ (j : Int) < n := by omega
      obtain rfl : j = n := by omega
      have hall : ∀ i, (cf rs i).den ∣ dn := fun i => by
        rcases Nat.lt_or_ge i j with h | h
        · exact hds i h
        · rw [cf_over (by rw [HN.out]; exact h)]; exact Nat.one_dvd _
      have HALL := Lib.hid hall
      have HP := Lib.hid hd0
      have HDD := Lib.hid hdD
      have HD1 := Lib.hid hd
      have HR1 := Lib.hid hR
      have HB1 := Lib.hid hB
      have HBR1 := Lib.hid hBr
      have hLE := Nat.le_of_dvd hD0 hdD
      have HLE := Lib.hid hLE
      generalize hF : (fun i => (cf rs i).num * ((dn / (cf rs i).den : Nat) : Int)) = F at *
      have HF := Lib.hid hF
      clear hall hds hd hd0 hdD hR hB hBr hF hLE hI HD
      go_wp2_with (at_make; refine wp_make_d 57 (by kernel_rfl) rfl _ _ rfl _ _ j rfl rfl rfl rfl (by omega) ?_; intro w3 hZ3 hB3)
      have hz := ZFill.start (k := M) (f := F) hZ3
      have hd := HD1.out.below hB3
      have hR := HR1.out.below hB3
      have hB := below_then HB1.out hB3
      have hBr := HBR1.out.trans (hB3.mono (by have := HBR1.out.size; have := HGW.out; omega))
      have HG := Lib.hid (show w.heap.size ≤ wr.heap.size ∧ gw ≤ wr.heap.size ∧ w.heap.size ≠ wr.heap.size from by
        have := HR1.out.lt; have := HBR1.out.size; have := HGW.out; have := HB1.out.size; omega)
      clear HD1 HR1 HB1 HBR1 hZ3 hB3
      generalize wr.heap.size = g at *
      go_loopw [33] (fun i wr => ∃ a : Nat, a ≤ j ∧ i = .int .i64 a ∧ ZFill M wr g j a F ∧ Can wr (.slice X9 m9 c9) dn K ∧ Sbx wr w.heap.size (.slice none 0 0) (.slice none 0 0) ∧ Below w.heap.size w wr ∧ Below gw w2 wr) (fun i _ => j - (intOf i).toNat)
      case atStart => exact ⟨0, Nat.zero_le _, rfl, hz, hd, hR, hB, hBr⟩
      case round =>
        clear hz hd hR hB hBr
        obtain ⟨a, ha, rfl, hz, hd, hR, hB, hBr⟩ := hrel
        by_cases haj : a < j
        · have HI2 : (a : Int) < j := by omega
          obtain ⟨b, off, rfl, hb, hcell⟩ := HC.out _ hBr (by omega)
          obtain ⟨tb, X, xm, xc, Y, ym, yc, c0, c1, c2, hv⟩ := hcell a haj
          obtain ⟨htb, hx, hy⟩ := CanF.open hv
          have hA : Below wr.heap.size wr (wr.alloc (.cells #[.bool tb, .slice X xm xc, .slice Y ym yc] 29)) := (Below.refl _ _).alloc (Nat.le_refl _) _
          have R8 := Fcl.new wr tb (.slice X xm xc) (.slice Y ym yc)
          have hgl := hz.lt
          have HZ := Lib.hid (hz.below hA)
          have HD2 := Lib.hid (hd.below hA)
          have HR2 := Lib.hid (hR.alloc (.cells #[.bool tb, .slice X xm xc, .slice Y ym yc] 29))
          have HB2 := Lib.hid (hB.trans (hA.mono hB.size))
          have HBR2 := Lib.hid (hBr.trans (hA.mono (by have := hBr.size; have := HGW.out; omega)))
          have hx' := hx.below hA
          have hy' := hy.below hA
          clear hcell hv hx hy hz hd hR hB hBr hA
          go_wp2_with fail
          generalize hw5 : wr.alloc (.cells #[.bool tb, .slice X xm xc, .slice Y ym yc] 29) = w5 at *
          have hg8 : wr.heap.size ≠ g := by omega
          generalize wr.heap.size = g8 at *
          clear hw5
          have hK0 : Below w5.heap.size w5 w5 := Below.refl _ _
          have S0 := Lib.hid (fun w' (hr : Below w5.heap.size w5 w') => (show w'.cell? ⟨g8, 0, none⟩ = some (.bool tb) ∧ w'.cell? ⟨g8, 1, none⟩ = some (.slice X xm xc) ∧ w'.cell? ⟨g8, 2, none⟩ = some (.slice Y ym yc) from (R8.below hr).cells))
          have S1 := Lib.hid (fun w' (hr : Below w5.heap.size w5 w') x y => (show (stor2o w' g (a * 2) x y).cell? ⟨g8, 0, none⟩ = some (.bool tb) ∧ (stor2o w' g (a * 2) x y).cell? ⟨g8, 1, none⟩ = some (.slice X xm xc) ∧ (stor2o w' g (a * 2) x y).cell? ⟨g8, 2, none⟩ = some (.slice Y ym yc) from by
            rw [stor2o_cell hg8, stor2o_cell hg8, stor2o_cell hg8]; exact (R8.below hr).cells))
          have QU := Lib.hid (fun w' (hr : Below w5.heap.size w5 w') => quotient_z (w := w') (HD2.out.below hr).numV (hy'.below hr).numV (by omega) (cf rs a).den_pos)
          have MU := Lib.hid (fun w' x (hr : Below w5.heap.size w5 w') (hx : Can w' x (dn / (cf rs a).den) K) => mul_w (w := w') (hx'.below hr).numV hx.numV (by omega) (by omega))
          have HZ2 := Lib.hid (fun w' (hr : Below w5.heap.size w5 w') => HZ.out.below hr)
          have HIV := Lib.hid (fun w' u (hu : Can w' u ((cf rs a).num.natAbs * (dn / (cf rs a).den)) (k + K)) => (show IntV M w' (.agg #[.bool tb, u]) (F a) from by
            rw [← HF.out]
            refine ⟨u, ?_, ?_⟩
            · show Value.agg #[.bool tb, u] = .agg #[.bool (decide ((cf rs a).num * ((dn / (cf rs a).den : Nat) : Int) < 0)), u]
              rw [scaled_neg (HALL.out a) HP.out, htb]
            · show Can w' u ((cf rs a).num * ((dn / (cf rs a).den : Nat) : Int)).natAbs M
              rw [scaled_abs]
              exact ⟨hu.1, Nat.lt_of_le_of_lt (Nat.mul_le_mul_left _ (Nat.le_trans (Nat.div_le_self _ _) HLE.out)) (HNU.out a)⟩))
          clear hx' hy' R8 htb
          go_region_held3 (fun w' => w'.cell? ⟨g8, 0, none⟩ = some (.bool tb) ∧ w'.cell? ⟨g8, 1, none⟩ = some (.slice X xm xc) ∧ w'.cell? ⟨g8, 2, none⟩ = some (.slice Y ym yc)) (first | with_reducible exact S0.out _ hK0 | exact S0.out _ hK0.drew | exact S1.out _ hK0 _ _) (first | (go_at_call 84; refine (QU.out _ hK0.drew).mono ?_; rintro e w6 ⟨q, rfl, hq, hB6⟩; have hK0 := below_undrew hB6) | (go_at_call 65; refine (MU.out _ _ hK0 hq).mono ?_; rintro e w7 ⟨u, rfl, hu, _, hB7⟩; have hK0 := below_then hK0 hB7; obtain ⟨U, um, uc, rfl⟩ := hu.form; have hZ := HZ2.out _ hK0; have HI7 := Lib.hid (HIV.out _ _ hu); obtain ⟨z0, z1, e0, e1⟩ := hZ.cells haj; have f0 := hZ.frozen (a * 2); have f1 := hZ.frozen (a * 2 + 1)))
          have hs := Nat.le_of_eq (stor2o_size w7 g (a * 2) (.bool tb) (.slice U um uc)).symm
          have hk := stor2o_heap w7 g (a * 2) (.bool tb) (.slice U um uc)
          have HS := Lib.hid (hZ.set haj HI7.out)
          have HD7 := Lib.hid ((HD2.out.below hK0).plain hZ.plain hs hk)
          have HR7 := Lib.hid ((HR2.out.below hK0).far2 HG.out.2.2 (a * 2) (.bool tb) (.slice U um uc))
          have HB7 := Lib.hid (below_stor2o (below_then HB2.out hK0) HG.out.1 (a * 2) (.bool tb) (.slice U um uc))
          have HBR7 := Lib.hid (below_stor2o (HBR2.out.trans (hK0.mono (by have := HBR2.out.size; have := HGW.out; omega))) HG.out.2.1 (a * 2) (.bool tb) (.slice U um uc))
          clear hu hZ hs hk
          go_wp2_with fail
          go_roundw
          case rel => exact ⟨a + 1, by omega, by go_num, HS.out, HD7.out, HR7.out, HB7.out, HBR7.out⟩
          case measure => simp [intOf]; omega
        · have HI2 : ¬ (a : Int) < j := by omega
          obtain rfl : a = j := by omega
          have HZ := Lib.hid (hz.done (by omega))
          have HD2 := Lib.hid hd
          have HR2 := Lib.hid hR
          have HB2 := Lib.hid hB
          obtain ⟨k0, k1⟩ := hR.cells
          obtain ⟨f0, f1⟩ := hR.frozen
          clear hz hd hR hB hBr
          go_wp2_with fail
          refine bodyPost_ret (v := .agg #[.slice (some ⟨g, 0, none⟩) a a, .slice X9 m9 c9]) (by rw [results_one rfl]; go_simp) rfl ?_
          have hs := Nat.le_of_eq (stor2o_size wr w.heap.size 0 (.slice (some ⟨g, 0, none⟩) a a) (.slice X9 m9 c9)).symm
          have hk := stor2o_heap wr w.heap.size 0 (.slice (some ⟨g, 0, none⟩) a a) (.slice X9 m9 c9)
          refine ⟨_, _, dn, rfl, ⟨_, _, rfl, HZ.out.plain HR2.out.plain ?_ hs hk, HD2.out.plain HR2.out.plain hs hk⟩, ?_, HP.out, HDD.out, ?_, below_stor2o HB2.out (Nat.le_refl _) _ _ _⟩
          · intro A' n'' c'' b off e1 e2 _
            cases e1
            cases e2
            exact Ne.symm HG.out.2.2
          · rw [mkz_length, HN.out]
          · intro i
            rw [zf_mkz]
            split
            · rw [← HF.out]
              exact scaled_eq (HALL.out i) HP.out
            · rw [cf_over (by rw [HN.out]; omega)]
              simp [Rat.div_def]
end
end Go.Proofs.Ytjemnankgjjgcaa

/- The contract of Mul of package poly. -/
namespace Go.Proofs.Ytjemnankgjjgcaa
open Go.RowKit Dig
set_option linter.unusedVariables false

namespace Dig
/-- A common denominator D of at most K digits; with it the coefficients have at most M digits. -/
def Szd (rs : List Rat) (D K M : Nat) : Prop := 0 < D ∧ D < 4294967296 ^ K ∧ (∀ i, (cf rs i).den ∣ D) ∧ (∀ i, (cf rs i).num.natAbs * D < 4294967296 ^ M)
/-- zs above d is the list rs. -/
def Over (rs : List Rat) (zs : List Int) (d : Nat) : Prop := zs.length = rs.length ∧ 0 < d ∧ ∀ i, cf rs i = (zf zs i : Rat) / (d : Rat)
theorem Over.mul {rs ss : List Rat} {zs ys : List Int} {d e : Nat} (h : Over rs zs d) (h' : Over ss ys e) (i : Nat) : conv (cf rs) (cf ss) i = (zf (zmul zs ys) i : Rat) / ((d * e : Nat) : Rat) := by
  obtain ⟨h1, h2, h3⟩ := h
  obtain ⟨g1, g2, g3⟩ := h'
  have hd : (d : Rat) ≠ 0 := by exact_mod_cast (by omega : d ≠ 0)
  have he : (e : Rat) ≠ 0 := by exact_mod_cast (by omega : e ≠ 0)
  have key : conv (cf rs) (cf ss) i = (sumZ (i + 1) (fun t => zf zs t * zf ys (i - t)) : Rat) / ((d * e : Nat) : Rat) := by
    rw [conv_sumZ (cf rs) (cf ss) (zf zs) (zf ys) (1 / (d : Rat)) (1 / (e : Rat)) i (fun i => by rw [h3]; grind) (fun i => by rw [g3]; grind)]
    push_cast
    grind
  unfold zmul
  by_cases h0 : zs.length = 0 ∨ ys.length = 0
  · rw [if_pos h0]
    have : zf [] i = 0 := by simp [zf]
    rw [this]
    have hz : conv (cf rs) (cf ss) i = 0 := by
      rcases h0 with h0 | h0
      · exact conv_zero_l _ _ _ fun j => by rw [h3, zf_over (by omega)]; simp [Rat.div_def]
      · rw [conv_comm]
        exact conv_zero_l _ _ _ fun j => by rw [g3, zf_over (by omega)]; simp [Rat.div_def]
    rw [hz]
    simp [Rat.div_def]
  · rw [if_neg h0, zf_mkz]
    split
    · exact key
    · rw [conv_over (cf rs) (cf ss) rs.length ss.length i (fun _ h => cf_over h) (fun _ h => cf_over h) (by omega)]
      simp [Rat.div_def]
theorem Over.last {rs : List Rat} {zs : List Int} {d : Nat} (h : Over rs zs d) (ht : tr rs = rs) : zs.length = 0 ∨ cf rs (zs.length - 1) ≠ 0 := by
  have := tr_last rs
  rw [ht] at this
  rw [h.1]
  exact this
theorem zmul_length (zs ys : List Int) : (zmul zs ys).length = if zs.length = 0 ∨ ys.length = 0 then 0 else zs.length + ys.length - 1 := by
  unfold zmul
  split
  · rfl
  · rw [mkz_length]
theorem zmul_list {rs ss : List Rat} {zs ys : List Int} {d e : Nat} (h : Over rs zs d) (h' : Over ss ys e) (ht : tr rs = rs) (ht' : tr ss = ss) :
    (mk (zmul zs ys).length fun i => (zf (zmul zs ys) i : Rat) / ((d * e : Nat) : Rat)) = pmul rs ss := by
  apply norm_ext
  · apply tr_id
    rw [mk_length]
    by_cases h0 : zs.length = 0 ∨ ys.length = 0
    · left; rw [zmul_length, if_pos h0]
    · right
      have hl := zmul_length zs ys
      rw [if_neg h0] at hl
      rw [cf_mk, if_pos (by omega), ← h.mul h', hl, show zs.length + ys.length - 1 - 1 = (zs.length - 1) + (ys.length - 1) by omega]
      rw [conv_top (cf rs) (cf ss) (zs.length - 1) (ys.length - 1) (fun i hi => cf_over (by have := h.1; omega)) (fun i hi => cf_over (by have := h'.1; omega))]
      have a1 := (h.last ht).resolve_left (fun e => h0 (.inl e))
      have a2 := (h'.last ht').resolve_left (fun e => h0 (.inr e))
      exact fun e => (Rat.mul_eq_zero.1 e).elim a1 a2
  · exact tr_pmul _ _
  · intro i
    rw [cf_pmul, h.mul h', cf_mk]
    split
    · rfl
    · rename_i hi
      rw [zf_over (by omega)]
      simp [Rat.div_def]
theorem Over.zmul {rs ss : List Rat} {zs ys : List Int} {d e : Nat} (h : Over rs zs d) (h' : Over ss ys e) (ht : tr rs = rs) (ht' : tr ss = ss) : Over (pmul rs ss) (zmul zs ys) (d * e) := by
  refine ⟨?_, Nat.mul_pos h.2.1 h'.2.1, fun i => by rw [cf_pmul, h.mul h']⟩
  rw [← zmul_list h h' ht ht', mk_length]
end Dig
section
variable {w : World} {va vb v : Value} {ps qs : List Rat} {k l K M L N D E : Nat}
theorem scale_o (hF : Fls (FV k) w v ps) (hk : k ≤ 400000) (h2 : 2 ≤ k) (hK : K ≤ 100000) (hn : ps.length ≤ 1000000) (hs : Szd (tr ps) D K M) :
    Calls Try.prog 55 #[v] w fun e w' => ∃ v zs d, e = .returned v ∧ SclV w' v zs d K M ∧ Over (tr ps) zs d ∧ Below w.heap.size w w' :=
  (scale_q hF hk h2 hK hn hs.1 hs.2.1 hs.2.2.1 hs.2.2.2).mono fun e w' ⟨v, zs, d, h1, h2, h3, h4, h5, h6, h7⟩ => ⟨v, zs, d, h1, h2, ⟨h3, h4, h6⟩, h7⟩
theorem reduce_o {rs : List Rat} {zs : List Int} {d : Nat} (ha : SclV w v zs d K M) (hO : Over rs zs d) (hK : K ≤ M) (hM : M ≤ 400000) (h2 : 2 ≤ M) (hn : zs.length ≤ 1000000000) :
    Calls Try.prog 53 #[v] w (RPol w rs M) := by
  have h := reduce_q ha hK hM h2 hn
  have e : (mk zs.length fun i => (zf zs i : Rat) / (d : Rat)) = rs := by
    rw [hO.1, ← mk_cf rs, mk_length]
    apply mk_congr
    intro i _
    exact (hO.2.2 i).symm
  rwa [e] at h
set_option maxHeartbeats 4000000 in
theorem mul_p (ha : Fls (FV k) w va ps) (hb : Fls (FV l) w vb qs) (hk : k ≤ 400000) (hl : l ≤ 400000) (h2 : 2 ≤ k) (h2' : 2 ≤ l) (hK : K ≤ 100000) (hL : L ≤ 100000) (hs : Szd (tr ps) D K M) (hs' : Szd (tr qs) E L N)
    (hKL : K + L ≤ M + N + 1) (hM : M + N + 1 ≤ 400000) (hM2 : 1 ≤ M + N) (hn : ps.length ≤ 1000000) (hm : qs.length ≤ 1000000) :
    Calls Try.prog 17 #[va, vb] w (RPol w (pmul ps qs) (M + N + 1)) := by
  have S1 := Lib.hid (scale_o ha hk h2 hK hn hs)
  have S2 := Lib.hid (fun w1 (hr : Below w.heap.size w w1) => scale_o (w := w1) (Fls.below hb (keeps_FV l) hr) hl h2' hL hm hs')
  have MU := Lib.hid (fun w1 x y zs ys d e (hx : SclV w1 x zs d K M) (hy : SclV w1 y ys e L N) (o1 : Over (tr ps) zs d) (o2 : Over (tr qs) ys e) => multiply_z (w := w1) hx hy hK hL (by omega) (by have := o1.1; have := tr_le ps; omega) (by have := o2.1; have := tr_le qs; omega))
  have RE := Lib.hid (fun w1 x zs ys d e (hx : SclV w1 x (zmul zs ys) (d * e) (K + L) (M + N + 1)) (o1 : Over (tr ps) zs d) (o2 : Over (tr qs) ys e) => reduce_o (w := w1) hx (o1.zmul o2 (tr_tr _) (tr_tr _)) hKL hM (by omega) (by
    have := o1.1; have := tr_le ps; have := o2.1; have := tr_le qs
    rw [zmul_length]
    split <;> omega))
  rw [← pmul_tr ps qs]
  generalize tr ps = rs at *
  generalize tr qs = ss at *
  clear ha hb hs hs'
  go_enter Try.func17, Try.ntmps17
  go_wp2_with fail
  refine (S1.out).mono ?_
  rintro e w1 ⟨x, zs, d, rfl, hx, o1, hB1⟩
  go_wp2_with fail
  refine (S2.out _ hB1).mono ?_
  rintro e w2 ⟨y, ys, d2, rfl, hy, o2, hB2⟩
  have hx := hx.below hB2
  have hB2 := below_then hB1 hB2
  go_wp2_with fail
  refine (MU.out _ _ _ _ _ _ _ hx hy o1 o2).mono ?_
  rintro e w3 ⟨z, rfl, hz, hB3⟩
  have hB3 := below_then hB2 hB3
  go_wp2_with fail
  refine (RE.out _ _ _ _ _ _ hz o1 o2).mono ?_
  rintro e w4 ⟨u, rfl, hu, hB4⟩
  have HU := Lib.hid (hu.mono hB3.size)
  have HB := Lib.hid (below_then hB3 hB4)
  clear hu
  go_wp2_with fail
  go_ret
  exact ⟨_, rfl, HU.out, HB.out⟩
end
end Go.Proofs.Ytjemnankgjjgcaa

/- The contracts of checkExponent and Pow of package poly. -/
namespace Go.Proofs.Ytjemnankgjjgcaa
open Go.RowKit Dig
set_option linter.unusedVariables false

namespace Dig
def ppow (p : List Rat) : Nat → List Rat
  | 0 => [1]
  | n + 1 => pmul (ppow p n) p
theorem tr_one : tr [(1 : Rat)] = [1] := by simp [tr]
theorem tr_ppow (p : List Rat) : ∀ n, tr (ppow p n) = ppow p n
  | 0 => tr_one
  | n + 1 => tr_pmul _ _
theorem pmul_one (p : List Rat) : pmul [1] p = tr p := norm_ext (tr_pmul _ _) (tr_tr _) fun i => by
  rw [cf_pmul, cf_tr]
  cases i with
  | zero => rw [conv, cf_zero]; grind
  | succ i =>
    rw [conv, cf_zero, conv_zero_l _ _ i (fun j => by rw [cf_succ, cf_nil])]
    grind
end Dig
section
variable {w : World} {v : Value} {ps : List Rat} {k K M D n : Nat}
theorem check_ok (w : World) (i : Int) (h0 : 0 ≤ i) (h1 : i ≤ 1024) : Calls Try.prog 61 #[.int .i64 i] w fun e w' => e = .returned (.int .i64 0) ∧ w = w' := by
  have a : ¬ i < 0 := by omega
  have b : ¬ 1024 < i := by omega
  go_enter Try.func61, Try.ntmps61
  go_wp2_with fail
  go_ret
  exact ⟨rfl, rfl⟩
theorem check_neg (w : World) (i : Int) (h0 : i < 0) : Calls Try.prog 61 #[.int .i64 i] w fun e w' => e = .returned (.int .i64 1) ∧ w = w' := by
  go_enter Try.func61, Try.ntmps61
  go_wp2_with fail
  go_ret
  exact ⟨rfl, rfl⟩
theorem check_big (w : World) (i : Int) (h0 : 1024 < i) : Calls Try.prog 61 #[.int .i64 i] w fun e w' => e = .returned (.int .i64 4) ∧ w = w' := by
  have a : ¬ i < 0 := by omega
  go_enter Try.func61, Try.ntmps61
  go_wp2_with fail
  go_ret
  exact ⟨rfl, rfl⟩
def RNone (w : World) (x : Int) (e : Ending) (w' : World) : Prop := e = .returned (.tuple #[.slice none 0 0, .int .i64 x]) ∧ Below w.heap.size w w'
def RPolE (w : World) (qs : List Rat) (k : Nat) (e : Ending) (w' : World) : Prop := ∃ v, e = .returned (.tuple #[v, .int .i64 0]) ∧ Ofl (CV k) w.heap.size w' v qs ∧ Below w.heap.size w w'
theorem pow_neg_p (w : World) (A : Option Addr) (m c : Nat) (i : Int) (h0 : i < 0) : Calls Try.prog 36 #[.slice A m c, .int .i64 i] w (RNone w 1) := by
  have C := Lib.hid (check_neg w i h0)
  go_enter Try.func36, Try.ntmps36
  go_wp2_with fail
  refine (C.out).mono ?_
  rintro e w1 ⟨rfl, rfl⟩
  go_wp2_with fail
  go_ret2
  exact ⟨rfl, Below.refl _ _⟩
theorem pow_big_p (w : World) (A : Option Addr) (m c : Nat) (i : Int) (h0 : 1024 < i) : Calls Try.prog 36 #[.slice A m c, .int .i64 i] w (RNone w 4) := by
  have C := Lib.hid (check_big w i h0)
  go_enter Try.func36, Try.ntmps36
  go_wp2_with fail
  refine (C.out).mono ?_
  rintro e w1 ⟨rfl, rfl⟩
  go_wp2_with fail
  go_ret2
  exact ⟨rfl, Below.refl _ _⟩
set_option maxHeartbeats 2000000 in
theorem pow_long_p (hF : Fls (FV k) w v ps) (hk : k ≤ 400000) (hn0 : 1 ≤ n) (hn : n ≤ 1024) (hm : ps.length ≤ 1000000) (h0 : 1023 / n < (tr ps).length - 1) :
    Calls Try.prog 36 #[v, .int .i64 (n : Int)] w (RNone w 4) := by
  have C := Lib.hid (check_ok w n (by omega) (by omega))
  have T := Lib.hid (trim_p hF (keeps_FV k) (reads_FV k) hk)
  obtain ⟨A, c, rfl⟩ := hF.form
  have hl := Nat.le_trans (tr_le ps) hm
  clear hF
  generalize hL : (tr ps).length = L at *
  have hz : ((n : Int) == 0) = false := by rw [beq_eq_false_iff_ne]; omega
  obtain ⟨q, hq⟩ : ∃ q, 1023 / n = q := ⟨_, rfl⟩
  rw [hq] at h0
  have HQ := Lib.hid (show (1023 : Int) / (n : Int) = (q : Int) by rw [← hq]; rfl)
  have hdv : (1023 : Int).tdiv (n : Int) = (q : Int) := by rw [← hq]; rfl
  clear hq hL
  go_enter Try.func36, Try.ntmps36
  go_wp2_with fail
  refine (C.out).mono ?_
  rintro e w1 ⟨rfl, rfl⟩
  go_wp2_with fail
  refine (T.out).mono ?_
  rintro e w1 ⟨A', c', hA, rfl, hf, hB1⟩
  cases hA
  have hf := Lib.hid hf
  have hlt : (q : Int) < (L : Int) - 1 := by omega
  go_wp2_with fail
  go_ret2
  exact ⟨rfl, hB1⟩
set_option maxHeartbeats 2000000 in
theorem pow_zero_p (hF : Fls (FV k) w v ps) (hk : k ≤ 400000) (hm : ps.length ≤ 1000000) :
    Calls Try.prog 36 #[v, .int .i64 0] w (RPolE w [1] 3) := by
  have C := Lib.hid (check_ok w 0 (by omega) (by omega))
  have T := Lib.hid (trim_p hF (keeps_FV k) (reads_FV k) hk)
  have P := Lib.hid (fun w1 => product_r (w := w1) (k := 2) (by omega) (Fls.nil (FV 2) w1) (by rw [List.length_nil, fbd_zero]; omega) (by simp))
  obtain ⟨A, c, rfl⟩ := hF.form
  clear hF
  go_enter Try.func36, Try.ntmps36
  go_wp2_with fail
  refine (C.out).mono ?_
  rintro e w1 ⟨rfl, rfl⟩
  go_wp2_with fail
  refine (T.out).mono ?_
  rintro e w1 ⟨A', c', hA, rfl, hf, hB1⟩
  cases hA
  clear hf
  go_wp2_with fail
  refine (P.out _).mono ?_
  rintro e w2 ⟨u, rfl, hu, hB2⟩
  obtain ⟨b', C', o, r, C2, o', r', rfl, hb', hvx, hvy⟩ := hu.parts
  have HB := Lib.hid (below_then hB1 hB2)
  have HU := Lib.hid hu
  clear hu hb' hvx hvy hB2
  go_wp2_with fail
  go_ret2
  refine ⟨_, rfl, .inr ⟨w2.heap.size, [⟨b', (C', o, r), (C2, o', r')⟩], rfl, HB.out.size, ?_, by simp, by unfold maxLen; simp, fun j hj => ?_⟩, HB.out.trans ((Below.refl _ _).alloc HB.out.size _)⟩
  · exact Fcl.fblk (Fcl.new w2 _ _ _)
  · obtain rfl : j = 0 := by simp at hj; omega
    exact CanF.le (CanF.below HU.out ((Below.refl _ _).alloc (Nat.le_refl _) _)) (by rw [List.length_nil, fbd_zero]; omega)
theorem SclV.store {w : World} {v : Value} {zs : List Int} {d K M g : Nat} {A B : Option Addr} {m c m' c' : Nat} (h : SclV w v zs d K M) (hS : Sbx w g (.slice A m c) (.slice B m' c')) (x y : Value) : SclV (stor2o w g 0 x y) v zs d K M := by
  obtain ⟨nv, dv, rfl, h1, h2⟩ := h
  have hs := Nat.le_of_eq (stor2o_size w g 0 x y).symm
  have hk := stor2o_heap w g 0 x y
  refine ⟨nv, dv, rfl, h1.plain hS.plain ?_ hs hk, h2.plain hS.plain hs hk⟩
  rintro A' n c'' b off rfl rfl hp
  obtain ⟨rfl, _, _⟩ := h1.lens
  obtain ⟨b', off', e, _, hc⟩ := h1.cells hp
  cases e
  obtain ⟨tb, X, xm, xc, c0, _⟩ := hc 0 hp
  rintro rfl
  unfold Sbx at hS
  rw [cell_of_row w b _ _ _ (0, 0) hS] at c0
  match hof : off + 0 * 2, c0 with
  | 0, c0 => simp at c0
  | 1, c0 => simp at c0
  | i + 2, c0 => simp at c0
def PwRel (w2 wr : World) (rs : List Rat) (d K M g7 g8 j : Nat) (x y : Value) : Prop := ∃ A c B m c' zs, Sbx wr g7 x y ∧ Sbx wr g8 (.slice A (List.length zs) c) (.slice B m c') ∧ SclV wr (.agg #[.slice A zs.length c, .slice B m c']) zs (d ^ (j + 1)) ((j + 1) * K) ((j + 1) * (M + 1)) ∧ Over (ppow rs (j + 1)) zs (d ^ (j + 1)) ∧ zs.length ≤ (j + 1) * 1024 ∧ Below w2.heap.size w2 wr
set_option maxHeartbeats 8000000 in
theorem pow_p (hF : Fls (FV k) w v ps) (hk : k ≤ 400000) (h2 : 2 ≤ k) (hK : n * K ≤ 100000) (hM : n * (M + 1) ≤ 400000) (hKM : K ≤ M) (hM1 : 1 ≤ M) (hn0 : 1 ≤ n) (hn : n ≤ 1024) (hm : ps.length ≤ 1000000) (hs : Szd (tr ps) D K M) (hlen : (tr ps).length - 1 ≤ 1023 / n) :
    Calls Try.prog 36 #[v, .int .i64 (n : Int)] w (RPolE w (ppow (tr ps) n) (n * (M + 1))) := by
  have hK1 : K ≤ 100000 := Nat.le_trans (Nat.le_mul_of_pos_left K (by omega)) hK
  have C := Lib.hid (check_ok w n (by omega) (by omega))
  have T := Lib.hid (trim_p hF (keeps_FV k) (reads_FV k) hk)
  have hl := Nat.le_trans (tr_le ps) hm
  have SC := Lib.hid (fun w1 v1 (h : Fls (FV k) w1 v1 (tr ps)) => scale_o (w := w1) h hk h2 hK1 hl (by rw [tr_tr]; exact hs))
  rw [tr_tr] at SC
  obtain ⟨A, c, rfl⟩ := hF.form
  have htt := tr_tr ps
  generalize tr ps = rs at *
  have hz : ((n : Int) == 0) = false := by rw [beq_eq_false_iff_ne]; omega
  obtain ⟨q, hq⟩ : ∃ q, 1023 / n = q := ⟨_, rfl⟩
  have hdv : (1023 : Int).tdiv (n : Int) = (q : Int) := by rw [← hq]; rfl
  have hnle : ¬ (q : Int) < (rs.length : Int) - 1 := by omega
  have hq9 : q ≤ 1023 := by rw [← hq]; exact Nat.div_le_self _ _
  have HTT := Lib.hid htt
  clear hq hF hs htt
  generalize hL : rs.length = L at *
  have HL := Lib.hid hL
  clear hL
  go_enter Try.func36, Try.ntmps36
  go_wp2_with fail
  refine (C.out).mono ?_
  rintro e w1 ⟨rfl, rfl⟩
  go_wp2_with fail
  refine (T.out).mono ?_
  rintro e w1 ⟨A', c', hA, rfl, hf, hB1⟩
  cases hA
  go_wp2_with fail
  refine (SC.out _ _ hf).mono ?_
  rintro e w2 ⟨x, zs, d, rfl, hx, o1, hB2⟩
  obtain ⟨X, xc, Y, ym, yc, rfl, hxz, hxd⟩ := hx.parts
  have hB2 := below_then hB1 hB2
  clear SC T C hf
  go_wp2_with fail
  have hlen2 : zs.length ≤ 1024 := by have := o1.1; have := HL.out; omega
  have hF7 := (Sbx.new w2 (.slice X zs.length xc) (.slice Y ym yc)).alloc (.cells #[.slice X zs.length xc, .slice Y ym yc] 59)
  have hF8 := Sbx.new2 w2 (.cells #[.slice X zs.length xc, .slice Y ym yc] 59) (.slice X zs.length xc) (.slice Y ym yc)
  have hB3 := below_alloc2 w2 (.cells #[.slice X zs.length xc, .slice Y ym yc] 59) (.cells #[.slice X zs.length xc, .slice Y ym yc] 59)
  have hI : PwRel w2 ((w2.alloc (.cells #[.slice X zs.length xc, .slice Y ym yc] 59)).alloc (.cells #[.slice X zs.length xc, .slice Y ym yc] 59)) rs d K M w2.heap.size (w2.heap.size + 1) 0 (.slice X zs.length xc) (.slice Y ym yc) := by
    refine ⟨_, _, _, _, _, zs, hF7, hF8, ?_, ?_, by omega, hB3⟩
    · have h := hx.below hB3
      rw [Nat.zero_add, Nat.pow_one, Nat.one_mul, Nat.one_mul]
      obtain ⟨nv, dv, e, h1, h2⟩ := h
      cases e
      refine ⟨_, _, rfl, ?_, h2⟩
      obtain ⟨A1, c1, e1, g1, g2, g3⟩ := h1
      refine ⟨A1, c1, e1, g1, g2, fun hp => ?_⟩
      obtain ⟨b, off, e, hb, hc⟩ := g3 hp
      refine ⟨b, off, e, hb, fun j hj => ?_⟩
      obtain ⟨tb, X', xm, xc', c0, c1, hz⟩ := hc j hj
      exact ⟨tb, X', xm, xc', c0, c1, hz.le (Nat.le_succ M)⟩
    · rw [Nat.zero_add, Nat.pow_one]
      have e : ppow rs 1 = rs := by rw [ppow, ppow, pmul_one, HTT.out]
      rw [e]
      exact o1
  have MUL := Lib.hid (fun w4 a zs' (j : Nat) (hr : Below w2.heap.size w2 w4) (hj : j + 1 < n) (ha : SclV w4 a zs' (d ^ (j + 1)) ((j + 1) * K) ((j + 1) * (M + 1))) (hl : zs'.length ≤ (j + 1) * 1024) => multiply_z (w := w4) ha (hx.below hr)
    (Nat.le_trans (Nat.mul_le_mul_right K (Nat.le_of_lt hj)) hK) hK1 (by
      have h1 := Nat.mul_le_mul_right (M + 1) (show j + 1 + 1 ≤ n from hj)
      rw [Nat.add_mul (j + 1) 1, Nat.one_mul] at h1
      omega) (by omega) (by omega))
  have RED := Lib.hid (fun w4 a zs' (ha : SclV w4 a zs' (d ^ n) (n * K) (n * (M + 1))) (o : Over (ppow rs n) zs' (d ^ n)) (hl : zs'.length ≤ n * 1024) => reduce_o (w := w4) ha o (Nat.mul_le_mul_left n (by omega)) hM (Nat.le_trans (by omega : 2 ≤ 1 * (M + 1)) (Nat.mul_le_mul_right _ hn0)) (by omega))
  have O1 := Lib.hid o1
  have HB2 := Lib.hid hB2
  obtain ⟨n1, hnn1⟩ : ∃ n1, n = n1 + 1 := ⟨n - 1, by omega⟩
  have hnn : (n : Int) - 1 = (n1 : Int) := by omega
  rw [hnn]
  have hn1 : n1 ≤ 1023 := by omega
  have HN1 := Lib.hid hnn1
  clear hx o1 hB2 hxz hxd hF7 hF8 hB3 hnn hz hdv hnle hnn1
  generalize hg7 : w2.heap.size = g7 at *
  have HGW := Lib.hid hg7
  clear hg7
  generalize (w2.alloc (.cells #[.slice X zs.length xc, .slice Y ym yc] 59)).alloc (.cells #[.slice X zs.length xc, .slice Y ym yc] 59) = w3 at *
  have HG : Hid (g7 + 1 ≠ g7) := Lib.hid (by omega)
  go_loopw [33] (fun i wr => ∃ j : Nat, j ≤ n1 ∧ i = .int .i64 j ∧ PwRel w2 wr rs d K M g7 (g7 + 1) j (.slice X zs.length xc) (.slice Y ym yc)) (fun i _ => n1 - (intOf i).toNat)
  case atStart => exact ⟨0, Nat.zero_le _, rfl, hI⟩
  case round =>
    obtain ⟨j, hj, rfl, A', c', B, m, c2, zs', hS7, hS8, ha, ho, hl', hBr⟩ := hrel
    obtain ⟨k0, k1⟩ := hS7.cells
    obtain ⟨l0, l1⟩ := hS8.cells
    obtain ⟨f0, f1⟩ := hS8.frozen
    have HA := Lib.hid ha
    have HO := Lib.hid ho
    by_cases hjn : j < n1
    · have HI : (j : Int) < n1 := by omega
      have M1 := Lib.hid (MUL.out _ _ _ j (by rw [← HGW.out]; exact hBr) (by have := HN1.out; omega) ha hl')
      have hlen' := Lib.hid (zmul_length zs' zs)
      clear ha ho
      generalize hzl : zs'.length = zl at *
      generalize hzl2 : zs.length = zl2 at *
      have HZ1 := Lib.hid hzl
      have HZ2 := Lib.hid hzl2
      clear hzl hzl2
      go_wp2_with fail
      refine (M1.out).mono ?_
      rintro e w5 ⟨u, rfl, hu, hB5⟩
      obtain ⟨A3, c3, B3, m3, c4, rfl, _, _⟩ := hu.parts
      have hS7 := hS7.below hB5
      have hS8 := hS8.below hB5
      have hs := hu.store hS8 (.slice A3 (zmul zs' zs).length c3) (.slice B3 m3 c4)
      have HS : Hid (PwRel w2 (stor2o w5 (g7 + 1) 0 (.slice A3 (zmul zs' zs).length c3) (.slice B3 m3 c4)) rs d K M g7 (g7 + 1) (j + 1) (.slice X zl2 xc) (.slice Y ym yc)) := Lib.hid (by
        refine ⟨_, _, _, _, _, zmul zs' zs, hS7.far2 (Ne.symm HG.out) _ _ _, hS8.put _ _, ?_, ?_, ?_, ?_⟩
        · have e1 : d ^ (j + 1) * d = d ^ (j + 1 + 1) := (Nat.pow_succ ..).symm
          have e2 : (j + 1) * K + K = (j + 1 + 1) * K := (Nat.succ_mul (j + 1) K).symm
          have e3 : (j + 1) * (M + 1) + M + 1 = (j + 1 + 1) * (M + 1) := by rw [Nat.add_mul (j + 1) 1, Nat.one_mul]; omega
          rw [e1, e2, e3] at hs
          exact hs
        · have h := HO.out.zmul O1.out (tr_ppow rs _) HTT.out
          rw [Nat.pow_succ]
          exact h
        · rw [hlen'.out]
          split <;> omega
        · exact below_stor2o (hBr.trans (hB5.mono hBr.size)) (by have := HGW.out; omega) _ _ _)
      clear k0 k1 l0 l1 f0 f1
      obtain ⟨l0, l1⟩ := hS8.cells
      obtain ⟨f0, f1⟩ := hS8.frozen
      clear hu hs hS7 hS8
      go_wp2_with fail
      go_roundw
      case rel => exact ⟨j + 1, by omega, by go_num, HS.out⟩
      case measure => simp [intOf]; omega
    · have HI : ¬ (j : Int) < n1 := by omega
      obtain rfl : j = n1 := by omega
      rw [← HN1.out] at ha ho hl'
      have R1 := Lib.hid (RED.out _ _ _ ha ho hl')
      clear ha ho
      generalize zs'.length = zl at *
      go_wp2_with fail
      refine (R1.out).mono ?_
      rintro e w5 ⟨u, rfl, hu, hB5⟩
      have HU := Lib.hid (hu.mono (Nat.le_trans HB2.out.size (hBr.size)))
      have HB := Lib.hid (below_then HB2.out (hBr.trans (hB5.mono hBr.size)))
      clear hu
      go_wp2_with fail
      go_ret2
      exact ⟨_, rfl, HU.out, HB.out⟩
end
end Go.Proofs.Ytjemnankgjjgcaa

/- The contract of Shift of package poly. -/
namespace Go.Proofs.Ytjemnankgjjgcaa
open Go.RowKit Dig
set_option linter.unusedVariables false

section
variable {w : World} {ops : Array Oper} {rest : List Oper} {o : Oper} {a : Act} {Q : Exit → Act → World → Prop}
theorem wp_make_fc (T : TypeId) (hT : Try.prog.underlying T = some (.slice 29)) (hg : o.guard = none) (l c : Operand) (hop : o.op = Op.makeSlice T l c) (L C : Int) (n m : Nat)
    (hl : a.eval l = .int .i64 L) (hc : a.eval c = .int .i64 C) (hL : L = (n : Int)) (hC : C = (m : Int)) (hnm : n ≤ m) (hn : m ≤ 1000000000000)
    (hK : ∀ w', FBlk w' w.heap.size (List.replicate m .zero) → Below w.heap.size w w' → wpList Try.prog ops Q rest (a.put o.dst (.slice (some ⟨w.heap.size, 0, none⟩) n m)) w') :
    wpList Try.prog ops Q (o :: rest) a w := by
  obtain ⟨i0, hi, hz0, hz1, hz2⟩ := info_parts info_frac
  have hrun := run_make (P := Try.prog) w T 29 i0 _ hT hi hz0 .i64 .i64 (n : Int) (m : Int) (by omega) (by omega) (by rw [hz2]; omega) (by omega)
  simp only [Int.toNat_natCast] at hrun
  subst hL
  subst hC
  refine wpList_plain hg fun K hK' => ?_
  unfold Oper.wp
  simp [execOp, hop, hl, hc, hrun, Result.andThen]
  refine hK' _ _ (hK _ ?_ ((Below.refl _ _).alloc (Nat.le_refl _) _))
  unfold FBlk
  rw [heap_alloc_new, hz1]
  have h := madeCells_t m
  rw [← h]
end
namespace Dig
theorem mk_zero_append (n : Nat) (p : List Rat) (i : Nat) : cf (mk n (fun _ => 0) ++ p) i = if i < n then 0 else cf p (i - n) := by
  have hl := mk_length n (fun _ => 0)
  unfold cf
  by_cases h : i < n
  · rw [getD_app_l (by omega), if_pos h]
    have := cf_mk n (fun _ => 0) i
    rw [if_pos h] at this
    exact this
  · rw [getD_app_r (by omega), hl, if_neg h]
end Dig
section
variable {w : World} {v : Value} {ps : List Rat} {k n : Nat}
theorem shift_neg_p (w : World) (A : Option Addr) (m c : Nat) (i : Int) (h0 : i < 0) : Calls Try.prog 31 #[.slice A m c, .int .i64 i] w (RNone w 1) := by
  have C := Lib.hid (check_neg w i h0)
  go_enter Try.func31, Try.ntmps31
  go_wp2_with fail
  refine (C.out).mono ?_
  rintro e w1 ⟨rfl, rfl⟩
  go_wp2_with fail
  go_ret2
  exact ⟨rfl, Below.refl _ _⟩
theorem shift_big_p (w : World) (A : Option Addr) (m c : Nat) (i : Int) (h0 : 1024 < i) : Calls Try.prog 31 #[.slice A m c, .int .i64 i] w (RNone w 4) := by
  have C := Lib.hid (check_big w i h0)
  go_enter Try.func31, Try.ntmps31
  go_wp2_with fail
  refine (C.out).mono ?_
  rintro e w1 ⟨rfl, rfl⟩
  go_wp2_with fail
  go_ret2
  exact ⟨rfl, Below.refl _ _⟩
set_option maxHeartbeats 2000000 in
theorem shift_none_p (hF : Fls (FV k) w v ps) (hk : k ≤ 400000) (hn : n ≤ 1024) (hm : ps.length ≤ 1000000) (h0 : tr ps = []) :
    Calls Try.prog 31 #[v, .int .i64 (n : Int)] w (RNone w 0) := by
  have C := Lib.hid (check_ok w n (by omega) (by omega))
  have T := trim_p hF (keeps_FV k) (reads_FV k) hk
  rw [h0] at T
  have T := Lib.hid T
  obtain ⟨A, c, rfl⟩ := hF.form
  clear hF
  have hl0 : ([] : List Rat).length = 0 := rfl
  rw [hl0] at T
  go_enter Try.func31, Try.ntmps31
  go_wp2_with fail
  refine (C.out).mono ?_
  rintro e w1 ⟨rfl, rfl⟩
  go_wp2_with fail
  refine (T.out).mono ?_
  rintro e w1 ⟨A', c', hA, rfl, hf, hB1⟩
  cases hA
  clear hf
  go_wp2_with fail
  go_ret2
  exact ⟨rfl, hB1⟩
set_option maxHeartbeats 2000000 in
theorem shift_long_p (hF : Fls (FV k) w v ps) (hk : k ≤ 400000) (hn : n ≤ 1024) (hm : ps.length ≤ 1000000) (h0 : 1024 < n + (tr ps).length) (h1 : 0 < (tr ps).length) :
    Calls Try.prog 31 #[v, .int .i64 (n : Int)] w (RNone w 4) := by
  have C := Lib.hid (check_ok w n (by omega) (by omega))
  have T := Lib.hid (trim_p hF (keeps_FV k) (reads_FV k) hk)
  obtain ⟨A, c, rfl⟩ := hF.form
  have hl := Nat.le_trans (tr_le ps) hm
  clear hF
  generalize (tr ps).length = L at *
  have hz : ((L : Int) == 0) = false := by rw [beq_eq_false_iff_ne]; omega
  have hlt : 1024 - (n : Int) < (L : Int) := by omega
  go_enter Try.func31, Try.ntmps31
  go_wp2_with fail
  refine (C.out).mono ?_
  rintro e w1 ⟨rfl, rfl⟩
  go_wp2_with fail
  refine (T.out).mono ?_
  rintro e w1 ⟨A', c', hA, rfl, hf, hB1⟩
  cases hA
  clear hf
  go_wp2_with fail
  go_ret2
  exact ⟨rfl, hB1⟩
set_option maxHeartbeats 8000000 in
theorem shift_p (hF : Fls (FV k) w v ps) (hk : k ≤ 400000) (h2 : 2 ≤ k) (hm : ps.length ≤ 1000000) (h0 : n + (tr ps).length ≤ 1024) (h1 : 0 < (tr ps).length) :
    Calls Try.prog 31 #[v, .int .i64 (n : Int)] w (RPolE w (mk n (fun _ => 0) ++ tr ps) k) := by
  have C := Lib.hid (check_ok w n (by omega) (by omega))
  have T := Lib.hid (trim_p hF (keeps_FV k) (reads_FV k) hk)
  have NO := fun w1 v1 (h : Fls (FV k) w1 v1 (tr ps)) => normalize_p (w := w1) h hk h2 (by omega)
  rw [tr_tr] at NO
  have HNO := Lib.hid NO
  obtain ⟨A, c, rfl⟩ := hF.form
  clear hF NO
  generalize tr ps = rs at *
  obtain ⟨L, hL⟩ : ∃ L, rs.length = L := ⟨_, rfl⟩
  have HL := Lib.hid hL
  rw [hL] at h0 h1 T
  clear hL
  have hz : ((L : Int) == 0) = false := by rw [beq_eq_false_iff_ne]; omega
  have hlt : ¬ 1024 - (n : Int) < (L : Int) := by omega
  have HQ := Lib.hid (show (n : Int) + (L : Int) = ((n + L : Nat) : Int) by omega)
  have ZN := Lib.hid (fun w1 => normf_v (w := w1) (FracV.zero w1 k) hk h2)
  have HK := Lib.hid (keeps_CV k)
  go_enter Try.func31, Try.ntmps31
  go_wp2_with fail
  refine (C.out).mono ?_
  rintro e w1 ⟨rfl, rfl⟩
  go_wp2_with fail
  refine (T.out).mono ?_
  rintro e w1 ⟨A', c', hA, rfl, hf, hB1⟩
  cases hA
  have HF := Lib.hid hf
  clear hf C T
  go_wp2_with (at_make; refine wp_make_fc 24 (by kernel_rfl) rfl _ _ rfl _ _ n (n + L) rfl rfl rfl HQ.out (by omega) (by omega) ?_; intro w2 hF2 hB2)
  have hI : Fill w.heap.size (CV k) w2 w1.heap.size (n + L) 0 (fun _ => 0) := Fill.start hF2
  have HF2 := Lib.hid (fun w3 (hr : Below w1.heap.size w1 w3) => HF.out.below (keeps_FV k) hr)
  have hg0 : w.heap.size ≤ w1.heap.size := hB1.size
  clear hF2 HF
  generalize w1.heap.size = g at *
  go_loopw [34] (fun i wr => ∃ j : Nat, j ≤ n ∧ i = .int .i64 j ∧ Fill w.heap.size (CV k) wr g (n + L) j (fun _ => 0) ∧ Below g w1 wr) (fun i _ => n - (intOf i).toNat)
  case atStart => exact ⟨0, Nat.zero_le _, rfl, hI, hB2⟩
  case round =>
    obtain ⟨j, hj, rfl, hI, hB⟩ := hrel
    have FI := Lib.hid hI
    have hlt1 := hI.lt
    by_cases hjn : j < n
    · have HI : (j : Int) < n := by omega
      clear hI
      go_wp2_with fail
      refine (ZN.out _).mono ?_
      rintro e w5 ⟨u, rfl, hu, hB5⟩
      have hB := hB.trans (hB5.mono (Nat.le_of_lt hlt1))
      obtain ⟨b', C, o, r, C', o', r', rfl, hb', hvx, hvy⟩ := hu.parts
      have hI := FI.out.below HK.out hB5
      obtain ⟨z0, z1, z2, e0, e1, e2⟩ := hI.cells (j := j) (by omega)
      have f0 := hI.frozen (j * 3)
      have f1 := hI.frozen (j * 3 + 1)
      have f2 := hI.frozen (j * 3 + 2)
      have HS := Lib.hid (hI.set HK.out (show j < n + L by omega) (show CV k w5 _ _ from CanF.ofParts hb' hvx hvy))
      clear hI hu hb' hvx hvy
      go_wp2_with fail
      go_roundw
      case rel => exact ⟨j + 1, by omega, by go_num, HS.out, below_stor3o hB (Nat.le_refl _) _ _ _ _⟩
      case measure => simp [intOf]; omega
    · have HI : ¬ (j : Int) < n := by omega
      obtain rfl : j = n := by omega
      have HN1 := Lib.hid (HNO.out _ _ (HF2.out _ hB))
      have hO : Ofl (CV k) g wr (.slice (some ⟨g, 0, none⟩) j (j + L)) (mk j (fun _ => 0)) := by
        obtain ⟨ts, hF, hl, hE⟩ := FI.out
        refine .inr ⟨g, ts, by rw [mk_length, hl], Nat.le_refl _, hF, by rw [mk_length]; omega, by unfold maxLen; omega, fun i hi => ?_⟩
        rw [mk_length] at hi
        have : (mk j (fun _ => 0)).getD i 0 = 0 := by have := cf_mk j (fun _ => 0) i; rw [if_pos hi] at this; exact this
        rw [this]
        exact hE i hi
      have HO := Lib.hid hO
      have HB := Lib.hid hB
      clear hI hO hB
      go_wp2_with fail
      refine (HN1.out).mono ?_
      rintro e w5 ⟨u, rfl, hu, hB5⟩
      have hO := HO.out.below HK.out hB5
      have hB := HB.out.trans (hB5.mono (Nat.le_of_lt hlt1))
      obtain ⟨U, uc, rfl⟩ := hu.fls.form
      have hu := hu.fls
      have hg5 : g ≤ w5.heap.size := Nat.le_trans (Nat.le_of_lt hlt1) hB5.size
      clear HO HB HN1 hB5
      go_wp2_with (refine wp_append_f HK.out 24 (by kernel_rfl) rfl _ _ rfl g _ _ rfl hO _ _ rfl hu (by have := HL.out; omega) (by rw [mk_length]; have := HL.out; omega) hg5 ?_; intro v6 w6 hG6)
      have hBw : Below w.heap.size w w5 := hB1.trans (hB.mono hg0)
      have hB6 : Below w.heap.size w w6 := below_grown (g := g) hBw hG6.2.1 hg0
      have HO6 := Lib.hid (hG6.1.mono hg0)
      go_ret2
      exact ⟨_, rfl, HO6.out, hB6⟩
end
end Go.Proofs.Ytjemnankgjjgcaa

/- The contract of GCD. -/
import Derived.Deep.QuietTactic
import Derived.Test.YtgjhgpfjeoeojaaDoorReds
import Derived.Test.YtgjhgpfjeoeojaaDoorAdds
import Derived.Test.YtgjhgpfjeoeojaaDoorDivs
namespace Go.Proofs.YtgjhgpfjeoeojaaDoor
open Go.RowKit Dig
set_option linter.unusedVariables false

theorem Num.unique {w : World} {v : Value} {xs ys : List Nat} (h : Num w v xs) (k : Num w v ys) : xs = ys := by
  obtain ⟨A, c, e1⟩ := h.form
  obtain ⟨A', c', e2⟩ := k.form
  subst e1
  simp only [Value.slice.injEq] at e2
  obtain ⟨rfl, hl, rfl⟩ := e2
  refine ext_getD hl fun j hj => ?_
  obtain ⟨b, off, e, _, h1⟩ := h.cells (by omega)
  subst e
  rw [hl] at k
  rw [hl] at hj
  obtain ⟨b2, off2, e, _, h2⟩ := k.cells (by omega)
  simp only [Option.some.injEq, Addr.mk.injEq, and_true] at e
  obtain ⟨rfl, rfl⟩ := e
  have h3 := h1 j (by omega)
  rw [h2 j (by omega)] at h3
  simp only [Option.some.injEq, Value.int.injEq, true_and] at h3
  omega
open Classical in
/-- The number that v can be read as. -/
noncomputable def valIn (w : World) (v : Value) : Nat := if h : ∃ xs, Num w v xs then val (Classical.choose h) else 0
theorem valIn_eq {w : World} {v : Value} {xs : List Nat} (h : Num w v xs) : valIn w v = val xs := by
  have hx : ∃ xs, Num w v xs := ⟨xs, h⟩
  unfold valIn
  rw [dif_pos hx, (Classical.choose_spec hx).unique h]
theorem valIn_dg {w : World} {v : Value} {n : Nat} (h : Num w v (dg n)) : valIn w v = n := by rw [valIn_eq h, val_dg]
theorem uint64_d (w : World) (v : Value) (n : Nat) (h : Num w v (dg n)) (hs : n < 18446744073709551616) :
    Calls Tryd.prog 62 #[v] w fun e w' => e = .returned (.tuple #[.int .u64 (n : Int), .bool true]) ∧ Below w.heap.size w w' := by
  have h1 := uint64_v w v (dg n) h (by rw [val_dg]; exact hs)
  rw [val_dg] at h1
  exact h1.mono fun e w' ⟨a, N, b⟩ => ⟨a, by rw [b]; exact below_drewN (Below.refl _ _) N⟩

set_option maxHeartbeats 8000000 in
theorem gcd_ge (w : World) (va vb : Value) (xs ys : List Nat) (ha : Num w va xs) (hb : Num w vb ys) (hza : xs.length ≤ 100000000) (hzb : ys.length ≤ 100000000) (hcmp : val ys ≤ val xs) :
    Calls Tryd.prog 44 #[va, vb] w (RNat w (Nat.gcd (val xs) (val ys))) := by
  have Ta := Lib.hid (trim_n w va xs ha)
  have Tb := Lib.hid (trim_n w vb ys hb)
  have hla := dg_length_val xs ha.small
  have hlb := dg_length_val ys hb.small
  generalize val xs = X at *
  generalize val ys = Y at *
  go_enter Tryd.func44, Tryd.ntmps44
  go_wp2_with fail
  refine (Ta.out).mono ?_
  rintro e w' ⟨A, c, rfl, hA, rfl⟩
  go_wp2_with fail
  refine (Tb.out).mono ?_
  rintro e w' ⟨A', c', rfl, hA', rfl⟩
  have C := cmp_c w _ _ _ _ hA hA'
  rw [val_dg, val_dg] at C
  have hcm : 0 ≤ cmpI X Y ∧ cmpI X Y ≤ 1 := by
    rcases Nat.lt_or_ge Y X with h | h
    · rw [cmpI_gt h]; omega
    · rw [show X = Y by omega, cmpI_eq]; omega
  generalize cmpI X Y = cz at *
  obtain ⟨hc0, hc1⟩ := hcm
  have HC := Lib.hid C
  clear C ha hb
  go_wp2_with fail
  refine (HC.out).mono ?_
  rintro e w1 ⟨rfl, N, rfl⟩
  have hBN := below_drewN (Below.refl w.heap.size w) N
  have hA2 := hA.drewN N
  have hA3 := hA'.drewN N
  clear hA hA' HC
  go_wp2_with fail

  go_loopw [0, 1] (fun x y wr => ∃ P Q : Nat, Num wr x (dg P) ∧ Num wr y (dg Q) ∧ Q ≤ P ∧ P ≤ X + Y ∧ Nat.gcd P Q = Nat.gcd X Y ∧ (dg P).length ≤ 100000000 ∧ Below w.heap.size w wr) (fun _ y wr => valIn wr y)
  case atStart => exact ⟨X, Y, hA2, hA3, hcmp, by omega, rfl, by omega, hBN⟩
  case round =>
    clear hA2 hA3 hBN
    obtain ⟨P, Q, hP, hQ, hPQ, hPX, hg, hlP, hB⟩ := hrel
    have hlQ := dg_length_mono hPQ
    by_cases h2 : 2 < (dg Q).length
    · have RC := reduce_c wr _ _ P Q ((dg P).length - 3) hP hQ (by omega) (by omega) hPQ h2
      have hm := valIn_dg hQ
      have HM := Lib.hid hm
      have HRC := Lib.hid RC
      have HG := Lib.hid hg
      have hQ2 := hQ
      obtain ⟨A1, c1, rfl⟩ := hP.form
      obtain ⟨A2, c2, rfl⟩ := hQ.form
      have h2i : (2 : Int) < (dg Q).length := by omega
      have HQ := Lib.hid hQ2
      clear RC hm hg hQ hQ2 hP
      go_wp2_with fail
      refine (HRC.out).mono ?_
      rintro e w2 ⟨r, s, R, S, rfl, hr, hs, hSQ, hSR, hRP, hgg, hB2⟩
      have HR := Lib.hid hr
      have HS := Lib.hid hs
      have HGG := Lib.hid (hgg.trans HG.out)
      have HB := Lib.hid (below_then hB hB2)
      have hl2 := dg_length_mono hRP
      have HMS := Lib.hid (valIn_dg hs)
      clear hr hs hgg hB hB2 HRC
      go_wp2_with fail
      go_roundw
      case rel => exact ⟨R, S, HR.out, HS.out, hSR, by omega, HGG.out, by omega, HB.out⟩
      case measure => rw [HMS.out, HM.out]; exact hSQ
    · by_cases h0 : (dg Q).length = 0
      · have hQ0 := dg_len0 h0
        subst hQ0
        have NC := normalize_c wr _ _ hP (by omega)
        rw [val_dg, ← Nat.gcd_zero_right P, hg] at NC
        have HNC := Lib.hid NC
        obtain ⟨A2, c2, rfl⟩ := hQ.form
        rw [h0]
        clear NC hP hQ hg h0 h2
        go_wp2_with fail
        refine (HNC.out).mono ?_
        rintro e w2 ⟨r, rfl, hO, hB2⟩
        go_wp2_with fail
        go_ret
        exact ⟨_, rfl, hO.mono hB.size, below_then hB hB2⟩
      · have h0i : (((dg Q).length : Int) == 0) = false := by rw [beq_eq_false_iff_ne]; omega
        have h2i : ¬ (2 : Int) < (dg Q).length := by omega
        have hQb := small_of_len (n := Q) (by omega)
        have hQ0 : 0 < Q := by
          rcases Nat.eq_zero_or_pos Q with h | h
          · subst h; exact absurd rfl h0
          · exact h
        by_cases h3 : 2 < (dg P).length
        · have DC := div_c wr _ _ _ _ hP hQ (by omega) (by rw [val_dg]; exact hQ0)
          rw [val_dg, val_dg] at DC
          have HDC := Lib.hid DC
          have h3i : (2 : Int) < (dg P).length := by omega
          have hgg : Nat.gcd Q (P % Q) = Nat.gcd X Y := by rw [Nat.gcd_comm Q, ← Nat.gcd_rec, Nat.gcd_comm, hg]
          have hrb := Nat.mod_lt P hQ0
          have hQ2 := hQ
          obtain ⟨A1, c1, rfl⟩ := hP.form
          obtain ⟨A2, c2, rfl⟩ := hQ.form
          have HQ := Lib.hid hQ2
          clear DC hP hQ hQ2 hg
          go_wp2_with fail
          refine (HDC.out).mono ?_
          rintro e w2 ⟨q, r, rfl, _, hr, hB2⟩
          have hQ3 := HQ.out.below hB2
          have hr3 := hr.num
          generalize P % Q = R at *
          have hB3 := below_then hB hB2
          clear HQ HDC hr hB hB2
          have HU2 := fun wx hB => uint64_d wx _ R (Num.below (w' := wx) hr3 hB) (by omega)
          have HU1 := Lib.hid (uint64_d w2 _ Q hQ3 (by omega))
          have HU := Lib.hid HU2
          have HGG := Lib.hid hgg
          clear HU2 hr3 hQ3 hgg 
          go_wp2_with fail
          refine (HU1.out).mono ?_
          rintro e wx ⟨rfl, hBx⟩
          go_wp2_with fail
          refine (HU.out _ hBx).mono ?_
          rintro e wy ⟨rfl, hBy⟩
          have hB5 := below_then (below_then hB3 hBx) hBy
          have hxb : Q < 18446744073709551616 := by omega
          have hyb : R < 18446744073709551616 := by omega
          clear hBx hBy HU HU1
          go_wp2_with fail
          go_loopw [8, 10] (fun x y wr => ∃ x1 y1 : Nat, x = .int .u64 (x1 : Int) ∧ y = .int .u64 (y1 : Int) ∧ x1 < 18446744073709551616 ∧ y1 < 18446744073709551616 ∧ Nat.gcd x1 y1 = Nat.gcd X Y ∧ Below w.heap.size w wr) (fun _ y _ => (intOf y).toNat)
          case atStart => exact ⟨Q, R, rfl, rfl, hxb, hyb, HGG.out, hB5⟩
          case round =>
            clear hB5
            obtain ⟨x1, y1, rfl, rfl, hx1, hy1, hg1, hB6⟩ := hrel
            rcases Nat.eq_zero_or_pos y1 with hy0 | hy0
            · subst hy0
              rw [Nat.gcd_zero_right] at hg1
              have FC := from_c wr x1 (by omega)
              rw [hg1] at FC
              have HFC := Lib.hid FC
              clear FC
              go_wp2_with fail
              rw [hg1]
              refine (HFC.out).mono ?_
              rintro e w7 ⟨r7, rfl, hO7, hB7⟩
              go_wp2_with fail
              go_ret
              exact ⟨_, rfl, hO7.mono hB6.size, below_then hB6 hB7⟩
            · have hy1n : ((y1 : Int) != 0) = true := by rw [bne_iff_ne]; omega
              have hy1e : ((y1 : Int) == 0) = false := by rw [beq_eq_false_iff_ne]; omega
              have hy1N : ¬ y1 = 0 := by omega
              have hgn : Nat.gcd y1 (x1 % y1) = Nat.gcd X Y := by rw [Nat.gcd_comm y1, ← Nat.gcd_rec, Nat.gcd_comm, hg1]
              have hmd := Nat.mod_lt x1 hy0
              have hme : (x1 : Int) % (y1 : Int) = ((x1 % y1 : Nat) : Int) := rfl
              have HGN := Lib.hid hgn
              have HME := Lib.hid hme
              clear hgn hme hg1
              go_wp2_with fail
              go_quiet (fail)
              go_wp2_with fail
              go_roundw
              case rel => exact ⟨y1, x1 % y1, rfl, by rw [← HME.out], hy1, by omega, HGN.out, below_drewN hB6 _⟩
              case measure => first | (rw [HME.out]; simp [intOf]; omega) | (simp [intOf]; omega)
        · have h3i : ¬ (2 : Int) < (dg P).length := by omega
          have hPb := small_of_len (n := P) (by omega)
          obtain ⟨A1, c1, rfl⟩ := hP.form
          obtain ⟨A2, c2, rfl⟩ := hQ.form
          have HU2 := fun wx hB => uint64_d wx _ Q (Num.below (w' := wx) hQ hB) (by omega)
          have HU1 := Lib.hid (uint64_d wr _ P hP (by omega))
          have HU := Lib.hid HU2
          have HGG := Lib.hid hg
          clear HU2 hQ hP hg 
          go_wp2_with fail
          refine (HU1.out).mono ?_
          rintro e wx ⟨rfl, hBx⟩
          go_wp2_with fail
          refine (HU.out _ hBx).mono ?_
          rintro e wy ⟨rfl, hBy⟩
          have hB5 := below_then (below_then hB hBx) hBy
          have hxb : P < 18446744073709551616 := by omega
          have hyb : Q < 18446744073709551616 := by omega
          clear hBx hBy HU HU1
          go_wp2_with fail
          go_loopw [8, 10] (fun x y wr => ∃ x1 y1 : Nat, x = .int .u64 (x1 : Int) ∧ y = .int .u64 (y1 : Int) ∧ x1 < 18446744073709551616 ∧ y1 < 18446744073709551616 ∧ Nat.gcd x1 y1 = Nat.gcd X Y ∧ Below w.heap.size w wr) (fun _ y _ => (intOf y).toNat)
          case atStart => exact ⟨P, Q, rfl, rfl, hxb, hyb, HGG.out, hB5⟩
          case round =>
            clear hB5
            obtain ⟨x1, y1, rfl, rfl, hx1, hy1, hg1, hB6⟩ := hrel
            rcases Nat.eq_zero_or_pos y1 with hy0 | hy0
            · subst hy0
              rw [Nat.gcd_zero_right] at hg1
              have FC := from_c wr x1 (by omega)
              rw [hg1] at FC
              have HFC := Lib.hid FC
              clear FC
              go_wp2_with fail
              rw [hg1]
              refine (HFC.out).mono ?_
              rintro e w7 ⟨r7, rfl, hO7, hB7⟩
              go_wp2_with fail
              go_ret
              exact ⟨_, rfl, hO7.mono hB6.size, below_then hB6 hB7⟩
            · have hy1n : ((y1 : Int) != 0) = true := by rw [bne_iff_ne]; omega
              have hy1e : ((y1 : Int) == 0) = false := by rw [beq_eq_false_iff_ne]; omega
              have hy1N : ¬ y1 = 0 := by omega
              have hgn : Nat.gcd y1 (x1 % y1) = Nat.gcd X Y := by rw [Nat.gcd_comm y1, ← Nat.gcd_rec, Nat.gcd_comm, hg1]
              have hmd := Nat.mod_lt x1 hy0
              have hme : (x1 : Int) % (y1 : Int) = ((x1 % y1 : Nat) : Int) := rfl
              have HGN := Lib.hid hgn
              have HME := Lib.hid hme
              clear hgn hme hg1
              go_wp2_with fail
              go_quiet (fail)
              go_wp2_with fail
              go_roundw
              case rel => exact ⟨y1, x1 % y1, rfl, by rw [← HME.out], hy1, by omega, HGN.out, below_drewN hB6 _⟩
              case measure => first | (rw [HME.out]; simp [intOf]; omega) | (simp [intOf]; omega)

set_option maxHeartbeats 8000000 in
theorem gcd_lt (w : World) (va vb : Value) (xs ys : List Nat) (ha : Num w va xs) (hb : Num w vb ys) (hza : xs.length ≤ 100000000) (hzb : ys.length ≤ 100000000) (hcmp : val xs < val ys) :
    Calls Tryd.prog 44 #[va, vb] w (RNat w (Nat.gcd (val xs) (val ys))) := by
  have Ta := Lib.hid (trim_n w va xs ha)
  have Tb := Lib.hid (trim_n w vb ys hb)
  have hla := dg_length_val xs ha.small
  have hlb := dg_length_val ys hb.small
  generalize val xs = X at *
  generalize val ys = Y at *
  go_enter Tryd.func44, Tryd.ntmps44
  go_wp2_with fail
  refine (Ta.out).mono ?_
  rintro e w' ⟨A, c, rfl, hA, rfl⟩
  go_wp2_with fail
  refine (Tb.out).mono ?_
  rintro e w' ⟨A', c', rfl, hA', rfl⟩
  have C := cmp_c w _ _ _ _ hA hA'
  rw [val_dg, val_dg] at C
  rw [cmpI_lt hcmp] at C
  have HC := Lib.hid C
  clear C ha hb
  go_wp2_with fail
  refine (HC.out).mono ?_
  rintro e w1 ⟨rfl, N, rfl⟩
  have hBN := below_drewN (Below.refl w.heap.size w) N
  have hA2 := hA.drewN N
  have hA3 := hA'.drewN N
  clear hA hA' HC
  go_wp2_with fail

  go_loopw [0, 1] (fun x y wr => ∃ P Q : Nat, Num wr x (dg P) ∧ Num wr y (dg Q) ∧ Q ≤ P ∧ P ≤ X + Y ∧ Nat.gcd P Q = Nat.gcd X Y ∧ (dg P).length ≤ 100000000 ∧ Below w.heap.size w wr) (fun _ y wr => valIn wr y)
  case atStart => exact ⟨Y, X, hA3, hA2, by omega, by omega, Nat.gcd_comm _ _, by omega, hBN⟩
  case round =>
    clear hA2 hA3 hBN
    obtain ⟨P, Q, hP, hQ, hPQ, hPX, hg, hlP, hB⟩ := hrel
    have hlQ := dg_length_mono hPQ
    by_cases h2 : 2 < (dg Q).length
    · have RC := reduce_c wr _ _ P Q ((dg P).length - 3) hP hQ (by omega) (by omega) hPQ h2
      have hm := valIn_dg hQ
      have HM := Lib.hid hm
      have HRC := Lib.hid RC
      have HG := Lib.hid hg
      have hQ2 := hQ
      obtain ⟨A1, c1, rfl⟩ := hP.form
      obtain ⟨A2, c2, rfl⟩ := hQ.form
      have h2i : (2 : Int) < (dg Q).length := by omega
      have HQ := Lib.hid hQ2
      clear RC hm hg hQ hQ2 hP
      go_wp2_with fail
      refine (HRC.out).mono ?_
      rintro e w2 ⟨r, s, R, S, rfl, hr, hs, hSQ, hSR, hRP, hgg, hB2⟩
      have HR := Lib.hid hr
      have HS := Lib.hid hs
      have HGG := Lib.hid (hgg.trans HG.out)
      have HB := Lib.hid (below_then hB hB2)
      have hl2 := dg_length_mono hRP
      have HMS := Lib.hid (valIn_dg hs)
      clear hr hs hgg hB hB2 HRC
      go_wp2_with fail
      go_roundw
      case rel => exact ⟨R, S, HR.out, HS.out, hSR, by omega, HGG.out, by omega, HB.out⟩
      case measure => rw [HMS.out, HM.out]; exact hSQ
    · by_cases h0 : (dg Q).length = 0
      · have hQ0 := dg_len0 h0
        subst hQ0
        have NC := normalize_c wr _ _ hP (by omega)
        rw [val_dg, ← Nat.gcd_zero_right P, hg] at NC
        have HNC := Lib.hid NC
        obtain ⟨A2, c2, rfl⟩ := hQ.form
        rw [h0]
        clear NC hP hQ hg h0 h2
        go_wp2_with fail
        refine (HNC.out).mono ?_
        rintro e w2 ⟨r, rfl, hO, hB2⟩
        go_wp2_with fail
        go_ret
        exact ⟨_, rfl, hO.mono hB.size, below_then hB hB2⟩
      · have h0i : (((dg Q).length : Int) == 0) = false := by rw [beq_eq_false_iff_ne]; omega
        have h2i : ¬ (2 : Int) < (dg Q).length := by omega
        have hQb := small_of_len (n := Q) (by omega)
        have hQ0 : 0 < Q := by
          rcases Nat.eq_zero_or_pos Q with h | h
          · subst h; exact absurd rfl h0
          · exact h
        by_cases h3 : 2 < (dg P).length
        · have DC := div_c wr _ _ _ _ hP hQ (by omega) (by rw [val_dg]; exact hQ0)
          rw [val_dg, val_dg] at DC
          have HDC := Lib.hid DC
          have h3i : (2 : Int) < (dg P).length := by omega
          have hgg : Nat.gcd Q (P % Q) = Nat.gcd X Y := by rw [Nat.gcd_comm Q, ← Nat.gcd_rec, Nat.gcd_comm, hg]
          have hrb := Nat.mod_lt P hQ0
          have hQ2 := hQ
          obtain ⟨A1, c1, rfl⟩ := hP.form
          obtain ⟨A2, c2, rfl⟩ := hQ.form
          have HQ := Lib.hid hQ2
          clear DC hP hQ hQ2 hg
          go_wp2_with fail
          refine (HDC.out).mono ?_
          rintro e w2 ⟨q, r, rfl, _, hr, hB2⟩
          have hQ3 := HQ.out.below hB2
          have hr3 := hr.num
          generalize P % Q = R at *
          have hB3 := below_then hB hB2
          clear HQ HDC hr hB hB2
          have HU2 := fun wx hB => uint64_d wx _ R (Num.below (w' := wx) hr3 hB) (by omega)
          have HU1 := Lib.hid (uint64_d w2 _ Q hQ3 (by omega))
          have HU := Lib.hid HU2
          have HGG := Lib.hid hgg
          clear HU2 hr3 hQ3 hgg 
          go_wp2_with fail
          refine (HU1.out).mono ?_
          rintro e wx ⟨rfl, hBx⟩
          go_wp2_with fail
          refine (HU.out _ hBx).mono ?_
          rintro e wy ⟨rfl, hBy⟩
          have hB5 := below_then (below_then hB3 hBx) hBy
          have hxb : Q < 18446744073709551616 := by omega
          have hyb : R < 18446744073709551616 := by omega
          clear hBx hBy HU HU1
          go_wp2_with fail
          go_loopw [8, 10] (fun x y wr => ∃ x1 y1 : Nat, x = .int .u64 (x1 : Int) ∧ y = .int .u64 (y1 : Int) ∧ x1 < 18446744073709551616 ∧ y1 < 18446744073709551616 ∧ Nat.gcd x1 y1 = Nat.gcd X Y ∧ Below w.heap.size w wr) (fun _ y _ => (intOf y).toNat)
          case atStart => exact ⟨Q, R, rfl, rfl, hxb, hyb, HGG.out, hB5⟩
          case round =>
            clear hB5
            obtain ⟨x1, y1, rfl, rfl, hx1, hy1, hg1, hB6⟩ := hrel
            rcases Nat.eq_zero_or_pos y1 with hy0 | hy0
            · subst hy0
              rw [Nat.gcd_zero_right] at hg1
              have FC := from_c wr x1 (by omega)
              rw [hg1] at FC
              have HFC := Lib.hid FC
              clear FC
              go_wp2_with fail
              rw [hg1]
              refine (HFC.out).mono ?_
              rintro e w7 ⟨r7, rfl, hO7, hB7⟩
              go_wp2_with fail
              go_ret
              exact ⟨_, rfl, hO7.mono hB6.size, below_then hB6 hB7⟩
            · have hy1n : ((y1 : Int) != 0) = true := by rw [bne_iff_ne]; omega
              have hy1e : ((y1 : Int) == 0) = false := by rw [beq_eq_false_iff_ne]; omega
              have hy1N : ¬ y1 = 0 := by omega
              have hgn : Nat.gcd y1 (x1 % y1) = Nat.gcd X Y := by rw [Nat.gcd_comm y1, ← Nat.gcd_rec, Nat.gcd_comm, hg1]
              have hmd := Nat.mod_lt x1 hy0
              have hme : (x1 : Int) % (y1 : Int) = ((x1 % y1 : Nat) : Int) := rfl
              have HGN := Lib.hid hgn
              have HME := Lib.hid hme
              clear hgn hme hg1
              go_wp2_with fail
              go_quiet (fail)
              go_wp2_with fail
              go_roundw
              case rel => exact ⟨y1, x1 % y1, rfl, by rw [← HME.out], hy1, by omega, HGN.out, below_drewN hB6 _⟩
              case measure => first | (rw [HME.out]; simp [intOf]; omega) | (simp [intOf]; omega)
        · have h3i : ¬ (2 : Int) < (dg P).length := by omega
          have hPb := small_of_len (n := P) (by omega)
          obtain ⟨A1, c1, rfl⟩ := hP.form
          obtain ⟨A2, c2, rfl⟩ := hQ.form
          have HU2 := fun wx hB => uint64_d wx _ Q (Num.below (w' := wx) hQ hB) (by omega)
          have HU1 := Lib.hid (uint64_d wr _ P hP (by omega))
          have HU := Lib.hid HU2
          have HGG := Lib.hid hg
          clear HU2 hQ hP hg 
          go_wp2_with fail
          refine (HU1.out).mono ?_
          rintro e wx ⟨rfl, hBx⟩
          go_wp2_with fail
          refine (HU.out _ hBx).mono ?_
          rintro e wy ⟨rfl, hBy⟩
          have hB5 := below_then (below_then hB hBx) hBy
          have hxb : P < 18446744073709551616 := by omega
          have hyb : Q < 18446744073709551616 := by omega
          clear hBx hBy HU HU1
          go_wp2_with fail
          go_loopw [8, 10] (fun x y wr => ∃ x1 y1 : Nat, x = .int .u64 (x1 : Int) ∧ y = .int .u64 (y1 : Int) ∧ x1 < 18446744073709551616 ∧ y1 < 18446744073709551616 ∧ Nat.gcd x1 y1 = Nat.gcd X Y ∧ Below w.heap.size w wr) (fun _ y _ => (intOf y).toNat)
          case atStart => exact ⟨P, Q, rfl, rfl, hxb, hyb, HGG.out, hB5⟩
          case round =>
            clear hB5
            obtain ⟨x1, y1, rfl, rfl, hx1, hy1, hg1, hB6⟩ := hrel
            rcases Nat.eq_zero_or_pos y1 with hy0 | hy0
            · subst hy0
              rw [Nat.gcd_zero_right] at hg1
              have FC := from_c wr x1 (by omega)
              rw [hg1] at FC
              have HFC := Lib.hid FC
              clear FC
              go_wp2_with fail
              rw [hg1]
              refine (HFC.out).mono ?_
              rintro e w7 ⟨r7, rfl, hO7, hB7⟩
              go_wp2_with fail
              go_ret
              exact ⟨_, rfl, hO7.mono hB6.size, below_then hB6 hB7⟩
            · have hy1n : ((y1 : Int) != 0) = true := by rw [bne_iff_ne]; omega
              have hy1e : ((y1 : Int) == 0) = false := by rw [beq_eq_false_iff_ne]; omega
              have hy1N : ¬ y1 = 0 := by omega
              have hgn : Nat.gcd y1 (x1 % y1) = Nat.gcd X Y := by rw [Nat.gcd_comm y1, ← Nat.gcd_rec, Nat.gcd_comm, hg1]
              have hmd := Nat.mod_lt x1 hy0
              have hme : (x1 : Int) % (y1 : Int) = ((x1 % y1 : Nat) : Int) := rfl
              have HGN := Lib.hid hgn
              have HME := Lib.hid hme
              clear hgn hme hg1
              go_wp2_with fail
              go_quiet (fail)
              go_wp2_with fail
              go_roundw
              case rel => exact ⟨y1, x1 % y1, rfl, by rw [← HME.out], hy1, by omega, HGN.out, below_drewN hB6 _⟩
              case measure => first | (rw [HME.out]; simp [intOf]; omega) | (simp [intOf]; omega)


theorem gcd_c (w : World) (va vb : Value) (xs ys : List Nat) (ha : Num w va xs) (hb : Num w vb ys) (hza : xs.length ≤ 100000000) (hzb : ys.length ≤ 100000000) :
    Calls Tryd.prog 44 #[va, vb] w (RNat w (Nat.gcd (val xs) (val ys))) := by
  rcases Nat.lt_or_ge (val xs) (val ys) with h | h
  · exact gcd_lt w va vb xs ys ha hb hza hzb h
  · exact gcd_ge w va vb xs ys ha hb hza hzb h
end Go.Proofs.YtgjhgpfjeoeojaaDoor

/- The contract of GCD in the form in which the laws use it. -/
namespace Go.Proofs.YtgjhgpfjeoeojaaDoor
open Go.RowKit Dig
set_option linter.unusedVariables false

namespace Dig
theorem gcd_lt_pow {a b k l : Nat} (ha : a < 4294967296 ^ k) (hb : b < 4294967296 ^ l) : Nat.gcd a b < 4294967296 ^ (k + l) := by
  rcases Nat.eq_zero_or_pos a with h | h
  · rw [h, Nat.gcd_zero_left]; exact Nat.lt_of_lt_of_le hb (pow_le (by omega))
  · exact Nat.lt_of_le_of_lt (Nat.le_of_dvd h (Nat.gcd_dvd_left a b)) (Nat.lt_of_lt_of_le ha (pow_le (by omega)))
theorem gcd_facts {x y z : Nat} (hx : 0 < x) : 0 < Nat.gcd x y ∧ x % Nat.gcd x y = 0 ∧ y % Nat.gcd x y = 0 ∧ Nat.gcd (x / Nat.gcd x y) (y / Nat.gcd x y) = 1 ∧ Nat.gcd (x * z) (y * z) = Nat.gcd x y * z := by
  have h := Nat.gcd_pos_of_pos_left y hx
  refine ⟨h, Nat.mod_eq_zero_of_dvd (Nat.gcd_dvd_left x y), Nat.mod_eq_zero_of_dvd (Nat.gcd_dvd_right x y), ?_, Nat.gcd_mul_right x z y⟩
  rw [Nat.gcd_div (Nat.gcd_dvd_left x y) (Nat.gcd_dvd_right x y), Nat.div_self h]
end Dig
section
variable {w : World} {va vb : Value} {a b k l : Nat}
theorem gcd_v (ha : NumV w va a k) (hb : NumV w vb b l) (hk : k ≤ 1000000) (hl : l ≤ 1000000) : Calls Tryd.prog 44 #[va, vb] w (RCan w (Nat.gcd a b) (k + l)) := by
  have hf := gcd_lt_pow ha.lt hb.lt
  obtain ⟨L, h1, h2, h3⟩ := ha
  obtain ⟨M, g1, g2, g3⟩ := hb
  subst h2
  subst g2
  exact (gcd_c w va vb L M h1 g1 (by omega) (by omega)).mono fun e w' h => RCan.of h hf
end
end Go.Proofs.YtgjhgpfjeoeojaaDoor

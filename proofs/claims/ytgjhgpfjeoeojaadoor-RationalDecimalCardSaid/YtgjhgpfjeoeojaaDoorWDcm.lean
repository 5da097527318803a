/- The walk of the law RationalDecimal: it returns true and leaves what was there. -/
import Derived.Test.YtgjhgpfjeoeojaaDoorDcm
import Derived.Test.YtgjhgpfjeoeojaaDoorKnow2
import Derived.Test.YtgjhgpfjeoeojaaDoorPlans
import Derived.Test.YtgjhgpfjeoeojaaDoorBown
namespace Go.Proofs.YtgjhgpfjeoeojaaDoor
open Go.RowKit Dig
set_option linter.unusedVariables false

namespace Dig
theorem and_u8 : ∀ z : Fin 256, ∃ q : Nat, q < 4 ∧ bits .and .u8 ((z.val : Nat) : Int) 3 = (q : Int) := fun z => ⟨z.val % 4, Nat.mod_lt _ (by omega), (by decide +kernel : ∀ z : Fin 256, bits .and .u8 ((z.val : Nat) : Int) 3 = ((z.val % 4 : Nat) : Int)) z⟩
/-- The digits with zeros ahead. -/
def zpad (j : Nat) (l : List UInt8) : List UInt8 := List.replicate j 48 ++ l
theorem zpad_step (j : Nat) (l : List UInt8) : (⟨#[48]⟩ : ByteArray) ++ ⟨(zpad j l).toArray⟩ = ⟨(zpad (j + 1) l).toArray⟩ := mk_app [48] (zpad j l)
theorem zpad_length (j : Nat) (l : List UInt8) : (zpad j l).length = j + l.length := by unfold zpad; simp
theorem dtext_some (n : Nat) : 0 < (dtext n).length := by
  obtain ⟨_, _, h3⟩ := dtext_spec n
  cases hl : dtext n with
  | nil => rw [hl] at h3; simp [lead] at h3
  | cons c t => simp
theorem frz_nat (a b : Nat) : frz (a : Int) (b : Int) = fr false a b := by
  unfold frz
  have h1 : decide ((a : Int) < 0) = false := by simp
  have h2 : decide ((b : Int) < 0) = false := by simp
  rw [h1, h2]
  rfl
end Dig
theorem CanF.put3 {w : World} {v : Value} {q : Rat} {k g m e m' e' : Nat} {p : Bool} {A A' : Option Addr} (h : CanF w v q k) (hF : Fcl w g p (.slice A m e) (.slice A' m' e')) (a b c : Value) : CanF (stor3 w g a b c) v q k := by
  obtain ⟨vn, vd, ev, hn, hd⟩ := h
  exact ⟨vn, vd, ev, hn.put3 hF a b c, hd.put3 hF a b c⟩
/-- A variable that holds a fraction is given another one. -/
theorem var_put (w : World) (g : Nat) (b : Bool) (x y : Value) : ∃ W, ((w.setCell ⟨g, 0, none⟩ (.bool b)).setCell ⟨g, 1, none⟩ x).setCell ⟨g, 2, none⟩ y = W ∧ W = stor3 w g (.bool b) x y := ⟨_, rfl, rfl⟩
set_option maxRecDepth 20000 in
set_option maxHeartbeats 32000000 in
theorem decimal_true (w : World) (x y z : Nat) (hx : x < 4294967296) (hy : y < 4294967296) (hz : z < 256) (hM : MaxL w) :
    Calls Tryd.prog 4 #[.bool true, .int .u32 (x : Int), .int .u32 (y : Int), .int .u8 (z : Int)] w (RVal w (.bool true)) := by
  obtain ⟨q, hq4, hq⟩ := and_u8 ⟨z, hz⟩
  have hq : bits .and .u8 (z : Int) 3 = (q : Int) := hq
  have FR := Lib.hid (fun w1 n (hn : n < 18446744073709551616) => from_v (w := w1) n hn)
  have FM := Lib.hid (fun w1 v n (h : Can w1 v n 2) => format_v (w := w1) h.numV (by omega))
  obtain ⟨hxd, hxv, _⟩ := dtext_spec x
  obtain ⟨hyd, hyv, _⟩ := dtext_spec y
  have hxl := dtext_length x 1 (by omega) (by omega)
  have hyl := dtext_length y 1 (by omega) (by omega)
  have hxp := dtext_some x
  have hyp := dtext_some y
  have FX := fun w1 v (h : Can w1 v x 2) => FM.out w1 v x h
  have FY := fun w1 v (h : Can w1 v y 2) => FM.out w1 v y h
  unfold RText at FX FY
  generalize dtext x = xs at *
  generalize dtext y = ys at *
  have FX := Lib.hid FX
  have FY := Lib.hid FY
  go_enter Tryd.func4, Tryd.ntmps4
  go_wp2_with fail
  refine (FR.out _ x (by omega)).mono ?_
  rintro e w1 ⟨u, rfl, hu, _, hB1⟩
  go_wp2_with fail
  refine (FX.out _ _ hu).mono ?_
  rintro e w2 ⟨rfl, hB2⟩
  have HB := below_then hB1 hB2
  clear hu hB1 hB2
  go_wp2_with fail
  refine (FR.out _ y (by omega)).mono ?_
  rintro e w3 ⟨u, rfl, hu, _, hB1⟩
  go_wp2_with fail
  refine (FY.out _ _ hu).mono ?_
  rintro e w4 ⟨rfl, hB2⟩
  have HB := below_then HB (below_then hB1 hB2)
  clear hu hB1 hB2 FR FM FX FY
  go_wp2_with fail
  go_loopw [10, 12] (fun pv iv wr => ∃ j : Nat, j ≤ q ∧ iv = .int .u8 (j : Int) ∧ pv = .string ⟨(zpad j ys).toArray⟩ ∧ w4 = wr) (fun _ iv _ => q - (intOf iv).toNat)
  case atStart => exact ⟨0, Nat.zero_le _, rfl, rfl, rfl⟩
  case round =>
    obtain ⟨j, hj, rfl, rfl, rfl⟩ := hrel
    by_cases hjq : j < q
    · have HI : (j : Int) < q := by omega
      have hzl : (zpad j ys).length ≤ 13 := by rw [zpad_length]; omega
      go_wp2_with fail
      go_roundw
      case rel => exact ⟨j + 1, by omega, by go_num, by rw [zpad_step], trivial⟩
      case measure => simp [intOf]; omega
    · have HI : ¬ (j : Int) < q := by omega
      obtain rfl : j = q := by omega
      have hpd : ∀ c ∈ zpad j ys, isDig c = true := digits_zeros j hyd
      have hpv : dec (zpad j ys) = y := (dec_zeros j ys).trans hyv
      have hpl : (zpad j ys).length ≤ 13 := by rw [zpad_length]; omega
      have hpp : 0 < (zpad j ys).length := by rw [zpad_length]; omega
      generalize zpad j ys = ps at *
      have E1 : ferr (45 :: (xs ++ 46 :: ps)) = 0 := decimal_err hxd hpd hxp hpp true
      have V1 : fval (45 :: (xs ++ 46 :: ps)) = _ := decimal_val hxd hpd hxp hpp true
      have E2 : ferr (45 :: (xs ++ 47 :: ps)) = _ := quotient_err hxd hpd hxp hpp true
      have V2 : fval (45 :: (xs ++ 47 :: ps)) = _ := quotient_val hxd hpd hxp hpp true
      rw [hxv, hpv] at V1 V2
      rw [hpv] at E2
      have L1 : (45 :: (xs ++ 46 :: ps)).length ≤ 120 := by simp; omega
      have L2 : (45 :: (xs ++ 47 :: ps)).length ≤ 120 := by simp; omega
      have PS1 := fun w1 (hB : Below w.heap.size w w1) => parsef_v w1 ⟨(45 :: (xs ++ 46 :: ps)).toArray⟩ (by show Array.size _ ≤ 120; simpa using L1) (hM.below hB)
      have PS2 := fun w1 (hB : Below w.heap.size w w1) => parsef_v w1 ⟨(45 :: (xs ++ 47 :: ps)).toArray⟩ (by show Array.size _ ≤ 120; simpa using L2) (hM.below hB)
      clear L1 L2
      have PT1 := Lib.hid PS1
      have PT2 := Lib.hid PS2
      clear PS1 PS2
      go_wp2_with fail
      go_loopw [11, 13] (fun sv iv wx => ∃ i : Nat, i ≤ ps.length ∧ iv = .int .i64 (i : Int) ∧ (∃ s : Nat, s = 10 ^ i ∧ sv = .int .i64 (s : Int)) ∧ w4 = wx) (fun _ iv _ => ps.length - (intOf iv).toNat)
      case atStart => exact ⟨0, Nat.zero_le _, rfl, ⟨1, rfl, rfl⟩, rfl⟩
      case round =>
        obtain ⟨i, hi, rfl, ⟨s, hs, rfl⟩, rfl⟩ := hrel
        by_cases hiL : i < ps.length
        · have HI2 : (i : Int) < ps.length := by omega
          have hs12 : s ≤ 1000000000000 := by
            rw [hs]
            exact (Nat.pow_le_pow_right (by omega) (by omega) : 10 ^ i ≤ 10 ^ 12)
          have hsn := (Nat.pow_succ 10 i)
          rw [← hs] at hsn
          clear hs
          go_wp2_with fail
          go_roundw
          case rel => exact ⟨i + 1, by omega, by go_num, ⟨s * 10, hsn.symm, by go_num⟩, trivial⟩
          case measure => simp [intOf]; omega
        · have HI2 : ¬ (i : Int) < ps.length := by omega
          have hi9 : i = ps.length := by omega
          have hs13 : s ≤ 10000000000000 := by
            rw [hs]
            exact (Nat.pow_le_pow_right (by omega) (by omega) : 10 ^ i ≤ 10 ^ 13)
          have hs0 : s ≠ 0 := by rw [hs]; exact Nat.ne_of_gt (Nat.pow_pos (by omega))
          rw [← hi9, ← hs] at V1
          have PT1 : ∀ w1, Below w.heap.size w w1 → Calls Tryd.prog 12 #[.string ⟨(45 :: (xs ++ 46 :: ps)).toArray⟩] w1 (RCanE w1 (fr true (x * s + y) s) 26) := fun w1 hB => (PT1.out w1 hB).mono fun e w' h => V1 ▸ h.1 E1
          have S1 : (((⟨#[45]⟩ : ByteArray) ++ ⟨xs.toArray⟩) ++ ⟨#[46]⟩) ++ ⟨ps.toArray⟩ = ⟨(45 :: (xs ++ 46 :: ps)).toArray⟩ := by
            rw [show (⟨#[45]⟩ : ByteArray) = ⟨([45] : List UInt8).toArray⟩ from rfl, mk_app, show (⟨#[46]⟩ : ByteArray) = ⟨([46] : List UInt8).toArray⟩ from rfl, mk_app, mk_app]
            simp
          have S2 : (((⟨#[45]⟩ : ByteArray) ++ ⟨xs.toArray⟩) ++ ⟨#[47]⟩) ++ ⟨ps.toArray⟩ = ⟨(45 :: (xs ++ 47 :: ps)).toArray⟩ := by
            rw [show (⟨#[45]⟩ : ByteArray) = ⟨([45] : List UInt8).toArray⟩ from rfl, mk_app, show (⟨#[47]⟩ : ByteArray) = ⟨([47] : List UInt8).toArray⟩ from rfl, mk_app, mk_app]
            simp
          have NW1 := fun w1 => new_v w1 (y : Int) (s : Int) (by unfold Fits64; omega) (by unfold Fits64; omega) (by omega)
          have NW2 := fun w1 => new_v w1 (x : Int) 1 (by unfold Fits64; omega) (by unfold Fits64; omega) (by omega)
          have NW3 := fun w1 (hy0 : y ≠ 0) => new_v w1 (x : Int) (y : Int) (by unfold Fits64; omega) (by unfold Fits64; omega) (by omega)
          rw [frz_nat] at NW1 NW3
          rw [show (1 : Int) = ((1 : Nat) : Int) from rfl, frz_nat, show ((1 : Nat) : Int) = 1 from rfl] at NW2
          have NW1 := Lib.hid NW1
          have NW2 := Lib.hid NW2
          have NW3 := Lib.hid NW3
          have PT1 := Lib.hid PT1
          have HS := Lib.hid hs0
          have HM := Lib.hid hM
          have E2 := Lib.hid E2
          have V2 := Lib.hid V2
          clear E1 V1 hM hs hpd hpv hyd hyv hyl hyp hxd hxv hq
          go_wp2_with fail
          refine (PT1.out _ HB).mono ?_
          rintro e k1 ⟨av, rfl, ha, hB⟩
          have HB := below_then HB hB
          clear hB
          obtain ⟨aZ, aC, aO, aR, aC', aO', aR', rfl, ap1, ap2, ap3⟩ := ha.parts
          clear ap1 ap2 ap3
          have za := HB.size
          obtain ⟨k2, ga, ewa, ega, hB, Fa⟩ := var1 k1 aZ (.slice aC aO aR) (.slice aC' aO' aR')
          have ha := CanF.below ha hB
          have HB := below_then HB hB
          clear hB
          go_wp2_with fail
          refine (NW1.out _).mono ?_
          rintro e k3 ⟨bv, rfl, hb, hB⟩
          have ha := CanF.below ha hB
          have Fa := Fa.below hB
          have HB := below_then HB hB
          clear hB
          obtain ⟨bZ, bC, bO, bR, bC', bO', bR', rfl, bp1, bp2, bp3⟩ := hb.parts
          clear bp1 bp2 bp3
          have zb := HB.size
          have lFab := Fa.lt
          obtain ⟨k4, gb, ewb, egb, hB, Fb⟩ := var1 k3 bZ (.slice bC bO bR) (.slice bC' bO' bR')
          have ha := CanF.below ha hB
          have hb := CanF.below hb hB
          have Fa := Fa.below hB
          have HB := below_then HB hB
          clear hB
          go_wp2_with fail
          refine (NW2.out _).mono ?_
          rintro e k5 ⟨cv, rfl, hc, hB⟩
          have ha := CanF.below ha hB
          have hb := CanF.below hb hB
          have Fa := Fa.below hB
          have Fb := Fb.below hB
          have HB := below_then HB hB
          clear hB
          obtain ⟨cZ, cC, cO, cR, cC', cO', cR', rfl, cp1, cp2, cp3⟩ := hc.parts
          clear cp1 cp2 cp3
          have zc := HB.size
          have lFac := Fa.lt
          have lFbc := Fb.lt
          obtain ⟨k6, gc, ewc, egc, hB, Fc⟩ := var1 k5 cZ (.slice cC cO cR) (.slice cC' cO' cR')
          have ha := CanF.below ha hB
          have hb := CanF.below hb hB
          have hc := CanF.below hc hB
          have Fa := Fa.below hB
          have Fb := Fb.below hB
          have HB := below_then HB hB
          clear hB
          obtain ⟨cb0, cb1, cb2⟩ := Fb.cells
          obtain ⟨db0, db1, db2⟩ := Fb.frozen
          obtain ⟨cc0, cc1, cc2⟩ := Fc.cells
          obtain ⟨dc0, dc1, dc2⟩ := Fc.frozen
          go_wp2_with fail
          refine (addf_v hb.fracV hc.fracV (by omega) (by omega) (by omega) (by omega)).mono ?_
          rintro e k7 ⟨sv, rfl, hs, hB⟩
          clear cb0 cb1 cb2 db0 db1 db2
          clear cc0 cc1 cc2 dc0 dc1 dc2
          have ha := CanF.below ha hB
          have hb := CanF.below hb hB
          have hc := CanF.below hc hB
          have Fa := Fa.below hB
          have Fb := Fb.below hB
          have Fc := Fc.below hB
          have HB := below_then HB hB
          clear hB
          clear hb hc
          obtain ⟨sZ, sC, sO, sR, sC', sO', sR', rfl, sp1, sp2, sp3⟩ := hs.parts
          clear sp1 sp2 sp3
          obtain ⟨cb0, cb1, cb2⟩ := Fb.cells
          obtain ⟨db0, db1, db2⟩ := Fb.frozen
          obtain ⟨k8, eps, ef⟩ := var_put k7 gb sZ (.slice sC sO sR) (.slice sC' sO' sR')
          have ha := CanF.put3 ha Fb (.bool sZ) (.slice sC sO sR) (.slice sC' sO' sR')
          have hs := CanF.put3 hs Fb (.bool sZ) (.slice sC sO sR) (.slice sC' sO' sR')
          have Fa := Fa.far (g2 := gb) (by omega) (.bool sZ) (.slice sC sO sR) (.slice sC' sO' sR')
          have Fc := Fc.far (g2 := gb) (by omega) (.bool sZ) (.slice sC sO sR) (.slice sC' sO' sR')
          have HB := below_put3 HB (g := gb) (by omega) (.bool sZ) (.slice sC sO sR) (.slice sC' sO' sR')
          have Fb := Fb.put3 sZ (.slice sC sO sR) (.slice sC' sO' sR')
          rw [← ef] at HB ha hs Fa Fb Fc
          clear ef
          skip
          obtain ⟨cb0, cb1, cb2⟩ := Fb.cells
          obtain ⟨db0, db1, db2⟩ := Fb.frozen
          go_wp2_with fail
          refine (negf_v hs.fracV (by omega) (by omega)).mono ?_
          rintro e k9 ⟨nv, rfl, hn, hB⟩
          have ha := CanF.below ha hB
          have hs := CanF.below hs hB
          have Fa := Fa.below hB
          have Fb := Fb.below hB
          have Fc := Fc.below hB
          have HB := below_then HB hB
          clear hB
          clear hs
          obtain ⟨nZ, nC, nO, nR, nC', nO', nR', rfl, np1, np2, np3⟩ := hn.parts
          clear np1 np2 np3
          obtain ⟨cb0, cb1, cb2⟩ := Fb.cells
          obtain ⟨db0, db1, db2⟩ := Fb.frozen
          obtain ⟨k10, epn, ef⟩ := var_put k9 gb nZ (.slice nC nO nR) (.slice nC' nO' nR')
          have ha := CanF.put3 ha Fb (.bool nZ) (.slice nC nO nR) (.slice nC' nO' nR')
          have hn := CanF.put3 hn Fb (.bool nZ) (.slice nC nO nR) (.slice nC' nO' nR')
          have Fa := Fa.far (g2 := gb) (by omega) (.bool nZ) (.slice nC nO nR) (.slice nC' nO' nR')
          have Fc := Fc.far (g2 := gb) (by omega) (.bool nZ) (.slice nC nO nR) (.slice nC' nO' nR')
          have HB := below_put3 HB (g := gb) (by omega) (.bool nZ) (.slice nC nO nR) (.slice nC' nO' nR')
          have Fb := Fb.put3 nZ (.slice nC nO nR) (.slice nC' nO' nR')
          rw [← ef] at HB ha hn Fa Fb Fc
          clear ef
          by_cases hy0 : y = 0
          · subst hy0
            have hE : ferr (chars ⟨(45 :: (xs ++ 47 :: ps)).toArray⟩) = 20 := E2.out.trans (if_pos rfl)
            have PE := Lib.hid (fun w1 hB => (PT2.out w1 hB).mono fun e w' h => (show RErr w1 20 e w' from by have h1 := h.2 (by rw [hE]; decide); rwa [hE] at h1))
            clear hE
            go_wp2_with fail
            refine (PE.out _ HB).mono ?_
            rintro e k11 ⟨rfl, hB⟩
            have ha := CanF.below ha hB
            have hn := CanF.below hn hB
            have Fa := Fa.below hB
            have Fb := Fb.below hB
            have Fc := Fc.below hB
            have HB := below_then HB hB
            clear hB
            have hB : Below k11.heap.size k11 (k11.alloc (.cells #[.bool false, .slice none 0 0, .slice none 0 0] 25)) := (Below.refl _ _).alloc (Nat.le_refl _) _
            have ha := CanF.below ha hB
            have hn := CanF.below hn hB
            have Fa := Fa.below hB
            have Fb := Fb.below hB
            have Fc := Fc.below hB
            have HB := below_then HB hB
            clear hB
            obtain ⟨ca0, ca1, ca2⟩ := Fa.cells
            obtain ⟨da0, da1, da2⟩ := Fa.frozen
            obtain ⟨cb0, cb1, cb2⟩ := Fb.cells
            obtain ⟨db0, db1, db2⟩ := Fb.frozen
            go_wp2_with fail
            refine (same_ft ha hn ((decimal_sum true x _ s HS.out).trans (if_pos rfl))).mono ?_
            rintro e k12 ⟨rfl, hB⟩
            clear ca0 ca1 ca2 da0 da1 da2
            clear cb0 cb1 cb2 db0 db1 db2
            have ha := CanF.below ha hB
            have hn := CanF.below hn hB
            have Fa := Fa.below hB
            have Fb := Fb.below hB
            have Fc := Fc.below hB
            have HB := below_then HB hB
            clear hB
            go_wp2_with fail
            refine (known2_v _ (HM.out.below HB)).mono ?_
            rintro e k13 ⟨rfl, hB⟩
            have ha := CanF.below ha hB
            have hn := CanF.below hn hB
            have Fa := Fa.below hB
            have Fb := Fb.below hB
            have Fc := Fc.below hB
            have HB := below_then HB hB
            clear hB
            go_wp2_with fail
            go_ret
            exact ⟨rfl, HB⟩
          · have hyz : ((y : Int) == 0) = false := by rw [beq_eq_false_iff_ne]; omega
            have hE : ferr (chars ⟨(45 :: (xs ++ 47 :: ps)).toArray⟩) = 0 := E2.out.trans (if_neg hy0)
            have PE := Lib.hid (fun w1 hB => (PT2.out w1 hB).mono fun e w' h => (show RCanE w1 (fr true x y) 26 e w' from V2.out ▸ h.1 hE))
            clear hE
            have NW3 := Lib.hid (fun w1 => NW3.out w1 hy0)
            go_wp2_with fail
            refine (PE.out _ HB).mono ?_
            rintro e k11 ⟨dv, rfl, hd, hB⟩
            have ha := CanF.below ha hB
            have hn := CanF.below hn hB
            have Fa := Fa.below hB
            have Fb := Fb.below hB
            have Fc := Fc.below hB
            have HB := below_then HB hB
            clear hB
            obtain ⟨dZ, dC, dO, dR, dC', dO', dR', rfl, dp1, dp2, dp3⟩ := hd.parts
            clear dp1 dp2 dp3
            have zd := HB.size
            have lFad := Fa.lt
            have lFbd := Fb.lt
            have lFcd := Fc.lt
            obtain ⟨k12, gd, ewd, egd, hB, Fd⟩ := var1 k11 dZ (.slice dC dO dR) (.slice dC' dO' dR')
            have ha := CanF.below ha hB
            have hn := CanF.below hn hB
            have hd := CanF.below hd hB
            have Fa := Fa.below hB
            have Fb := Fb.below hB
            have Fc := Fc.below hB
            have HB := below_then HB hB
            clear hB
            go_wp2_with fail
            refine (NW3.out _).mono ?_
            rintro e k13 ⟨iv, rfl, hi, hB⟩
            have ha := CanF.below ha hB
            have hn := CanF.below hn hB
            have hd := CanF.below hd hB
            have Fa := Fa.below hB
            have Fb := Fb.below hB
            have Fc := Fc.below hB
            have Fd := Fd.below hB
            have HB := below_then HB hB
            clear hB
            obtain ⟨iZ, iC, iO, iR, iC', iO', iR', rfl, ip1, ip2, ip3⟩ := hi.parts
            clear ip1 ip2 ip3
            have zi := HB.size
            have lFai := Fa.lt
            have lFbi := Fb.lt
            have lFci := Fc.lt
            have lFdi := Fd.lt
            obtain ⟨k14, gi, ewi, egi, hB, Fi⟩ := var1 k13 iZ (.slice iC iO iR) (.slice iC' iO' iR')
            have ha := CanF.below ha hB
            have hn := CanF.below hn hB
            have hd := CanF.below hd hB
            have hi := CanF.below hi hB
            have Fa := Fa.below hB
            have Fb := Fb.below hB
            have Fc := Fc.below hB
            have Fd := Fd.below hB
            have HB := below_then HB hB
            clear hB
            obtain ⟨ci0, ci1, ci2⟩ := Fi.cells
            obtain ⟨di0, di1, di2⟩ := Fi.frozen
            go_wp2_with fail
            refine (negf_v hi.fracV (by omega) (by omega)).mono ?_
            rintro e k15 ⟨mv, rfl, hm, hB⟩
            have ha := CanF.below ha hB
            have hn := CanF.below hn hB
            have hd := CanF.below hd hB
            have hi := CanF.below hi hB
            have Fa := Fa.below hB
            have Fb := Fb.below hB
            have Fc := Fc.below hB
            have Fd := Fd.below hB
            have Fi := Fi.below hB
            have HB := below_then HB hB
            clear hB
            clear hi
            obtain ⟨mZ, mC, mO, mR, mC', mO', mR', rfl, mp1, mp2, mp3⟩ := hm.parts
            clear mp1 mp2 mp3
            obtain ⟨ci0, ci1, ci2⟩ := Fi.cells
            obtain ⟨di0, di1, di2⟩ := Fi.frozen
            obtain ⟨k16, epm, ef⟩ := var_put k15 gi mZ (.slice mC mO mR) (.slice mC' mO' mR')
            have ha := CanF.put3 ha Fi (.bool mZ) (.slice mC mO mR) (.slice mC' mO' mR')
            have hn := CanF.put3 hn Fi (.bool mZ) (.slice mC mO mR) (.slice mC' mO' mR')
            have hd := CanF.put3 hd Fi (.bool mZ) (.slice mC mO mR) (.slice mC' mO' mR')
            have hm := CanF.put3 hm Fi (.bool mZ) (.slice mC mO mR) (.slice mC' mO' mR')
            have Fa := Fa.far (g2 := gi) (by omega) (.bool mZ) (.slice mC mO mR) (.slice mC' mO' mR')
            have Fb := Fb.far (g2 := gi) (by omega) (.bool mZ) (.slice mC mO mR) (.slice mC' mO' mR')
            have Fc := Fc.far (g2 := gi) (by omega) (.bool mZ) (.slice mC mO mR) (.slice mC' mO' mR')
            have Fd := Fd.far (g2 := gi) (by omega) (.bool mZ) (.slice mC mO mR) (.slice mC' mO' mR')
            have HB := below_put3 HB (g := gi) (by omega) (.bool mZ) (.slice mC mO mR) (.slice mC' mO' mR')
            have Fi := Fi.put3 mZ (.slice mC mO mR) (.slice mC' mO' mR')
            rw [← ef] at HB ha hn hd hm Fa Fb Fc Fd Fi
            clear ef
            obtain ⟨ca0, ca1, ca2⟩ := Fa.cells
            obtain ⟨da0, da1, da2⟩ := Fa.frozen
            obtain ⟨cb0, cb1, cb2⟩ := Fb.cells
            obtain ⟨db0, db1, db2⟩ := Fb.frozen
            go_wp2_with fail
            refine (same_ft ha hn ((decimal_sum true x _ s HS.out).trans (if_pos rfl))).mono ?_
            rintro e k17 ⟨rfl, hB⟩
            clear ca0 ca1 ca2 da0 da1 da2
            clear cb0 cb1 cb2 db0 db1 db2
            have ha := CanF.below ha hB
            have hn := CanF.below hn hB
            have hd := CanF.below hd hB
            have hm := CanF.below hm hB
            have Fa := Fa.below hB
            have Fb := Fb.below hB
            have Fc := Fc.below hB
            have Fd := Fd.below hB
            have Fi := Fi.below hB
            have HB := below_then HB hB
            clear hB
            obtain ⟨cd0, cd1, cd2⟩ := Fd.cells
            obtain ⟨dd0, dd1, dd2⟩ := Fd.frozen
            obtain ⟨ci0, ci1, ci2⟩ := Fi.cells
            obtain ⟨di0, di1, di2⟩ := Fi.frozen
            go_wp2_with fail
            refine (same_ft hd hm (by rw [fr_neg]; rfl)).mono ?_
            rintro e k18 ⟨rfl, hB⟩
            clear cd0 cd1 cd2 dd0 dd1 dd2
            clear ci0 ci1 ci2 di0 di1 di2
            have ha := CanF.below ha hB
            have hn := CanF.below hn hB
            have hd := CanF.below hd hB
            have hm := CanF.below hm hB
            have Fa := Fa.below hB
            have Fb := Fb.below hB
            have Fc := Fc.below hB
            have Fd := Fd.below hB
            have Fi := Fi.below hB
            have HB := below_then HB hB
            clear hB
            go_wp2_with fail
            refine (known2_v _ (HM.out.below HB)).mono ?_
            rintro e k19 ⟨rfl, hB⟩
            have ha := CanF.below ha hB
            have hn := CanF.below hn hB
            have hd := CanF.below hd hB
            have hm := CanF.below hm hB
            have Fa := Fa.below hB
            have Fb := Fb.below hB
            have Fc := Fc.below hB
            have Fd := Fd.below hB
            have Fi := Fi.below hB
            have HB := below_then HB hB
            clear hB
            go_wp2_with fail
            go_ret
            exact ⟨rfl, HB⟩
set_option maxRecDepth 20000 in
set_option maxHeartbeats 32000000 in
theorem decimal_false (w : World) (x y z : Nat) (hx : x < 4294967296) (hy : y < 4294967296) (hz : z < 256) (hM : MaxL w) :
    Calls Tryd.prog 4 #[.bool false, .int .u32 (x : Int), .int .u32 (y : Int), .int .u8 (z : Int)] w (RVal w (.bool true)) := by
  obtain ⟨q, hq4, hq⟩ := and_u8 ⟨z, hz⟩
  have hq : bits .and .u8 (z : Int) 3 = (q : Int) := hq
  have FR := Lib.hid (fun w1 n (hn : n < 18446744073709551616) => from_v (w := w1) n hn)
  have FM := Lib.hid (fun w1 v n (h : Can w1 v n 2) => format_v (w := w1) h.numV (by omega))
  obtain ⟨hxd, hxv, _⟩ := dtext_spec x
  obtain ⟨hyd, hyv, _⟩ := dtext_spec y
  have hxl := dtext_length x 1 (by omega) (by omega)
  have hyl := dtext_length y 1 (by omega) (by omega)
  have hxp := dtext_some x
  have hyp := dtext_some y
  have FX := fun w1 v (h : Can w1 v x 2) => FM.out w1 v x h
  have FY := fun w1 v (h : Can w1 v y 2) => FM.out w1 v y h
  unfold RText at FX FY
  generalize dtext x = xs at *
  generalize dtext y = ys at *
  have FX := Lib.hid FX
  have FY := Lib.hid FY
  go_enter Tryd.func4, Tryd.ntmps4
  go_wp2_with fail
  refine (FR.out _ x (by omega)).mono ?_
  rintro e w1 ⟨u, rfl, hu, _, hB1⟩
  go_wp2_with fail
  refine (FX.out _ _ hu).mono ?_
  rintro e w2 ⟨rfl, hB2⟩
  have HB := below_then hB1 hB2
  clear hu hB1 hB2
  go_wp2_with fail
  refine (FR.out _ y (by omega)).mono ?_
  rintro e w3 ⟨u, rfl, hu, _, hB1⟩
  go_wp2_with fail
  refine (FY.out _ _ hu).mono ?_
  rintro e w4 ⟨rfl, hB2⟩
  have HB := below_then HB (below_then hB1 hB2)
  clear hu hB1 hB2 FR FM FX FY
  go_wp2_with fail
  go_loopw [10, 12] (fun pv iv wr => ∃ j : Nat, j ≤ q ∧ iv = .int .u8 (j : Int) ∧ pv = .string ⟨(zpad j ys).toArray⟩ ∧ w4 = wr) (fun _ iv _ => q - (intOf iv).toNat)
  case atStart => exact ⟨0, Nat.zero_le _, rfl, rfl, rfl⟩
  case round =>
    obtain ⟨j, hj, rfl, rfl, rfl⟩ := hrel
    by_cases hjq : j < q
    · have HI : (j : Int) < q := by omega
      have hzl : (zpad j ys).length ≤ 13 := by rw [zpad_length]; omega
      go_wp2_with fail
      go_roundw
      case rel => exact ⟨j + 1, by omega, by go_num, by rw [zpad_step], trivial⟩
      case measure => simp [intOf]; omega
    · have HI : ¬ (j : Int) < q := by omega
      obtain rfl : j = q := by omega
      have hpd : ∀ c ∈ zpad j ys, isDig c = true := digits_zeros j hyd
      have hpv : dec (zpad j ys) = y := (dec_zeros j ys).trans hyv
      have hpl : (zpad j ys).length ≤ 13 := by rw [zpad_length]; omega
      have hpp : 0 < (zpad j ys).length := by rw [zpad_length]; omega
      generalize zpad j ys = ps at *
      have E1 : ferr (xs ++ 46 :: ps) = 0 := decimal_err hxd hpd hxp hpp false
      have V1 : fval (xs ++ 46 :: ps) = _ := decimal_val hxd hpd hxp hpp false
      have E2 : ferr (xs ++ 47 :: ps) = _ := quotient_err hxd hpd hxp hpp false
      have V2 : fval (xs ++ 47 :: ps) = _ := quotient_val hxd hpd hxp hpp false
      rw [hxv, hpv] at V1 V2
      rw [hpv] at E2
      have L1 : (xs ++ 46 :: ps).length ≤ 120 := by simp; omega
      have L2 : (xs ++ 47 :: ps).length ≤ 120 := by simp; omega
      have PS1 := fun w1 (hB : Below w.heap.size w w1) => parsef_v w1 ⟨(xs ++ 46 :: ps).toArray⟩ (by show Array.size _ ≤ 120; simpa using L1) (hM.below hB)
      have PS2 := fun w1 (hB : Below w.heap.size w w1) => parsef_v w1 ⟨(xs ++ 47 :: ps).toArray⟩ (by show Array.size _ ≤ 120; simpa using L2) (hM.below hB)
      clear L1 L2
      have PT1 := Lib.hid PS1
      have PT2 := Lib.hid PS2
      clear PS1 PS2
      go_wp2_with fail
      go_loopw [11, 13] (fun sv iv wx => ∃ i : Nat, i ≤ ps.length ∧ iv = .int .i64 (i : Int) ∧ (∃ s : Nat, s = 10 ^ i ∧ sv = .int .i64 (s : Int)) ∧ w4 = wx) (fun _ iv _ => ps.length - (intOf iv).toNat)
      case atStart => exact ⟨0, Nat.zero_le _, rfl, ⟨1, rfl, rfl⟩, rfl⟩
      case round =>
        obtain ⟨i, hi, rfl, ⟨s, hs, rfl⟩, rfl⟩ := hrel
        by_cases hiL : i < ps.length
        · have HI2 : (i : Int) < ps.length := by omega
          have hs12 : s ≤ 1000000000000 := by
            rw [hs]
            exact (Nat.pow_le_pow_right (by omega) (by omega) : 10 ^ i ≤ 10 ^ 12)
          have hsn := (Nat.pow_succ 10 i)
          rw [← hs] at hsn
          clear hs
          go_wp2_with fail
          go_roundw
          case rel => exact ⟨i + 1, by omega, by go_num, ⟨s * 10, hsn.symm, by go_num⟩, trivial⟩
          case measure => simp [intOf]; omega
        · have HI2 : ¬ (i : Int) < ps.length := by omega
          have hi9 : i = ps.length := by omega
          have hs13 : s ≤ 10000000000000 := by
            rw [hs]
            exact (Nat.pow_le_pow_right (by omega) (by omega) : 10 ^ i ≤ 10 ^ 13)
          have hs0 : s ≠ 0 := by rw [hs]; exact Nat.ne_of_gt (Nat.pow_pos (by omega))
          rw [← hi9, ← hs] at V1
          have PT1 : ∀ w1, Below w.heap.size w w1 → Calls Tryd.prog 12 #[.string ⟨(xs ++ 46 :: ps).toArray⟩] w1 (RCanE w1 (fr false (x * s + y) s) 26) := fun w1 hB => (PT1.out w1 hB).mono fun e w' h => V1 ▸ h.1 E1
          have S1 : (((⟨#[]⟩ : ByteArray) ++ ⟨xs.toArray⟩) ++ ⟨#[46]⟩) ++ ⟨ps.toArray⟩ = ⟨(xs ++ 46 :: ps).toArray⟩ := by
            rw [show (⟨#[]⟩ : ByteArray) = ⟨([] : List UInt8).toArray⟩ from rfl, mk_app, show (⟨#[46]⟩ : ByteArray) = ⟨([46] : List UInt8).toArray⟩ from rfl, mk_app, mk_app]
            simp
          have S2 : (((⟨#[]⟩ : ByteArray) ++ ⟨xs.toArray⟩) ++ ⟨#[47]⟩) ++ ⟨ps.toArray⟩ = ⟨(xs ++ 47 :: ps).toArray⟩ := by
            rw [show (⟨#[]⟩ : ByteArray) = ⟨([] : List UInt8).toArray⟩ from rfl, mk_app, show (⟨#[47]⟩ : ByteArray) = ⟨([47] : List UInt8).toArray⟩ from rfl, mk_app, mk_app]
            simp
          have NW1 := fun w1 => new_v w1 (y : Int) (s : Int) (by unfold Fits64; omega) (by unfold Fits64; omega) (by omega)
          have NW2 := fun w1 => new_v w1 (x : Int) 1 (by unfold Fits64; omega) (by unfold Fits64; omega) (by omega)
          have NW3 := fun w1 (hy0 : y ≠ 0) => new_v w1 (x : Int) (y : Int) (by unfold Fits64; omega) (by unfold Fits64; omega) (by omega)
          rw [frz_nat] at NW1 NW3
          rw [show (1 : Int) = ((1 : Nat) : Int) from rfl, frz_nat, show ((1 : Nat) : Int) = 1 from rfl] at NW2
          have NW1 := Lib.hid NW1
          have NW2 := Lib.hid NW2
          have NW3 := Lib.hid NW3
          have PT1 := Lib.hid PT1
          have HS := Lib.hid hs0
          have HM := Lib.hid hM
          have E2 := Lib.hid E2
          have V2 := Lib.hid V2
          clear E1 V1 hM hs hpd hpv hyd hyv hyl hyp hxd hxv hq
          go_wp2_with fail
          refine (PT1.out _ HB).mono ?_
          rintro e k1 ⟨av, rfl, ha, hB⟩
          have HB := below_then HB hB
          clear hB
          obtain ⟨aZ, aC, aO, aR, aC', aO', aR', rfl, ap1, ap2, ap3⟩ := ha.parts
          clear ap1 ap2 ap3
          have za := HB.size
          obtain ⟨k2, ga, ewa, ega, hB, Fa⟩ := var1 k1 aZ (.slice aC aO aR) (.slice aC' aO' aR')
          have ha := CanF.below ha hB
          have HB := below_then HB hB
          clear hB
          go_wp2_with fail
          refine (NW1.out _).mono ?_
          rintro e k3 ⟨bv, rfl, hb, hB⟩
          have ha := CanF.below ha hB
          have Fa := Fa.below hB
          have HB := below_then HB hB
          clear hB
          obtain ⟨bZ, bC, bO, bR, bC', bO', bR', rfl, bp1, bp2, bp3⟩ := hb.parts
          clear bp1 bp2 bp3
          have zb := HB.size
          have lFab := Fa.lt
          obtain ⟨k4, gb, ewb, egb, hB, Fb⟩ := var1 k3 bZ (.slice bC bO bR) (.slice bC' bO' bR')
          have ha := CanF.below ha hB
          have hb := CanF.below hb hB
          have Fa := Fa.below hB
          have HB := below_then HB hB
          clear hB
          go_wp2_with fail
          refine (NW2.out _).mono ?_
          rintro e k5 ⟨cv, rfl, hc, hB⟩
          have ha := CanF.below ha hB
          have hb := CanF.below hb hB
          have Fa := Fa.below hB
          have Fb := Fb.below hB
          have HB := below_then HB hB
          clear hB
          obtain ⟨cZ, cC, cO, cR, cC', cO', cR', rfl, cp1, cp2, cp3⟩ := hc.parts
          clear cp1 cp2 cp3
          have zc := HB.size
          have lFac := Fa.lt
          have lFbc := Fb.lt
          obtain ⟨k6, gc, ewc, egc, hB, Fc⟩ := var1 k5 cZ (.slice cC cO cR) (.slice cC' cO' cR')
          have ha := CanF.below ha hB
          have hb := CanF.below hb hB
          have hc := CanF.below hc hB
          have Fa := Fa.below hB
          have Fb := Fb.below hB
          have HB := below_then HB hB
          clear hB
          obtain ⟨cb0, cb1, cb2⟩ := Fb.cells
          obtain ⟨db0, db1, db2⟩ := Fb.frozen
          obtain ⟨cc0, cc1, cc2⟩ := Fc.cells
          obtain ⟨dc0, dc1, dc2⟩ := Fc.frozen
          go_wp2_with fail
          refine (addf_v hb.fracV hc.fracV (by omega) (by omega) (by omega) (by omega)).mono ?_
          rintro e k7 ⟨sv, rfl, hs, hB⟩
          clear cb0 cb1 cb2 db0 db1 db2
          clear cc0 cc1 cc2 dc0 dc1 dc2
          have ha := CanF.below ha hB
          have hb := CanF.below hb hB
          have hc := CanF.below hc hB
          have Fa := Fa.below hB
          have Fb := Fb.below hB
          have Fc := Fc.below hB
          have HB := below_then HB hB
          clear hB
          clear hb hc
          obtain ⟨sZ, sC, sO, sR, sC', sO', sR', rfl, sp1, sp2, sp3⟩ := hs.parts
          clear sp1 sp2 sp3
          obtain ⟨cb0, cb1, cb2⟩ := Fb.cells
          obtain ⟨db0, db1, db2⟩ := Fb.frozen
          obtain ⟨k8, eps, ef⟩ := var_put k7 gb sZ (.slice sC sO sR) (.slice sC' sO' sR')
          have ha := CanF.put3 ha Fb (.bool sZ) (.slice sC sO sR) (.slice sC' sO' sR')
          have hs := CanF.put3 hs Fb (.bool sZ) (.slice sC sO sR) (.slice sC' sO' sR')
          have Fa := Fa.far (g2 := gb) (by omega) (.bool sZ) (.slice sC sO sR) (.slice sC' sO' sR')
          have Fc := Fc.far (g2 := gb) (by omega) (.bool sZ) (.slice sC sO sR) (.slice sC' sO' sR')
          have HB := below_put3 HB (g := gb) (by omega) (.bool sZ) (.slice sC sO sR) (.slice sC' sO' sR')
          have Fb := Fb.put3 sZ (.slice sC sO sR) (.slice sC' sO' sR')
          rw [← ef] at HB ha hs Fa Fb Fc
          clear ef
          by_cases hy0 : y = 0
          · subst hy0
            have hE : ferr (chars ⟨((xs ++ 47 :: ps)).toArray⟩) = 20 := E2.out.trans (if_pos rfl)
            have PE := Lib.hid (fun w1 hB => (PT2.out w1 hB).mono fun e w' h => (show RErr w1 20 e w' from by have h1 := h.2 (by rw [hE]; decide); rwa [hE] at h1))
            clear hE
            go_wp2_with fail
            refine (PE.out _ HB).mono ?_
            rintro e k9 ⟨rfl, hB⟩
            have ha := CanF.below ha hB
            have hs := CanF.below hs hB
            have Fa := Fa.below hB
            have Fb := Fb.below hB
            have Fc := Fc.below hB
            have HB := below_then HB hB
            clear hB
            have hB : Below k9.heap.size k9 (k9.alloc (.cells #[.bool false, .slice none 0 0, .slice none 0 0] 25)) := (Below.refl _ _).alloc (Nat.le_refl _) _
            have ha := CanF.below ha hB
            have hs := CanF.below hs hB
            have Fa := Fa.below hB
            have Fb := Fb.below hB
            have Fc := Fc.below hB
            have HB := below_then HB hB
            clear hB
            obtain ⟨ca0, ca1, ca2⟩ := Fa.cells
            obtain ⟨da0, da1, da2⟩ := Fa.frozen
            obtain ⟨cb0, cb1, cb2⟩ := Fb.cells
            obtain ⟨db0, db1, db2⟩ := Fb.frozen
            go_wp2_with fail
            refine (same_ft ha hs ((decimal_sum false x _ s HS.out).trans (if_neg Bool.false_ne_true))).mono ?_
            rintro e k10 ⟨rfl, hB⟩
            clear ca0 ca1 ca2 da0 da1 da2
            clear cb0 cb1 cb2 db0 db1 db2
            have ha := CanF.below ha hB
            have hs := CanF.below hs hB
            have Fa := Fa.below hB
            have Fb := Fb.below hB
            have Fc := Fc.below hB
            have HB := below_then HB hB
            clear hB
            go_wp2_with fail
            refine (known2_v _ (HM.out.below HB)).mono ?_
            rintro e k11 ⟨rfl, hB⟩
            have ha := CanF.below ha hB
            have hs := CanF.below hs hB
            have Fa := Fa.below hB
            have Fb := Fb.below hB
            have Fc := Fc.below hB
            have HB := below_then HB hB
            clear hB
            go_wp2_with fail
            go_ret
            exact ⟨rfl, HB⟩
          · have hyz : ((y : Int) == 0) = false := by rw [beq_eq_false_iff_ne]; omega
            have hE : ferr (chars ⟨((xs ++ 47 :: ps)).toArray⟩) = 0 := E2.out.trans (if_neg hy0)
            have PE := Lib.hid (fun w1 hB => (PT2.out w1 hB).mono fun e w' h => (show RCanE w1 (fr false x y) 26 e w' from V2.out ▸ h.1 hE))
            clear hE
            have NW3 := Lib.hid (fun w1 => NW3.out w1 hy0)
            go_wp2_with fail
            refine (PE.out _ HB).mono ?_
            rintro e k9 ⟨dv, rfl, hd, hB⟩
            have ha := CanF.below ha hB
            have hs := CanF.below hs hB
            have Fa := Fa.below hB
            have Fb := Fb.below hB
            have Fc := Fc.below hB
            have HB := below_then HB hB
            clear hB
            obtain ⟨dZ, dC, dO, dR, dC', dO', dR', rfl, dp1, dp2, dp3⟩ := hd.parts
            clear dp1 dp2 dp3
            have zd := HB.size
            have lFad := Fa.lt
            have lFbd := Fb.lt
            have lFcd := Fc.lt
            obtain ⟨k10, gd, ewd, egd, hB, Fd⟩ := var1 k9 dZ (.slice dC dO dR) (.slice dC' dO' dR')
            have ha := CanF.below ha hB
            have hs := CanF.below hs hB
            have hd := CanF.below hd hB
            have Fa := Fa.below hB
            have Fb := Fb.below hB
            have Fc := Fc.below hB
            have HB := below_then HB hB
            clear hB
            go_wp2_with fail
            refine (NW3.out _).mono ?_
            rintro e k11 ⟨iv, rfl, hi, hB⟩
            have ha := CanF.below ha hB
            have hs := CanF.below hs hB
            have hd := CanF.below hd hB
            have Fa := Fa.below hB
            have Fb := Fb.below hB
            have Fc := Fc.below hB
            have Fd := Fd.below hB
            have HB := below_then HB hB
            clear hB
            obtain ⟨iZ, iC, iO, iR, iC', iO', iR', rfl, ip1, ip2, ip3⟩ := hi.parts
            clear ip1 ip2 ip3
            have zi := HB.size
            have lFai := Fa.lt
            have lFbi := Fb.lt
            have lFci := Fc.lt
            have lFdi := Fd.lt
            obtain ⟨k12, gi, ewi, egi, hB, Fi⟩ := var1 k11 iZ (.slice iC iO iR) (.slice iC' iO' iR')
            have ha := CanF.below ha hB
            have hs := CanF.below hs hB
            have hd := CanF.below hd hB
            have hi := CanF.below hi hB
            have Fa := Fa.below hB
            have Fb := Fb.below hB
            have Fc := Fc.below hB
            have Fd := Fd.below hB
            have HB := below_then HB hB
            clear hB
            obtain ⟨ca0, ca1, ca2⟩ := Fa.cells
            obtain ⟨da0, da1, da2⟩ := Fa.frozen
            obtain ⟨cb0, cb1, cb2⟩ := Fb.cells
            obtain ⟨db0, db1, db2⟩ := Fb.frozen
            go_wp2_with fail
            refine (same_ft ha hs ((decimal_sum false x _ s HS.out).trans (if_neg Bool.false_ne_true))).mono ?_
            rintro e k13 ⟨rfl, hB⟩
            clear ca0 ca1 ca2 da0 da1 da2
            clear cb0 cb1 cb2 db0 db1 db2
            have ha := CanF.below ha hB
            have hs := CanF.below hs hB
            have hd := CanF.below hd hB
            have hi := CanF.below hi hB
            have Fa := Fa.below hB
            have Fb := Fb.below hB
            have Fc := Fc.below hB
            have Fd := Fd.below hB
            have Fi := Fi.below hB
            have HB := below_then HB hB
            clear hB
            obtain ⟨cd0, cd1, cd2⟩ := Fd.cells
            obtain ⟨dd0, dd1, dd2⟩ := Fd.frozen
            obtain ⟨ci0, ci1, ci2⟩ := Fi.cells
            obtain ⟨di0, di1, di2⟩ := Fi.frozen
            go_wp2_with fail
            refine (same_ft hd hi (rfl)).mono ?_
            rintro e k14 ⟨rfl, hB⟩
            clear cd0 cd1 cd2 dd0 dd1 dd2
            clear ci0 ci1 ci2 di0 di1 di2
            have ha := CanF.below ha hB
            have hs := CanF.below hs hB
            have hd := CanF.below hd hB
            have hi := CanF.below hi hB
            have Fa := Fa.below hB
            have Fb := Fb.below hB
            have Fc := Fc.below hB
            have Fd := Fd.below hB
            have Fi := Fi.below hB
            have HB := below_then HB hB
            clear hB
            go_wp2_with fail
            refine (known2_v _ (HM.out.below HB)).mono ?_
            rintro e k15 ⟨rfl, hB⟩
            have ha := CanF.below ha hB
            have hs := CanF.below hs hB
            have hd := CanF.below hd hB
            have hi := CanF.below hi hB
            have Fa := Fa.below hB
            have Fb := Fb.below hB
            have Fc := Fc.below hB
            have Fd := Fd.below hB
            have Fi := Fi.below hB
            have HB := below_then HB hB
            clear hB
            go_wp2_with fail
            go_ret
            exact ⟨rfl, HB⟩
/-- The law, for whatever comes in. -/
theorem decimal_walk (w : World) {neg : Bool} {x y z : Int} (hx : (Lit.int .u32 x).wf = true) (hy : (Lit.int .u32 y).wf = true) (hz : (Lit.int .u8 z).wf = true) (hM : MaxL w) :
    Calls Tryd.prog 4 #[.bool neg, .int .u32 x, .int .u32 y, .int .u8 z] w (RVal w (.bool true)) := by
  have h1 := wf_digit hx
  have h2 := wf_digit hy
  have h3 : 0 ≤ z ∧ z ≤ 255 := by
    have e1 : IntKind.u8.min = 0 := by decide
    have e2 : IntKind.u8.max = 255 := by decide
    simp [Lit.wf, e1, e2] at hz
    omega
  obtain ⟨x', rfl⟩ : ∃ n : Nat, x = (n : Int) := ⟨x.toNat, by omega⟩
  obtain ⟨y', rfl⟩ : ∃ n : Nat, y = (n : Int) := ⟨y.toNat, by omega⟩
  obtain ⟨z', rfl⟩ : ∃ n : Nat, z = (n : Int) := ⟨z.toNat, by omega⟩
  cases neg with
  | true => exact decimal_true w x' y' z' (by omega) (by omega) (by omega) hM
  | false => exact decimal_false w x' y' z' (by omega) (by omega) (by omega) hM
end Go.Proofs.YtgjhgpfjeoeojaaDoor

/- The contract of pieceProduct, and of Mul for all numbers. -/
import Derived.Test.YticakmcjiofhoaaSplit
namespace Go.Proofs.Yticakmcjiofhoaa
open Go.RowKit Dig
set_option linter.unusedVariables false

set_option maxRecDepth 100000 in
set_option maxHeartbeats 4000000 in
theorem piece_c (w : World) (va vb : Value) (X Y : List Nat) (k la lb : Nat) (ha : Num w va X) (hb : Num w vb Y) (hla : X.length = la) (hlb : Y.length = lb) (h0 : 0 < lb) (hk : MulFor k) (hk1 : 2 * lb < k) (hlo : 0 < la) (hz : la ≤ 4398046511104) (hz2 : lb ≤ 4398046511104) :
    Calls Try.prog 51 #[va, vb] w fun e w' => ∃ r zs, e = .returned r ∧ Own w.heap.size w' r zs ∧ val zs = val X * val Y ∧ Below w.heap.size w w' := by
  obtain ⟨A, c, rfl⟩ := ha.form
  obtain ⟨A', c', rfl⟩ := hb.form
  rw [hla] at ha ⊢
  rw [hlb] at hb ⊢
  have hba := ha.bounds.2
  have hbb := hb.bounds.2
  obtain ⟨ba, oa, rfl, _, _⟩ := ha.cells (by omega)
  have HLA := Lib.hid hla
  have HLB := Lib.hid hlb
  have HK := Lib.hid hk
  have hxs := ha.small
  have hys := hb.small
  clear hla hlb hk
  go_enter Try.func51, Try.ntmps51
  go_wp2_with (at_make; refine wp_make rfl _ _ rfl _ _ (la + lb) rfl rfl (by omega) (by omega) (by omega) ?_; intro w1 hS1 hB1)
  go_loopw [6] (fun ii wr => ∃ (i : Nat) (zs : List Nat), i ≤ la + lb ∧ ii = .int .i64 i ∧ zs.length = la + lb ∧ Small zs ∧ val zs = val (X.take i) * val Y ∧ Seg wr w.heap.size [] zs [] ∧ Below w.heap.size w wr) (fun ii _ => la + lb - (intOf ii).toNat)
  case atStart => exact ⟨0, _, Nat.zero_le _, rfl, by simp, Small.replicate _, by rw [val_replicate]; simp [val], hS1, hB1⟩
  case round =>
    clear hS1 hB1
    obtain ⟨i, zs, hi, rfl, hl, hs, hv, hseg, hB⟩ := hrel
    have HV := Lib.hid hv
    have HL := Lib.hid hl
    clear hv
    by_cases hlt : i < la
    · have i1 : (i : Int) < la := by omega
      have i2 : (i : Int) ≤ (la : Int) + lb := by omega
      have i3 : (la : Int) ≤ c := by omega
      have i4 : (i : Int) ≤ c := by omega
      have i5 : (0 : Int) < lb := by omega
      have m1 : i ≤ la + lb := hi
      have m2 : ¬ la + lb = i := by omega
      have m3 : ¬ c = i := by omega
      have m4 : i ≤ c := by omega
      clear hl
      obtain ⟨j, hj1, hj2, hj3, hj4⟩ : ∃ j : Nat, i < j ∧ j ≤ la ∧ j ≤ i + lb ∧ ((j = la ∧ la ≤ i + lb) ∨ j = i + lb) := by
        by_cases hmm : i + lb ≤ la
        · exact ⟨i + lb, by omega, by omega, by omega, .inr rfl⟩
        · exact ⟨la, by omega, by omega, by omega, .inl ⟨rfl, by omega⟩⟩
      have wsum : IntKind.i64.wrap ((i : Int) + (lb : Int)) = (i : Int) + (lb : Int) := IntWalk.i64_in _ (by omega)
      have hmin : min ((i : Int) + (lb : Int)) (la : Int) = (j : Int) := by omega
      have hmin2 : (min ((i : Int) + (lb : Int)) (la : Int)).toNat = j := by omega
      have j0 : (0 : Int) ≤ (j : Int) := by omega
      have j1 : (j : Int) ≤ c := by omega
      have j2 : i ≤ j := by omega
      have j3 : (i : Int) ≤ j := by omega
      have hp := (ha.below hB).part i (j - i) (c - i) (by omega) (by omega) (by omega)
      have hbB := hb.below hB
      have hpl : ((X.drop i).take (j - i)).length = j - i := by rw [List.length_take, List.length_drop, HLA.out]; omega
      have hXj : val (X.take j) = val (X.take i) + 4294967296 ^ i * val ((X.drop i).take (j - i)) := by
        have e : X.take j = X.take i ++ (X.drop i).take (j - i) := by
          rw [← List.take_add]; congr 1; omega
        rw [e, val_append, List.length_take, HLA.out, Nat.min_eq_left (by omega)]
      have hxj : val (X.take j) < 4294967296 ^ j := take_lt X hxs j
      have hyl : val Y < 4294967296 ^ lb := by have := val_lt Y hys; rwa [HLB.out] at this
      generalize (X.drop i).take (j - i) = P at *
      have hPb : val P < 4294967296 ^ (j - i) := by have := val_lt P hp.small; rwa [hpl] at this
      have mul_lt' : ∀ a b k l : Nat, a < 4294967296 ^ k → b < 4294967296 ^ l → a * b < 4294967296 ^ (k + l) := by
        intro a b k l ha hb
        rw [Nat.pow_add]
        rcases Nat.eq_zero_or_pos b with h0 | h0
        · subst h0
          rw [Nat.mul_zero]
          exact Nat.mul_pos (Nat.pow_pos (by omega)) (Nat.pow_pos (by omega))
        · exact Nat.lt_of_lt_of_le (Nat.mul_lt_mul_of_pos_right ha h0) (Nat.mul_le_mul_left _ (Nat.le_of_lt hb))
      have hPYl := dg_length_le _ (la + lb - i) (Nat.lt_of_lt_of_le (mul_lt' _ _ _ _ hPb hyl) (pow_le (by omega)))
      have hzt := val_take_drop zs i (by rw [HL.out]; omega)
      have hnew : val (X.take j) * val Y = val (zs.take i) + 4294967296 ^ i * (val (zs.drop i) + val P * val Y) := by
        have e1 : val (X.take j) * val Y = val zs + 4294967296 ^ i * (val P * val Y) := by rw [hXj, HV.out, Nat.add_mul, Nat.mul_assoc]
        rw [e1, hzt, Nat.mul_add, Nat.add_assoc]
      have hfit : val (zs.drop i) + val P * val Y < 4294967296 ^ (la + lb - i) := by
        have e1 := mul_lt' _ _ _ _ hxj hyl
        have e2 : 4294967296 ^ (j + lb) ≤ 4294967296 ^ i * 4294967296 ^ (la + lb - i) := by rw [← Nat.pow_add]; exact pow_le (by omega)
        rw [hnew] at e1
        have e3 : 4294967296 ^ i * (val (zs.drop i) + val P * val Y) < 4294967296 ^ i * 4294967296 ^ (la + lb - i) := by omega
        exact Nat.lt_of_mul_lt_mul_left e3
      have hsa := hseg.at_ i
      have hTL : (zs.take i).length = i := by rw [List.length_take, HL.out]; omega
      have hDL : (zs.drop i).length = la + lb - i := by rw [List.length_drop, HL.out]
      have HNEW := Lib.hid hnew
      have HFIT := Lib.hid hfit
      have HTL := Lib.hid hTL
      have HDL := Lib.hid hDL
      have HPL := Lib.hid hpl
      have hwl := hseg.lt
      clear mul_lt' hxj hyl hPb hXj hzt hnew hfit hTL hDL hseg hpl hj4
      go_wp2_with fail
      go_region_held3 (fun w' => True) (trivial) (first | (go_at_call 30; refine (HK.out _ _ _ P Y ?_ ?_ ?_).mono ?_; exact hp; exact hbB; (rw [HPL.out, HLB.out]; omega); rintro e w3 ⟨pr, rfl, hpr, hB3⟩; have B3 := below_undrew hB3) | (go_at_call 49; refine (addTo_n _ w.heap.size i (la + lb - i) (U (zs.take i)) [] (zs.drop i) (dg (val P * val Y)) (la + lb - i) _ ?_ ?_ ?_ ?_ ?_ ?_ ?_ ?_ ?_).mono ?_; exact hsa.below B3 hwl; (rw [U_length, HTL.out]); exact HDL.out; exact hs.drop i; exact ⟨Nat.le_refl _, by omega⟩; exact hpr.num; exact (fun _ e => absurd (hpr.block _ e).1 (by exact Nat.not_le.2 hwl)); exact hPYl; (rw [val_dg]; exact HFIT.out); rintro e w4 ⟨rfl, zs3, q1, q2, q3, q4, q5, q6⟩))
      have hBn := below_grown (below_then hB B3) q5 (Nat.le_refl _)
      have hlen : (zs.take i ++ zs3).length = la + lb := by rw [List.length_append, HTL.out, q1]; omega
      have hvn : val (zs.take i ++ zs3) = val (X.take j) * val Y := by rw [val_append, HTL.out, q3, val_dg, HNEW.out]
      have HVN := Lib.hid hvn
      have hsn := (hs.take i).append q2
      have hqs := q4.back
      have HLEN := Lib.hid hlen
      have HXT := Lib.hid (show val (X.take (i + lb)) = val (X.take j) by
        have : X.take (i + lb) = X.take j := by
          by_cases hmm : i + lb ≤ la
          · have : j = i + lb := by omega
            rw [this]
          · have : j = la := by omega
            rw [this, List.take_of_length_le (by rw [HLA.out]; omega), List.take_of_length_le (by rw [HLA.out]; exact Nat.le_refl _)]
        rw [this])
      clear hlen hvn q1 q3 q4 q5 q6 hmin hmin2 wsum
      go_wp2_with fail
      go_roundw
      case rel => exact ⟨i + lb, _, by omega, by go_num, HLEN.out, hsn, by rw [HXT.out]; exact HVN.out, hqs, hBn⟩
      case measure => simp [intOf]; omega
    · have hfin : val zs = val X * val Y := by
        rw [HV.out, List.take_of_length_le (by rw [HLA.out]; omega)]
      have HF := Lib.hid hfin
      have hO := Own.of_seg (base := w.heap.size) (c := la + lb) hseg hs HL.out (Nat.le_refl _) rfl (by omega)
      have i1 : (la : Int) ≤ i := by omega
      clear hfin hl
      go_wp2_with fail
      go_ret
      exact ⟨_, zs, rfl, hO, HF.out, hB⟩
end Go.Proofs.Yticakmcjiofhoaa

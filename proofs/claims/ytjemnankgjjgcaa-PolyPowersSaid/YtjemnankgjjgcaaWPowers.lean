/- The walk of the law PolyPowers: it returns true and leaves what was there. -/
import Derived.Test.YtjemnankgjjgcaaOf
import Derived.Test.YtjemnankgjjgcaaSzp
import Derived.Test.YtjemnankgjjgcaaPsam
import Derived.Test.YtjemnankgjjgcaaPrfe
import Derived.Test.YtjemnankgjjgcaaKnow3
namespace Go.Proofs.Ytjemnankgjjgcaa
open Go.RowKit Dig
set_option linter.unusedVariables false

namespace Dig
theorem ppow_len7 {p : List Rat} (h : p.length ≤ 7) : ∀ j, (ppow p j).length ≤ 7 * j + 1
  | 0 => by simp [ppow]
  | j + 1 => by
    rw [ppow]
    have := pmul_len (ppow_len7 h j) h
    omega
theorem ppow_dby {p : List Rat} {D H : Nat} (h : Dby p D H) (hl : p.length ≤ 7) : ∀ j, j ≤ 6 → Dby (ppow p j) (D ^ j) ((43 * H) ^ j)
  | 0, _ => ⟨by simp, fun t => by
    cases t with
    | zero => exact ⟨1, by simp [ppow, cf]; grind, by simp⟩
    | succ t => exact ⟨0, by rw [ppow, cf_over (by simp)]; simp [Rat.div_def], by simp⟩⟩
  | j + 1, hj => by
    have hm := Dby.mul (ppow_dby h hl j (by omega)) h (n := 43) (by have := ppow_len7 hl j; omega)
    rw [ppow, Nat.pow_succ]
    refine hm.le ?_
    rw [Nat.pow_succ]
    exact Nat.le_of_eq (by ac_rfl)
theorem ppow_fits (l : List Int) {j : Nat} (hj : j ≤ 6) (i : Nat) : (cf (ppow (tr (ofl l)) j) i).num.natAbs < 4294967296 ^ 11 ∧ (cf (ppow (tr (ofl l)) j) i).den < 4294967296 ^ 11 := by
  have hd := ppow_dby (dby_ofl l).tr (tr_len (ofl_len l)) j hj
  obtain ⟨z, e, hz⟩ := hd.2 i
  obtain ⟨a, b⟩ := over_parts hd.1 e
  have c := Nat.le_of_dvd hd.1 a
  have e1 : LL ^ j ≤ LL ^ 6 := Nat.pow_le_pow_right (by decide) hj
  have e2 : (43 * (43 * LL)) ^ j ≤ (43 * (43 * LL)) ^ 6 := Nat.pow_le_pow_right (by decide) hj
  have f1 : LL ^ 6 < 4294967296 ^ 11 := by decide +kernel
  have f2 : (43 * (43 * LL)) ^ 6 < 4294967296 ^ 11 := by decide +kernel
  exact ⟨Nat.lt_of_le_of_lt (Nat.le_trans b (Nat.le_trans hz e2)) f2, Nat.lt_of_le_of_lt (Nat.le_trans c e1) f1⟩
/-- What a power is: an error code and a list. -/
def powx (i : Int) (p : List Rat) : Int × List Rat := if i < 0 then (1, []) else (0, ppow (tr p) i.toNat)
def shiftx (i : Int) (p : List Rat) : Int × List Rat := if i < 0 then (1, []) else if 1024 < i then (4, []) else if (tr p).length = 0 then (0, []) else if 1024 < i.toNat + (tr p).length then (4, []) else (0, shr i.toNat p)
theorem szd_ofl (l : List Int) : Szd (tr (ofl l)) LL 2 4 := (dby_ofl l).tr.szd (by decide +kernel) (by decide +kernel)
end Dig
theorem RPolE.rle {w w' : World} {qs : List Rat} {k l : Nat} {e : Ending} (h : RPolE w qs k e w') (hl : k ≤ l) : RLE w 0 qs l e w' := by
  obtain ⟨v, e1, h1, h2⟩ := h
  exact ⟨v, e1, h1.fls.leC hl, h2⟩
section
variable {w : World} {v : Value} {ps : List Rat} {k : Nat}
theorem pow_all (l : List Int) (hF : Fls (FV 3) w v (ofl l)) (i : Int) (h0 : -1 ≤ i) (h1 : i ≤ 6) : Calls Try.prog 36 #[v, .int .i64 i] w (RLE w (powx i (ofl l)).1 (powx i (ofl l)).2 30) := by
  have hl := ofl_len l
  unfold powx
  by_cases h : i < 0
  · rw [if_pos h]
    obtain ⟨A, c, rfl⟩ := hF.form
    exact (pow_neg_p w A _ c i h).mono fun e w' h => h.rle 30
  · rw [if_neg h]
    obtain ⟨n, rfl⟩ : ∃ n : Nat, i = (n : Int) := ⟨i.toNat, by omega⟩
    rw [Int.toNat_natCast]
    rcases Nat.eq_zero_or_pos n with hn | hn
    · subst hn
      exact (pow_zero_p hF (by omega) (by omega)).mono fun e w' h => h.rle (by omega)
    · refine (pow_p (K := 2) (M := 4) (D := LL) hF (by omega) (by omega) (by omega) (by omega) (by omega) (by omega) (by omega) (by omega) (by omega) (szd_ofl l) ?_).mono fun e w' h => h.rle (by omega)
      have h7 := tr_len hl
      rcases (by omega : n = 1 ∨ n = 2 ∨ n = 3 ∨ n = 4 ∨ n = 5 ∨ n = 6) with h | h | h | h | h | h <;> subst h <;> omega
theorem polyPow_all (l : List Int) (hF : Fls (FV 3) w v (ofl l)) (i : Int) (h0 : -1 ≤ i) (h1 : i ≤ 6) : Calls Try.prog 37 #[v, .int .i64 i] w (RLE w (powx i (ofl l)).1 (powx i (ofl l)).2 11) := by
  have hl := ofl_len l
  have h7 := tr_len hl
  unfold powx
  by_cases h : i < 0
  · rw [if_pos h]
    exact (polyPow_neg_r hF (by omega) (by omega) (by omega) i h).mono fun e w' h => h.rle 11
  · rw [if_neg h]
    obtain ⟨n, rfl⟩ : ∃ n : Nat, i = (n : Int) := ⟨i.toNat, by omega⟩
    rw [Int.toNat_natCast]
    refine polyPow_r (B := 11) (N := 43) hF (by omega) (by omega) (by omega) (by omega) (fun j hj i => ppow_fits l (by omega) i) (fun j hj => by have := ppow_len7 h7 j; omega) (by omega) (by omega) ?_
    rcases (by omega : n = 0 ∨ n = 1 ∨ n = 2 ∨ n = 3 ∨ n = 4 ∨ n = 5 ∨ n = 6) with h | h | h | h | h | h | h <;> subst h <;> omega
theorem shift_all (hF : Fls (FV k) w v ps) (hk : k ≤ 400000) (h2 : 2 ≤ k) (hm : ps.length ≤ 1000000) (i : Int) : Calls Try.prog 31 #[v, .int .i64 i] w (RLE w (shiftx i ps).1 (shiftx i ps).2 k) := by
  unfold shiftx
  by_cases h : i < 0
  · rw [if_pos h]
    obtain ⟨A, c, rfl⟩ := hF.form
    exact (shift_neg_p w A _ c i h).mono fun e w' h => h.rle k
  rw [if_neg h]
  by_cases h' : 1024 < i
  · rw [if_pos h']
    obtain ⟨A, c, rfl⟩ := hF.form
    exact (shift_big_p w A _ c i h').mono fun e w' h => h.rle k
  rw [if_neg h']
  obtain ⟨n, rfl⟩ : ∃ n : Nat, i = (n : Int) := ⟨i.toNat, by omega⟩
  rw [Int.toNat_natCast]
  by_cases h0 : (tr ps).length = 0
  · rw [if_pos h0]
    exact (shift_none_p hF hk (by omega) hm (List.eq_nil_of_length_eq_zero h0)).mono fun e w' h => h.rle k
  rw [if_neg h0]
  by_cases h4 : 1024 < n + (tr ps).length
  · rw [if_pos h4]
    exact (shift_long_p hF hk (by omega) hm h4 (by omega)).mono fun e w' h => h.rle k
  · rw [if_neg h4]
    have := shift_p hF hk h2 hm (n := n) (by omega) (by omega)
    unfold shr
    rw [if_neg h0]
    exact this.mono fun e w' h => h.rle (Nat.le_refl _)
theorem polyShift_all (hF : Fls (FV k) w v ps) (hk : k ≤ 400000) (h2 : 2 ≤ k) (hm : ps.length ≤ 1000000) (i : Int) : Calls Try.prog 38 #[v, .int .i64 i] w (RLE w (shiftx i ps).1 (shiftx i ps).2 k) := by
  unfold shiftx
  by_cases h : i < 0
  · rw [if_pos h]
    exact (polyShift_neg_r hF hk h2 (by omega) i h).mono fun e w' h => h.rle k
  rw [if_neg h]
  by_cases h' : 1024 < i
  · rw [if_pos h']
    exact (polyShift_big_r hF hk h2 (by omega) i h').mono fun e w' h => h.rle k
  rw [if_neg h']
  obtain ⟨n, rfl⟩ : ∃ n : Nat, i = (n : Int) := ⟨i.toNat, by omega⟩
  rw [Int.toNat_natCast]
  by_cases h0 : (tr ps).length = 0
  · rw [if_pos h0]
    exact polyShift_none_r hF hk h2 (by omega) (by omega) (List.eq_nil_of_length_eq_zero h0)
  rw [if_neg h0]
  by_cases h4 : 1024 < n + (tr ps).length
  · rw [if_pos h4]
    exact (polyShift_long_r hF hk h2 (by omega) (by omega) h4 (by omega)).mono fun e w' h => h.rle k
  · rw [if_neg h4]
    exact polyShift_some_r hF hk h2 (by omega) (n := n) (by omega) (by omega)
end
set_option maxHeartbeats 16000000 in
theorem powers_walk (w : World) (v1 : Value) (l1 : List Int) (n1 : Ints w v1 l1) {z : Int} (hwf : (Lit.int .i64 z).wf = true) :
    Calls Try.prog 5 #[v1, .int .i64 z] w (RVal w (.bool true)) := by
  have hz := wf_i64 hwf
  unfold Fits64 at hz
  obtain ⟨hz1, hz2⟩ := hz
  obtain ⟨kk, hk8, ek⟩ := and_low z 3 (by omega)
  have ek : bits .and .i64 z 7 = (kk : Int) := ek
  have hk8 : kk < 8 := hk8
  obtain ⟨hh, hh8, eh⟩ := and_low z 11 (by omega)
  have eh : bits .and .i64 z 2047 = (hh : Int) := eh
  have hh8 : hh < 2048 := hh8
  have O1 := Lib.hid (of_v w v1 l1 n1)
  obtain ⟨A1, c1, rfl⟩ := n1.form
  clear n1 hwf
  have hl7 := ofl_len l1
  have P1 := Lib.hid (fun w2 v2 (h : Fls (FV 3) w2 v2 (ofl l1)) => pow_all l1 h ((kk : Int) - 1) (by omega) (by omega))
  have P2 := Lib.hid (fun w2 v2 (h : Fls (FV 3) w2 v2 (ofl l1)) => polyPow_all l1 h ((kk : Int) - 1) (by omega) (by omega))
  have S1 := Lib.hid (fun w2 v2 (h : Fls (FV 3) w2 v2 (ofl l1)) => shift_all h (by omega) (by omega) (by omega) z)
  have S2 := Lib.hid (fun w2 v2 (h : Fls (FV 3) w2 v2 (ofl l1)) => polyShift_all h (by omega) (by omega) (by omega) z)
  have T1 := Lib.hid (fun w2 v2 (h : Fls (FV 3) w2 v2 (ofl l1)) => shift_all h (by omega) (by omega) (by omega) (hh : Int))
  have T2 := Lib.hid (fun w2 v2 (h : Fls (FV 3) w2 v2 (ofl l1)) => polyShift_all h (by omega) (by omega) (by omega) (hh : Int))
  have LP := Lib.hid (show (powx ((kk : Int) - 1) (ofl l1)).2.length ≤ 1000000 from by
    unfold powx
    split
    · simp
    · have := ppow_len7 (tr_len hl7) ((kk : Int) - 1).toNat
      simp only
      omega)
  have LS := (fun i => (show (shiftx i (ofl l1)).2.length ≤ 1000000 from by
    unfold shiftx
    split
    · simp
    split
    · simp
    split
    · simp
    split
    · simp
    · have := shr_len (n := i.toNat) hl7
      simp only
      omega))
  have LS1 := Lib.hid (LS z)
  have LS2 := Lib.hid (LS (hh : Int))
  clear LS
  generalize powx ((kk : Int) - 1) (ofl l1) = X1 at *
  generalize shiftx z (ofl l1) = X2 at *
  generalize shiftx (hh : Int) (ofl l1) = X3 at *
  obtain ⟨x1, q1⟩ := X1
  obtain ⟨x2, q2⟩ := X2
  obtain ⟨x3, q3⟩ := X3
  go_enter Try.func5, Try.ntmps5
  go_wp2_with fail
  refine (O1.out).mono ?_
  rintro e w1 ⟨p, rfl, hp, hB1⟩
  have hp := hp.fls
  have HB := hB1
  have HNa := Lib.hid (P1.out _ _ hp)
  go_wp2_with fail
  refine (HNa.out).mono ?_
  rintro e w2 ⟨a, rfl, ha, hB⟩
  have hp := hp.keepF hB
  have HB := below_then HB hB
  clear hB
  have HNb := Lib.hid (P2.out _ _ hp)
  go_wp2_with fail
  refine (HNb.out).mono ?_
  rintro e w3 ⟨b, rfl, hb, hB⟩
  have hp := hp.keepF hB
  have ha := ha.keepC hB
  have HB := below_then HB hB
  clear hB
  have HNc := Lib.hid (S1.out _ _ hp)
  go_wp2_with fail
  refine (HNc.out).mono ?_
  rintro e w4 ⟨c, rfl, hc, hB⟩
  have hp := hp.keepF hB
  have ha := ha.keepC hB
  have hb := hb.keepC hB
  have HB := below_then HB hB
  clear hB
  have HNd := Lib.hid (S2.out _ _ hp)
  go_wp2_with fail
  refine (HNd.out).mono ?_
  rintro e w5 ⟨d, rfl, hd, hB⟩
  have hp := hp.keepF hB
  have ha := ha.keepC hB
  have hb := hb.keepC hB
  have hc := hc.keepC hB
  have HB := below_then HB hB
  clear hB
  have HNi := Lib.hid (T1.out _ _ hp)
  go_wp2_with fail
  refine (HNi.out).mono ?_
  rintro e w6 ⟨i, rfl, hi, hB⟩
  have hp := hp.keepF hB
  have ha := ha.keepC hB
  have hb := hb.keepC hB
  have hc := hc.keepC hB
  have hd := hd.keepC hB
  have HB := below_then HB hB
  clear hB
  have HNl := Lib.hid (T2.out _ _ hp)
  go_wp2_with fail
  refine (HNl.out).mono ?_
  rintro e w7 ⟨l, rfl, hl, hB⟩
  have hp := hp.keepF hB
  have ha := ha.keepC hB
  have hb := hb.keepC hB
  have hc := hc.keepC hB
  have hd := hd.keepC hB
  have hi := hi.keepC hB
  have HB := below_then HB hB
  clear hB
  go_wp2_with fail
  refine (same3_t ha hb rfl (Nat.le_trans LP.out (by omega))).mono ?_
  rintro e w8 ⟨rfl, hB⟩
  have hc := hc.keepC hB
  have hd := hd.keepC hB
  have hi := hi.keepC hB
  have hl := hl.keepC hB
  have HB := below_then HB hB
  clear hB ha hb
  go_wp2_with fail
  refine (same3_t hc hd rfl (Nat.le_trans LS1.out (by omega))).mono ?_
  rintro e w9 ⟨rfl, hB⟩
  have hi := hi.keepC hB
  have hl := hl.keepC hB
  have HB := below_then HB hB
  clear hB hc hd
  go_wp2_with fail
  refine (same3_t hi hl rfl (Nat.le_trans LS2.out (by omega))).mono ?_
  rintro e w10 ⟨rfl, hB⟩
  have HB := below_then HB hB
  clear hB hi hl
  go_wp2_with fail
  refine (known3_v _).mono ?_
  rintro e w11 ⟨rfl, hB⟩
  have HB := below_then HB hB
  clear hB
  go_wp2_with fail
  go_ret
  exact ⟨rfl, HB⟩
end Go.Proofs.Ytjemnankgjjgcaa

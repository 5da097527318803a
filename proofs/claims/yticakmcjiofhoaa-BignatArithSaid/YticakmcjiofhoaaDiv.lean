/- The contract of DivMod. -/
import Derived.Test.YticakmcjiofhoaaLongDiv
import Derived.Deep.RegionHeld3
namespace Go.Proofs.Yticakmcjiofhoaa
open Go.RowKit Dig
set_option linter.unusedVariables false

theorem from_i (w : World) (q : Int) (n : Nat) (hq : q = (n : Int)) (hn : n < 18446744073709551616) : Calls Try.prog 20 #[.int .u64 q] w (RNat w n) := by
  subst hq
  exact from_c w n hn
def B64 : Int := 18446744073709551616
theorem from_o (w : World) (q : Int) (h0 : 0 ≤ q) (h1 : q < B64) : Calls Try.prog 20 #[.int .u64 q] w (RNat w q.toNat) :=
  from_i w q q.toNat (by omega) (by unfold B64 at h1; omega)
/-- A number that a uint64 holds, behind a name. -/
def Fits (q : Int) : Prop := 0 ≤ q ∧ q < B64
theorem from_f (w : World) (q : Int) (h : Fits q) : Calls Try.prog 20 #[.int .u64 q] w (RNat w q.toNat) := from_o w q h.1 h.2
theorem uint64_v (w : World) (v : Value) (xs : List Nat) (h : Num w v xs) (hs : val xs < 18446744073709551616) :
    Calls Try.prog 13 #[v] w fun e w' => e = .returned (.tuple #[.int .u64 (val xs : Nat), .bool true]) ∧ ∃ N, w' = w.drewN N := by
  obtain ⟨A, c, rfl⟩ := h.form
  have := uint64_c w A _ c xs h
  obtain ⟨e1, e2⟩ := u64_small hs
  rw [e1, e2] at this
  exact this
theorem small_of_len {n : Nat} (h : (dg n).length ≤ 2) : n < 18446744073709551616 := by
  have h1 := dg_lt n
  have h2 := pow_le h
  omega

set_option maxRecDepth 100000 in
set_option maxHeartbeats 2000000 in
theorem div_small (w : World) (va vb : Value) (xs ys : List Nat) (ha : Num w va xs) (hb : Num w vb ys) (hla : (dg (val xs)).length ≤ 2) (hlb : (dg (val ys)).length ≤ 2) (hb0 : 0 < val ys) :
    Calls Try.prog 17 #[va, vb] w (RDiv w (val xs) (val ys)) := by
  have Ta := Lib.hid (trim_n w va xs ha)
  have Tb := Lib.hid (trim_n w vb ys hb)
  have ea := small_of_len hla
  have eb := small_of_len hlb
  have hlb1 : 1 ≤ (dg (val ys)).length := by
    rcases Nat.eq_zero_or_pos (dg (val ys)).length with h | h
    · have := dg_len0 h; omega
    · exact h
  have hz : (((dg (val ys)).length : Int) == 0) = false := by rw [beq_eq_false_iff_ne]; omega
  have t1 : decide (((dg (val xs)).length : Int) ≤ 2) = true := by simp; omega
  have t2 : decide (((dg (val ys)).length : Int) ≤ 2) = true := by simp; omega
  have i1 : ((dg (val xs)).length : Int) ≤ 2 := by omega
  have i2 : ((dg (val ys)).length : Int) ≤ 2 := by omega
  go_enter Try.func17, Try.ntmps17
  go_wp2_with fail
  refine (Ta.out).mono ?_
  rintro e w' ⟨A, c, rfl, hA, rfl⟩
  go_wp2_with fail
  refine (Tb.out).mono ?_
  rintro e w' ⟨A', c', rfl, hB, rfl⟩
  have U1 := uint64_v w _ _ hA (by rw [val_dg]; exact ea)
  rw [val_dg] at U1
  have HU1 := Lib.hid U1
  clear U1
  go_wp2_with fail
  refine (HU1.out).mono ?_
  rintro e w1 ⟨rfl, N, rfl⟩
  have U2 := uint64_v (w.drewN N) _ _ (hB.drewN N) (by rw [val_dg]; exact eb)
  rw [val_dg] at U2
  have HU2 := Lib.hid U2
  clear U2
  go_wp2_with fail
  refine (HU2.out).mono ?_
  rintro e w2 ⟨rfl, N2, rfl⟩
  generalize hx : val xs = x at *
  generalize hy : val ys = y at *
  have hyi : (0 : Int) < y := by omega
  have hy0 : ((y : Int) == 0) = false := by rw [beq_eq_false_iff_ne]; omega
  have q1 : x / y < 18446744073709551616 := Nat.lt_of_le_of_lt (Nat.div_le_self _ _) ea
  have q2 : x % y < 18446744073709551616 := Nat.lt_of_le_of_lt (Nat.mod_le _ _) ea
  have qi1 : (x : Int) / (y : Int) < 18446744073709551616 := by
    have e : (x : Int) / (y : Int) = ((x / y : Nat) : Int) := rfl
    rw [e]; omega
  have qi0 : 0 ≤ (x : Int) / (y : Int) := by
    have e : (x : Int) / (y : Int) = ((x / y : Nat) : Int) := rfl
    rw [e]; exact Int.natCast_nonneg _
  have ri1 : (x : Int) % (y : Int) < 18446744073709551616 := by
    have e : (x : Int) % (y : Int) = ((x % y : Nat) : Int) := rfl
    rw [e]; omega
  have ri0 : 0 ≤ (x : Int) % (y : Int) := by
    have e : (x : Int) % (y : Int) = ((x % y : Nat) : Int) := rfl
    rw [e]; exact Int.natCast_nonneg _
  clear hx hy Ta Tb hA hB HU1 HU2
  go_wp2_with fail
  have hyn : ¬ (y : Int) = 0 := by omega
  have td : (x : Int).tdiv (y : Int) = (x : Int) / (y : Int) := Int.tdiv_eq_ediv_of_nonneg (by omega)
  have tm : (x : Int).tmod (y : Int) = (x : Int) % (y : Int) := Int.tmod_eq_emod_of_nonneg (by omega)
  have wd : IntKind.u64.wrap ((x : Int) / (y : Int)) = (x : Int) / (y : Int) := wrap_u64_nonneg _ qi0 qi1
  have fq : Fits ((x : Int) / (y : Int)) := ⟨qi0, qi1⟩
  have fr : Fits ((x : Int).tmod (y : Int)) := by rw [tm]; exact ⟨ri0, ri1⟩
  have TM := Lib.hid tm
  clear qi1 ri1 ea eb q1 q2 tm td
  have hB0 := below_drewN (Below.refl w.heap.size w) (N + N2)
  generalize w.drewN (N + N2) = W at *
  clear t1 t2 i1 i2 hz hla hlb hlb1 ha hb
  have hyN : ¬ y = 0 := by omega
  go_region_held3 (fun w' => True) (trivial) (first | (go_at_call 20; refine (from_f _ _ (by first | with_reducible exact fq | with_reducible exact fr)).mono ?_; rintro e w3 ⟨q, rfl, hq, hBq⟩))
  rename_i w1 q1 hq3 hB3 _
  go_wp2_with fail
  go_ret3
  have e1 : ((x : Int) / (y : Int)).toNat = x / y := by
    have e : (x : Int) / (y : Int) = ((x / y : Nat) : Int) := rfl
    rw [e, Int.toNat_natCast]
  have e2 : ((x : Int).tmod (y : Int)).toNat = x % y := by
    rw [TM.out]
    have e : (x : Int) % (y : Int) = ((x % y : Nat) : Int) := rfl
    rw [e, Int.toNat_natCast]
  rw [e1] at hq3
  rw [e2] at hq
  have h3 : Below W.heap.size W w1 := ⟨hB3.os, hB3.tape, hB3.output, hB3.size, hB3.block⟩
  have h5 : Below w.heap.size w w1 := hB0.trans (h3.mono hB0.size)
  have h6 : Below w.heap.size w w3 := h5.trans (hBq.mono h5.size)
  exact ⟨_, _, rfl, (hq3.below hBq (Nat.le_refl _)).mono hB0.size, hq.mono h5.size, h6⟩

set_option maxHeartbeats 1000000 in
theorem div_less (w : World) (va vb : Value) (xs ys : List Nat) (ha : Num w va xs) (hb : Num w vb ys) (hza : xs.length ≤ 8796093022208) (h2 : 2 < (dg (val xs)).length ∨ 2 < (dg (val ys)).length) (hlt : val xs < val ys) :
    Calls Try.prog 17 #[va, vb] w (RDiv w (val xs) (val ys)) := by
  have Ta := Lib.hid (trim_n w va xs ha)
  have Tb := Lib.hid (trim_n w vb ys hb)
  have hll := dg_length_val xs ha.small
  have hlm := dg_length_mono (Nat.le_of_lt hlt)
  have hz : (((dg (val ys)).length : Int) == 0) = false := by rw [beq_eq_false_iff_ne]; omega
  have hbi : (2 : Int) < (dg (val ys)).length := by omega
  have hle2 : decide (((dg (val ys)).length : Int) ≤ 2) = false := by simp; omega
  have hgt : cmpI (val (dg (val xs))) (val (dg (val ys))) = -1 := by
    rw [val_dg, val_dg]
    exact cmpI_lt hlt
  have HGT := Lib.hid hgt
  have HE1 := Lib.hid (show val xs / val ys = 0 from Nat.div_eq_of_lt hlt)
  have HE2 := Lib.hid (show val xs % val ys = val xs from Nat.mod_eq_of_lt hlt)
  clear hgt h2
  by_cases h2a : (dg (val xs)).length ≤ 2
  all_goals
    have t1 : ((dg (val xs)).length : Int) ≤ 2 ∨ (2 : Int) < (dg (val xs)).length := by omega
    go_enter Try.func17, Try.ntmps17
    go_wp2_with fail
    refine (Ta.out).mono ?_
    rintro e w' ⟨A, c, rfl, hA, rfl⟩
    go_wp2_with fail
    refine (Tb.out).mono ?_
    rintro e w' ⟨A', c', rfl, hB, rfl⟩
    have C := cmp_c w _ _ _ _ hA hB
    rw [HGT.out] at C
    have CC := Lib.hid C
    clear C
    go_wp2_with fail
    refine (CC.out).mono ?_
    rintro e w' ⟨rfl, N, rfl⟩
    have NN := normalize_c (w.drewN N) _ _ (hA.drewN N) (by omega)
    rw [val_dg] at NN
    have HNN := Lib.hid NN
    clear NN
    go_wp2_with fail
    refine (HNN.out).mono ?_
    rintro e w1 ⟨r, rfl, hr, hB1⟩
    go_wp2_with fail
    go_ret3
    exact ⟨_, _, rfl, by rw [HE1.out]; exact Own.nil _ _, by rw [HE2.out]; exact hr, (below_drewN (Below.refl _ _) N).trans hB1⟩

set_option maxHeartbeats 1000000 in
theorem div_long (w : World) (va vb : Value) (xs ys : List Nat) (ha : Num w va xs) (hb : Num w vb ys) (hza : xs.length ≤ 8796093022200) (hla : 2 < (dg (val xs)).length) (hlb : 2 ≤ (dg (val ys)).length) (hle : val ys ≤ val xs) :
    Calls Try.prog 17 #[va, vb] w (RDiv w (val xs) (val ys)) := by
  have Ta := Lib.hid (trim_n w va xs ha)
  have Tb := Lib.hid (trim_n w vb ys hb)
  have hll := dg_length_val xs ha.small
  have hlm := dg_length_mono hle
  have hz : (((dg (val ys)).length : Int) == 0) = false := by rw [beq_eq_false_iff_ne]; omega
  have h1 : (((dg (val ys)).length : Int) == 1) = false := by rw [beq_eq_false_iff_ne]; omega
  have hai : (2 : Int) < (dg (val xs)).length := by omega
  have hci : 0 ≤ cmpI (val (dg (val xs))) (val (dg (val ys))) ∧ cmpI (val (dg (val xs))) (val (dg (val ys))) ≤ 1 := by
    rw [val_dg, val_dg]
    unfold cmpI
    rw [if_neg (by omega)]
    split <;> omega
  go_enter Try.func17, Try.ntmps17
  go_wp2_with fail
  refine (Ta.out).mono ?_
  rintro e w' ⟨A, c, rfl, hA, rfl⟩
  go_wp2_with fail
  refine (Tb.out).mono ?_
  rintro e w' ⟨A', c', rfl, hB, rfl⟩
  have C := cmp_c w _ _ _ _ hA hB
  generalize cmpI (val (dg (val xs))) (val (dg (val ys))) = ci at *
  have CC := Lib.hid C
  obtain ⟨c0, c1⟩ := hci
  have hdl : decide (ci < 0) = false := by simp; omega
  clear C
  go_wp2_with fail
  refine (CC.out).mono ?_
  rintro e w' ⟨rfl, N, rfl⟩
  have LD := Lib.hid (longDiv_c (w.drewN N) _ _ _ _ _ _ (hA.drewN N) (hB.drewN N) rfl rfl hlb hlm (by omega))
  clear CC
  go_wp2_with fail
  refine (LD.out).mono ?_
  rintro e w1 ⟨q, r, zq, zr, rfl, hq, eq1, hr, er1, hB1⟩
  have T1 := trim_own_any w1 _ q zq hq
  rw [eq1] at T1
  have HT1 := Lib.hid T1
  have T2 := trim_own_any w1 _ r zr hr
  rw [er1] at T2
  have HT2 := Lib.hid T2
  clear T1 T2 LD hq hr
  go_wp2_with fail
  refine (HT1.out).mono ?_
  rintro e w2 ⟨q2, rfl, hq2, rfl⟩
  go_wp2_with fail
  refine (HT2.out).mono ?_
  rintro e w2 ⟨r2, rfl, hr2, rfl⟩
  go_wp2_with fail
  go_ret3
  exact ⟨_, _, rfl, hq2, hr2, (below_drewN (Below.refl _ _) N).trans hB1⟩

theorem div_c (w : World) (va vb : Value) (xs ys : List Nat) (ha : Num w va xs) (hb : Num w vb ys) (hza : xs.length ≤ 8796093022200) (hb0 : 0 < val ys) :
    Calls Try.prog 17 #[va, vb] w (RDiv w (val xs) (val ys)) := by
  by_cases h1 : (dg (val xs)).length ≤ 2 ∧ (dg (val ys)).length ≤ 2
  · exact div_small w va vb xs ys ha hb h1.1 h1.2 hb0
  · rcases Nat.lt_or_ge (val xs) (val ys) with h2 | h2
    · exact div_less w va vb xs ys ha hb (by omega) (by omega) h2
    · have hm := dg_length_mono h2
      by_cases h3 : (dg (val ys)).length = 1
      · exact div_one w va vb xs ys ha hb (by omega) (by omega) h3
      · have h4 : (dg (val ys)).length ≠ 0 := fun e => by have := dg_len0 e; omega
        exact div_long w va vb xs ys ha hb hza (by omega) (by omega) h2
end Go.Proofs.Yticakmcjiofhoaa

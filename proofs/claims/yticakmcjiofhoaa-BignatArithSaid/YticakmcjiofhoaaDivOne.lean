/- The contract of DivMod: where the divisor is 0, where both numbers have at most two digits, where the dividend is less, where the divisor has one digit. -/
import Derived.Test.YticakmcjiofhoaaFormat
namespace Go.Proofs.Yticakmcjiofhoaa
open Go.RowKit Dig
set_option linter.unusedVariables false

/-- DivMod hands back a quotient and a remainder of its own. -/
def RDiv (w : World) (a b : Nat) (e : Ending) (w' : World) : Prop :=
  ∃ q r, e = .returned (.tuple #[q, r, .bool true]) ∧ Own w.heap.size w' q (dg (a / b)) ∧ Own w.heap.size w' r (dg (a % b)) ∧ Below w.heap.size w w'

set_option maxHeartbeats 400000 in
theorem div_zero (w : World) (va vb : Value) (xs ys : List Nat) (ha : Num w va xs) (hb : Num w vb ys) (h0 : val ys = 0) :
    Calls Try.prog 17 #[va, vb] w fun e w' => e = .returned (.tuple #[.slice none 0 0, .slice none 0 0, .bool false]) ∧ w = w' := by
  have Ta := Lib.hid (trim_n w va xs ha)
  have Tb := Lib.hid (trim_n w vb ys hb)
  rw [h0] at Tb
  go_enter Try.func17, Try.ntmps17
  go_wp2_with fail
  refine (Ta.out).mono ?_
  rintro e w' ⟨A, c, rfl, hA, rfl⟩
  go_wp2_with fail
  refine (Tb.out).mono ?_
  rintro e w' ⟨A', c', rfl, hB, rfl⟩
  rw [show (dg 0).length = 0 from rfl]
  go_wp2_with fail
  go_ret3
  exact ⟨rfl, rfl⟩

set_option maxHeartbeats 1000000 in
theorem div_one (w : World) (va vb : Value) (xs ys : List Nat) (ha : Num w va xs) (hb : Num w vb ys) (hza : xs.length ≤ 8796093022208) (hla : 2 < (dg (val xs)).length) (hlb : (dg (val ys)).length = 1) :
    Calls Try.prog 17 #[va, vb] w (RDiv w (val xs) (val ys)) := by
  have Ta := Lib.hid (trim_n w va xs ha)
  have Tb := Lib.hid (trim_n w vb ys hb)
  have hll := dg_length_val xs ha.small
  have hb0 : 0 < val ys := by
    rcases Nat.eq_zero_or_pos (val ys) with h | h
    · rw [h] at hlb; cases hlb
    · exact h
  have hle : val ys ≤ val xs := by
    have := lt_of_dg_length (show (dg (val ys)).length < (dg (val xs)).length by omega)
    omega
  have hd1 := dg_len1 hlb
  have hgt : cmpI (val (dg (val xs))) (val (dg (val ys))) = 1 := by
    rw [val_dg, val_dg]
    exact cmpI_gt (lt_of_dg_length (by omega))
  rw [hlb] at Tb
  have hai : (2 : Int) < (dg (val xs)).length := by omega
  have HLB := Lib.hid hlb
  have HD1 := Lib.hid hd1
  have HGT := Lib.hid hgt
  clear hlb hd1 hgt
  go_enter Try.func17, Try.ntmps17
  go_wp2_with fail
  refine (Ta.out).mono ?_
  rintro e w' ⟨A, c, rfl, hA, rfl⟩
  go_wp2_with fail
  refine (Tb.out).mono ?_
  rintro e w' ⟨A', c', rfl, hB, rfl⟩
  have C := cmp_c w _ _ _ _ hA hB
  rw [HGT.out] at C
  have CC := Lib.hid C
  clear C
  go_wp2_with fail
  refine (CC.out).mono ?_
  rintro e w' ⟨rfl, N, rfl⟩
  have NN := Lib.hid (normalize_c (w.drewN N) _ _ (hA.drewN N) (by omega))
  go_wp2_with fail
  refine (NN.out).mono ?_
  rintro e w1 ⟨q, rfl, hq, hB1⟩
  have hB2 : Below w.heap.size w w1 := (below_drewN (Below.refl _ _) N).trans hB1
  have hq1 : Own w.heap.size w1 q (dg (val (dg (val xs)))) := hq
  obtain ⟨b, off, rfl, hbb, hcell⟩ := (hB.below hB2).cells (by omega)
  have hc0 : w1.cell? ⟨b, off, none⟩ = some (.int .u32 (((dg (val ys)).getD 0 0 : Nat) : Int)) := hcell 0 (by omega)
  rw [← HD1.out] at hc0
  have hdb : val ys < 4294967296 := by rw [HD1.out]; exact (small_dg (val ys)).get 0
  have hne : dg (val (dg (val xs))) ≠ [] := by
    rw [val_dg]
    intro e
    rw [e] at hla
    simp at hla
  have DV := Lib.hid (divd_own w1 w.heap.size (val ys) q _ hq1 hne hb0 hdb)
  rw [val_dg, val_dg] at DV
  clear hcell hq hB1 hA hB NN
  go_wp2_with fail
  refine (DV.out).mono ?_
  rintro e w2 ⟨rfl, zs, z1, z2, z3, z4⟩
  have hB3 := below_own hB2 z3 hq1 (Nat.le_refl _)
  have hm : val xs % val ys < 4294967296 := Nat.lt_trans (Nat.mod_lt _ hb0) hdb
  have FC := Lib.hid (from_c w2 (val xs % val ys) (by omega))
  have Z1 := Lib.hid z1
  have hmi : ((val xs % val ys : Nat) : Int) < 4294967296 := by omega
  have hmi0 : 0 ≤ ((val xs % val ys : Nat) : Int) := Int.natCast_nonneg _
  generalize hmd : val xs % val ys = md at *
  have HMD := Lib.hid hmd
  clear hmd
  clear z1 z3 z4 DV
  go_wp2_with fail
  refine (FC.out).mono ?_
  rintro e w3 ⟨r, rfl, hr, hB4⟩
  have z5 := z2.below hB4 (Nat.le_refl _)
  have T := trim_own_any w3 _ _ zs z5
  rw [Z1.out] at T
  have TT := Lib.hid T
  have hB5 := hB3.trans (hB4.mono hB3.size)
  clear T z2 z5
  go_wp2_with fail
  refine (TT.out).mono ?_
  rintro e w4 ⟨q2, rfl, hq2, rfl⟩
  go_wp2_with fail
  go_ret3
  exact ⟨_, _, rfl, hq2, by rw [HMD.out]; exact hr.mono hB3.size, hB5⟩
end Go.Proofs.Yticakmcjiofhoaa

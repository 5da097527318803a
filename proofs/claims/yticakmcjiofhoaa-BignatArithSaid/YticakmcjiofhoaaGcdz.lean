/- The contract of GCD where the second number is 0. -/
import Derived.Test.YticakmcjiofhoaaStep
import Derived.Test.YticakmcjiofhoaaDivOne
namespace Go.Proofs.Yticakmcjiofhoaa
open Go.RowKit Dig
set_option linter.unusedVariables false

set_option maxHeartbeats 1000000 in
theorem gcd_zero (w : World) (va vb : Value) (xs ys : List Nat) (ha : Num w va xs) (hb : Num w vb ys) (h0 : val ys = 0) (hz : xs.length ≤ 4398046511104) :
    Calls Try.prog 32 #[va, vb] w (RNat w (val xs)) := by
  have Ta := Lib.hid (trim_n w va xs ha)
  have T2 := trim_n w vb ys hb
  rw [h0] at T2
  have Tb := Lib.hid T2
  have hla := dg_length_val xs ha.small
  go_enter Try.func32, Try.ntmps32
  go_wp2_with fail
  refine (Ta.out).mono ?_
  rintro e w' ⟨A, c, rfl, hA, rfl⟩
  go_wp2_with fail
  refine (Tb.out).mono ?_
  rintro e w' ⟨A', c', rfl, hA', rfl⟩
  have C := cmp_c w _ _ _ _ hA hA'
  have hcm : 0 ≤ cmpI (val xs) 0 ∧ cmpI (val xs) 0 ≤ 1 := by
    rcases Nat.eq_zero_or_pos (val xs) with h | h
    · rw [h, cmpI_eq]; omega
    · rw [cmpI_gt h]; omega
  rw [val_dg, val_dg] at C
  have NN := fun w1 hB => normalize_c w1 _ _ (Num.below (w' := w1) hA hB) (by omega)
  rw [val_dg] at NN
  have HNN := Lib.hid NN
  generalize cmpI (val xs) 0 = cz at *
  obtain ⟨hc0, hc1⟩ := hcm
  have HC := Lib.hid C
  rw [show (dg 0).length = 0 from rfl] at *
  clear C NN T2
  go_wp2_with fail
  refine (HC.out).mono ?_
  rintro e w1 ⟨rfl, N, rfl⟩
  have hBN := below_drewN (Below.refl w.heap.size w) N
  go_wp2_with fail
  go_loopw [0, 1] (fun x y wr => x = .slice A (dg (val xs)).length c ∧ y = .slice A' 0 c' ∧ wr = w.drewN N) (fun _ _ _ => 0)
  case atStart => exact ⟨rfl, rfl, rfl⟩
  case round =>
    obtain ⟨rfl, rfl, rfl⟩ := hrel
    go_wp2_with fail
    refine (HNN.out _ hBN).mono ?_
    rintro e w2 ⟨r, rfl, hO, hB2⟩
    go_wp2_with fail
    go_ret
    exact ⟨_, rfl, hO.mono hBN.size, below_then hBN hB2⟩
end Go.Proofs.Yticakmcjiofhoaa

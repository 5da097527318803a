/- The contract of the reference function NatCmp. -/
import Derived.Test.YticakmcjiofhoaaRefA
namespace Go.Proofs.Yticakmcjiofhoaa
open Go.RowKit Dig
set_option linter.unusedVariables false

def RInt (w : World) (z : Int) (e : Ending) (w' : World) : Prop := e = .returned (.int .i64 z) ∧ Below w.heap.size w w'

section
variable (w : World) (va vb : Value) (xs ys : List Nat) (ha : Num w va xs) (hb : Num w vb ys) (hza : xs.length ≤ 8796093022208) (hzb : ys.length ≤ 8796093022208)
include ha hb hza hzb

set_option maxHeartbeats 1000000 in
theorem natCmp_ne (hl : (dg (val xs)).length ≠ (dg (val ys)).length) :
    Calls Try.prog 27 #[va, vb] w (RInt w (cmpI (val xs) (val ys))) := by
  have Na := Lib.hid (natNorm_c w va xs ha hza)
  have Nb := Lib.hid (fun w1 hB => natNorm_c w1 vb ys (hb.below hB) hzb)
  have C : cmpI (val xs) (val ys) = if (dg (val xs)).length < (dg (val ys)).length then -1 else 1 := by
    split
    · next h => rw [cmpI_lt (lt_of_dg_length h)]
    · next h => rw [cmpI_gt (lt_of_dg_length (by omega))]
  have HC := Lib.hid C
  clear C
  go_enter Try.func27, Try.ntmps27
  go_wp2_with fail
  refine (Na.out).mono ?_
  rintro e w1 ⟨r, rfl, hO, hB⟩
  go_wp2_with fail
  refine (Nb.out w1 hB).mono ?_
  rintro e w2 ⟨s, rfl, hO2, hB2⟩
  have HB := Lib.hid (below_then hB hB2)
  obtain ⟨A, c, rfl⟩ := hO.num.form
  obtain ⟨A', c', rfl⟩ := hO2.num.form
  clear hO hO2 hB hB2
  generalize (dg (val xs)).length = m at *
  generalize (dg (val ys)).length = n at *
  have hne : ((m : Int) != (n : Int)) = true := by rw [bne_iff_ne]; omega
  by_cases hmn : m < n
  · have h2 : (m : Int) < n := by omega
    go_wp2_with fail
    go_ret
    exact ⟨ret_eq (show Value.int .i64 (-1) = _ by rw [HC.out, if_pos hmn]), HB.out⟩
  · have h2 : ¬ (m : Int) < n := by omega
    go_wp2_with fail
    go_ret
    exact ⟨ret_eq (show Value.int .i64 1 = _ by rw [HC.out, if_neg hmn]), HB.out⟩

set_option maxHeartbeats 2000000 in
theorem natCmp_eq (hl : (dg (val xs)).length = (dg (val ys)).length) :
    Calls Try.prog 27 #[va, vb] w (RInt w (cmpI (val xs) (val ys))) := by
  have Na := natNorm_c w va xs ha hza
  have Nb := fun w1 hB => natNorm_c w1 vb ys (Num.below (w' := w1) hb hB) hzb
  have hva := val_dg (val xs)
  have hvb := val_dg (val ys)
  have sa := small_dg (val xs)
  have sb := small_dg (val ys)
  unfold RNat at Na Nb
  generalize dg (val xs) = X at *
  generalize dg (val ys) = Y at *
  have HNa := Lib.hid Na
  have HNb := Lib.hid Nb
  clear Na Nb
  obtain ⟨m, hm⟩ : ∃ m, X.length = m := ⟨_, rfl⟩
  rw [hm] at hl
  rw [← hva, ← hvb]
  have HM := Lib.hid hm
  have HL := Lib.hid hl
  clear hva hvb
  go_enter Try.func27, Try.ntmps27
  go_wp2_with fail
  refine (HNa.out).mono ?_
  rintro e w1 ⟨r, rfl, hO, hB⟩
  go_wp2_with fail
  refine (HNb.out w1 hB).mono ?_
  rintro e w2 ⟨s, rfl, hO2, hB2⟩
  have HB := Lib.hid (below_then hB hB2)
  have hA := hO.num.below hB2
  have hA' := hO2.num
  obtain ⟨A, c, rfl⟩ := hA.form
  obtain ⟨A', c', rfl⟩ := hA'.form
  have hmx := hA.bounds.2.2
  have hmy := hA.bounds.2.1
  clear hO hO2 hB hB2
  rw [hm] at hA hmy ⊢
  rw [← hl] at hA' ⊢
  have hmc : (m : Int) ≤ 9223372036854775807 := by omega
  clear hm hl
  go_wp2_with fail
  go_loopw [7] (fun i wr => ∃ k N : Nat, k ≤ m ∧ i = .int .i64 ((k : Int) - 1) ∧ wr = w2.drewN N ∧ ∀ j, k ≤ j → j < m → X.getD j 0 = Y.getD j 0) (fun i _ => (intOf i + 1).toNat)
  case atStart => exact ⟨m, 0, Nat.le_refl _, rfl, rfl, fun j h1 h2 => by omega⟩
  case round =>
    obtain ⟨k, N, hk, rfl, rfl, he⟩ := hrel
    rcases Nat.eq_zero_or_pos k with h0 | h0
    · subst h0
      have E : X = Y := ext_getD (by rw [HM.out]; exact HL.out) (fun j hj => he j (by omega) (by rw [HM.out] at hj; exact hj))
      have EE := Lib.hid E
      clear E he
      go_wp2_with fail
      go_ret
      exact ⟨ret_eq (show Value.int .i64 0 = _ by rw [EE.out, cmpI_eq]), below_drewN HB.out _⟩
    · obtain ⟨b, off, rfl, hb1, cellx⟩ := hA.cells (by omega)
      obtain ⟨b', off', rfl, hb2, celly⟩ := hA'.cells (by omega)
      have cx := cellx (k - 1) (by omega)
      have cy := celly (k - 1) (by omega)
      clear cellx celly
      generalize hx : X.getD (k - 1) 0 = x at cx
      generalize hy : Y.getD (k - 1) 0 = y at cy
      have HX := Lib.hid hx
      have HY := Lib.hid hy
      have HEE := Lib.hid he
      clear hx hy he
      have k1 : (0 : Int) < k := by omega
      rcases Nat.lt_trichotomy x y with hxy | hxy | hxy
      · have hne : (x : Int) < (y : Int) := by omega
        have E := Lib.hid (cmpI_lt (lt_of_digit X Y sa (k - 1) (by rw [HM.out]; exact HL.out) (by rw [HM.out]; omega) (fun j h1 h2 => HEE.out j (by omega) (by rw [HM.out] at h2; exact h2)) (by rw [HX.out, HY.out]; exact hxy)))
        go_wp2_with fail
        go_quiet (fail)
        go_wp2_with fail
        go_ret
        exact ⟨ret_eq (show Value.int .i64 (-1) = _ by rw [E.out]), below_drewN (below_drewN HB.out _) _⟩
      · subst hxy
        go_wp2_with fail
        go_quiet (fail)
        go_wp2_with fail
        go_quiet (fail)
        go_wp2_with fail
        go_roundw
        case rel =>
          refine ⟨k - 1, _, by omega, by go_num, rfl, fun j h1 h2 => ?_⟩
          by_cases hj : j = k - 1
          · rw [hj, HX.out, HY.out]
          · exact HEE.out j (by omega) h2
        case measure => simp [intOf]; omega
      · have hne : ¬ (x : Int) < (y : Int) := by omega
        have hnl : (y : Int) < (x : Int) := by omega
        have E := Lib.hid (cmpI_gt (lt_of_digit Y X sb (k - 1) (by rw [HM.out]; exact HL.out.symm) (by rw [← HL.out]; omega) (fun j h1 h2 => (HEE.out j (by omega) (by rw [← HL.out] at h2; exact h2)).symm) (by rw [HX.out, HY.out]; exact hxy)))
        go_wp2_with fail
        go_quiet (fail)
        go_wp2_with fail
        go_quiet (fail)
        go_wp2_with fail
        go_ret
        exact ⟨ret_eq (show Value.int .i64 1 = _ by rw [E.out]), below_drewN (below_drewN (below_drewN HB.out _) _) _⟩

theorem natCmp_c : Calls Try.prog 27 #[va, vb] w (RInt w (cmpI (val xs) (val ys))) := by
  by_cases hl : (dg (val xs)).length = (dg (val ys)).length
  · exact natCmp_eq w va vb xs ys ha hb hza hzb hl
  · exact natCmp_ne w va vb xs ys ha hb hza hzb hl
end
end Go.Proofs.Yticakmcjiofhoaa

/- The contracts of checkExponent and Pow of package poly. -/
import Derived.Test.YtpmjhkpjhfpfpaaPlyL
import Derived.Test.YtpmjhkpjhfpfpaaFold
import Derived.Test.YtpmjhkpjhfpfpaaPlyE
namespace Go.Proofs.Ytpmjhkpjhfpfpaa
open Go.RowKit Dig
set_option linter.unusedVariables false

namespace Dig
def ppow (p : List Rat) : Nat → List Rat
  | 0 => [1]
  | n + 1 => pmul (ppow p n) p
theorem tr_one : tr [(1 : Rat)] = [1] := by simp [tr]
theorem tr_ppow (p : List Rat) : ∀ n, tr (ppow p n) = ppow p n
  | 0 => tr_one
  | n + 1 => tr_pmul _ _
theorem pmul_one (p : List Rat) : pmul [1] p = tr p := norm_ext (tr_pmul _ _) (tr_tr _) fun i => by
  rw [cf_pmul, cf_tr]
  cases i with
  | zero => rw [conv, cf_zero]; grind
  | succ i =>
    rw [conv, cf_zero, conv_zero_l _ _ i (fun j => by rw [cf_succ, cf_nil])]
    grind
end Dig
section
variable {w : World} {v : Value} {ps : List Rat} {k K M D n : Nat}
theorem check_ok (w : World) (i : Int) (h0 : 0 ≤ i) (h1 : i ≤ 1024) : Calls Try.prog 61 #[.int .i64 i] w fun e w' => e = .returned (.int .i64 0) ∧ w = w' := by
  have a : ¬ i < 0 := by omega
  have b : ¬ 1024 < i := by omega
  go_enter Try.func61, Try.ntmps61
  go_wp2_with fail
  go_ret
  exact ⟨rfl, rfl⟩
theorem check_neg (w : World) (i : Int) (h0 : i < 0) : Calls Try.prog 61 #[.int .i64 i] w fun e w' => e = .returned (.int .i64 1) ∧ w = w' := by
  go_enter Try.func61, Try.ntmps61
  go_wp2_with fail
  go_ret
  exact ⟨rfl, rfl⟩
theorem check_big (w : World) (i : Int) (h0 : 1024 < i) : Calls Try.prog 61 #[.int .i64 i] w fun e w' => e = .returned (.int .i64 4) ∧ w = w' := by
  have a : ¬ i < 0 := by omega
  go_enter Try.func61, Try.ntmps61
  go_wp2_with fail
  go_ret
  exact ⟨rfl, rfl⟩
def RNone (w : World) (x : Int) (e : Ending) (w' : World) : Prop := e = .returned (.tuple #[.slice none 0 0, .int .i64 x]) ∧ Below w.heap.size w w'
def RPolE (w : World) (qs : List Rat) (k : Nat) (e : Ending) (w' : World) : Prop := ∃ v, e = .returned (.tuple #[v, .int .i64 0]) ∧ Ofl (CV k) w.heap.size w' v qs ∧ Below w.heap.size w w'
theorem pow_neg_p (w : World) (A : Option Addr) (m c : Nat) (i : Int) (h0 : i < 0) : Calls Try.prog 36 #[.slice A m c, .int .i64 i] w (RNone w 1) := by
  have C := Lib.hid (check_neg w i h0)
  go_enter Try.func36, Try.ntmps36
  go_wp2_with fail
  refine (C.out).mono ?_
  rintro e w1 ⟨rfl, rfl⟩
  go_wp2_with fail
  go_ret2
  exact ⟨rfl, Below.refl _ _⟩
theorem pow_big_p (w : World) (A : Option Addr) (m c : Nat) (i : Int) (h0 : 1024 < i) : Calls Try.prog 36 #[.slice A m c, .int .i64 i] w (RNone w 4) := by
  have C := Lib.hid (check_big w i h0)
  go_enter Try.func36, Try.ntmps36
  go_wp2_with fail
  refine (C.out).mono ?_
  rintro e w1 ⟨rfl, rfl⟩
  go_wp2_with fail
  go_ret2
  exact ⟨rfl, Below.refl _ _⟩
set_option maxHeartbeats 2000000 in
theorem pow_long_p (hF : Fls (FV k) w v ps) (hk : k ≤ 400000) (hn0 : 1 ≤ n) (hn : n ≤ 1024) (hm : ps.length ≤ 1000000) (h0 : 1023 / n < (tr ps).length - 1) :
    Calls Try.prog 36 #[v, .int .i64 (n : Int)] w (RNone w 4) := by
  have C := Lib.hid (check_ok w n (by omega) (by omega))
  have T := Lib.hid (trim_p hF (keeps_FV k) (reads_FV k) hk)
  obtain ⟨A, c, rfl⟩ := hF.form
  have hl := Nat.le_trans (tr_le ps) hm
  clear hF
  generalize hL : (tr ps).length = L at *
  have hz : ((n : Int) == 0) = false := by rw [beq_eq_false_iff_ne]; omega
  obtain ⟨q, hq⟩ : ∃ q, 1023 / n = q := ⟨_, rfl⟩
  rw [hq] at h0
  have HQ := Lib.hid (show (1023 : Int) / (n : Int) = (q : Int) by rw [← hq]; rfl)
  have hdv : (1023 : Int).tdiv (n : Int) = (q : Int) := by rw [← hq]; rfl
  clear hq hL
  go_enter Try.func36, Try.ntmps36
  go_wp2_with fail
  refine (C.out).mono ?_
  rintro e w1 ⟨rfl, rfl⟩
  go_wp2_with fail
  refine (T.out).mono ?_
  rintro e w1 ⟨A', c', hA, rfl, hf, hB1⟩
  cases hA
  have hf := Lib.hid hf
  have hlt : (q : Int) < (L : Int) - 1 := by omega
  go_wp2_with fail
  go_ret2
  exact ⟨rfl, hB1⟩
set_option maxHeartbeats 2000000 in
theorem pow_zero_p (hF : Fls (FV k) w v ps) (hk : k ≤ 400000) (hm : ps.length ≤ 1000000) :
    Calls Try.prog 36 #[v, .int .i64 0] w (RPolE w [1] 3) := by
  have C := Lib.hid (check_ok w 0 (by omega) (by omega))
  have T := Lib.hid (trim_p hF (keeps_FV k) (reads_FV k) hk)
  have P := Lib.hid (fun w1 => product_r (w := w1) (k := 2) (by omega) (Fls.nil (FV 2) w1) (by rw [List.length_nil, fbd_zero]; omega) (by simp))
  obtain ⟨A, c, rfl⟩ := hF.form
  clear hF
  go_enter Try.func36, Try.ntmps36
  go_wp2_with fail
  refine (C.out).mono ?_
  rintro e w1 ⟨rfl, rfl⟩
  go_wp2_with fail
  refine (T.out).mono ?_
  rintro e w1 ⟨A', c', hA, rfl, hf, hB1⟩
  cases hA
  clear hf
  go_wp2_with fail
  refine (P.out _).mono ?_
  rintro e w2 ⟨u, rfl, hu, hB2⟩
  obtain ⟨b', C', o, r, C2, o', r', rfl, hb', hvx, hvy⟩ := hu.parts
  have HB := Lib.hid (below_then hB1 hB2)
  have HU := Lib.hid hu
  clear hu hb' hvx hvy hB2
  go_wp2_with fail
  go_ret2
  refine ⟨_, rfl, .inr ⟨w2.heap.size, [⟨b', (C', o, r), (C2, o', r')⟩], rfl, HB.out.size, ?_, by simp, by unfold maxLen; simp, fun j hj => ?_⟩, HB.out.trans ((Below.refl _ _).alloc HB.out.size _)⟩
  · exact Fcl.fblk (Fcl.new w2 _ _ _)
  · obtain rfl : j = 0 := by simp at hj; omega
    exact CanF.le (CanF.below HU.out ((Below.refl _ _).alloc (Nat.le_refl _) _)) (by rw [List.length_nil, fbd_zero]; omega)
theorem SclV.store {w : World} {v : Value} {zs : List Int} {d K M g : Nat} {A B : Option Addr} {m c m' c' : Nat} (h : SclV w v zs d K M) (hS : Sbx w g (.slice A m c) (.slice B m' c')) (x y : Value) : SclV (stor2o w g 0 x y) v zs d K M := by
  obtain ⟨nv, dv, rfl, h1, h2⟩ := h
  have hs := Nat.le_of_eq (stor2o_size w g 0 x y).symm
  have hk := stor2o_heap w g 0 x y
  refine ⟨nv, dv, rfl, h1.plain hS.plain ?_ hs hk, h2.plain hS.plain hs hk⟩
  rintro A' n c'' b off rfl rfl hp
  obtain ⟨rfl, _, _⟩ := h1.lens
  obtain ⟨b', off', e, _, hc⟩ := h1.cells hp
  cases e
  obtain ⟨tb, X, xm, xc, c0, _⟩ := hc 0 hp
  rintro rfl
  unfold Sbx at hS
  rw [cell_of_row w b _ _ _ (0, 0) hS] at c0
  match hof : off + 0 * 2, c0 with
  | 0, c0 => simp at c0
  | 1, c0 => simp at c0
  | i + 2, c0 => simp at c0
def PwRel (w2 wr : World) (rs : List Rat) (d K M g7 g8 j : Nat) (x y : Value) : Prop := ∃ A c B m c' zs, Sbx wr g7 x y ∧ Sbx wr g8 (.slice A (List.length zs) c) (.slice B m c') ∧ SclV wr (.agg #[.slice A zs.length c, .slice B m c']) zs (d ^ (j + 1)) ((j + 1) * K) ((j + 1) * (M + 1)) ∧ Over (ppow rs (j + 1)) zs (d ^ (j + 1)) ∧ zs.length ≤ (j + 1) * 1024 ∧ Below w2.heap.size w2 wr
set_option maxHeartbeats 8000000 in
theorem pow_p (hF : Fls (FV k) w v ps) (hk : k ≤ 400000) (h2 : 2 ≤ k) (hK : n * K ≤ 100000) (hM : n * (M + 1) ≤ 400000) (hKM : K ≤ M) (hM1 : 1 ≤ M) (hn0 : 1 ≤ n) (hn : n ≤ 1024) (hm : ps.length ≤ 1000000) (hs : Szd (tr ps) D K M) (hlen : (tr ps).length - 1 ≤ 1023 / n) :
    Calls Try.prog 36 #[v, .int .i64 (n : Int)] w (RPolE w (ppow (tr ps) n) (n * (M + 1))) := by
  have hK1 : K ≤ 100000 := Nat.le_trans (Nat.le_mul_of_pos_left K (by omega)) hK
  have C := Lib.hid (check_ok w n (by omega) (by omega))
  have T := Lib.hid (trim_p hF (keeps_FV k) (reads_FV k) hk)
  have hl := Nat.le_trans (tr_le ps) hm
  have SC := Lib.hid (fun w1 v1 (h : Fls (FV k) w1 v1 (tr ps)) => scale_o (w := w1) h hk h2 hK1 hl (by rw [tr_tr]; exact hs))
  rw [tr_tr] at SC
  obtain ⟨A, c, rfl⟩ := hF.form
  have htt := tr_tr ps
  generalize tr ps = rs at *
  have hz : ((n : Int) == 0) = false := by rw [beq_eq_false_iff_ne]; omega
  obtain ⟨q, hq⟩ : ∃ q, 1023 / n = q := ⟨_, rfl⟩
  have hdv : (1023 : Int).tdiv (n : Int) = (q : Int) := by rw [← hq]; rfl
  have hnle : ¬ (q : Int) < (rs.length : Int) - 1 := by omega
  have hq9 : q ≤ 1023 := by rw [← hq]; exact Nat.div_le_self _ _
  have HTT := Lib.hid htt
  clear hq hF hs htt
  generalize hL : rs.length = L at *
  have HL := Lib.hid hL
  clear hL
  go_enter Try.func36, Try.ntmps36
  go_wp2_with fail
  refine (C.out).mono ?_
  rintro e w1 ⟨rfl, rfl⟩
  go_wp2_with fail
  refine (T.out).mono ?_
  rintro e w1 ⟨A', c', hA, rfl, hf, hB1⟩
  cases hA
  go_wp2_with fail
  refine (SC.out _ _ hf).mono ?_
  rintro e w2 ⟨x, zs, d, rfl, hx, o1, hB2⟩
  obtain ⟨X, xc, Y, ym, yc, rfl, hxz, hxd⟩ := hx.parts
  have hB2 := below_then hB1 hB2
  clear SC T C hf
  go_wp2_with fail
  have hlen2 : zs.length ≤ 1024 := by have := o1.1; have := HL.out; omega
  have hF7 := (Sbx.new w2 (.slice X zs.length xc) (.slice Y ym yc)).alloc (.cells #[.slice X zs.length xc, .slice Y ym yc] 59)
  have hF8 := Sbx.new2 w2 (.cells #[.slice X zs.length xc, .slice Y ym yc] 59) (.slice X zs.length xc) (.slice Y ym yc)
  have hB3 := below_alloc2 w2 (.cells #[.slice X zs.length xc, .slice Y ym yc] 59) (.cells #[.slice X zs.length xc, .slice Y ym yc] 59)
  have hI : PwRel w2 ((w2.alloc (.cells #[.slice X zs.length xc, .slice Y ym yc] 59)).alloc (.cells #[.slice X zs.length xc, .slice Y ym yc] 59)) rs d K M w2.heap.size (w2.heap.size + 1) 0 (.slice X zs.length xc) (.slice Y ym yc) := by
    refine ⟨_, _, _, _, _, zs, hF7, hF8, ?_, ?_, by omega, hB3⟩
    · have h := hx.below hB3
      rw [Nat.zero_add, Nat.pow_one, Nat.one_mul, Nat.one_mul]
      obtain ⟨nv, dv, e, h1, h2⟩ := h
      cases e
      refine ⟨_, _, rfl, ?_, h2⟩
      obtain ⟨A1, c1, e1, g1, g2, g3⟩ := h1
      refine ⟨A1, c1, e1, g1, g2, fun hp => ?_⟩
      obtain ⟨b, off, e, hb, hc⟩ := g3 hp
      refine ⟨b, off, e, hb, fun j hj => ?_⟩
      obtain ⟨tb, X', xm, xc', c0, c1, hz⟩ := hc j hj
      exact ⟨tb, X', xm, xc', c0, c1, hz.le (Nat.le_succ M)⟩
    · rw [Nat.zero_add, Nat.pow_one]
      have e : ppow rs 1 = rs := by rw [ppow, ppow, pmul_one, HTT.out]
      rw [e]
      exact o1
  have MUL := Lib.hid (fun w4 a zs' (j : Nat) (hr : Below w2.heap.size w2 w4) (hj : j + 1 < n) (ha : SclV w4 a zs' (d ^ (j + 1)) ((j + 1) * K) ((j + 1) * (M + 1))) (hl : zs'.length ≤ (j + 1) * 1024) => multiply_z (w := w4) ha (hx.below hr)
    (Nat.le_trans (Nat.mul_le_mul_right K (Nat.le_of_lt hj)) hK) hK1 (by
      have h1 := Nat.mul_le_mul_right (M + 1) (show j + 1 + 1 ≤ n from hj)
      rw [Nat.add_mul (j + 1) 1, Nat.one_mul] at h1
      omega) (by omega) (by omega))
  have RED := Lib.hid (fun w4 a zs' (ha : SclV w4 a zs' (d ^ n) (n * K) (n * (M + 1))) (o : Over (ppow rs n) zs' (d ^ n)) (hl : zs'.length ≤ n * 1024) => reduce_o (w := w4) ha o (Nat.mul_le_mul_left n (by omega)) hM (Nat.le_trans (by omega : 2 ≤ 1 * (M + 1)) (Nat.mul_le_mul_right _ hn0)) (by omega))
  have O1 := Lib.hid o1
  have HB2 := Lib.hid hB2
  obtain ⟨n1, hnn1⟩ : ∃ n1, n = n1 + 1 := ⟨n - 1, by omega⟩
  have hnn : (n : Int) - 1 = (n1 : Int) := by omega
  rw [hnn]
  have hn1 : n1 ≤ 1023 := by omega
  have HN1 := Lib.hid hnn1
  clear hx o1 hB2 hxz hxd hF7 hF8 hB3 hnn hz hdv hnle hnn1
  generalize hg7 : w2.heap.size = g7 at *
  have HGW := Lib.hid hg7
  clear hg7
  generalize (w2.alloc (.cells #[.slice X zs.length xc, .slice Y ym yc] 59)).alloc (.cells #[.slice X zs.length xc, .slice Y ym yc] 59) = w3 at *
  have HG : Hid (g7 + 1 ≠ g7) := Lib.hid (by omega)
  go_loopw [33] (fun i wr => ∃ j : Nat, j ≤ n1 ∧ i = .int .i64 j ∧ PwRel w2 wr rs d K M g7 (g7 + 1) j (.slice X zs.length xc) (.slice Y ym yc)) (fun i _ => n1 - (intOf i).toNat)
  case atStart => exact ⟨0, Nat.zero_le _, rfl, hI⟩
  case round =>
    obtain ⟨j, hj, rfl, A', c', B, m, c2, zs', hS7, hS8, ha, ho, hl', hBr⟩ := hrel
    obtain ⟨k0, k1⟩ := hS7.cells
    obtain ⟨l0, l1⟩ := hS8.cells
    obtain ⟨f0, f1⟩ := hS8.frozen
    have HA := Lib.hid ha
    have HO := Lib.hid ho
    by_cases hjn : j < n1
    · have HI : (j : Int) < n1 := by omega
      have M1 := Lib.hid (MUL.out _ _ _ j (by rw [← HGW.out]; exact hBr) (by have := HN1.out; omega) ha hl')
      have hlen' := Lib.hid (zmul_length zs' zs)
      clear ha ho
      generalize hzl : zs'.length = zl at *
      generalize hzl2 : zs.length = zl2 at *
      have HZ1 := Lib.hid hzl
      have HZ2 := Lib.hid hzl2
      clear hzl hzl2
      go_wp2_with fail
      refine (M1.out).mono ?_
      rintro e w5 ⟨u, rfl, hu, hB5⟩
      obtain ⟨A3, c3, B3, m3, c4, rfl, _, _⟩ := hu.parts
      have hS7 := hS7.below hB5
      have hS8 := hS8.below hB5
      have hs := hu.store hS8 (.slice A3 (zmul zs' zs).length c3) (.slice B3 m3 c4)
      have HS : Hid (PwRel w2 (stor2o w5 (g7 + 1) 0 (.slice A3 (zmul zs' zs).length c3) (.slice B3 m3 c4)) rs d K M g7 (g7 + 1) (j + 1) (.slice X zl2 xc) (.slice Y ym yc)) := Lib.hid (by
        refine ⟨_, _, _, _, _, zmul zs' zs, hS7.far2 (Ne.symm HG.out) _ _ _, hS8.put _ _, ?_, ?_, ?_, ?_⟩
        · have e1 : d ^ (j + 1) * d = d ^ (j + 1 + 1) := (Nat.pow_succ ..).symm
          have e2 : (j + 1) * K + K = (j + 1 + 1) * K := (Nat.succ_mul (j + 1) K).symm
          have e3 : (j + 1) * (M + 1) + M + 1 = (j + 1 + 1) * (M + 1) := by rw [Nat.add_mul (j + 1) 1, Nat.one_mul]; omega
          rw [e1, e2, e3] at hs
          exact hs
        · have h := HO.out.zmul O1.out (tr_ppow rs _) HTT.out
          rw [Nat.pow_succ]
          exact h
        · rw [hlen'.out]
          split <;> omega
        · exact below_stor2o (hBr.trans (hB5.mono hBr.size)) (by have := HGW.out; omega) _ _ _)
      clear k0 k1 l0 l1 f0 f1
      obtain ⟨l0, l1⟩ := hS8.cells
      obtain ⟨f0, f1⟩ := hS8.frozen
      clear hu hs hS7 hS8
      go_wp2_with fail
      go_roundw
      case rel => exact ⟨j + 1, by omega, by go_num, HS.out⟩
      case measure => simp [intOf]; omega
    · have HI : ¬ (j : Int) < n1 := by omega
      obtain rfl : j = n1 := by omega
      rw [← HN1.out] at ha ho hl'
      have R1 := Lib.hid (RED.out _ _ _ ha ho hl')
      clear ha ho
      generalize zs'.length = zl at *
      go_wp2_with fail
      refine (R1.out).mono ?_
      rintro e w5 ⟨u, rfl, hu, hB5⟩
      have HU := Lib.hid (hu.mono (Nat.le_trans HB2.out.size (hBr.size)))
      have HB := Lib.hid (below_then HB2.out (hBr.trans (hB5.mono hBr.size)))
      clear hu
      go_wp2_with fail
      go_ret2
      exact ⟨_, rfl, HU.out, HB.out⟩
end
end Go.Proofs.Ytpmjhkpjhfpfpaa

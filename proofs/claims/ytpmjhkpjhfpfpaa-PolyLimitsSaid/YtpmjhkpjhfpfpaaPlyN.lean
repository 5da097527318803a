/- The contract of Shift of package poly. -/
import Derived.Test.YtpmjhkpjhfpfpaaPlyM
namespace Go.Proofs.Ytpmjhkpjhfpfpaa
open Go.RowKit Dig
set_option linter.unusedVariables false

section
variable {w : World} {ops : Array Oper} {rest : List Oper} {o : Oper} {a : Act} {Q : Exit → Act → World → Prop}
theorem wp_make_fc (T : TypeId) (hT : Try.prog.underlying T = some (.slice 29)) (hg : o.guard = none) (l c : Operand) (hop : o.op = Op.makeSlice T l c) (L C : Int) (n m : Nat)
    (hl : a.eval l = .int .i64 L) (hc : a.eval c = .int .i64 C) (hL : L = (n : Int)) (hC : C = (m : Int)) (hnm : n ≤ m) (hn : m ≤ 1000000000000)
    (hK : ∀ w', FBlk w' w.heap.size (List.replicate m .zero) → Below w.heap.size w w' → wpList Try.prog ops Q rest (a.put o.dst (.slice (some ⟨w.heap.size, 0, none⟩) n m)) w') :
    wpList Try.prog ops Q (o :: rest) a w := by
  obtain ⟨i0, hi, hz0, hz1, hz2⟩ := info_parts info_frac
  have hrun := run_make (P := Try.prog) w T 29 i0 _ hT hi hz0 .i64 .i64 (n : Int) (m : Int) (by omega) (by omega) (by rw [hz2]; omega) (by omega)
  simp only [Int.toNat_natCast] at hrun
  subst hL
  subst hC
  refine wpList_plain hg fun K hK' => ?_
  unfold Oper.wp
  simp [execOp, hop, hl, hc, hrun, Result.andThen]
  refine hK' _ _ (hK _ ?_ ((Below.refl _ _).alloc (Nat.le_refl _) _))
  unfold FBlk
  rw [heap_alloc_new, hz1]
  have h := madeCells_t m
  rw [← h]
end
namespace Dig
theorem mk_zero_append (n : Nat) (p : List Rat) (i : Nat) : cf (mk n (fun _ => 0) ++ p) i = if i < n then 0 else cf p (i - n) := by
  have hl := mk_length n (fun _ => 0)
  unfold cf
  by_cases h : i < n
  · rw [getD_app_l (by omega), if_pos h]
    have := cf_mk n (fun _ => 0) i
    rw [if_pos h] at this
    exact this
  · rw [getD_app_r (by omega), hl, if_neg h]
end Dig
section
variable {w : World} {v : Value} {ps : List Rat} {k n : Nat}
theorem shift_neg_p (w : World) (A : Option Addr) (m c : Nat) (i : Int) (h0 : i < 0) : Calls Try.prog 31 #[.slice A m c, .int .i64 i] w (RNone w 1) := by
  have C := Lib.hid (check_neg w i h0)
  go_enter Try.func31, Try.ntmps31
  go_wp2_with fail
  refine (C.out).mono ?_
  rintro e w1 ⟨rfl, rfl⟩
  go_wp2_with fail
  go_ret2
  exact ⟨rfl, Below.refl _ _⟩
theorem shift_big_p (w : World) (A : Option Addr) (m c : Nat) (i : Int) (h0 : 1024 < i) : Calls Try.prog 31 #[.slice A m c, .int .i64 i] w (RNone w 4) := by
  have C := Lib.hid (check_big w i h0)
  go_enter Try.func31, Try.ntmps31
  go_wp2_with fail
  refine (C.out).mono ?_
  rintro e w1 ⟨rfl, rfl⟩
  go_wp2_with fail
  go_ret2
  exact ⟨rfl, Below.refl _ _⟩
set_option maxHeartbeats 2000000 in
theorem shift_none_p (hF : Fls (FV k) w v ps) (hk : k ≤ 400000) (hn : n ≤ 1024) (hm : ps.length ≤ 1000000) (h0 : tr ps = []) :
    Calls Try.prog 31 #[v, .int .i64 (n : Int)] w (RNone w 0) := by
  have C := Lib.hid (check_ok w n (by omega) (by omega))
  have T := trim_p hF (keeps_FV k) (reads_FV k) hk
  rw [h0] at T
  have T := Lib.hid T
  obtain ⟨A, c, rfl⟩ := hF.form
  clear hF
  have hl0 : ([] : List Rat).length = 0 := rfl
  rw [hl0] at T
  go_enter Try.func31, Try.ntmps31
  go_wp2_with fail
  refine (C.out).mono ?_
  rintro e w1 ⟨rfl, rfl⟩
  go_wp2_with fail
  refine (T.out).mono ?_
  rintro e w1 ⟨A', c', hA, rfl, hf, hB1⟩
  cases hA
  clear hf
  go_wp2_with fail
  go_ret2
  exact ⟨rfl, hB1⟩
set_option maxHeartbeats 2000000 in
theorem shift_long_p (hF : Fls (FV k) w v ps) (hk : k ≤ 400000) (hn : n ≤ 1024) (hm : ps.length ≤ 1000000) (h0 : 1024 < n + (tr ps).length) (h1 : 0 < (tr ps).length) :
    Calls Try.prog 31 #[v, .int .i64 (n : Int)] w (RNone w 4) := by
  have C := Lib.hid (check_ok w n (by omega) (by omega))
  have T := Lib.hid (trim_p hF (keeps_FV k) (reads_FV k) hk)
  obtain ⟨A, c, rfl⟩ := hF.form
  have hl := Nat.le_trans (tr_le ps) hm
  clear hF
  generalize (tr ps).length = L at *
  have hz : ((L : Int) == 0) = false := by rw [beq_eq_false_iff_ne]; omega
  have hlt : 1024 - (n : Int) < (L : Int) := by omega
  go_enter Try.func31, Try.ntmps31
  go_wp2_with fail
  refine (C.out).mono ?_
  rintro e w1 ⟨rfl, rfl⟩
  go_wp2_with fail
  refine (T.out).mono ?_
  rintro e w1 ⟨A', c', hA, rfl, hf, hB1⟩
  cases hA
  clear hf
  go_wp2_with fail
  go_ret2
  exact ⟨rfl, hB1⟩
set_option maxHeartbeats 8000000 in
theorem shift_p (hF : Fls (FV k) w v ps) (hk : k ≤ 400000) (h2 : 2 ≤ k) (hm : ps.length ≤ 1000000) (h0 : n + (tr ps).length ≤ 1024) (h1 : 0 < (tr ps).length) :
    Calls Try.prog 31 #[v, .int .i64 (n : Int)] w (RPolE w (mk n (fun _ => 0) ++ tr ps) k) := by
  have C := Lib.hid (check_ok w n (by omega) (by omega))
  have T := Lib.hid (trim_p hF (keeps_FV k) (reads_FV k) hk)
  have NO := fun w1 v1 (h : Fls (FV k) w1 v1 (tr ps)) => normalize_p (w := w1) h hk h2 (by omega)
  rw [tr_tr] at NO
  have HNO := Lib.hid NO
  obtain ⟨A, c, rfl⟩ := hF.form
  clear hF NO
  generalize tr ps = rs at *
  obtain ⟨L, hL⟩ : ∃ L, rs.length = L := ⟨_, rfl⟩
  have HL := Lib.hid hL
  rw [hL] at h0 h1 T
  clear hL
  have hz : ((L : Int) == 0) = false := by rw [beq_eq_false_iff_ne]; omega
  have hlt : ¬ 1024 - (n : Int) < (L : Int) := by omega
  have HQ := Lib.hid (show (n : Int) + (L : Int) = ((n + L : Nat) : Int) by omega)
  have ZN := Lib.hid (fun w1 => normf_v (w := w1) (FracV.zero w1 k) hk h2)
  have HK := Lib.hid (keeps_CV k)
  go_enter Try.func31, Try.ntmps31
  go_wp2_with fail
  refine (C.out).mono ?_
  rintro e w1 ⟨rfl, rfl⟩
  go_wp2_with fail
  refine (T.out).mono ?_
  rintro e w1 ⟨A', c', hA, rfl, hf, hB1⟩
  cases hA
  have HF := Lib.hid hf
  clear hf C T
  go_wp2_with (at_make; refine wp_make_fc 24 (by kernel_rfl) rfl _ _ rfl _ _ n (n + L) rfl rfl rfl HQ.out (by omega) (by omega) ?_; intro w2 hF2 hB2)
  have hI : Fill w.heap.size (CV k) w2 w1.heap.size (n + L) 0 (fun _ => 0) := Fill.start hF2
  have HF2 := Lib.hid (fun w3 (hr : Below w1.heap.size w1 w3) => HF.out.below (keeps_FV k) hr)
  have hg0 : w.heap.size ≤ w1.heap.size := hB1.size
  clear hF2 HF
  generalize w1.heap.size = g at *
  go_loopw [34] (fun i wr => ∃ j : Nat, j ≤ n ∧ i = .int .i64 j ∧ Fill w.heap.size (CV k) wr g (n + L) j (fun _ => 0) ∧ Below g w1 wr) (fun i _ => n - (intOf i).toNat)
  case atStart => exact ⟨0, Nat.zero_le _, rfl, hI, hB2⟩
  case round =>
    obtain ⟨j, hj, rfl, hI, hB⟩ := hrel
    have FI := Lib.hid hI
    have hlt1 := hI.lt
    by_cases hjn : j < n
    · have HI : (j : Int) < n := by omega
      clear hI
      go_wp2_with fail
      refine (ZN.out _).mono ?_
      rintro e w5 ⟨u, rfl, hu, hB5⟩
      have hB := hB.trans (hB5.mono (Nat.le_of_lt hlt1))
      obtain ⟨b', C, o, r, C', o', r', rfl, hb', hvx, hvy⟩ := hu.parts
      have hI := FI.out.below HK.out hB5
      obtain ⟨z0, z1, z2, e0, e1, e2⟩ := hI.cells (j := j) (by omega)
      have f0 := hI.frozen (j * 3)
      have f1 := hI.frozen (j * 3 + 1)
      have f2 := hI.frozen (j * 3 + 2)
      have HS := Lib.hid (hI.set HK.out (show j < n + L by omega) (show CV k w5 _ _ from CanF.ofParts hb' hvx hvy))
      clear hI hu hb' hvx hvy
      go_wp2_with fail
      go_roundw
      case rel => exact ⟨j + 1, by omega, by go_num, HS.out, below_stor3o hB (Nat.le_refl _) _ _ _ _⟩
      case measure => simp [intOf]; omega
    · have HI : ¬ (j : Int) < n := by omega
      obtain rfl : j = n := by omega
      have HN1 := Lib.hid (HNO.out _ _ (HF2.out _ hB))
      have hO : Ofl (CV k) g wr (.slice (some ⟨g, 0, none⟩) j (j + L)) (mk j (fun _ => 0)) := by
        obtain ⟨ts, hF, hl, hE⟩ := FI.out
        refine .inr ⟨g, ts, by rw [mk_length, hl], Nat.le_refl _, hF, by rw [mk_length]; omega, by unfold maxLen; omega, fun i hi => ?_⟩
        rw [mk_length] at hi
        have : (mk j (fun _ => 0)).getD i 0 = 0 := by have := cf_mk j (fun _ => 0) i; rw [if_pos hi] at this; exact this
        rw [this]
        exact hE i hi
      have HO := Lib.hid hO
      have HB := Lib.hid hB
      clear hI hO hB
      go_wp2_with fail
      refine (HN1.out).mono ?_
      rintro e w5 ⟨u, rfl, hu, hB5⟩
      have hO := HO.out.below HK.out hB5
      have hB := HB.out.trans (hB5.mono (Nat.le_of_lt hlt1))
      obtain ⟨U, uc, rfl⟩ := hu.fls.form
      have hu := hu.fls
      have hg5 : g ≤ w5.heap.size := Nat.le_trans (Nat.le_of_lt hlt1) hB5.size
      clear HO HB HN1 hB5
      go_wp2_with (refine wp_append_f HK.out 24 (by kernel_rfl) rfl _ _ rfl g _ _ rfl hO _ _ rfl hu (by have := HL.out; omega) (by rw [mk_length]; have := HL.out; omega) hg5 ?_; intro v6 w6 hG6)
      have hBw : Below w.heap.size w w5 := hB1.trans (hB.mono hg0)
      have hB6 : Below w.heap.size w w6 := below_grown (g := g) hBw hG6.2.1 hg0
      have HO6 := Lib.hid (hG6.1.mono hg0)
      go_ret2
      exact ⟨_, rfl, HO6.out, hB6⟩
end
end Go.Proofs.Ytpmjhkpjhfpfpaa

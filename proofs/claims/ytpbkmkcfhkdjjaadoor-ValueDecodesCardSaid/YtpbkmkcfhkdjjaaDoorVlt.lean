/- The reference's SameValues and CompareTuples. -/
import Derived.Test.YtpbkmkcfhkdjjaaDoorVls
namespace Go.Proofs.YtpbkmkcfhkdjjaaDoor
set_option linter.unusedSimpArgs false
open Go.RowKit Dig
set_option linter.unusedVariables false

section
variable {ev : Operand → Value} {o : Oper} {w : World}
theorem exec_neV (t s : Tmp) {a b : Vl} (ho : o.op = .binOp .neq 26 (.tmp t) (.tmp s) 26) (hx : ev (.tmp t) = vV a) (hy : ev (.tmp s) = vV b) :
    (execOp ev o).run Tryd.prog w = .ok (.value (.bool (!decide (a = b)))) w := by
  unfold execOp
  simp only [ho, hx, hy]
  have e1 : (binOp .neq 26 (vV a) (vV b)).run Tryd.prog w = .ok (.bool (!decide (a = b))) w := by
    have := run_neq_struct (P := Tryd.prog) w 26 #[.int .i64 a.1, .int .i64 a.2.1, .string ⟨a.2.2.toArray⟩] #[.int .i64 b.1, .int .i64 b.2.1, .string ⟨b.2.2.toArray⟩]
    have h2 := run_eqV w a b
    unfold vV at h2 ⊢
    rw [this, h2]
    rfl
  have e2 : (eqGuard .neq 26 (.tmp t) (.tmp s) (vV a) (vV b)).run Tryd.prog w = .ok () w := run_eqGuard_agg w _ _ _ _ _ _ guard_val
  simp only [Sem.run_bind, e1, e2, Result.andThen_ok, Sem.run_pure]
end
theorem drop_ne {l m : List Vl} {j : Nat} {x y : Vl} (hx : l[j]? = some x) (hy : m[j]? = some y) (h : x ≠ y) : l ≠ m := by
  rintro rfl
  rw [hx] at hy
  exact h (Option.some.inj hy)
set_option maxRecDepth 20000 in
set_option maxHeartbeats 4000000 in
theorem same_c {w : World} {a b : Value} {l m : List Vl} (ha : Vls w a l) (hb : Vls w b m) (hl : l.length ≤ 1000000) : Calls Tryd.prog 28 #[a, b] w (RVal w (.bool (decide (l = m)))) := by
  obtain ⟨A, c, rfl⟩ := ha.form
  obtain ⟨B, d, rfl⟩ := hb.form
  obtain ⟨R, hR⟩ : ∃ r, decide (l = m) = r := ⟨_, rfl⟩
  have HR := Lib.hid hR
  rw [hR]
  by_cases hlm : l.length = m.length
  · obtain ⟨n, hn⟩ : ∃ q, l.length = q := ⟨_, rfl⟩
    have hm : m.length = n := by omega
    have HN := Lib.hid hn
    have HM := Lib.hid hm
    rw [hn] at ha ⊢
    rw [hm] at hb ⊢
    have HA := Lib.hid ha
    have HB := Lib.hid hb
    have hli : (n : Int) ≤ 1000000 := by omega
    clear ha hb hl hR hn hm hlm
    go_enter Tryd.func28, Tryd.ntmps28
    go_wp2_with fail
    go_loopw [5] (fun iv wr => ∃ j : Nat, j ≤ n ∧ iv = .int .i64 (j : Int) ∧ Below w.heap.size w wr ∧ l.take j = m.take j) (fun iv _ => n - (intOf iv).toNat)
    case atStart => exact ⟨0, Nat.zero_le _, rfl, Below.refl _ _, rfl⟩
    case round =>
      obtain ⟨j, hjn, rfl, hB, hT⟩ := hrel
      have BW := Lib.hid hB
      have HT := Lib.hid hT
      by_cases hj : j < n
      · have HJ : (j : Int) < (n : Int) := by omega
        obtain ⟨x, hx⟩ : ∃ x, l[j]? = some x := ⟨l[j]'(by rw [HN.out]; exact hj), List.getElem?_eq_getElem _⟩
        obtain ⟨y, hy⟩ : ∃ x, m[j]? = some x := ⟨m[j]'(by rw [HM.out]; exact hj), List.getElem?_eq_getElem _⟩
        have HX := Lib.hid hx
        have HY := Lib.hid hy
        obtain ⟨b1, o1, eA, hb1, hr1⟩ := (HA.out.below hB).at (j := j) (by rw [HN.out]; exact hj)
        obtain ⟨b2, o2, eB, hb2, hr2⟩ := (HB.out.below hB).at (j := j) (by rw [HM.out]; exact hj)
        rw [(List.getElem?_eq_some_iff.1 hx).2] at hr1
        rw [(List.getElem?_eq_some_iff.1 hy).2] at hr2
        subst eA eB
        have RA := Lib.hid hr1
        have ZA := Lib.hid hb1
        have RB := Lib.hid hr2
        have ZB := Lib.hid hb2
        clear hr1 hb1 hr2 hb2 hB hT
        go_wp2_with fail
        refine wp_region_plan (S := fun W => Below wr.heap.size wr W) [(0, true), (1, true), (2, true), (3, true), (4, true), (5, true), (6, true), (7, true), (8, true)] (by kernel_rfl) (by kernel_rfl) (by kernel_rfl) (by kernel_rfl) (fun _ _ d _ _ h => by cases d <;> exact h) (Below.refl _ _).drew ?_
        refine wkS_take (some 17) (.slice (some ⟨b1, o1, none⟩) n c) (by kernel_rfl) (by kernel_rfl) (by kernel_rfl) (fun W hS => by kernel_rfl) ?_
        simp only [put_lit, put_non, List.set_cons_zero, List.set_cons_succ]
        refine wkS_take (some 18) (.int .i64 (j : Int)) (by kernel_rfl) (by kernel_rfl) (by kernel_rfl) (fun W hS => by kernel_rfl) ?_
        simp only [put_lit, put_non, List.set_cons_zero, List.set_cons_succ]
        refine wkS_take (some 19) (.pointer (some ⟨b1, o1 + j * 3, none⟩)) (by kernel_rfl) (by kernel_rfl) (by kernel_rfl) (fun W hS => exec_indexV 17 18 (n := n) (c := c) (j := j) (by kernel_rfl) (by kernel_rfl) (by kernel_rfl) hj) ?_
        simp only [put_lit, put_non, List.set_cons_zero, List.set_cons_succ]
        refine wkS_take (some 20) (vV x) (by kernel_rfl) (by kernel_rfl) (by kernel_rfl) (fun W hS => exec_loadV 19 (range_below RA.out ZA.out hS) (by kernel_rfl) (by kernel_rfl)) ?_
        simp only [put_lit, put_non, List.set_cons_zero, List.set_cons_succ]
        refine wkS_take (some 21) (.slice (some ⟨b2, o2, none⟩) n d) (by kernel_rfl) (by kernel_rfl) (by kernel_rfl) (fun W hS => by kernel_rfl) ?_
        simp only [put_lit, put_non, List.set_cons_zero, List.set_cons_succ]
        refine wkS_take (some 22) (.int .i64 (j : Int)) (by kernel_rfl) (by kernel_rfl) (by kernel_rfl) (fun W hS => by kernel_rfl) ?_
        simp only [put_lit, put_non, List.set_cons_zero, List.set_cons_succ]
        refine wkS_take (some 23) (.pointer (some ⟨b2, o2 + j * 3, none⟩)) (by kernel_rfl) (by kernel_rfl) (by kernel_rfl) (fun W hS => exec_indexV 21 22 (n := n) (c := d) (j := j) (by kernel_rfl) (by kernel_rfl) (by kernel_rfl) hj) ?_
        simp only [put_lit, put_non, List.set_cons_zero, List.set_cons_succ]
        refine wkS_take (some 24) (vV y) (by kernel_rfl) (by kernel_rfl) (by kernel_rfl) (fun W hS => exec_loadV 23 (range_below RB.out ZB.out hS) (by kernel_rfl) (by kernel_rfl)) ?_
        simp only [put_lit, put_non, List.set_cons_zero, List.set_cons_succ]
        refine wkS_take (some 25) (.bool (!decide (x = y))) (by kernel_rfl) (by kernel_rfl) (by kernel_rfl) (fun W hS => exec_neV (a := x) (b := y) 20 24 (by kernel_rfl) (by kernel_rfl) (by kernel_rfl)) ?_
        simp only [put_lit, put_non, List.set_cons_zero, List.set_cons_succ]
        refine wkS_done ?_
        by_cases hxy : x = y
        · have E := Lib.hid (show l.take (j + 1) = m.take (j + 1) by rw [List.take_add_one, List.take_add_one, HT.out, hx, hy, hxy])
          rw [decide_eq_true hxy]
          clear hx hy hxy
          go_wp2_with fail
          go_roundw
          case rel => exact ⟨j + 1, by omega, by go_num, BW.out.drew, E.out⟩
          case measure => simp [intOf]; omega
        · have E := Lib.hid (show R = false by rw [← HR.out]; exact decide_eq_false (drop_ne hx hy hxy))
          rw [decide_eq_false hxy]
          clear hx hy hxy
          go_wp2_with fail
          go_ret
          exact ⟨by rw [E.out]; rfl, BW.out.drew⟩
      · have HJ : ¬ (j : Int) < (n : Int) := by omega
        have E := Lib.hid (show R = true by
          rw [← HR.out]
          refine decide_eq_true ?_
          rw [show l.take j = l from List.take_of_length_le (by rw [HN.out]; omega), show m.take j = m from List.take_of_length_le (by rw [HM.out]; omega)] at hT
          exact hT)
        clear hB hT
        go_wp2_with fail
        go_ret
        exact ⟨by rw [E.out]; rfl, BW.out⟩
  · have E := Lib.hid (show R = false by rw [← HR.out]; exact decide_eq_false (fun e => hlm (by rw [e])))
    have h1 : ((l.length : Int) == (m.length : Int)) = false := by rw [beq_eq_false_iff_ne]; omega
    have h2 : ((l.length : Int) != (m.length : Int)) = true := by simp [bne, h1]
    have h3 : (l.length == m.length) = false := by rw [beq_eq_false_iff_ne]; exact hlm
    clear ha hb hl hR hlm
    go_enter Tryd.func28, Tryd.ntmps28
    go_wp2_with fail
    go_ret
    exact ⟨by rw [E.out]; rfl, Below.refl _ _⟩
set_option maxRecDepth 20000 in
set_option maxHeartbeats 4000000 in
theorem rtuples_c {w : World} {a b : Value} {l m : List Vl} (ha : Vls w a l) (hb : Vls w b m) (hl : l.length ≤ 1000000) (hm : m.length ≤ 1000000) : Calls Tryd.prog 22 #[a, b] w (RVal w (.int .i64 (cmpT l m))) := by
  obtain ⟨A, c, rfl⟩ := ha.form
  obtain ⟨B, d, rfl⟩ := hb.form
  have HA := Lib.hid ha
  have HB := Lib.hid hb
  obtain ⟨R, hR⟩ : ∃ r, cmpT l m = r := ⟨_, rfl⟩
  have HR := Lib.hid hR
  rw [hR]
  obtain ⟨n, hn⟩ : ∃ q, l.length = q := ⟨_, rfl⟩
  obtain ⟨k, hk⟩ : ∃ q, m.length = q := ⟨_, rfl⟩
  have HN := Lib.hid hn
  have HK := Lib.hid hk
  have hli : (n : Int) ≤ 1000000 := by omega
  have hki : (k : Int) ≤ 1000000 := by omega
  rw [hn] at HA ⊢
  rw [hk] at HB ⊢
  have FC := fun w x y => rcompare_c w x y
  clear hl hm hR hn hk ha hb
  go_enter Tryd.func22, Tryd.ntmps22
  go_wp2_with fail
  go_loopw [5] (fun iv wr => ∃ j : Nat, j ≤ n ∧ j ≤ k ∧ iv = .int .i64 (j : Int) ∧ Below w.heap.size w wr ∧ cmpT (l.drop j) (m.drop j) = R) (fun iv _ => n - (intOf iv).toNat)
  case atStart => exact ⟨0, Nat.zero_le _, Nat.zero_le _, rfl, Below.refl _ _, HR.out⟩
  case round =>
    obtain ⟨j, hjn, hjk, rfl, hB, hT⟩ := hrel
    have BW := Lib.hid hB
    have HT := Lib.hid hT
    by_cases hj : j < n
    · have HJ : (j : Int) < (n : Int) := by omega
      obtain ⟨x, hx⟩ : ∃ x, l[j]? = some x := ⟨l[j]'(by rw [HN.out]; exact hj), List.getElem?_eq_getElem _⟩
      have DL : Hid (l.drop j = x :: l.drop (j + 1)) := Lib.hid (by
        obtain ⟨h1, h2⟩ := List.getElem?_eq_some_iff.1 hx
        rw [List.drop_eq_getElem_cons h1, h2])
      by_cases hjm : j < k
      · have HJK : (j : Int) < (k : Int) := by omega
        obtain ⟨y, hy⟩ : ∃ x, m[j]? = some x := ⟨m[j]'(by rw [HK.out]; exact hjm), List.getElem?_eq_getElem _⟩
        have DM : Hid (m.drop j = y :: m.drop (j + 1)) := Lib.hid (by
          obtain ⟨h1, h2⟩ := List.getElem?_eq_some_iff.1 hy
          rw [List.drop_eq_getElem_cons h1, h2])
        obtain ⟨b1, o1, eA, hb1, hr1⟩ := (HA.out.below hB).at (j := j) (by rw [HN.out]; exact hj)
        obtain ⟨b2, o2, eB, hb2, hr2⟩ := (HB.out.below hB).at (j := j) (by rw [HK.out]; exact hjm)
        rw [(List.getElem?_eq_some_iff.1 hx).2] at hr1
        rw [(List.getElem?_eq_some_iff.1 hy).2] at hr2
        subst eA eB
        have RA := Lib.hid hr1
        have ZA := Lib.hid hb1
        have RB := Lib.hid hr2
        have ZB := Lib.hid hb2
        have E : Hid ((if cmpV x y ≠ 0 then cmpV x y else cmpT (l.drop (j + 1)) (m.drop (j + 1))) = R) := Lib.hid (by rw [← HT.out, DL.out, DM.out, cmpT_cons])
        clear hr1 hb1 hr2 hb2 hB hT hx hy
        go_wp2_with fail
        refine wp_region_plan (S := fun W => Below wr.heap.size wr W) [(0, true), (1, true), (2, true), (3, true), (4, true), (5, true), (6, true), (7, true), (8, false), (9, true)] (by kernel_rfl) (by kernel_rfl) (by kernel_rfl) (by kernel_rfl) (fun _ _ d _ _ h => by cases d <;> exact h) (Below.refl _ _).drew ?_
        refine wkS_take (some 19) (.slice (some ⟨b1, o1, none⟩) n c) (by kernel_rfl) (by kernel_rfl) (by kernel_rfl) (fun W hS => by kernel_rfl) ?_
        simp only [put_lit, put_non, List.set_cons_zero, List.set_cons_succ]
        refine wkS_take (some 20) (.int .i64 (j : Int)) (by kernel_rfl) (by kernel_rfl) (by kernel_rfl) (fun W hS => by kernel_rfl) ?_
        simp only [put_lit, put_non, List.set_cons_zero, List.set_cons_succ]
        refine wkS_take (some 21) (.pointer (some ⟨b1, o1 + j * 3, none⟩)) (by kernel_rfl) (by kernel_rfl) (by kernel_rfl) (fun W hS => exec_indexV 19 20 (n := n) (c := c) (j := j) (by kernel_rfl) (by kernel_rfl) (by kernel_rfl) hj) ?_
        simp only [put_lit, put_non, List.set_cons_zero, List.set_cons_succ]
        refine wkS_take (some 22) (vV x) (by kernel_rfl) (by kernel_rfl) (by kernel_rfl) (fun W hS => exec_loadV 21 (range_below RA.out ZA.out hS) (by kernel_rfl) (by kernel_rfl)) ?_
        simp only [put_lit, put_non, List.set_cons_zero, List.set_cons_succ]
        refine wkS_take (some 23) (.slice (some ⟨b2, o2, none⟩) k d) (by kernel_rfl) (by kernel_rfl) (by kernel_rfl) (fun W hS => by kernel_rfl) ?_
        simp only [put_lit, put_non, List.set_cons_zero, List.set_cons_succ]
        refine wkS_take (some 24) (.int .i64 (j : Int)) (by kernel_rfl) (by kernel_rfl) (by kernel_rfl) (fun W hS => by kernel_rfl) ?_
        simp only [put_lit, put_non, List.set_cons_zero, List.set_cons_succ]
        refine wkS_take (some 25) (.pointer (some ⟨b2, o2 + j * 3, none⟩)) (by kernel_rfl) (by kernel_rfl) (by kernel_rfl) (fun W hS => exec_indexV 23 24 (n := k) (c := d) (j := j) (by kernel_rfl) (by kernel_rfl) (by kernel_rfl) hjm) ?_
        simp only [put_lit, put_non, List.set_cons_zero, List.set_cons_succ]
        refine wkS_take (some 26) (vV y) (by kernel_rfl) (by kernel_rfl) (by kernel_rfl) (fun W hS => exec_loadV 25 (range_below RB.out ZB.out hS) (by kernel_rfl) (by kernel_rfl)) ?_
        simp only [put_lit, put_non, List.set_cons_zero, List.set_cons_succ]
        refine wkS_call (some 27) 15 #[vV x, vV y] (by kernel_rfl) (by kernel_rfl) (by kernel_rfl) (fun w => (by kernel_rfl)) ?_
        refine (FC _ x y).mono ?_
        rintro e w5 ⟨rfl, hB⟩
        have T5 := Lib.hid ((Below.refl wr.heap.size wr).drew.trans hB)
        have BZ := Lib.hid (below_then BW.out T5.out)
        clear hB
        refine ⟨_, rfl, T5.out, ?_⟩
        simp only [put_lit, put_non, List.set_cons_zero, List.set_cons_succ]
        refine wkS_take (some 6) (.int .i64 (cmpV x y)) (by kernel_rfl) (by kernel_rfl) (by kernel_rfl) (fun W hS => by kernel_rfl) ?_
        simp only [put_lit, put_non, List.set_cons_zero, List.set_cons_succ]
        refine wkS_done ?_
        generalize cmpV x y = q at E ⊢
        by_cases hq : q = 0
        · subst hq
          have E2 := Lib.hid (show cmpT (l.drop (j + 1)) (m.drop (j + 1)) = R from E.out)
          clear E
          go_wp2_with fail
          go_roundw
          case rel => exact ⟨j + 1, by omega, by omega, by go_num, BZ.out, E2.out⟩
          case measure => simp [intOf]; omega
        · have E2 := Lib.hid (show q = R by have := E.out; rw [if_pos hq] at this; exact this)
          have q1 : (q == 0) = false := beq_eq_false_iff_ne.2 hq
          have q2 : (q != 0) = true := by simp [bne, q1]
          clear E
          go_wp2_with fail
          go_ret
          exact ⟨by rw [← E2.out]; rfl, BZ.out⟩
      · have HJK : ¬ (j : Int) < (k : Int) := by omega
        have E2 := Lib.hid (show R = 1 by rw [← HT.out, DL.out, show m.drop j = [] from List.drop_eq_nil_of_le (by rw [HK.out]; omega)]; rfl)
        have h1 : ¬ (n : Int) < (k : Int) := by omega
        have h2 : (n : Int) > (k : Int) := by omega
        clear hB hT hx
        go_wp2_with fail
        go_ret
        exact ⟨by rw [E2.out]; rfl, BW.out⟩
    · have HJ : ¬ (j : Int) < (n : Int) := by omega
      by_cases hz : n < k
      · have E2 := Lib.hid (show R = -1 by rw [← HT.out, show l.drop j = [] from List.drop_eq_nil_of_le (by rw [HN.out]; omega), cmpT_nil_l, List.length_drop, HK.out, if_neg (by omega)])
        have hzi : (n : Int) < (k : Int) := by omega
        clear hB hT
        go_wp2_with fail
        go_ret
        exact ⟨by rw [E2.out]; rfl, BW.out⟩
      · have E2 := Lib.hid (show R = 0 by rw [← HT.out, show l.drop j = [] from List.drop_eq_nil_of_le (by rw [HN.out]; omega), cmpT_nil_l, List.length_drop, HK.out, if_pos (by omega)])
        have hzi : ¬ (n : Int) < (k : Int) := by omega
        have hzj : ¬ (n : Int) > (k : Int) := by omega
        clear hB hT
        go_wp2_with fail
        go_ret
        exact ⟨by rw [E2.out]; rfl, BW.out⟩
end Go.Proofs.YtpbkmkcfhkdjjaaDoor

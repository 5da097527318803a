/- Package value as landed: CompareTuples. -/
import Derived.Test.YtpbkmkcfhkdjjaaDoorVvd
import Derived.Test.YtpbkmkcfhkdjjaaDoorVve
namespace Go.Proofs.YtpbkmkcfhkdjjaaDoor
open Go.RowKit Dig
set_option linter.unusedVariables false

theorem cmpT_nil_l (m : List Vl) : cmpT [] m = if m.length = 0 then 0 else -1 := by
  cases m <;> rfl
theorem cmpT_nil_r (x : Vl) (l : List Vl) : cmpT (x :: l) [] = 1 := rfl
theorem cmpT_cons (x y : Vl) (l m : List Vl) : cmpT (x :: l) (y :: m) = if cmpV x y ≠ 0 then cmpV x y else cmpT l m := rfl
set_option maxRecDepth 20000 in
set_option maxHeartbeats 2000000 in
theorem cfunc_c {w : World} {a b : Value} {l m : List Vl} (ha : Vls w a l) (hb : Vls w b m) (hl : l.length ≤ 1000000) (hm : m.length ≤ 1000000) :
    Calls Tryd.prog 37 #[a, b, .func (.func 14) #[] #[]] w (RVal w (.int .i64 (cmpT l m))) := by
  obtain ⟨A, c, rfl⟩ := ha.form
  obtain ⟨B, d, rfl⟩ := hb.form
  have HA := Lib.hid ha
  have HB := Lib.hid hb
  obtain ⟨R, hR⟩ : ∃ r, cmpT l m = r := ⟨_, rfl⟩
  have HR := Lib.hid hR
  rw [hR]
  obtain ⟨n, hn⟩ : ∃ q, l.length = q := ⟨_, rfl⟩
  obtain ⟨k, hk⟩ : ∃ q, m.length = q := ⟨_, rfl⟩
  have HN := Lib.hid hn
  have HK := Lib.hid hk
  have HL := Lib.hid hl
  have HM := Lib.hid hm
  rw [hn, hk]
  have FC := fun w x y => compare_c w x y
  have hli : (n : Int) ≤ 1000000 := by omega
  clear hl hm hR hn hk ha hb
  go_enter Tryd.func37, Tryd.ntmps37
  go_wp2_with fail
  go_loopw [13] (fun iv wr => ∃ j : Nat, j ≤ n ∧ j ≤ k ∧ iv = .int .i64 (j : Int) ∧ Below w.heap.size w wr ∧ cmpT (l.drop j) (m.drop j) = R) (fun iv _ => n - (intOf iv).toNat)
  case atStart => exact ⟨0, Nat.zero_le _, Nat.zero_le _, rfl, Below.refl _ _, HR.out⟩
  case round =>
    obtain ⟨j, hjn, hjk, rfl, hB, hT⟩ := hrel
    have BW := Lib.hid hB
    have HT := Lib.hid hT
    have JK := Lib.hid hjk
    have NK := Lib.hid hjn
    clear hB hT
    by_cases hj : j < n
    · have HJ : (j : Int) < (n : Int) := by omega
      obtain ⟨x, hx⟩ : ∃ x, l[j]? = some x := ⟨l[j]'(by rw [HN.out]; exact hj), List.getElem?_eq_getElem _⟩
      have HX := Lib.hid hx
      have hal := HA.out.below BW.out
      obtain ⟨b1, o1, eA, hb1, hr1⟩ := hal.at (j := j) (by rw [HN.out]; exact hj)
      rw [(List.getElem?_eq_some_iff.1 hx).2] at hr1
      subst eA
      have RA := Lib.hid hr1
      have ZA := Lib.hid hb1
      have DL : Hid (l.drop j = x :: l.drop (j + 1)) := Lib.hid (by
        obtain ⟨h1, h2⟩ := List.getElem?_eq_some_iff.1 hx
        rw [List.drop_eq_getElem_cons h1, h2])
      clear hal hr1 hb1 hx
      by_cases hjm : j < k
      · have HJK : ¬ (j : Int) ≥ (k : Int) := by omega
        have HJK2 : (j : Int) < (k : Int) := by omega
        obtain ⟨y, hy⟩ : ∃ x, m[j]? = some x := ⟨m[j]'(by rw [HK.out]; exact hjm), List.getElem?_eq_getElem _⟩
        have hbl := HB.out.below BW.out
        obtain ⟨b2, o2, eB, hb2, hr2⟩ := hbl.at (j := j) (by rw [HK.out]; exact hjm)
        rw [(List.getElem?_eq_some_iff.1 hy).2] at hr2
        subst eB
        have RB := Lib.hid hr2
        have ZB := Lib.hid hb2
        have DM : Hid (m.drop j = y :: m.drop (j + 1)) := Lib.hid (by
          obtain ⟨h1, h2⟩ := List.getElem?_eq_some_iff.1 hy
          rw [List.drop_eq_getElem_cons h1, h2])
        clear hbl hr2 hb2 hy
        have E : Hid ((if cmpV x y ≠ 0 then cmpV x y else cmpT (l.drop (j + 1)) (m.drop (j + 1))) = R) := Lib.hid (by rw [← HT.out, DL.out, DM.out, cmpT_cons])
        go_wp2_with (first | ((with_reducible refine wp_loadV rfl 16 rfl b1 (o1 + j * 3) x ?hx RA.out ?_); (case hx => rfl)) | ((with_reducible refine wp_allocV 8 rfl rfl rfl ?_); intro w2 hv hb; have V8 := Lib.hid hv; have B8 := Lib.hid hb; clear hv hb) | ((with_reducible refine wp_storeV rfl 8 17 rfl wr.heap.size x (0, 0, []) ?hx ?hy V8.out ?_); (case hx => rfl); (case hy => rfl); intro w3 hv hb; have V8 := Lib.hid hv; have G8 := Lib.hid hb; clear hv hb; have B3 := Lib.hid (below_store (B := wr.heap.size) B8.out G8.out (Nat.le_refl _) B8.out.size); have RB3 := Lib.hid (range_below RB.out ZB.out B3.out)) | ((with_reducible refine wp_loadV rfl 24 rfl b2 (o2 + j * 3) y ?hx RB3.out ?_); (case hx => rfl)) | ((with_reducible refine wp_allocV 9 rfl rfl rfl ?_); intro w4 hv hb; have V9 := Lib.hid hv; have B9 := Lib.hid hb; clear hv hb) | ((with_reducible refine wp_storeV rfl 9 25 rfl w3.heap.size y (0, 0, []) ?hx ?hy V9.out ?_); (case hx => rfl); (case hy => rfl); intro w5 hv hb; have V9 := Lib.hid hv; have G9 := Lib.hid hb; clear hv hb; have B5 := Lib.hid (below_store (B := w3.heap.size) B9.out G9.out (Nat.le_refl _) B9.out.size); have V8b := Lib.hid (V8.out.below B5.out)) | ((with_reducible refine wp_loadV rfl 8 rfl wr.heap.size (0) x ?hx V8b.out.range ?_); (case hx => rfl)) | ((with_reducible refine wp_loadV rfl 9 rfl w3.heap.size (0) y ?hx V9.out.range ?_); (case hx => rfl)))
        refine (FC _ x y).mono ?_
        rintro e w6 ⟨rfl, hB6⟩
        have BZ := Lib.hid (below_then (below_then (below_then BW.out B3.out) B5.out) hB6)
        clear hB6 V8 V9 V8b RB3 RB RA
        generalize cmpV x y = q at E ⊢
        by_cases hq : q = 0
        · subst hq
          have E2 := Lib.hid (show cmpT (l.drop (j + 1)) (m.drop (j + 1)) = R from E.out)
          clear E
          go_wp2_with fail
          go_roundw
          case rel => exact ⟨j + 1, by omega, by omega, by go_num, BZ.out, E2.out⟩
          case measure => simp [intOf]; omega
        · have E2 := Lib.hid (show q = R by have := E.out; rw [if_pos hq] at this; exact this)
          have q1 : (q == 0) = false := beq_eq_false_iff_ne.2 hq
          have q2 : (q != 0) = true := by simp [bne, q1]
          clear E
          go_wp2_with fail
          go_ret
          exact ⟨by rw [← E2.out]; rfl, BZ.out⟩
      · have HJK : (j : Int) ≥ (k : Int) := by omega
        have E2 := Lib.hid (show R = 1 by rw [← HT.out, DL.out, show m.drop j = [] from List.drop_eq_nil_of_le (by rw [HK.out]; omega)]; rfl)
        go_wp2_with (first | ((with_reducible refine wp_loadV rfl 16 rfl b1 (o1 + j * 3) x ?hx RA.out ?_); (case hx => rfl)) | ((with_reducible refine wp_allocV 8 rfl rfl rfl ?_); intro w2 hv hb; have V8 := Lib.hid hv; have B8 := Lib.hid hb; clear hv hb) | ((with_reducible refine wp_storeV rfl 8 17 rfl wr.heap.size x (0, 0, []) ?hx ?hy V8.out ?_); (case hx => rfl); (case hy => rfl); intro w3 hv hb; have V8 := Lib.hid hv; have G8 := Lib.hid hb; clear hv hb; have B3 := Lib.hid (below_store (B := wr.heap.size) B8.out G8.out (Nat.le_refl _) B8.out.size)))
        go_ret
        exact ⟨by rw [E2.out]; rfl, below_then BW.out B3.out⟩
    · have HJ : ¬ (j : Int) < (n : Int) := by omega
      by_cases hz : n < k
      · have E2 := Lib.hid (show R = -1 by rw [← HT.out, show l.drop j = [] from List.drop_eq_nil_of_le (by rw [HN.out]; omega), cmpT_nil_l, List.length_drop, HK.out, if_neg (by omega)])
        have hzi : (n : Int) < (k : Int) := by omega
        go_wp2_with fail
        go_ret
        exact ⟨by rw [E2.out]; rfl, BW.out⟩
      · have E2 := Lib.hid (show R = 0 by rw [← HT.out, show l.drop j = [] from List.drop_eq_nil_of_le (by rw [HN.out]; omega), cmpT_nil_l, List.length_drop, HK.out, if_pos (by omega)])
        have hzi : ¬ (n : Int) < (k : Int) := by omega
        go_wp2_with fail
        go_ret
        exact ⟨by rw [E2.out]; rfl, BW.out⟩
theorem tuples_c {w : World} {a b : Value} {l m : List Vl} (ha : Vls w a l) (hb : Vls w b m) (hl : l.length ≤ 1000000) (hm : m.length ≤ 1000000) :
    Calls Tryd.prog 21 #[a, b] w (RVal w (.int .i64 (cmpT l m))) := by
  have C := Lib.hid (cfunc_c ha hb hl hm)
  obtain ⟨A, c, rfl⟩ := ha.form
  obtain ⟨B, d, rfl⟩ := hb.form
  clear ha hb hl hm
  go_enter Tryd.func21, Tryd.ntmps21
  go_wp2_with fail
  refine C.out.mono ?_
  rintro e w1 ⟨rfl, hB⟩
  go_wp2_with fail
  go_ret
  exact ⟨rfl, hB⟩
end Go.Proofs.YtpbkmkcfhkdjjaaDoor

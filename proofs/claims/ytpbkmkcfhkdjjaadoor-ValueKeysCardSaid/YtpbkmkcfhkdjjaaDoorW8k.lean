/- The law ValueKeys of stage 8. -/
import Derived.Deep.DeepCutAuto
import Derived.Test.YtpbkmkcfhkdjjaaDoorVls
import Derived.Test.YtpbkmkcfhkdjjaaDoorVlt
import Derived.Test.YtpbkmkcfhkdjjaaDoorVvn
namespace Go.Proofs.YtpbkmkcfhkdjjaaDoor
set_option linter.unusedSimpArgs false
open Go.RowKit Dig
set_option linter.unusedVariables false

set_option maxRecDepth 20000 in
set_option maxHeartbeats 8000000 in
theorem keys_walk (w : World) (va : Value) (la : List Vl) (vb : Value) (lb : List Vl) (qa : Vls w va la) (oa : ∀ y ∈ la, OkVl y) (qb : Vls w vb lb) (ob : ∀ y ∈ lb, OkVl y) (hS : Std w) : Calls Tryd.prog 7 #[va, vb] w (RVal w (.bool true)) := by
  have HS := Lib.hid hS
  have QA := Lib.hid qa
  have QB := Lib.hid qb
  have FA := fun w1 (h : Below w.heap.size w w1) => fits_c (QA.out.below h) oa
  have FB := fun w1 (h : Below w.heap.size w w1) => fits_c (QB.out.below h) ob
  obtain ⟨A, c, rfl⟩ := qa.form
  obtain ⟨B, d, rfl⟩ := qb.form
  obtain ⟨na, hna⟩ : ∃ n, la.length = n := ⟨_, rfl⟩
  obtain ⟨nb, hnb⟩ : ∃ n, lb.length = n := ⟨_, rfl⟩
  cases hfa : fitB la with
  | false =>
    rw [hfa] at FA
    rw [hna] at FA QA ⊢
    rw [hnb] at FB QB ⊢
    clear hS qa qb hfa hna hnb
    go_enter Tryd.func7, Tryd.ntmps7
    go_wp2_with fail
    refine (FA _ (Below.refl _ _)).mono ?_
    rintro e w1 ⟨rfl, hB1⟩
    go_wp2_with fail
    go_ret
    exact ⟨rfl, hB1⟩
  | true =>
    have MA := Lib.hid (okL_make hfa oa)
    have CA := fun w1 (h : Below w.heap.size w w1) => valids_c (QA.out.below h) (by have := ((fitB_iff la).1 hfa).1; omega) (fun y hy => by have := ((fitB_iff la).1 hfa).2 y hy; omega)
    rw [hfa] at FA
    cases hfb : fitB lb with
    | false =>
      rw [hfb] at FB
      rw [hna] at FA QA ⊢
      rw [hnb] at FB QB ⊢
      clear hS qa qb hfa hfb hna hnb CA
      go_enter Tryd.func7, Tryd.ntmps7
      go_wp2_with fail
      refine (FA _ (Below.refl _ _)).mono ?_
      rintro e w1 ⟨rfl, hB1⟩
      go_wp2_with fail
      refine (FB _ hB1).mono ?_
      rintro e w2 ⟨rfl, hB2⟩
      go_wp2_with fail
      go_ret
      exact ⟨rfl, below_then hB1 hB2⟩
    | true =>
      have MB := Lib.hid (okL_make hfb ob)
      have CB := fun w1 (h : Below w.heap.size w w1) => valids_c (QB.out.below h) (by have := ((fitB_iff lb).1 hfb).1; omega) (fun y hy => by have := ((fitB_iff lb).1 hfb).2 y hy; omega)
      rw [hfb] at FB
      rw [hna] at FA CA QA MA ⊢
      rw [hnb] at FB CB QB MB ⊢
      clear hS qa qb hfa hfb hna hnb
      generalize la.map mkV = p at *
      generalize lb.map mkV = q at *
      go_enter Tryd.func7, Tryd.ntmps7
      go_wp2_with fail
      refine (FA _ (Below.refl _ _)).mono ?_
      rintro e w1 ⟨rfl, hB1⟩
      go_wp2_with fail
      refine (FB _ hB1).mono ?_
      rintro e w2 ⟨rfl, hB2⟩
      have BW := Lib.hid (below_then hB1 hB2)
      clear hB1 hB2
      go_wp2_with fail
      refine (CA _ BW.out).mono ?_
      rintro e w3 ⟨u5, rfl, hO, hB⟩
      have PV := Lib.hid hO.vls
      have BW := Lib.hid (below_then BW.out hB)
      clear hO hB
      go_wp2_with fail
      refine (CB _ BW.out).mono ?_
      rintro e w4 ⟨u6, rfl, hO, hB⟩
      have QV := Lib.hid hO.vls
      have PV := Lib.hid (PV.out.below hB)
      have BW := Lib.hid (below_then BW.out hB)
      clear hO hB FA FB CA CB
      obtain ⟨A5, c5, rfl⟩ := PV.out.form
      obtain ⟨A6, c6, rfl⟩ := QV.out.form
      have LP := Lib.hid MA.out.2.1
      have LQ := Lib.hid MB.out.2.1
      have EP := fun w1 (h : Below w4.heap.size w4 w1) => encode_c (PV.out.below h) MA.out.1.few
      have EQ := fun w1 (h : Below w4.heap.size w4 w1) => encode_c (QV.out.below h) MB.out.1.few
      rw [MA.out.1.enc] at EP
      rw [MB.out.1.enc] at EQ
      rw [LP.out] at PV EP ⊢
      rw [LQ.out] at QV EQ ⊢
      have KP := Lib.hid MA.out.1.key
      have KQ := Lib.hid MB.out.1.key
      have KI := Lib.hid (show IsKey (keyL p) p from ⟨fun v hv => (MA.out.1.2 v hv).1, rfl⟩)
      have KC := Lib.hid (keyL_cmp p q (fun v hv => (MA.out.1.2 v hv).1) (fun v hv => (MB.out.1.2 v hv).1))
      have HE : Hid ((((keyL p).length : Int) > 0 ∧ (na : Int) > 0) ∨ (¬ ((keyL p).length : Int) > 0 ∧ ¬ (na : Int) > 0)) := Lib.hid (by
        have hl := LP.out
        cases p with
        | nil => exact .inr ⟨show ¬ (((0 : Nat) : Int) > 0) by omega, by rw [← hl]; show ¬ (((0 : Nat) : Int) > 0); omega⟩
        | cons x r =>
          obtain ⟨c, t, e⟩ := keyV_ne x
          refine .inl ⟨?_, by rw [← hl, List.length_cons]; omega⟩
          show (((keyV x ++ keyL r).length : Nat) : Int) > 0
          rw [e, List.cons_append, List.length_cons]
          omega)
      clear EP EQ
      have EP := fun w1 v (h : Vls w1 v p) => encode_c h MA.out.1.few
      have EQ := fun w1 v (h : Vls w1 v q) => encode_c h MB.out.1.few
      rw [MA.out.1.enc] at EP
      rw [MB.out.1.enc] at EQ
      go_upto_region 4 with fail
      refine hk_begin (S := fun W => Below w4.drew.heap.size w4.drew W) 8 (by kernel_rfl) (by kernel_rfl) ?_
      have PV : Hid (Vls w4.drew (.slice A5 na c5) p) := Lib.hid PV.out
      have QV : Hid (Vls w4.drew (.slice A6 nb c6) q) := Lib.hid QV.out
      have BW : Hid (Below w.heap.size w w4.drew) := Lib.hid BW.out.drew
      generalize w4.drew = wd at *
      have S0 : Below wd.heap.size wd wd := Below.refl _ _
      refine hk_take (i := 0) (some 24) (.slice A5 na c5) (by kernel_rfl) (by kernel_rfl) (by kernel_rfl) (by kernel_rfl) (by kernel_rfl) (by kernel_rfl) (fun w hS => by kernel_rfl) (fun _ _ d _ _ h => by cases d <;> exact h) S0 ?_
      simp only [put_lit, put_non, List.set_cons_zero, List.set_cons_succ]
      refine hk_take (i := 3) (some 27) (.slice A6 nb c6) (by kernel_rfl) (by kernel_rfl) (by kernel_rfl) (by kernel_rfl) (by kernel_rfl) (by kernel_rfl) (fun w hS => by kernel_rfl) (fun _ _ d _ _ h => by cases d <;> exact h) S0 ?_
      simp only [put_lit, put_non, List.set_cons_zero, List.set_cons_succ]
      refine hk_one (i := 1) (by kernel_rfl) ?_
      refine op_call (some 25) 23 #[.slice A5 na c5] (by kernel_rfl) (by kernel_rfl) (by kernel_rfl) (fun w => (by kernel_rfl)) ?_
      refine (EP _ _ PV.out).mono ?_
      rintro e y1 ⟨x1, rfl, hO, hB⟩
      have X1 := Lib.hid hO.byt
      have T1 := Lib.hid hB
      clear hB hO
      refine ⟨_, rfl, T1.out, ?_⟩
      simp only [put_lit, put_non, List.set_cons_zero, List.set_cons_succ]
      refine hk_more (S2 := fun W => Below y1.heap.size y1 W) (fun W h => below_then T1.out h) _ _ _ _ ?_
      refine hk_take (i := 2) (some 26) (.string ⟨(keyL p).toArray⟩) (by kernel_rfl) (by kernel_rfl) (by kernel_rfl) (by kernel_rfl) (by kernel_rfl) (by kernel_rfl) (fun w hS => exec_strB 25 (X1.out.below hS) (by kernel_rfl) (by kernel_rfl)) (fun _ _ d _ _ h => by cases d <;> exact h) (Below.refl _ _) ?_
      simp only [put_lit, put_non, List.set_cons_zero, List.set_cons_succ]
      refine hk_one (i := 4) (by kernel_rfl) ?_
      refine op_call (some 28) 23 #[.slice A6 nb c6] (by kernel_rfl) (by kernel_rfl) (by kernel_rfl) (fun w => (by kernel_rfl)) ?_
      refine (EQ _ _ (QV.out.below T1.out)).mono ?_
      rintro e y2 ⟨x2, rfl, hO, hB⟩
      have X2 := Lib.hid hO.byt
      have T2 := Lib.hid hB
      clear hB hO
      refine ⟨_, rfl, T2.out, ?_⟩
      simp only [put_lit, put_non, List.set_cons_zero, List.set_cons_succ]
      refine hk_more (S2 := fun W => Below y2.heap.size y2 W) (fun W h => below_then T2.out h) _ _ _ _ ?_
      refine hk_take (i := 5) (some 29) (.string ⟨(keyL q).toArray⟩) (by kernel_rfl) (by kernel_rfl) (by kernel_rfl) (by kernel_rfl) (by kernel_rfl) (by kernel_rfl) (fun w hS => exec_strB 28 (X2.out.below hS) (by kernel_rfl) (by kernel_rfl)) (fun _ _ d _ _ h => by cases d <;> exact h) (Below.refl _ _) ?_
      simp only [put_lit, put_non, List.set_cons_zero, List.set_cons_succ]
      refine hk_take (i := 6) (some 7) (.string ⟨(keyL p).toArray⟩) (by kernel_rfl) (by kernel_rfl) (by kernel_rfl) (by kernel_rfl) (by kernel_rfl) (by kernel_rfl) (fun w hS => by kernel_rfl) (fun _ _ d _ _ h => by cases d <;> exact h) (Below.refl _ _) ?_
      simp only [put_lit, put_non, List.set_cons_zero, List.set_cons_succ]
      refine hk_take (i := 7) (some 8) (.string ⟨(keyL q).toArray⟩) (by kernel_rfl) (by kernel_rfl) (by kernel_rfl) (by kernel_rfl) (by kernel_rfl) (by kernel_rfl) (fun w hS => by kernel_rfl) (fun _ _ d _ _ h => by cases d <;> exact h) (Below.refl _ _) ?_
      simp only [put_lit, put_non, List.set_cons_zero, List.set_cons_succ]
      refine hk_done (by kernel_rfl) ?_
      have BW := Lib.hid (below_then (below_then BW.out T1.out) T2.out)
      have PV := Lib.hid ((PV.out.below T1.out).below T2.out)
      have QV := Lib.hid ((QV.out.below T1.out).below T2.out)
      clear T1 T2 X1 X2 EP EQ S0
      generalize keyL p = kp at *
      generalize keyL q = kq at *
      rcases cmpB_cases kp kq with ⟨hc, hl, hn⟩ | ⟨hc, hl⟩ | ⟨hc, hl, hn⟩
      · skip
        have CT := Lib.hid (show cmpT p q = -1 from KC.out.symm.trans hc)
        have l1 : Go.Op.bytesLess (ByteArray.mk kp.toArray).toList (ByteArray.mk kq.toArray).toList = true := by rw [bytes_list, bytes_list]; exact hl
        have kg := fun w => run_gtrS Tryd.prog w 9 (ByteArray.mk kp.toArray) (ByteArray.mk kq.toArray) (b := false) (by rw [l1]; rfl)
        have l0 : Go.Op.bytesLess kp kq = true := hl
        clear hc hl hn
        rcases HE.out with ⟨hk0, hn0⟩ | ⟨hk0, hn0⟩
        · skip
          go_wp2_with (first | ((with_reducible refine wp_bytesB rfl (.tmp 37) rfl kp ?hx ?hl ?_); (case hx => rfl); (case hl => (have := KP.out; unfold maxLen; omega)); intro w6 c6b hb hz hB; have XB := Lib.hid hb; have BX := Lib.hid hB; clear hb hz hB))
          have PV := Lib.hid (PV.out.below BX.out)
          have QV := Lib.hid (QV.out.below BX.out)
          have BW := Lib.hid (below_then BW.out BX.out)
          refine (decode_c XB.out (by have := KP.out; omega)).mono ?_
          rintro e w7 ⟨hB, ⟨u, l, rfl, hO, hk⟩ | ⟨hno, _⟩⟩
          case inr => exact absurd KI.out (hno p)
          obtain rfl : l = p := isKey_uniq hk KI.out
          have UV := Lib.hid hO.vls
          have PV := Lib.hid (PV.out.below hB)
          have QV := Lib.hid (QV.out.below hB)
          have BW := Lib.hid (below_then BW.out hB)
          clear hB hO hk
          obtain ⟨A9, c9, rfl⟩ := UV.out.form
          rw [LP.out] at UV ⊢
          go_wp2_with fail
          refine (tuples_c PV.out QV.out (by have := MA.out.2.2; omega) (by have := MB.out.2.2; omega)).mono ?_
          rintro e w8 ⟨rfl, hB⟩
          have UV := Lib.hid (UV.out.below hB)
          have PV := Lib.hid (PV.out.below hB)
          have BW := Lib.hid (below_then BW.out hB)
          clear hB
          rw [CT.out]
          go_wp2_with fail
          refine (same_c UV.out PV.out (by have := MA.out.2.2; omega)).mono ?_
          rintro e w9 ⟨rfl, hB⟩
          have BW := Lib.hid (below_then BW.out hB)
          clear hB
          rw [decide_eq_true rfl]
          go_wp2_with fail
          refine (known8_c (HS.out.below BW.out)).mono ?_
          rintro e w10 ⟨rfl, hB⟩
          have BW := Lib.hid (below_then BW.out hB)
          go_wp2_with fail
          go_ret
          exact ⟨rfl, BW.out⟩
        · skip
          go_wp2_with (first | ((with_reducible refine wp_bytesB rfl (.tmp 37) rfl kp ?hx ?hl ?_); (case hx => rfl); (case hl => (have := KP.out; unfold maxLen; omega)); intro w6 c6b hb hz hB; have XB := Lib.hid hb; have BX := Lib.hid hB; clear hb hz hB))
          have PV := Lib.hid (PV.out.below BX.out)
          have QV := Lib.hid (QV.out.below BX.out)
          have BW := Lib.hid (below_then BW.out BX.out)
          refine (decode_c XB.out (by have := KP.out; omega)).mono ?_
          rintro e w7 ⟨hB, ⟨u, l, rfl, hO, hk⟩ | ⟨hno, _⟩⟩
          case inr => exact absurd KI.out (hno p)
          obtain rfl : l = p := isKey_uniq hk KI.out
          have UV := Lib.hid hO.vls
          have PV := Lib.hid (PV.out.below hB)
          have QV := Lib.hid (QV.out.below hB)
          have BW := Lib.hid (below_then BW.out hB)
          clear hB hO hk
          obtain ⟨A9, c9, rfl⟩ := UV.out.form
          rw [LP.out] at UV ⊢
          go_wp2_with fail
          refine (tuples_c PV.out QV.out (by have := MA.out.2.2; omega) (by have := MB.out.2.2; omega)).mono ?_
          rintro e w8 ⟨rfl, hB⟩
          have UV := Lib.hid (UV.out.below hB)
          have PV := Lib.hid (PV.out.below hB)
          have BW := Lib.hid (below_then BW.out hB)
          clear hB
          rw [CT.out]
          go_wp2_with fail
          refine (same_c UV.out PV.out (by have := MA.out.2.2; omega)).mono ?_
          rintro e w9 ⟨rfl, hB⟩
          have BW := Lib.hid (below_then BW.out hB)
          clear hB
          rw [decide_eq_true rfl]
          go_wp2_with fail
          refine (known8_c (HS.out.below BW.out)).mono ?_
          rintro e w10 ⟨rfl, hB⟩
          have BW := Lib.hid (below_then BW.out hB)
          go_wp2_with fail
          go_ret
          exact ⟨rfl, BW.out⟩
      · skip
        have CT := Lib.hid (show cmpT p q = 0 from KC.out.symm.trans hc)
        subst hl
        have hl : Go.Op.bytesLess kp kp = false := by rw [less_cmp, cmpB_self]; rfl
        have l1 : Go.Op.bytesLess (ByteArray.mk kp.toArray).toList (ByteArray.mk kp.toArray).toList = false := by rw [bytes_list]; exact hl
        have kg := fun w => run_gtrS Tryd.prog w 9 (ByteArray.mk kp.toArray) (ByteArray.mk kp.toArray) (b := false) (by rw [l1]; simp)
        clear hc
        rcases HE.out with ⟨hk0, hn0⟩ | ⟨hk0, hn0⟩
        · skip
          go_wp2_with (first | ((with_reducible refine wp_bytesB rfl (.tmp 37) rfl kp ?hx ?hl ?_); (case hx => rfl); (case hl => (have := KP.out; unfold maxLen; omega)); intro w6 c6b hb hz hB; have XB := Lib.hid hb; have BX := Lib.hid hB; clear hb hz hB))
          have PV := Lib.hid (PV.out.below BX.out)
          have QV := Lib.hid (QV.out.below BX.out)
          have BW := Lib.hid (below_then BW.out BX.out)
          refine (decode_c XB.out (by have := KP.out; omega)).mono ?_
          rintro e w7 ⟨hB, ⟨u, l, rfl, hO, hk⟩ | ⟨hno, _⟩⟩
          case inr => exact absurd KI.out (hno p)
          obtain rfl : l = p := isKey_uniq hk KI.out
          have UV := Lib.hid hO.vls
          have PV := Lib.hid (PV.out.below hB)
          have QV := Lib.hid (QV.out.below hB)
          have BW := Lib.hid (below_then BW.out hB)
          clear hB hO hk
          obtain ⟨A9, c9, rfl⟩ := UV.out.form
          rw [LP.out] at UV ⊢
          go_wp2_with fail
          refine (tuples_c PV.out QV.out (by have := MA.out.2.2; omega) (by have := MB.out.2.2; omega)).mono ?_
          rintro e w8 ⟨rfl, hB⟩
          have UV := Lib.hid (UV.out.below hB)
          have PV := Lib.hid (PV.out.below hB)
          have BW := Lib.hid (below_then BW.out hB)
          clear hB
          rw [CT.out]
          go_wp2_with fail
          refine (same_c UV.out PV.out (by have := MA.out.2.2; omega)).mono ?_
          rintro e w9 ⟨rfl, hB⟩
          have BW := Lib.hid (below_then BW.out hB)
          clear hB
          rw [decide_eq_true rfl]
          go_wp2_with fail
          refine (known8_c (HS.out.below BW.out)).mono ?_
          rintro e w10 ⟨rfl, hB⟩
          have BW := Lib.hid (below_then BW.out hB)
          go_wp2_with fail
          go_ret
          exact ⟨rfl, BW.out⟩
        · skip
          go_wp2_with (first | ((with_reducible refine wp_bytesB rfl (.tmp 37) rfl kp ?hx ?hl ?_); (case hx => rfl); (case hl => (have := KP.out; unfold maxLen; omega)); intro w6 c6b hb hz hB; have XB := Lib.hid hb; have BX := Lib.hid hB; clear hb hz hB))
          have PV := Lib.hid (PV.out.below BX.out)
          have QV := Lib.hid (QV.out.below BX.out)
          have BW := Lib.hid (below_then BW.out BX.out)
          refine (decode_c XB.out (by have := KP.out; omega)).mono ?_
          rintro e w7 ⟨hB, ⟨u, l, rfl, hO, hk⟩ | ⟨hno, _⟩⟩
          case inr => exact absurd KI.out (hno p)
          obtain rfl : l = p := isKey_uniq hk KI.out
          have UV := Lib.hid hO.vls
          have PV := Lib.hid (PV.out.below hB)
          have QV := Lib.hid (QV.out.below hB)
          have BW := Lib.hid (below_then BW.out hB)
          clear hB hO hk
          obtain ⟨A9, c9, rfl⟩ := UV.out.form
          rw [LP.out] at UV ⊢
          go_wp2_with fail
          refine (tuples_c PV.out QV.out (by have := MA.out.2.2; omega) (by have := MB.out.2.2; omega)).mono ?_
          rintro e w8 ⟨rfl, hB⟩
          have UV := Lib.hid (UV.out.below hB)
          have PV := Lib.hid (PV.out.below hB)
          have BW := Lib.hid (below_then BW.out hB)
          clear hB
          rw [CT.out]
          go_wp2_with fail
          refine (same_c UV.out PV.out (by have := MA.out.2.2; omega)).mono ?_
          rintro e w9 ⟨rfl, hB⟩
          have BW := Lib.hid (below_then BW.out hB)
          clear hB
          rw [decide_eq_true rfl]
          go_wp2_with fail
          refine (known8_c (HS.out.below BW.out)).mono ?_
          rintro e w10 ⟨rfl, hB⟩
          have BW := Lib.hid (below_then BW.out hB)
          go_wp2_with fail
          go_ret
          exact ⟨rfl, BW.out⟩
      · skip
        have CT := Lib.hid (show cmpT p q = 1 from KC.out.symm.trans hc)
        have l1 : Go.Op.bytesLess (ByteArray.mk kp.toArray).toList (ByteArray.mk kq.toArray).toList = false := by rw [bytes_list, bytes_list]; exact hl
        have l2 : ((ByteArray.mk kp.toArray).toList == (ByteArray.mk kq.toArray).toList) = false := by rw [bytes_list, bytes_list, beq_eq_false_iff_ne]; exact hn
        have kg := fun w => run_gtrS Tryd.prog w 9 (ByteArray.mk kp.toArray) (ByteArray.mk kq.toArray) (b := true) (by rw [l1, l2]; rfl)
        have l0 : Go.Op.bytesLess kp kq = false := hl
        have l3 : (kp == kq) = false := beq_eq_false_iff_ne.2 hn
        clear hc hl hn
        rcases HE.out with ⟨hk0, hn0⟩ | ⟨hk0, hn0⟩
        · skip
          go_wp2_with (first | ((with_reducible refine wp_bytesB rfl (.tmp 37) rfl kp ?hx ?hl ?_); (case hx => rfl); (case hl => (have := KP.out; unfold maxLen; omega)); intro w6 c6b hb hz hB; have XB := Lib.hid hb; have BX := Lib.hid hB; clear hb hz hB))
          have PV := Lib.hid (PV.out.below BX.out)
          have QV := Lib.hid (QV.out.below BX.out)
          have BW := Lib.hid (below_then BW.out BX.out)
          refine (decode_c XB.out (by have := KP.out; omega)).mono ?_
          rintro e w7 ⟨hB, ⟨u, l, rfl, hO, hk⟩ | ⟨hno, _⟩⟩
          case inr => exact absurd KI.out (hno p)
          obtain rfl : l = p := isKey_uniq hk KI.out
          have UV := Lib.hid hO.vls
          have PV := Lib.hid (PV.out.below hB)
          have QV := Lib.hid (QV.out.below hB)
          have BW := Lib.hid (below_then BW.out hB)
          clear hB hO hk
          obtain ⟨A9, c9, rfl⟩ := UV.out.form
          rw [LP.out] at UV ⊢
          go_wp2_with fail
          refine (tuples_c PV.out QV.out (by have := MA.out.2.2; omega) (by have := MB.out.2.2; omega)).mono ?_
          rintro e w8 ⟨rfl, hB⟩
          have UV := Lib.hid (UV.out.below hB)
          have PV := Lib.hid (PV.out.below hB)
          have BW := Lib.hid (below_then BW.out hB)
          clear hB
          rw [CT.out]
          go_wp2_with fail
          refine (same_c UV.out PV.out (by have := MA.out.2.2; omega)).mono ?_
          rintro e w9 ⟨rfl, hB⟩
          have BW := Lib.hid (below_then BW.out hB)
          clear hB
          rw [decide_eq_true rfl]
          go_wp2_with fail
          refine (known8_c (HS.out.below BW.out)).mono ?_
          rintro e w10 ⟨rfl, hB⟩
          have BW := Lib.hid (below_then BW.out hB)
          go_wp2_with fail
          go_ret
          exact ⟨rfl, BW.out⟩
        · skip
          go_wp2_with (first | ((with_reducible refine wp_bytesB rfl (.tmp 37) rfl kp ?hx ?hl ?_); (case hx => rfl); (case hl => (have := KP.out; unfold maxLen; omega)); intro w6 c6b hb hz hB; have XB := Lib.hid hb; have BX := Lib.hid hB; clear hb hz hB))
          have PV := Lib.hid (PV.out.below BX.out)
          have QV := Lib.hid (QV.out.below BX.out)
          have BW := Lib.hid (below_then BW.out BX.out)
          refine (decode_c XB.out (by have := KP.out; omega)).mono ?_
          rintro e w7 ⟨hB, ⟨u, l, rfl, hO, hk⟩ | ⟨hno, _⟩⟩
          case inr => exact absurd KI.out (hno p)
          obtain rfl : l = p := isKey_uniq hk KI.out
          have UV := Lib.hid hO.vls
          have PV := Lib.hid (PV.out.below hB)
          have QV := Lib.hid (QV.out.below hB)
          have BW := Lib.hid (below_then BW.out hB)
          clear hB hO hk
          obtain ⟨A9, c9, rfl⟩ := UV.out.form
          rw [LP.out] at UV ⊢
          go_wp2_with fail
          refine (tuples_c PV.out QV.out (by have := MA.out.2.2; omega) (by have := MB.out.2.2; omega)).mono ?_
          rintro e w8 ⟨rfl, hB⟩
          have UV := Lib.hid (UV.out.below hB)
          have PV := Lib.hid (PV.out.below hB)
          have BW := Lib.hid (below_then BW.out hB)
          clear hB
          rw [CT.out]
          go_wp2_with fail
          refine (same_c UV.out PV.out (by have := MA.out.2.2; omega)).mono ?_
          rintro e w9 ⟨rfl, hB⟩
          have BW := Lib.hid (below_then BW.out hB)
          clear hB
          rw [decide_eq_true rfl]
          go_wp2_with fail
          refine (known8_c (HS.out.below BW.out)).mono ?_
          rintro e w10 ⟨rfl, hB⟩
          have BW := Lib.hid (below_then BW.out hB)
          go_wp2_with fail
          go_ret
          exact ⟨rfl, BW.out⟩
end Go.Proofs.YtpbkmkcfhkdjjaaDoor

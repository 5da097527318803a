/- The law ValueTells of stage 8. -/
import Derived.Deep.DeepCutAuto
import Derived.Test.YtpbkmkcfhkdjjaaDoorVls
import Derived.Test.YtpbkmkcfhkdjjaaDoorVlt
import Derived.Test.YtpbkmkcfhkdjjaaDoorVlu
namespace Go.Proofs.YtpbkmkcfhkdjjaaDoor
set_option linter.unusedSimpArgs false
open Go.RowKit Dig
set_option linter.unusedVariables false

section
variable {ev : Operand → Value} {o : Oper} {w : World}
theorem exec_neB (t s : Tmp) (b : Bool) (ho : o.op = .binOp .neq 4 (.tmp t) (.tmp s) 4) (hx : ev (.tmp t) = .bool b) (hy : ev (.tmp s) = .bool b) : (execOp ev o).run Tryd.prog w = .ok (.value (.bool false)) w := by
  unfold execOp
  cases b <;> (simp only [ho, hx, hy]; go_simp)
theorem exec_neI {T T' : TypeId} {k : IntKind} (t s : Tmp) (x : Int) (ho : o.op = .binOp .neq T (.tmp t) (.tmp s) T') (hx : ev (.tmp t) = .int k x) (hy : ev (.tmp s) = .int k x) : (execOp ev o).run Tryd.prog w = .ok (.value (.bool false)) w := by
  unfold execOp
  simp only [ho, hx, hy]
  cases k <;> go_simp
end
theorem few_fit {l : List Vl} (h : fitB l = true) (ho : ∀ y ∈ l, OkVl y) : Few l := ⟨by have := ((fitB_iff l).1 h).1; omega, fun y hy => ⟨ho y hy, by have := ((fitB_iff l).1 h).2 y hy; omega⟩⟩
set_option maxRecDepth 20000 in
set_option maxHeartbeats 8000000 in
theorem tells_walk (w : World) (va : Value) (la : List Vl) (vb : Value) (lb : List Vl) (n : Int) (s : List UInt8) (qa : Vls w va la) (oa : ∀ y ∈ la, OkVl y) (qb : Vls w vb lb) (ob : ∀ y ∈ lb, OkVl y) (wn : (Lit.int .i64 n).wf = true) (z : s.length ≤ maxLen) (hS : Std w) : Calls Tryd.prog 3 #[va, vb, .int .i64 n, .string ⟨s.toArray⟩] w (RVal w (.bool true)) := by
  have HS := Lib.hid hS
  have QA := Lib.hid qa
  have QB := Lib.hid qb
  have FA := fun w1 (h : Below w.heap.size w w1) => fits_c (QA.out.below h) oa
  have FB := fun w1 (h : Below w.heap.size w w1) => fits_c (QB.out.below h) ob
  obtain ⟨A, c, rfl⟩ := qa.form
  obtain ⟨B, d, rfl⟩ := qb.form
  obtain ⟨na, hna⟩ : ∃ n, la.length = n := ⟨_, rfl⟩
  obtain ⟨nb, hnb⟩ : ∃ n, lb.length = n := ⟨_, rfl⟩
  cases hfa : fitB la with
  | false =>
    rw [hfa] at FA
    rw [hna] at FA QA ⊢
    rw [hnb] at FB QB ⊢
    clear hS qa qb hfa hna hnb wn z
    go_enter Tryd.func3, Tryd.ntmps3
    go_wp2_with fail
    refine (FA _ (Below.refl _ _)).mono ?_
    rintro e w1 ⟨rfl, hB1⟩
    go_wp2_with fail
    go_ret
    exact ⟨rfl, hB1⟩
  | true =>
    have MA := Lib.hid (okL_make hfa oa)
    have WA := Lib.hid (few_fit hfa oa)
    have CA := fun w1 (h : Below w.heap.size w w1) => valids_c (QA.out.below h) (by have := ((fitB_iff la).1 hfa).1; omega) (fun y hy => by have := ((fitB_iff la).1 hfa).2 y hy; omega)
    have NA := Lib.hid ((fitB_iff la).1 hfa)
    rw [hfa] at FA
    cases hfb : fitB lb with
    | false =>
      rw [hfb] at FB
      rw [hna] at FA QA ⊢
      rw [hnb] at FB QB ⊢
      clear hS qa qb hfa hfb hna hnb CA wn z
      go_enter Tryd.func3, Tryd.ntmps3
      go_wp2_with fail
      refine (FA _ (Below.refl _ _)).mono ?_
      rintro e w1 ⟨rfl, hB1⟩
      go_wp2_with fail
      refine (FB _ hB1).mono ?_
      rintro e w2 ⟨rfl, hB2⟩
      go_wp2_with fail
      go_ret
      exact ⟨rfl, below_then hB1 hB2⟩
    | true =>
      have MB := Lib.hid (okL_make hfb ob)
      have WB := Lib.hid (few_fit hfb ob)
      have CB := fun w1 (h : Below w.heap.size w w1) => valids_c (QB.out.below h) (by have := ((fitB_iff lb).1 hfb).1; omega) (fun y hy => by have := ((fitB_iff lb).1 hfb).2 y hy; omega)
      have NB := Lib.hid ((fitB_iff lb).1 hfb)
      rw [hfb] at FB
      have HNA := Lib.hid hna
      have HNB := Lib.hid hnb
      have hna8 : (na : Int) ≤ 8 := by have := NA.out.1; omega
      have hnb8 : (nb : Int) ≤ 8 := by have := NB.out.1; omega
      rw [hna] at FA CA QA MA ⊢
      rw [hnb] at FB CB QB MB ⊢
      by_cases h100 : s.length ≤ 100
      case neg =>
        have h100i : (s.length : Int) > 100 := by omega
        clear hS qa qb hfa hfb hna hnb wn z h100 CA CB
        go_enter Tryd.func3, Tryd.ntmps3
        go_wp2_with fail
        refine (FA _ (Below.refl _ _)).mono ?_
        rintro e w1 ⟨rfl, hB1⟩
        go_wp2_with fail
        refine (FB _ hB1).mono ?_
        rintro e w2 ⟨rfl, hB2⟩
        have BW := Lib.hid (below_then hB1 hB2)
        clear hB1 hB2
        go_wp2_with fail
        go_ret
        exact ⟨rfl, BW.out⟩
      have h100i : ¬ (s.length : Int) > 100 := by omega
      have VM : Hid (∀ x ∈ la, ∀ W, Calls Tryd.prog 13 #[vV x] W (RVal W (vV (mkV x)))) := Lib.hid fun x hx W => mkv_c W x (by have := NA.out.2 x hx; omega)
      have VL : Hid (∀ x ∈ la, (mkV x).2.2.length ≤ 1000000 ∧ x.2.2.length ≤ 1000000) := Lib.hid fun x hx => ⟨by have := (mkV_ok (oa x hx)).2.2; omega, by have := NA.out.2 x hx; omega⟩
      have CV := Lib.hid (fun W x y => compare_c W x y)
      have CR := Lib.hid (fun W x y => rcompare_c W x y)
      clear hS qa qb hfa hfb hna hnb wn z h100
      generalize la.map mkV = p at *
      generalize lb.map mkV = q at *
      go_enter Tryd.func3, Tryd.ntmps3
      go_wp2_with fail
      refine (FA _ (Below.refl _ _)).mono ?_
      rintro e w1 ⟨rfl, hB1⟩
      go_wp2_with fail
      refine (FB _ hB1).mono ?_
      rintro e w2 ⟨rfl, hB2⟩
      have BW := Lib.hid (below_then hB1 hB2)
      clear hB1 hB2 FA FB
      go_wp2_with fail
      clear h100i
      go_loopw [9] (fun iv wr => ∃ j : Nat, j ≤ na ∧ iv = .int .i64 (j : Int) ∧ Below w.heap.size w wr) (fun iv _ => na - (intOf iv).toNat)
      case atStart => exact ⟨0, Nat.zero_le _, rfl, BW.out⟩
      case round =>
        obtain ⟨j, hjn, rfl, hB⟩ := hrel
        have BR := Lib.hid hB
        clear hB
        by_cases hj : j < na
        · have HJ : (j : Int) < (na : Int) := by omega
          have HJN := Lib.hid hj
          obtain ⟨x, hx⟩ : ∃ x, la[j]? = some x := ⟨la[j]'(by rw [HNA.out]; exact hj), List.getElem?_eq_getElem _⟩
          have MX := Lib.hid (List.mem_of_getElem? hx)
          obtain ⟨b1, o1, eA, hb1, hr1⟩ := QA.out.at (j := j) (by rw [HNA.out]; exact hj)
          rw [(List.getElem?_eq_some_iff.1 hx).2] at hr1
          subst eA
          have R1 := Lib.hid hr1
          have BB1 := Lib.hid hb1
          clear hr1 hb1 hx
          go_upto_region 6 with fail
          refine wp_region_plan (S := fun W => Below w.heap.size w W) [(0, true), (1, true), (2, true), (3, true), (5, true), (6, true), (7, true), (8, true), (4, false), (9, false), (10, true), (11, true), (12, true), (13, true), (14, true), (15, true), (18, true), (19, true), (20, true), (21, true), (16, false), (17, false), (22, false), (23, false), (24, true), (25, true)] (by kernel_rfl) (by kernel_rfl) (by kernel_rfl) (by kernel_rfl) (fun _ _ d _ _ h => by cases d <;> exact h) BR.out.drew ?_
          refine wkS_take (some 32) (.slice (some ⟨b1, o1, none⟩) na c) (by kernel_rfl) (by kernel_rfl) (by kernel_rfl) (fun W hS => by kernel_rfl) ?_
          simp only [put_lit, put_non, List.set_cons_zero, List.set_cons_succ]
          refine wkS_take (some 33) (.int .i64 (j : Int)) (by kernel_rfl) (by kernel_rfl) (by kernel_rfl) (fun W hS => by kernel_rfl) ?_
          simp only [put_lit, put_non, List.set_cons_zero, List.set_cons_succ]
          refine wkS_take (some 34) (.pointer (some ⟨b1, o1 + j * 3, none⟩)) (by kernel_rfl) (by kernel_rfl) (by kernel_rfl) (fun W hS => exec_indexV (b := b1) (off := o1) (n := na) (c := c) (j := j) 32 33 (by kernel_rfl) (by kernel_rfl) (by kernel_rfl) HJN.out) ?_
          simp only [put_lit, put_non, List.set_cons_zero, List.set_cons_succ]
          refine wkS_take (some 35) (vV x) (by kernel_rfl) (by kernel_rfl) (by kernel_rfl) (fun W hS => exec_loadV 34 (rangeAt_below R1.out BB1.out hS) (by kernel_rfl) (by kernel_rfl)) ?_
          simp only [put_lit, put_non, List.set_cons_zero, List.set_cons_succ]
          refine wkS_take (some 37) (.slice (some ⟨b1, o1, none⟩) na c) (by kernel_rfl) (by kernel_rfl) (by kernel_rfl) (fun W hS => by kernel_rfl) ?_
          simp only [put_lit, put_non, List.set_cons_zero, List.set_cons_succ]
          refine wkS_take (some 38) (.int .i64 (j : Int)) (by kernel_rfl) (by kernel_rfl) (by kernel_rfl) (fun W hS => by kernel_rfl) ?_
          simp only [put_lit, put_non, List.set_cons_zero, List.set_cons_succ]
          refine wkS_take (some 39) (.pointer (some ⟨b1, o1 + j * 3, none⟩)) (by kernel_rfl) (by kernel_rfl) (by kernel_rfl) (fun W hS => exec_indexV (b := b1) (off := o1) (n := na) (c := c) (j := j) 37 38 (by kernel_rfl) (by kernel_rfl) (by kernel_rfl) HJN.out) ?_
          simp only [put_lit, put_non, List.set_cons_zero, List.set_cons_succ]
          refine wkS_take (some 40) (vV x) (by kernel_rfl) (by kernel_rfl) (by kernel_rfl) (fun W hS => exec_loadV 39 (rangeAt_below R1.out BB1.out hS) (by kernel_rfl) (by kernel_rfl)) ?_
          simp only [put_lit, put_non, List.set_cons_zero, List.set_cons_succ]
          refine wkS_call (some 36) 11 #[vV x] (by kernel_rfl) (by kernel_rfl) (by kernel_rfl) (fun w => (by kernel_rfl)) ?_
          refine (valid_c _ x (VL.out x MX.out).2).mono ?_
          rintro e y1 ⟨rfl, hB⟩
          have Y1 := below_then BR.out.drew hB
          clear hB
          refine ⟨_, rfl, Y1, ?_⟩
          simp only [put_lit, put_non, List.set_cons_zero, List.set_cons_succ]
          refine wkS_call (some 41) 12 #[vV x] (by kernel_rfl) (by kernel_rfl) (by kernel_rfl) (fun w => (by kernel_rfl)) ?_
          refine (rvalid_c _ x (VL.out x MX.out).2).mono ?_
          rintro e y2 ⟨rfl, hB⟩
          have Y2 := below_then Y1 hB
          clear hB
          refine ⟨_, rfl, Y2, ?_⟩
          simp only [put_lit, put_non, List.set_cons_zero, List.set_cons_succ]
          refine wkS_take (some 42) (.bool false) (by kernel_rfl) (by kernel_rfl) (by kernel_rfl) (fun W hS => exec_neB 36 41 (vldB x) (by kernel_rfl) (by kernel_rfl) (by kernel_rfl)) ?_
          simp only [put_lit, put_non, List.set_cons_zero, List.set_cons_succ]
          refine wkS_take (some 43) (.bool false) (by kernel_rfl) (by kernel_rfl) (by kernel_rfl) (fun W hS => by kernel_rfl) ?_
          simp only [put_lit, put_non, List.set_cons_zero, List.set_cons_succ]
          refine wkS_take (some 44) (.slice (some ⟨b1, o1, none⟩) na c) (by kernel_rfl) (by kernel_rfl) (by kernel_rfl) (fun W hS => by kernel_rfl) ?_
          simp only [put_lit, put_non, List.set_cons_zero, List.set_cons_succ]
          refine wkS_take (some 45) (.int .i64 (j : Int)) (by kernel_rfl) (by kernel_rfl) (by kernel_rfl) (fun W hS => by kernel_rfl) ?_
          simp only [put_lit, put_non, List.set_cons_zero, List.set_cons_succ]
          refine wkS_take (some 46) (.pointer (some ⟨b1, o1 + j * 3, none⟩)) (by kernel_rfl) (by kernel_rfl) (by kernel_rfl) (fun W hS => exec_indexV (b := b1) (off := o1) (n := na) (c := c) (j := j) 44 45 (by kernel_rfl) (by kernel_rfl) (by kernel_rfl) HJN.out) ?_
          simp only [put_lit, put_non, List.set_cons_zero, List.set_cons_succ]
          refine wkS_take (some 47) (vV x) (by kernel_rfl) (by kernel_rfl) (by kernel_rfl) (fun W hS => exec_loadV 46 (rangeAt_below R1.out BB1.out hS) (by kernel_rfl) (by kernel_rfl)) ?_
          simp only [put_lit, put_non, List.set_cons_zero, List.set_cons_succ]
          refine wkS_take (some 50) (.slice (some ⟨b1, o1, none⟩) na c) (by kernel_rfl) (by kernel_rfl) (by kernel_rfl) (fun W hS => by kernel_rfl) ?_
          simp only [put_lit, put_non, List.set_cons_zero, List.set_cons_succ]
          refine wkS_take (some 51) (.int .i64 (j : Int)) (by kernel_rfl) (by kernel_rfl) (by kernel_rfl) (fun W hS => by kernel_rfl) ?_
          simp only [put_lit, put_non, List.set_cons_zero, List.set_cons_succ]
          refine wkS_take (some 52) (.pointer (some ⟨b1, o1 + j * 3, none⟩)) (by kernel_rfl) (by kernel_rfl) (by kernel_rfl) (fun W hS => exec_indexV (b := b1) (off := o1) (n := na) (c := c) (j := j) 50 51 (by kernel_rfl) (by kernel_rfl) (by kernel_rfl) HJN.out) ?_
          simp only [put_lit, put_non, List.set_cons_zero, List.set_cons_succ]
          refine wkS_take (some 53) (vV x) (by kernel_rfl) (by kernel_rfl) (by kernel_rfl) (fun W hS => exec_loadV 52 (rangeAt_below R1.out BB1.out hS) (by kernel_rfl) (by kernel_rfl)) ?_
          simp only [put_lit, put_non, List.set_cons_zero, List.set_cons_succ]
          refine wkS_call (some 48) 13 #[vV x] (by kernel_rfl) (by kernel_rfl) (by kernel_rfl) (fun w => (by kernel_rfl)) ?_
          refine (VM.out x MX.out _).mono ?_
          rintro e y3 ⟨rfl, hB⟩
          have Y3 := below_then Y2 hB
          clear hB
          refine ⟨_, rfl, Y3, ?_⟩
          simp only [put_lit, put_non, List.set_cons_zero, List.set_cons_succ]
          refine wkS_call (some 49) 11 #[vV (mkV x)] (by kernel_rfl) (by kernel_rfl) (by kernel_rfl) (fun w => (by kernel_rfl)) ?_
          refine (valid_c _ (mkV x) (VL.out x MX.out).1).mono ?_
          rintro e y4 ⟨rfl, hB⟩
          have Y4 := below_then Y3 hB
          clear hB
          refine ⟨_, rfl, Y4, ?_⟩
          simp only [put_lit, put_non, List.set_cons_zero, List.set_cons_succ]
          refine wkS_call (some 54) 13 #[vV x] (by kernel_rfl) (by kernel_rfl) (by kernel_rfl) (fun w => (by kernel_rfl)) ?_
          refine (VM.out x MX.out _).mono ?_
          rintro e y5 ⟨rfl, hB⟩
          have Y5 := below_then Y4 hB
          clear hB
          refine ⟨_, rfl, Y5, ?_⟩
          simp only [put_lit, put_non, List.set_cons_zero, List.set_cons_succ]
          refine wkS_call (some 55) 12 #[vV (mkV x)] (by kernel_rfl) (by kernel_rfl) (by kernel_rfl) (fun w => (by kernel_rfl)) ?_
          refine (rvalid_c _ (mkV x) (VL.out x MX.out).1).mono ?_
          rintro e y6 ⟨rfl, hB⟩
          have Y6 := below_then Y5 hB
          clear hB
          refine ⟨_, rfl, Y6, ?_⟩
          simp only [put_lit, put_non, List.set_cons_zero, List.set_cons_succ]
          refine wkS_take (some 56) (.bool false) (by kernel_rfl) (by kernel_rfl) (by kernel_rfl) (fun W hS => exec_neB 49 55 (vldB (mkV x)) (by kernel_rfl) (by kernel_rfl) (by kernel_rfl)) ?_
          simp only [put_lit, put_non, List.set_cons_zero, List.set_cons_succ]
          refine wkS_take (some 57) (.bool false) (by kernel_rfl) (by kernel_rfl) (by kernel_rfl) (fun W hS => by kernel_rfl) ?_
          simp only [put_lit, put_non, List.set_cons_zero, List.set_cons_succ]
          refine wkS_done ?_
          have BY := Lib.hid Y6
          have S6 : True := trivial
          clear Y1 Y2 Y3 Y4 Y5 Y6
          go_wp2_with fail
          clear S6
          go_loopw [10] (fun kv wx => ∃ m : Nat, m ≤ nb ∧ kv = .int .i64 (m : Int) ∧ Below w.heap.size w wx) (fun kv _ => nb - (intOf kv).toNat)
          case atStart => exact ⟨0, Nat.zero_le _, rfl, BY.out⟩
          case round =>
            obtain ⟨m, hm, rfl, hBm⟩ := hrel
            have BM := Lib.hid hBm
            clear hBm
            by_cases hk : m < nb
            · have HK : (m : Int) < (nb : Int) := by omega
              have HKN := Lib.hid hk
              obtain ⟨y, hy⟩ : ∃ x, lb[m]? = some x := ⟨lb[m]'(by rw [HNB.out]; exact hk), List.getElem?_eq_getElem _⟩
              obtain ⟨b2, o2, eB, hb2, hr2⟩ := QB.out.at (j := m) (by rw [HNB.out]; exact hk)
              rw [(List.getElem?_eq_some_iff.1 hy).2] at hr2
              subst eB
              have R2 := Lib.hid hr2
              have BB2 := Lib.hid hb2
              clear hr2 hb2 hy
              go_upto_region 11 with fail
              refine wp_region_plan (S := fun W => Below w.heap.size w W) [(0, true), (1, true), (2, true), (3, true), (4, true), (5, true), (6, true), (7, true), (9, true), (10, true), (11, true), (12, true), (13, true), (14, true), (15, true), (16, true), (8, false), (17, false), (18, true)] (by kernel_rfl) (by kernel_rfl) (by kernel_rfl) (by kernel_rfl) (fun _ _ d _ _ h => by cases d <;> exact h) BM.out.drew ?_
              refine wkS_take (some 64) (.slice (some ⟨b1, o1, none⟩) na c) (by kernel_rfl) (by kernel_rfl) (by kernel_rfl) (fun W hS => by kernel_rfl) ?_
              simp only [put_lit, put_non, List.set_cons_zero, List.set_cons_succ]
              refine wkS_take (some 65) (.int .i64 (j : Int)) (by kernel_rfl) (by kernel_rfl) (by kernel_rfl) (fun W hS => by kernel_rfl) ?_
              simp only [put_lit, put_non, List.set_cons_zero, List.set_cons_succ]
              refine wkS_take (some 66) (.pointer (some ⟨b1, o1 + j * 3, none⟩)) (by kernel_rfl) (by kernel_rfl) (by kernel_rfl) (fun W hS => exec_indexV (b := b1) (off := o1) (n := na) (c := c) (j := j) 64 65 (by kernel_rfl) (by kernel_rfl) (by kernel_rfl) HJN.out) ?_
              simp only [put_lit, put_non, List.set_cons_zero, List.set_cons_succ]
              refine wkS_take (some 67) (vV x) (by kernel_rfl) (by kernel_rfl) (by kernel_rfl) (fun W hS => exec_loadV 66 (rangeAt_below R1.out BB1.out hS) (by kernel_rfl) (by kernel_rfl)) ?_
              simp only [put_lit, put_non, List.set_cons_zero, List.set_cons_succ]
              refine wkS_take (some 68) (.slice (some ⟨b2, o2, none⟩) nb d) (by kernel_rfl) (by kernel_rfl) (by kernel_rfl) (fun W hS => by kernel_rfl) ?_
              simp only [put_lit, put_non, List.set_cons_zero, List.set_cons_succ]
              refine wkS_take (some 69) (.int .i64 (m : Int)) (by kernel_rfl) (by kernel_rfl) (by kernel_rfl) (fun W hS => by kernel_rfl) ?_
              simp only [put_lit, put_non, List.set_cons_zero, List.set_cons_succ]
              refine wkS_take (some 70) (.pointer (some ⟨b2, o2 + m * 3, none⟩)) (by kernel_rfl) (by kernel_rfl) (by kernel_rfl) (fun W hS => exec_indexV (b := b2) (off := o2) (n := nb) (c := d) (j := m) 68 69 (by kernel_rfl) (by kernel_rfl) (by kernel_rfl) HKN.out) ?_
              simp only [put_lit, put_non, List.set_cons_zero, List.set_cons_succ]
              refine wkS_take (some 71) (vV y) (by kernel_rfl) (by kernel_rfl) (by kernel_rfl) (fun W hS => exec_loadV 70 (rangeAt_below R2.out BB2.out hS) (by kernel_rfl) (by kernel_rfl)) ?_
              simp only [put_lit, put_non, List.set_cons_zero, List.set_cons_succ]
              refine wkS_take (some 73) (.slice (some ⟨b1, o1, none⟩) na c) (by kernel_rfl) (by kernel_rfl) (by kernel_rfl) (fun W hS => by kernel_rfl) ?_
              simp only [put_lit, put_non, List.set_cons_zero, List.set_cons_succ]
              refine wkS_take (some 74) (.int .i64 (j : Int)) (by kernel_rfl) (by kernel_rfl) (by kernel_rfl) (fun W hS => by kernel_rfl) ?_
              simp only [put_lit, put_non, List.set_cons_zero, List.set_cons_succ]
              refine wkS_take (some 75) (.pointer (some ⟨b1, o1 + j * 3, none⟩)) (by kernel_rfl) (by kernel_rfl) (by kernel_rfl) (fun W hS => exec_indexV (b := b1) (off := o1) (n := na) (c := c) (j := j) 73 74 (by kernel_rfl) (by kernel_rfl) (by kernel_rfl) HJN.out) ?_
              simp only [put_lit, put_non, List.set_cons_zero, List.set_cons_succ]
              refine wkS_take (some 76) (vV x) (by kernel_rfl) (by kernel_rfl) (by kernel_rfl) (fun W hS => exec_loadV 75 (rangeAt_below R1.out BB1.out hS) (by kernel_rfl) (by kernel_rfl)) ?_
              simp only [put_lit, put_non, List.set_cons_zero, List.set_cons_succ]
              refine wkS_take (some 77) (.slice (some ⟨b2, o2, none⟩) nb d) (by kernel_rfl) (by kernel_rfl) (by kernel_rfl) (fun W hS => by kernel_rfl) ?_
              simp only [put_lit, put_non, List.set_cons_zero, List.set_cons_succ]
              refine wkS_take (some 78) (.int .i64 (m : Int)) (by kernel_rfl) (by kernel_rfl) (by kernel_rfl) (fun W hS => by kernel_rfl) ?_
              simp only [put_lit, put_non, List.set_cons_zero, List.set_cons_succ]
              refine wkS_take (some 79) (.pointer (some ⟨b2, o2 + m * 3, none⟩)) (by kernel_rfl) (by kernel_rfl) (by kernel_rfl) (fun W hS => exec_indexV (b := b2) (off := o2) (n := nb) (c := d) (j := m) 77 78 (by kernel_rfl) (by kernel_rfl) (by kernel_rfl) HKN.out) ?_
              simp only [put_lit, put_non, List.set_cons_zero, List.set_cons_succ]
              refine wkS_take (some 80) (vV y) (by kernel_rfl) (by kernel_rfl) (by kernel_rfl) (fun W hS => exec_loadV 79 (rangeAt_below R2.out BB2.out hS) (by kernel_rfl) (by kernel_rfl)) ?_
              simp only [put_lit, put_non, List.set_cons_zero, List.set_cons_succ]
              refine wkS_call (some 72) 14 #[vV x, vV y] (by kernel_rfl) (by kernel_rfl) (by kernel_rfl) (fun w => (by kernel_rfl)) ?_
              refine (CV.out _ x y).mono ?_
              rintro e z1 ⟨rfl, hB⟩
              have Z1 := below_then BM.out.drew hB
              clear hB
              refine ⟨_, rfl, Z1, ?_⟩
              simp only [put_lit, put_non, List.set_cons_zero, List.set_cons_succ]
              refine wkS_call (some 81) 15 #[vV x, vV y] (by kernel_rfl) (by kernel_rfl) (by kernel_rfl) (fun w => (by kernel_rfl)) ?_
              refine (CR.out _ x y).mono ?_
              rintro e z2 ⟨rfl, hB⟩
              have S11 := below_then Z1 hB
              clear hB Z1
              refine ⟨_, rfl, S11, ?_⟩
              simp only [put_lit, put_non, List.set_cons_zero, List.set_cons_succ]
              refine wkS_take (some 82) (.bool false) (by kernel_rfl) (by kernel_rfl) (by kernel_rfl) (fun W hS => exec_neI (T := 3) (T' := 3) (k := .i64) 72 81 (cmpV x y) (by kernel_rfl) (by kernel_rfl) (by kernel_rfl)) ?_
              simp only [put_lit, put_non, List.set_cons_zero, List.set_cons_succ]
              refine wkS_done ?_
              go_wp2_with fail
              go_roundw
              case rel => exact ⟨m + 1, by omega, by go_num, S11⟩
              case measure => simp [intOf]; omega
            · have HK : ¬ (m : Int) < (nb : Int) := by omega
              go_wp2_with fail
              go_roundw
              case rel => exact ⟨j + 1, by omega, by go_num, BM.out⟩
              case measure => simp [intOf]; omega
        · have HJ : ¬ (j : Int) < (na : Int) := by omega
          go_wp2_with fail
          refine (CA _ BR.out).mono ?_
          rintro e w3 ⟨u5, rfl, hO, hB⟩
          have PV := Lib.hid hO.vls
          have BW := Lib.hid (below_then BR.out hB)
          clear hO hB
          go_wp2_with fail
          refine (CB _ BW.out).mono ?_
          rintro e w4 ⟨u6, rfl, hO, hB⟩
          have QV := Lib.hid hO.vls
          have PV := Lib.hid (PV.out.below hB)
          have BW := Lib.hid (below_then BW.out hB)
          clear hO hB CA CB
          obtain ⟨A5, c5, rfl⟩ := PV.out.form
          obtain ⟨A6, c6, rfl⟩ := QV.out.form
          have LP := Lib.hid MA.out.2.1
          have LQ := Lib.hid MB.out.2.1
          have FP := Lib.hid MA.out.1.few
          have LB := Lib.hid (show la.length ≤ 1000000 ∧ lb.length ≤ 1000000 ∧ p.length ≤ 1000000 ∧ q.length ≤ 1000000 from ⟨by have := NA.out.1; omega, by have := NB.out.1; omega, by have := MA.out.2.2; omega, by have := MB.out.2.2; omega⟩)
          rw [LP.out] at PV ⊢
          rw [LQ.out] at QV ⊢
          go_upto_region 14 with fail
          refine hk_begin (S := fun W => Below w4.drew.heap.size w4.drew W) 52 (by kernel_rfl) (by kernel_rfl) ?_
          have PV : Hid (Vls w4.drew (.slice A5 na c5) p) := Lib.hid PV.out
          have QV : Hid (Vls w4.drew (.slice A6 nb c6) q) := Lib.hid QV.out
          have BW : Hid (Below w.heap.size w w4.drew) := Lib.hid BW.out.drew
          generalize w4.drew = wd at *
          have LA : Hid (Vls wd (.slice A na c) la) := Lib.hid (QA.out.below BW.out)
          have LBB : Hid (Vls wd (.slice B nb d) lb) := Lib.hid (QB.out.below BW.out)
          refine hk_take (i := 0) (some 87) (.int .i64 n) (by kernel_rfl) (by kernel_rfl) (by kernel_rfl) (by kernel_rfl) (by kernel_rfl) (by kernel_rfl) (fun W hS => by kernel_rfl) (fun _ _ d _ _ h => by cases d <;> exact h) (Below.refl wd.heap.size wd) ?_
          simp only [put_lit, put_non, List.set_cons_zero, List.set_cons_succ]
          refine hk_take (i := 2) (some 89) (.int .i64 n) (by kernel_rfl) (by kernel_rfl) (by kernel_rfl) (by kernel_rfl) (by kernel_rfl) (by kernel_rfl) (fun W hS => by kernel_rfl) (fun _ _ d _ _ h => by cases d <;> exact h) (Below.refl wd.heap.size wd) ?_
          simp only [put_lit, put_non, List.set_cons_zero, List.set_cons_succ]
          refine hk_one (i := 1) (by kernel_rfl) ?_
          refine op_call (some 88) 17 #[.int .i64 n] (by kernel_rfl) (by kernel_rfl) (by kernel_rfl) (fun w => (by kernel_rfl)) ?_
          refine (newInt_c _ n).mono ?_
          rintro e y1 ⟨rfl, hB⟩
          have C1 := Lib.hid (below_then (Below.refl wd.heap.size wd) hB)
          have T1 := Lib.hid (below_then (Below.refl wd.heap.size wd) hB)
          clear hB
          refine ⟨_, rfl, C1.out, ?_⟩
          simp only [put_lit, put_non, List.set_cons_zero, List.set_cons_succ]
          refine hk_one (i := 3) (by kernel_rfl) ?_
          refine op_call (some 90) 18 #[.int .i64 n] (by kernel_rfl) (by kernel_rfl) (by kernel_rfl) (fun w => (by kernel_rfl)) ?_
          refine (refInt_c _ n).mono ?_
          rintro e y2 ⟨rfl, hB⟩
          have C2 := Lib.hid (below_then C1.out hB)
          have T2 := Lib.hid (below_then T1.out hB)
          clear hB
          refine ⟨_, rfl, C2.out, ?_⟩
          simp only [put_lit, put_non, List.set_cons_zero, List.set_cons_succ]
          refine hk_take (i := 4) (some 91) (.bool true) (by kernel_rfl) (by kernel_rfl) (by kernel_rfl) (by kernel_rfl) (by kernel_rfl) (by kernel_rfl) (fun W hS => (exec_eqV (a := (1, n, [])) (b := (1, n, [])) 88 90 (by kernel_rfl) (by kernel_rfl) (by kernel_rfl)).trans (by rw [decide_eq_true rfl])) (fun _ _ d _ _ h => by cases d <;> exact h) C2.out ?_
          simp only [put_lit, put_non, List.set_cons_zero, List.set_cons_succ]
          refine hk_take (i := 5) (some 92) (.bool true) (by kernel_rfl) (by kernel_rfl) (by kernel_rfl) (by kernel_rfl) (by kernel_rfl) (by kernel_rfl) (fun W hS => by kernel_rfl) (fun _ _ d _ _ h => by cases d <;> exact h) C2.out ?_
          simp only [put_lit, put_non, List.set_cons_zero, List.set_cons_succ]
          refine hk_take (i := 6) (some 93) (.string ⟨s.toArray⟩) (by kernel_rfl) (by kernel_rfl) (by kernel_rfl) (by kernel_rfl) (by kernel_rfl) (by kernel_rfl) (fun W hS => by kernel_rfl) (fun _ _ d _ _ h => by cases d <;> exact h) C2.out ?_
          simp only [put_lit, put_non, List.set_cons_zero, List.set_cons_succ]
          refine hk_take (i := 8) (some 95) (.string ⟨s.toArray⟩) (by kernel_rfl) (by kernel_rfl) (by kernel_rfl) (by kernel_rfl) (by kernel_rfl) (by kernel_rfl) (fun W hS => by kernel_rfl) (fun _ _ d _ _ h => by cases d <;> exact h) C2.out ?_
          simp only [put_lit, put_non, List.set_cons_zero, List.set_cons_succ]
          refine hk_one (i := 7) (by kernel_rfl) ?_
          refine op_call (some 94) 19 #[.string ⟨s.toArray⟩] (by kernel_rfl) (by kernel_rfl) (by kernel_rfl) (fun w => (by kernel_rfl)) ?_
          refine (newString_c _ s).mono ?_
          rintro e y3 ⟨rfl, hB⟩
          have C3 := Lib.hid (below_then C2.out hB)
          have T3 := Lib.hid (below_then T2.out hB)
          clear hB
          refine ⟨_, rfl, C3.out, ?_⟩
          simp only [put_lit, put_non, List.set_cons_zero, List.set_cons_succ]
          refine hk_one (i := 9) (by kernel_rfl) ?_
          refine op_call (some 96) 20 #[.string ⟨s.toArray⟩] (by kernel_rfl) (by kernel_rfl) (by kernel_rfl) (fun w => (by kernel_rfl)) ?_
          refine (refStr_c _ s).mono ?_
          rintro e y4 ⟨rfl, hB⟩
          have C4 := Lib.hid (below_then C3.out hB)
          have T4 := Lib.hid (below_then T3.out hB)
          clear hB
          refine ⟨_, rfl, C4.out, ?_⟩
          simp only [put_lit, put_non, List.set_cons_zero, List.set_cons_succ]
          refine hk_take (i := 10) (some 97) (.bool true) (by kernel_rfl) (by kernel_rfl) (by kernel_rfl) (by kernel_rfl) (by kernel_rfl) (by kernel_rfl) (fun W hS => (exec_eqV (a := (2, 0, s)) (b := (2, 0, s)) 94 96 (by kernel_rfl) (by kernel_rfl) (by kernel_rfl)).trans (by rw [decide_eq_true rfl])) (fun _ _ d _ _ h => by cases d <;> exact h) C4.out ?_
          simp only [put_lit, put_non, List.set_cons_zero, List.set_cons_succ]
          refine hk_take (i := 11) (some 98) (.bool true) (by kernel_rfl) (by kernel_rfl) (by kernel_rfl) (by kernel_rfl) (by kernel_rfl) (by kernel_rfl) (fun W hS => by kernel_rfl) (fun _ _ d _ _ h => by cases d <;> exact h) C4.out ?_
          simp only [put_lit, put_non, List.set_cons_zero, List.set_cons_succ]
          refine hk_take (i := 12) (some 99) (.bool true) (by kernel_rfl) (by kernel_rfl) (by kernel_rfl) (by kernel_rfl) (by kernel_rfl) (by kernel_rfl) (fun W hS => by kernel_rfl) (fun _ _ d _ _ h => by cases d <;> exact h) C4.out ?_
          simp only [put_lit, put_non, List.set_cons_zero, List.set_cons_succ]
          refine hk_take (i := 13) (some 100) (.slice A na c) (by kernel_rfl) (by kernel_rfl) (by kernel_rfl) (by kernel_rfl) (by kernel_rfl) (by kernel_rfl) (fun W hS => by kernel_rfl) (fun _ _ d _ _ h => by cases d <;> exact h) C4.out ?_
          simp only [put_lit, put_non, List.set_cons_zero, List.set_cons_succ]
          refine hk_take (i := 14) (some 101) (.slice B nb d) (by kernel_rfl) (by kernel_rfl) (by kernel_rfl) (by kernel_rfl) (by kernel_rfl) (by kernel_rfl) (fun W hS => by kernel_rfl) (fun _ _ d _ _ h => by cases d <;> exact h) C4.out ?_
          simp only [put_lit, put_non, List.set_cons_zero, List.set_cons_succ]
          refine hk_take (i := 16) (some 103) (.slice A na c) (by kernel_rfl) (by kernel_rfl) (by kernel_rfl) (by kernel_rfl) (by kernel_rfl) (by kernel_rfl) (fun W hS => by kernel_rfl) (fun _ _ d _ _ h => by cases d <;> exact h) C4.out ?_
          simp only [put_lit, put_non, List.set_cons_zero, List.set_cons_succ]
          refine hk_take (i := 17) (some 104) (.slice B nb d) (by kernel_rfl) (by kernel_rfl) (by kernel_rfl) (by kernel_rfl) (by kernel_rfl) (by kernel_rfl) (fun W hS => by kernel_rfl) (fun _ _ d _ _ h => by cases d <;> exact h) C4.out ?_
          simp only [put_lit, put_non, List.set_cons_zero, List.set_cons_succ]
          refine hk_one (i := 15) (by kernel_rfl) ?_
          refine op_call (some 102) 21 #[.slice A na c, .slice B nb d] (by kernel_rfl) (by kernel_rfl) (by kernel_rfl) (fun w => (by kernel_rfl)) ?_
          refine (tuples_c (LA.out.below T4.out) (LBB.out.below T4.out) LB.out.1 LB.out.2.1).mono ?_
          rintro e y5 ⟨rfl, hB⟩
          have C5 := Lib.hid (below_then C4.out hB)
          have T5 := Lib.hid (below_then T4.out hB)
          clear hB
          refine ⟨_, rfl, C5.out, ?_⟩
          simp only [put_lit, put_non, List.set_cons_zero, List.set_cons_succ]
          refine hk_one (i := 18) (by kernel_rfl) ?_
          refine op_call (some 105) 22 #[.slice A na c, .slice B nb d] (by kernel_rfl) (by kernel_rfl) (by kernel_rfl) (fun w => (by kernel_rfl)) ?_
          refine (rtuples_c (LA.out.below T5.out) (LBB.out.below T5.out) LB.out.1 LB.out.2.1).mono ?_
          rintro e y6 ⟨rfl, hB⟩
          have C6 := Lib.hid (below_then C5.out hB)
          have T6 := Lib.hid (below_then T5.out hB)
          clear hB
          refine ⟨_, rfl, C6.out, ?_⟩
          simp only [put_lit, put_non, List.set_cons_zero, List.set_cons_succ]
          refine hk_take (i := 19) (some 106) (.bool true) (by kernel_rfl) (by kernel_rfl) (by kernel_rfl) (by kernel_rfl) (by kernel_rfl) (by kernel_rfl) (fun W hS => exec_eqInt (T := 3) (T' := 3) (k := .i64) 102 105 (cmpT la lb) (by kernel_rfl) (by kernel_rfl) (by kernel_rfl)) (fun _ _ d _ _ h => by cases d <;> exact h) C6.out ?_
          simp only [put_lit, put_non, List.set_cons_zero, List.set_cons_succ]
          refine hk_take (i := 20) (some 107) (.bool true) (by kernel_rfl) (by kernel_rfl) (by kernel_rfl) (by kernel_rfl) (by kernel_rfl) (by kernel_rfl) (fun W hS => by kernel_rfl) (fun _ _ d _ _ h => by cases d <;> exact h) C6.out ?_
          simp only [put_lit, put_non, List.set_cons_zero, List.set_cons_succ]
          refine hk_take (i := 21) (some 108) (.bool true) (by kernel_rfl) (by kernel_rfl) (by kernel_rfl) (by kernel_rfl) (by kernel_rfl) (by kernel_rfl) (fun W hS => by kernel_rfl) (fun _ _ d _ _ h => by cases d <;> exact h) C6.out ?_
          simp only [put_lit, put_non, List.set_cons_zero, List.set_cons_succ]
          refine hk_take (i := 22) (some 109) (.slice A5 na c5) (by kernel_rfl) (by kernel_rfl) (by kernel_rfl) (by kernel_rfl) (by kernel_rfl) (by kernel_rfl) (fun W hS => by kernel_rfl) (fun _ _ d _ _ h => by cases d <;> exact h) C6.out ?_
          simp only [put_lit, put_non, List.set_cons_zero, List.set_cons_succ]
          refine hk_take (i := 23) (some 110) (.slice A6 nb c6) (by kernel_rfl) (by kernel_rfl) (by kernel_rfl) (by kernel_rfl) (by kernel_rfl) (by kernel_rfl) (fun W hS => by kernel_rfl) (fun _ _ d _ _ h => by cases d <;> exact h) C6.out ?_
          simp only [put_lit, put_non, List.set_cons_zero, List.set_cons_succ]
          refine hk_take (i := 25) (some 112) (.slice A5 na c5) (by kernel_rfl) (by kernel_rfl) (by kernel_rfl) (by kernel_rfl) (by kernel_rfl) (by kernel_rfl) (fun W hS => by kernel_rfl) (fun _ _ d _ _ h => by cases d <;> exact h) C6.out ?_
          simp only [put_lit, put_non, List.set_cons_zero, List.set_cons_succ]
          refine hk_take (i := 26) (some 113) (.slice A6 nb c6) (by kernel_rfl) (by kernel_rfl) (by kernel_rfl) (by kernel_rfl) (by kernel_rfl) (by kernel_rfl) (fun W hS => by kernel_rfl) (fun _ _ d _ _ h => by cases d <;> exact h) C6.out ?_
          simp only [put_lit, put_non, List.set_cons_zero, List.set_cons_succ]
          refine hk_one (i := 24) (by kernel_rfl) ?_
          refine op_call (some 111) 21 #[.slice A5 na c5, .slice A6 nb c6] (by kernel_rfl) (by kernel_rfl) (by kernel_rfl) (fun w => (by kernel_rfl)) ?_
          refine (tuples_c (PV.out.below T6.out) (QV.out.below T6.out) LB.out.2.2.1 LB.out.2.2.2).mono ?_
          rintro e y7 ⟨rfl, hB⟩
          have C7 := Lib.hid (below_then C6.out hB)
          have T7 := Lib.hid (below_then T6.out hB)
          clear hB
          refine ⟨_, rfl, C7.out, ?_⟩
          simp only [put_lit, put_non, List.set_cons_zero, List.set_cons_succ]
          refine hk_one (i := 27) (by kernel_rfl) ?_
          refine op_call (some 114) 22 #[.slice A5 na c5, .slice A6 nb c6] (by kernel_rfl) (by kernel_rfl) (by kernel_rfl) (fun w => (by kernel_rfl)) ?_
          refine (rtuples_c (PV.out.below T7.out) (QV.out.below T7.out) LB.out.2.2.1 LB.out.2.2.2).mono ?_
          rintro e y8 ⟨rfl, hB⟩
          have C8 := Lib.hid (below_then C7.out hB)
          have T8 := Lib.hid (below_then T7.out hB)
          clear hB
          refine ⟨_, rfl, C8.out, ?_⟩
          simp only [put_lit, put_non, List.set_cons_zero, List.set_cons_succ]
          refine hk_take (i := 28) (some 115) (.bool true) (by kernel_rfl) (by kernel_rfl) (by kernel_rfl) (by kernel_rfl) (by kernel_rfl) (by kernel_rfl) (fun W hS => exec_eqInt (T := 3) (T' := 3) (k := .i64) 111 114 (cmpT p q) (by kernel_rfl) (by kernel_rfl) (by kernel_rfl)) (fun _ _ d _ _ h => by cases d <;> exact h) C8.out ?_
          simp only [put_lit, put_non, List.set_cons_zero, List.set_cons_succ]
          refine hk_take (i := 29) (some 116) (.bool true) (by kernel_rfl) (by kernel_rfl) (by kernel_rfl) (by kernel_rfl) (by kernel_rfl) (by kernel_rfl) (fun W hS => by kernel_rfl) (fun _ _ d _ _ h => by cases d <;> exact h) C8.out ?_
          simp only [put_lit, put_non, List.set_cons_zero, List.set_cons_succ]
          refine hk_take (i := 30) (some 117) (.bool true) (by kernel_rfl) (by kernel_rfl) (by kernel_rfl) (by kernel_rfl) (by kernel_rfl) (by kernel_rfl) (fun W hS => by kernel_rfl) (fun _ _ d _ _ h => by cases d <;> exact h) C8.out ?_
          simp only [put_lit, put_non, List.set_cons_zero, List.set_cons_succ]
          refine hk_take (i := 31) (some 118) (.slice A na c) (by kernel_rfl) (by kernel_rfl) (by kernel_rfl) (by kernel_rfl) (by kernel_rfl) (by kernel_rfl) (fun W hS => by kernel_rfl) (fun _ _ d _ _ h => by cases d <;> exact h) C8.out ?_
          simp only [put_lit, put_non, List.set_cons_zero, List.set_cons_succ]
          refine hk_take (i := 34) (some 121) (.slice A na c) (by kernel_rfl) (by kernel_rfl) (by kernel_rfl) (by kernel_rfl) (by kernel_rfl) (by kernel_rfl) (fun W hS => by kernel_rfl) (fun _ _ d _ _ h => by cases d <;> exact h) C8.out ?_
          simp only [put_lit, put_non, List.set_cons_zero, List.set_cons_succ]
          refine hk_one (i := 32) (by kernel_rfl) ?_
          refine op_call (some 119) 23 #[.slice A na c] (by kernel_rfl) (by kernel_rfl) (by kernel_rfl) (fun w => (by kernel_rfl)) ?_
          refine (encode_c (LA.out.below T8.out) WA.out).mono ?_
          rintro e y9 ⟨x9, rfl, hO, hB⟩
          have X9 := Lib.hid hO.byt
          have C9 := Lib.hid (below_then C8.out hB)
          have T9 := Lib.hid (below_then T8.out hB)
          clear hB hO
          refine ⟨_, rfl, C9.out, ?_⟩
          simp only [put_lit, put_non, List.set_cons_zero, List.set_cons_succ]
          refine hk_more (S2 := fun W => Below y9.heap.size y9 W) (fun W h => below_then C9.out h) _ _ _ _ ?_
          refine hk_take (i := 33) (some 120) (.string ⟨(encL la).toArray⟩) (by kernel_rfl) (by kernel_rfl) (by kernel_rfl) (by kernel_rfl) (by kernel_rfl) (by kernel_rfl) (fun W hS => exec_strB 119 (X9.out.below hS) (by kernel_rfl) (by kernel_rfl)) (fun _ _ d _ _ h => by cases d <;> exact h) (Below.refl y9.heap.size y9) ?_
          simp only [put_lit, put_non, List.set_cons_zero, List.set_cons_succ]
          refine hk_one (i := 35) (by kernel_rfl) ?_
          refine op_call (some 122) 24 #[.slice A na c] (by kernel_rfl) (by kernel_rfl) (by kernel_rfl) (fun w => (by kernel_rfl)) ?_
          refine (rencode_c (LA.out.below T9.out) WA.out).mono ?_
          rintro e y10 ⟨x10, rfl, hO, hB⟩
          have X10 := Lib.hid hO.byt
          have C10 := Lib.hid (below_then (Below.refl y9.heap.size y9) hB)
          have T10 := Lib.hid (below_then T9.out hB)
          clear hB hO
          refine ⟨_, rfl, C10.out, ?_⟩
          simp only [put_lit, put_non, List.set_cons_zero, List.set_cons_succ]
          refine hk_more (S2 := fun W => Below y10.heap.size y10 W) (fun W h => below_then C10.out h) _ _ _ _ ?_
          refine hk_take (i := 36) (some 123) (.string ⟨(encL la).toArray⟩) (by kernel_rfl) (by kernel_rfl) (by kernel_rfl) (by kernel_rfl) (by kernel_rfl) (by kernel_rfl) (fun W hS => exec_strB 122 (X10.out.below hS) (by kernel_rfl) (by kernel_rfl)) (fun _ _ d _ _ h => by cases d <;> exact h) (Below.refl y10.heap.size y10) ?_
          simp only [put_lit, put_non, List.set_cons_zero, List.set_cons_succ]
          refine hk_take (i := 37) (some 124) (.bool true) (by kernel_rfl) (by kernel_rfl) (by kernel_rfl) (by kernel_rfl) (by kernel_rfl) (by kernel_rfl) (fun W hS => exec_eqStr 120 123 ⟨(encL la).toArray⟩ (by kernel_rfl) (by kernel_rfl) (by kernel_rfl)) (fun _ _ d _ _ h => by cases d <;> exact h) (Below.refl y10.heap.size y10) ?_
          simp only [put_lit, put_non, List.set_cons_zero, List.set_cons_succ]
          refine hk_take (i := 38) (some 125) (.bool true) (by kernel_rfl) (by kernel_rfl) (by kernel_rfl) (by kernel_rfl) (by kernel_rfl) (by kernel_rfl) (fun W hS => by kernel_rfl) (fun _ _ d _ _ h => by cases d <;> exact h) (Below.refl y10.heap.size y10) ?_
          simp only [put_lit, put_non, List.set_cons_zero, List.set_cons_succ]
          refine hk_take (i := 39) (some 126) (.bool true) (by kernel_rfl) (by kernel_rfl) (by kernel_rfl) (by kernel_rfl) (by kernel_rfl) (by kernel_rfl) (fun W hS => by kernel_rfl) (fun _ _ d _ _ h => by cases d <;> exact h) (Below.refl y10.heap.size y10) ?_
          simp only [put_lit, put_non, List.set_cons_zero, List.set_cons_succ]
          refine hk_take (i := 40) (some 127) (.slice A5 na c5) (by kernel_rfl) (by kernel_rfl) (by kernel_rfl) (by kernel_rfl) (by kernel_rfl) (by kernel_rfl) (fun W hS => by kernel_rfl) (fun _ _ d _ _ h => by cases d <;> exact h) (Below.refl y10.heap.size y10) ?_
          simp only [put_lit, put_non, List.set_cons_zero, List.set_cons_succ]
          refine hk_take (i := 43) (some 130) (.slice A5 na c5) (by kernel_rfl) (by kernel_rfl) (by kernel_rfl) (by kernel_rfl) (by kernel_rfl) (by kernel_rfl) (fun W hS => by kernel_rfl) (fun _ _ d _ _ h => by cases d <;> exact h) (Below.refl y10.heap.size y10) ?_
          simp only [put_lit, put_non, List.set_cons_zero, List.set_cons_succ]
          refine hk_one (i := 41) (by kernel_rfl) ?_
          refine op_call (some 128) 23 #[.slice A5 na c5] (by kernel_rfl) (by kernel_rfl) (by kernel_rfl) (fun w => (by kernel_rfl)) ?_
          refine (encode_c (PV.out.below T10.out) FP.out).mono ?_
          rintro e y11 ⟨x11, rfl, hO, hB⟩
          have X11 := Lib.hid hO.byt
          have C11 := Lib.hid (below_then (Below.refl y10.heap.size y10) hB)
          have T11 := Lib.hid (below_then T10.out hB)
          clear hB hO
          refine ⟨_, rfl, C11.out, ?_⟩
          simp only [put_lit, put_non, List.set_cons_zero, List.set_cons_succ]
          refine hk_more (S2 := fun W => Below y11.heap.size y11 W) (fun W h => below_then C11.out h) _ _ _ _ ?_
          refine hk_take (i := 42) (some 129) (.string ⟨(encL p).toArray⟩) (by kernel_rfl) (by kernel_rfl) (by kernel_rfl) (by kernel_rfl) (by kernel_rfl) (by kernel_rfl) (fun W hS => exec_strB 128 (X11.out.below hS) (by kernel_rfl) (by kernel_rfl)) (fun _ _ d _ _ h => by cases d <;> exact h) (Below.refl y11.heap.size y11) ?_
          simp only [put_lit, put_non, List.set_cons_zero, List.set_cons_succ]
          refine hk_one (i := 44) (by kernel_rfl) ?_
          refine op_call (some 131) 24 #[.slice A5 na c5] (by kernel_rfl) (by kernel_rfl) (by kernel_rfl) (fun w => (by kernel_rfl)) ?_
          refine (rencode_c (PV.out.below T11.out) FP.out).mono ?_
          rintro e y12 ⟨x12, rfl, hO, hB⟩
          have X12 := Lib.hid hO.byt
          have C12 := Lib.hid (below_then (Below.refl y11.heap.size y11) hB)
          have T12 := Lib.hid (below_then T11.out hB)
          clear hB hO
          refine ⟨_, rfl, C12.out, ?_⟩
          simp only [put_lit, put_non, List.set_cons_zero, List.set_cons_succ]
          refine hk_more (S2 := fun W => Below y12.heap.size y12 W) (fun W h => below_then C12.out h) _ _ _ _ ?_
          refine hk_take (i := 45) (some 132) (.string ⟨(encL p).toArray⟩) (by kernel_rfl) (by kernel_rfl) (by kernel_rfl) (by kernel_rfl) (by kernel_rfl) (by kernel_rfl) (fun W hS => exec_strB 131 (X12.out.below hS) (by kernel_rfl) (by kernel_rfl)) (fun _ _ d _ _ h => by cases d <;> exact h) (Below.refl y12.heap.size y12) ?_
          simp only [put_lit, put_non, List.set_cons_zero, List.set_cons_succ]
          refine hk_take (i := 46) (some 133) (.bool true) (by kernel_rfl) (by kernel_rfl) (by kernel_rfl) (by kernel_rfl) (by kernel_rfl) (by kernel_rfl) (fun W hS => exec_eqStr 129 132 ⟨(encL p).toArray⟩ (by kernel_rfl) (by kernel_rfl) (by kernel_rfl)) (fun _ _ d _ _ h => by cases d <;> exact h) (Below.refl y12.heap.size y12) ?_
          simp only [put_lit, put_non, List.set_cons_zero, List.set_cons_succ]
          refine hk_take (i := 47) (some 134) (.bool true) (by kernel_rfl) (by kernel_rfl) (by kernel_rfl) (by kernel_rfl) (by kernel_rfl) (by kernel_rfl) (fun W hS => by kernel_rfl) (fun _ _ d _ _ h => by cases d <;> exact h) (Below.refl y12.heap.size y12) ?_
          simp only [put_lit, put_non, List.set_cons_zero, List.set_cons_succ]
          refine hk_take (i := 48) (some 135) (.bool true) (by kernel_rfl) (by kernel_rfl) (by kernel_rfl) (by kernel_rfl) (by kernel_rfl) (by kernel_rfl) (fun W hS => by kernel_rfl) (fun _ _ d _ _ h => by cases d <;> exact h) (Below.refl y12.heap.size y12) ?_
          simp only [put_lit, put_non, List.set_cons_zero, List.set_cons_succ]
          refine hk_one (i := 49) (by kernel_rfl) ?_
          refine op_call (some 136) 25 #[] (by kernel_rfl) (by kernel_rfl) (by kernel_rfl) (fun w => (by kernel_rfl)) ?_
          refine (known8_c (HS.out.below (below_then BW.out T12.out))).mono ?_
          rintro e y13 ⟨rfl, hB⟩
          have C13 := Lib.hid (below_then (Below.refl y12.heap.size y12) hB)
          have T13 := Lib.hid (below_then T12.out hB)
          clear hB
          refine ⟨_, rfl, C13.out, ?_⟩
          simp only [put_lit, put_non, List.set_cons_zero, List.set_cons_succ]
          refine hk_take (i := 50) (some 137) (.bool true) (by kernel_rfl) (by kernel_rfl) (by kernel_rfl) (by kernel_rfl) (by kernel_rfl) (by kernel_rfl) (fun W hS => by kernel_rfl) (fun _ _ d _ _ h => by cases d <;> exact h) C13.out ?_
          simp only [put_lit, put_non, List.set_cons_zero, List.set_cons_succ]
          refine hk_take (i := 51) (some 8) (.bool true) (by kernel_rfl) (by kernel_rfl) (by kernel_rfl) (by kernel_rfl) (by kernel_rfl) (by kernel_rfl) (fun W hS => by kernel_rfl) (fun _ _ d _ _ h => by cases d <;> exact h) C13.out ?_
          simp only [put_lit, put_non, List.set_cons_zero, List.set_cons_succ]
          refine hk_done (by kernel_rfl) ?_
          have T9 := Lib.hid T13.out
          go_wp2_with fail
          go_ret
          exact ⟨rfl, below_then BW.out T9.out⟩
end Go.Proofs.YtpbkmkcfhkdjjaaDoor

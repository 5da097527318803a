/- The law ValuePrefix of stage 8. -/
import Derived.Deep.DeepCutAuto
import Derived.Test.YtpbkmkcfhkdjjaaDoorVls
namespace Go.Proofs.YtpbkmkcfhkdjjaaDoor
set_option linter.unusedSimpArgs false
open Go.RowKit Dig
set_option linter.unusedVariables false

set_option maxRecDepth 20000 in
set_option maxHeartbeats 8000000 in
theorem prefix_walk (w : World) (va : Value) (la : List Vl) (vb : Value) (lb : List Vl) (qa : Vls w va la) (oa : ∀ y ∈ la, OkVl y) (qb : Vls w vb lb) (ob : ∀ y ∈ lb, OkVl y) (hS : Std w) : Calls Tryd.prog 8 #[va, vb] w (RVal w (.bool true)) := by
  have HS := Lib.hid hS
  have QA := Lib.hid qa
  have QB := Lib.hid qb
  have FA := fun w1 (h : Below w.heap.size w w1) => fits_c (QA.out.below h) oa
  have FB := fun w1 (h : Below w.heap.size w w1) => fits_c (QB.out.below h) ob
  obtain ⟨A, c, rfl⟩ := qa.form
  obtain ⟨B, d, rfl⟩ := qb.form
  obtain ⟨na, hna⟩ : ∃ n, la.length = n := ⟨_, rfl⟩
  obtain ⟨nb, hnb⟩ : ∃ n, lb.length = n := ⟨_, rfl⟩
  cases hfa : fitB la with
  | false =>
    rw [hfa] at FA
    rw [hna] at FA QA ⊢
    rw [hnb] at FB QB ⊢
    clear hS qa qb hfa hna hnb
    go_enter Tryd.func8, Tryd.ntmps8
    go_wp2_with fail
    refine (FA _ (Below.refl _ _)).mono ?_
    rintro e w1 ⟨rfl, hB1⟩
    go_wp2_with fail
    go_ret
    exact ⟨rfl, hB1⟩
  | true =>
    have MA := Lib.hid (okL_make hfa oa)
    have CA := fun w1 (h : Below w.heap.size w w1) => valids_c (QA.out.below h) (by have := ((fitB_iff la).1 hfa).1; omega) (fun y hy => by have := ((fitB_iff la).1 hfa).2 y hy; omega)
    rw [hfa] at FA
    cases hfb : fitB lb with
    | false =>
      rw [hfb] at FB
      rw [hna] at FA QA ⊢
      rw [hnb] at FB QB ⊢
      clear hS qa qb hfa hfb hna hnb CA
      go_enter Tryd.func8, Tryd.ntmps8
      go_wp2_with fail
      refine (FA _ (Below.refl _ _)).mono ?_
      rintro e w1 ⟨rfl, hB1⟩
      go_wp2_with fail
      refine (FB _ hB1).mono ?_
      rintro e w2 ⟨rfl, hB2⟩
      go_wp2_with fail
      go_ret
      exact ⟨rfl, below_then hB1 hB2⟩
    | true =>
      have MB := Lib.hid (okL_make hfb ob)
      have CB := fun w1 (h : Below w.heap.size w w1) => valids_c (QB.out.below h) (by have := ((fitB_iff lb).1 hfb).1; omega) (fun y hy => by have := ((fitB_iff lb).1 hfb).2 y hy; omega)
      rw [hfb] at FB
      rw [hna] at FA CA QA MA ⊢
      rw [hnb] at FB CB QB MB ⊢
      clear hS qa qb hfa hfb hna hnb
      generalize la.map mkV = p at *
      generalize lb.map mkV = q at *
      go_enter Tryd.func8, Tryd.ntmps8
      go_wp2_with fail
      refine (FA _ (Below.refl _ _)).mono ?_
      rintro e w1 ⟨rfl, hB1⟩
      go_wp2_with fail
      refine (FB _ hB1).mono ?_
      rintro e w2 ⟨rfl, hB2⟩
      have BW := Lib.hid (below_then hB1 hB2)
      clear hB1 hB2
      go_wp2_with fail
      refine (CA _ BW.out).mono ?_
      rintro e w3 ⟨u5, rfl, hO, hB⟩
      have PV := Lib.hid hO.vls
      have BW := Lib.hid (below_then BW.out hB)
      clear hO hB
      go_wp2_with fail
      refine (CB _ BW.out).mono ?_
      rintro e w4 ⟨u6, rfl, hO, hB⟩
      have QV := Lib.hid hO.vls
      have PV := Lib.hid (PV.out.below hB)
      have BW := Lib.hid (below_then BW.out hB)
      clear hO hB FA FB CA CB
      obtain ⟨A5, c5, rfl⟩ := PV.out.form
      obtain ⟨A6, c6, rfl⟩ := QV.out.form
      have LP := Lib.hid MA.out.2.1
      have LQ := Lib.hid MB.out.2.1
      have EP := fun w1 (h : Below w4.heap.size w4 w1) => encode_c (PV.out.below h) MA.out.1.few
      have EQ := fun w1 (h : Below w4.heap.size w4 w1) => encode_c (QV.out.below h) MB.out.1.few
      rw [MA.out.1.enc] at EP
      rw [MB.out.1.enc] at EQ
      rw [LP.out] at PV EP ⊢
      rw [LQ.out] at QV EQ ⊢
      have KP := Lib.hid MA.out.1.key
      have KQ := Lib.hid MB.out.1.key
      go_wp2_with ((with_reducible refine wp_noneB rfl rfl ?_); intro w5 hS5 hB5; have O5 := Lib.hid hS5; have B5 := Lib.hid hB5; clear hS5 hB5)
      refine (EP _ B5.out).mono ?_
      rintro e w6 ⟨x1, rfl, hO, hB⟩
      have X1 := Lib.hid hO.byt
      have O6 := Lib.hid (O5.out.below hB (Nat.le_refl _))
      have B6 := Lib.hid (below_then B5.out hB)
      clear hO hB O5 B5
      go_wp2_with (at_builtin; refine wp_appendB rfl (.tmp 20) (.tmp 22) rfl w4.heap.size _ [] rfl O6.out _ _ rfl X1.out (by have := KP.out; simp only [List.length_nil]; omega) B6.out.size ?_; intro v7 w7 hv hg; have O7 := Lib.hid hv; have B7 := Lib.hid (B6.out.grown hg B6.out.size (fun k hk => (O6.out.block k hk).1)); clear hv hg)
      refine (EQ _ B7.out).mono ?_
      rintro e w8 ⟨x2, rfl, hO, hB⟩
      have X2 := Lib.hid hO.byt
      have O8 := Lib.hid (O7.out.below hB (Nat.le_refl _))
      have B8 := Lib.hid (below_then B7.out hB)
      clear hO hB O7 B7 O6 B6 X1
      go_upto_region 5 with (at_builtin; refine wp_appendB rfl (.tmp 23) (.tmp 25) rfl w4.heap.size _ _ rfl O8.out _ _ rfl X2.out (by have := KP.out; have := KQ.out; simp only [List.nil_append]; omega) B8.out.size ?_; intro v9 w9 hv hg; have O9 := Lib.hid hv; have B9 := Lib.hid (B8.out.grown hg B8.out.size (fun k hk => (O8.out.block k hk).1)); clear hv hg)
      have XV := Lib.hid O9.out.byt
      rw [List.nil_append] at XV
      have PV := Lib.hid (PV.out.below B9.out)
      have QV := Lib.hid (QV.out.below B9.out)
      have BW := Lib.hid (below_then BW.out B9.out)
      clear O8 O9 B8 B9 X2 EP EQ
      have XV : Hid (Byt w9.drew v9 (keyL p ++ keyL q)) := Lib.hid XV.out
      have PV : Hid (Vls w9.drew (.slice A5 na c5) p) := Lib.hid PV.out
      have QV : Hid (Vls w9.drew (.slice A6 nb c6) q) := Lib.hid QV.out
      have BW : Hid (Below w.heap.size w w9.drew) := Lib.hid BW.out.drew
      have L8 := Lib.hid (show p.length ≤ 8 ∧ q.length ≤ 8 from ⟨MA.out.2.2, MB.out.2.2⟩)
      have OPQ := Lib.hid (okL_append MA.out.1 MB.out.1 L8.out.1 L8.out.2)
      have KE := Lib.hid (show encL (p ++ q) = keyL p ++ keyL q from by rw [OPQ.out.enc, keyL_append])
      have CM := fun w1 v1 v2 (h1 : Vls w1 v1 p) (h2 : Vls w1 v2 (p ++ q)) => tuples_c h1 h2 (by have := L8.out; omega) (by have := L8.out; rw [List.length_append]; omega)
      rw [cmpT_append] at CM
      obtain ⟨cm, hcm⟩ : ∃ x : Int, -((min q.length 1 : Nat) : Int) = x := ⟨_, rfl⟩
      have HC := Lib.hid (show IntKind.i64.wrap (-(min (nb : Int) 1)) = cm by
        rw [← hcm, LQ.out, IntKind.wrap_i64]
        omega)
      rw [hcm] at CM
      clear hcm
      refine wp_region_plan (S := fun W => Below w9.drew.heap.size w9.drew W) [(1, true), (3, true), (7, true), (8, true), (0, false), (2, false), (4, false), (5, false), (6, false), (9, true), (10, true), (11, true), (13, true), (15, true), (18, true), (19, true), (20, true), (21, true), (12, false), (14, false), (16, false), (17, false), (22, true), (23, true), (24, true), (25, false), (26, true), (27, true)] (by kernel_rfl) (by kernel_rfl) (by kernel_rfl) (by kernel_rfl) (fun _ _ d _ _ h => by cases d <;> exact h) (Below.refl _ _) ?_
      generalize w9.drew = wd at *
      refine wkS_take (some 28) (.slice A5 na c5) (by kernel_rfl) (by kernel_rfl) (by kernel_rfl) (fun W hS => by kernel_rfl) ?_
      simp only [put_lit, put_non, List.set_cons_zero, List.set_cons_succ]
      refine wkS_take (some 30) (.slice A6 nb c6) (by kernel_rfl) (by kernel_rfl) (by kernel_rfl) (fun W hS => by kernel_rfl) ?_
      simp only [put_lit, put_non, List.set_cons_zero, List.set_cons_succ]
      refine wkS_take (some 34) (v9) (by kernel_rfl) (by kernel_rfl) (by kernel_rfl) (fun W hS => by kernel_rfl) ?_
      simp only [put_lit, put_non, List.set_cons_zero, List.set_cons_succ]
      refine wkS_take (some 35) (.string ⟨(keyL p ++ keyL q).toArray⟩) (by kernel_rfl) (by kernel_rfl) (by kernel_rfl) (fun W hS => exec_strB 34 (XV.out.below hS) (by kernel_rfl) (by kernel_rfl)) ?_
      simp only [put_lit, put_non, List.set_cons_zero, List.set_cons_succ]
      have T0 := Lib.hid (below_then (Below.refl wd.heap.size wd) (one_below _ (.cells #[] 26)))
      refine wkS_doW (some 27) (.slice (some ⟨wd.heap.size, 0, none⟩) 0 0) (by kernel_rfl) (by kernel_rfl) (by kernel_rfl) (exec_noneV (by kernel_rfl)) T0.out ?_
      simp only [put_lit, put_non, List.set_cons_zero, List.set_cons_succ]
      refine wkS_appendV (some 29) 27 28 (by kernel_rfl) (by kernel_rfl) (by kernel_rfl) (by kernel_rfl) wd.heap.size (.slice (some ⟨wd.heap.size, 0, none⟩) 0 0) [] (by kernel_rfl) (ownV_none wd) (.slice A5 na c5) p (by kernel_rfl) (PV.out.below T0.out) (by have := L8.out; simp only [List.length_nil]; omega) T0.out.size fun N1v y1 hv hg => ?_
      have N1 := Lib.hid hv
      have T1 := Lib.hid (Below.grown T0.out hg T0.out.size (fun k hk => ((ownV_none wd).block k hk).1))
      clear hv hg
      refine ⟨T1.out, ?_⟩
      simp only [put_lit, put_non, List.set_cons_zero, List.set_cons_succ]
      refine wkS_appendV (some 31) 29 30 (by kernel_rfl) (by kernel_rfl) (by kernel_rfl) (by kernel_rfl) wd.heap.size (N1v) ([] ++ p) (by kernel_rfl) N1.out (.slice A6 nb c6) q (by kernel_rfl) (QV.out.below T1.out) (by have := L8.out; simp only [List.nil_append]; omega) T1.out.size fun N2v y2 hv hg => ?_
      have N2 := Lib.hid hv
      have T2 := Lib.hid (Below.grown T1.out hg T1.out.size (fun k hk => (N1.out.block k hk).1))
      clear hv hg
      refine ⟨T2.out, ?_⟩
      simp only [put_lit, put_non, List.set_cons_zero, List.set_cons_succ]
      refine wkS_call (some 32) 23 #[N2v] (by kernel_rfl) (by kernel_rfl) (by kernel_rfl) (fun w => (by kernel_rfl)) ?_
      refine (encode_c (l := p ++ q) N2.out.vls OPQ.out.few).mono ?_
      rintro e y3 ⟨u, rfl, hO, hB⟩
      have T3 := Lib.hid (below_then T2.out hB)
      rw [KE.out] at hO
      have UB := Lib.hid hO.byt
      clear hO
      clear hB
      refine ⟨_, rfl, T3.out, ?_⟩
      simp only [put_lit, put_non, List.set_cons_zero, List.set_cons_succ]
      refine wkS_doW (some 33) (.string ⟨(keyL p ++ keyL q).toArray⟩) (by kernel_rfl) (by kernel_rfl) (by kernel_rfl) (exec_strB 32 UB.out (by kernel_rfl) (by kernel_rfl)) T3.out ?_
      simp only [put_lit, put_non, List.set_cons_zero, List.set_cons_succ]
      refine wkS_take (some 36) (.bool true) (by kernel_rfl) (by kernel_rfl) (by kernel_rfl) (fun W hS => exec_eqStr 33 35 ⟨(keyL p ++ keyL q).toArray⟩ (by kernel_rfl) (by kernel_rfl) (by kernel_rfl)) ?_
      simp only [put_lit, put_non, List.set_cons_zero, List.set_cons_succ]
      refine wkS_take (some 37) (.bool true) (by kernel_rfl) (by kernel_rfl) (by kernel_rfl) (fun W hS => by kernel_rfl) ?_
      simp only [put_lit, put_non, List.set_cons_zero, List.set_cons_succ]
      refine wkS_take (some 38) (.slice A5 na c5) (by kernel_rfl) (by kernel_rfl) (by kernel_rfl) (fun W hS => by kernel_rfl) ?_
      simp only [put_lit, put_non, List.set_cons_zero, List.set_cons_succ]
      refine wkS_take (some 40) (.slice A5 na c5) (by kernel_rfl) (by kernel_rfl) (by kernel_rfl) (fun W hS => by kernel_rfl) ?_
      simp only [put_lit, put_non, List.set_cons_zero, List.set_cons_succ]
      refine wkS_take (some 42) (.slice A6 nb c6) (by kernel_rfl) (by kernel_rfl) (by kernel_rfl) (fun W hS => by kernel_rfl) ?_
      simp only [put_lit, put_non, List.set_cons_zero, List.set_cons_succ]
      refine wkS_take (some 45) (.slice A6 nb c6) (by kernel_rfl) (by kernel_rfl) (by kernel_rfl) (fun W hS => by kernel_rfl) ?_
      simp only [put_lit, put_non, List.set_cons_zero, List.set_cons_succ]
      refine wkS_take (some 46) (.int .i64 (nb : Int)) (by kernel_rfl) (by kernel_rfl) (by kernel_rfl) (fun W hS => by kernel_rfl) ?_
      simp only [put_lit, put_non, List.set_cons_zero, List.set_cons_succ]
      refine wkS_take (some 47) (.int .i64 (min (nb : Int) 1)) (by kernel_rfl) (by kernel_rfl) (by kernel_rfl) (fun W hS => exec_minK (T := 3) 46 (nb : Int) (by kernel_rfl) (by kernel_rfl) (by kernel_rfl)) ?_
      simp only [put_lit, put_non, List.set_cons_zero, List.set_cons_succ]
      refine wkS_take (some 48) (.int .i64 cm) (by kernel_rfl) (by kernel_rfl) (by kernel_rfl) (fun W hS => (exec_negI (T := 3) 47 (min (nb : Int) 1) (by kernel_rfl) (by kernel_rfl)).trans (by rw [HC.out])) ?_
      simp only [put_lit, put_non, List.set_cons_zero, List.set_cons_succ]
      have T4 := Lib.hid (below_then T3.out (one_below _ (.cells #[] 26)))
      refine wkS_doW (some 39) (.slice (some ⟨y3.heap.size, 0, none⟩) 0 0) (by kernel_rfl) (by kernel_rfl) (by kernel_rfl) (exec_noneV (by kernel_rfl)) T4.out ?_
      simp only [put_lit, put_non, List.set_cons_zero, List.set_cons_succ]
      refine wkS_appendV (some 41) 39 40 (by kernel_rfl) (by kernel_rfl) (by kernel_rfl) (by kernel_rfl) wd.heap.size (.slice (some ⟨y3.heap.size, 0, none⟩) 0 0) [] (by kernel_rfl) ((ownV_none y3).mono T3.out.size) (.slice A5 na c5) p (by kernel_rfl) (PV.out.below T4.out) (by have := L8.out; simp only [List.length_nil]; omega) T4.out.size fun N3v y4 hv hg => ?_
      have N3 := Lib.hid hv
      have T5 := Lib.hid (Below.grown T4.out hg T4.out.size (fun k hk => (((ownV_none y3).mono T3.out.size).block k hk).1))
      clear hv hg
      refine ⟨T5.out, ?_⟩
      simp only [put_lit, put_non, List.set_cons_zero, List.set_cons_succ]
      refine wkS_appendV (some 43) 41 42 (by kernel_rfl) (by kernel_rfl) (by kernel_rfl) (by kernel_rfl) wd.heap.size (N3v) ([] ++ p) (by kernel_rfl) N3.out (.slice A6 nb c6) q (by kernel_rfl) (QV.out.below T5.out) (by have := L8.out; simp only [List.nil_append]; omega) T5.out.size fun N4v y5 hv hg => ?_
      have N4 := Lib.hid hv
      have T6 := Lib.hid (Below.grown T5.out hg T5.out.size (fun k hk => (N3.out.block k hk).1))
      clear hv hg
      refine ⟨T6.out, ?_⟩
      simp only [put_lit, put_non, List.set_cons_zero, List.set_cons_succ]
      refine wkS_call (some 44) 21 #[.slice A5 na c5, N4v] (by kernel_rfl) (by kernel_rfl) (by kernel_rfl) (fun w => (by kernel_rfl)) ?_
      refine (CM _ _ _ (PV.out.below T6.out) N4.out.vls).mono ?_
      rintro e y6 ⟨rfl, hB⟩
      have T7 := Lib.hid (below_then T6.out hB)
      clear hB
      refine ⟨_, rfl, T7.out, ?_⟩
      simp only [put_lit, put_non, List.set_cons_zero, List.set_cons_succ]
      refine wkS_take (some 49) (.bool true) (by kernel_rfl) (by kernel_rfl) (by kernel_rfl) (fun W hS => exec_eqInt (T := 3) (T' := 3) (k := .i64) 44 48 cm (by kernel_rfl) (by kernel_rfl) (by kernel_rfl)) ?_
      simp only [put_lit, put_non, List.set_cons_zero, List.set_cons_succ]
      refine wkS_take (some 50) (.bool true) (by kernel_rfl) (by kernel_rfl) (by kernel_rfl) (fun W hS => by kernel_rfl) ?_
      simp only [put_lit, put_non, List.set_cons_zero, List.set_cons_succ]
      refine wkS_take (some 51) (.bool true) (by kernel_rfl) (by kernel_rfl) (by kernel_rfl) (fun W hS => by kernel_rfl) ?_
      simp only [put_lit, put_non, List.set_cons_zero, List.set_cons_succ]
      refine wkS_call (some 52) 25 #[] (by kernel_rfl) (by kernel_rfl) (by kernel_rfl) (fun w => (by kernel_rfl)) ?_
      refine (known8_c (HS.out.below (below_then BW.out T7.out))).mono ?_
      rintro e y7 ⟨rfl, hB⟩
      have S9 := Lib.hid (below_then T7.out hB)
      clear hB
      refine ⟨_, rfl, S9.out, ?_⟩
      simp only [put_lit, put_non, List.set_cons_zero, List.set_cons_succ]
      refine wkS_take (some 53) (.bool true) (by kernel_rfl) (by kernel_rfl) (by kernel_rfl) (fun W hS => by kernel_rfl) ?_
      simp only [put_lit, put_non, List.set_cons_zero, List.set_cons_succ]
      refine wkS_take (some 4) (.bool true) (by kernel_rfl) (by kernel_rfl) (by kernel_rfl) (fun W hS => by kernel_rfl) ?_
      simp only [put_lit, put_non, List.set_cons_zero, List.set_cons_succ]
      refine wkS_done ?_
      go_wp2_with fail
      go_ret
      exact ⟨rfl, below_then BW.out S9.out⟩
end Go.Proofs.YtpbkmkcfhkdjjaaDoor

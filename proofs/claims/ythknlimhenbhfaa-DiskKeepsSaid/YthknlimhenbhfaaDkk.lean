/- The walk of DiskKeeps. -/
import Derived.Test.YthknlimhenbhfaaDke
import Derived.Test.YthknlimhenbhfaaDkd
namespace Go.Proofs.Ythknlimhenbhfaa
set_option linter.unusedSimpArgs false
open Go.RowKit Dig
set_option linter.unusedVariables false
theorem Row4.relabel {fp : World → Nat → Nat → Prop} {w : World} {g1 g2 gA q : Nat} {R : Nat → Value} {L : List (List UInt8)} (h : Row4 fp w g1 g2 gA q R 0 L) (L' : List (List UInt8)) : Row4 fp w g1 g2 gA q R 0 L' :=
  ⟨h.row, h.far1, h.far2, h.ne, fun k hk => absurd hk (Nat.not_lt_zero k)⟩
section
variable {D : World → Nat → DS → Prop} {fp : World → Nat → Nat → Prop} {w : World} {v1 v2 : Value} {l1 l2 : List Op6}
set_option maxRecDepth 20000 in
/-- Lists that do not fit. -/
theorem keeps_big (h1 : Ops6 w v1 l1) (h2 : Ops6 w v2 l2) (hf : ¬ (fitsS l1 10 ∧ fitsS l2 60)) : Calls Try.prog 6 #[v1, v2] w (RVal w (.bool true)) := by
  obtain ⟨r1, hr1, F1⟩ := fits_c h1 10 (by omega)
  obtain ⟨r2, hr2, F2⟩ := fits_c h2 60 (by omega)
  have F1 := Lib.hid F1
  have F2 := Lib.hid F2
  cases r1 with
  | false =>
    clear h1 h2 hr1 hr2 F2 hf
    go_enter Try.func6, Try.ntmps6
    go_wp2_with fail
    refine (F1.out).mono ?_
    rintro e wz ⟨rfl, rfl⟩
    go_wp2_with fail
    go_ret
    exact ⟨rfl, Below.refl _ _⟩
  | true =>
    cases r2 with
    | false =>
      clear h1 h2 hr1 hr2 hf
      go_enter Try.func6, Try.ntmps6
      go_wp2_with fail
      refine (F1.out).mono ?_
      rintro e wz ⟨rfl, rfl⟩
      clear F1
      go_wp2_with fail
      refine (F2.out).mono ?_
      rintro e wz ⟨rfl, rfl⟩
      go_wp2_with fail
      go_ret
      exact ⟨rfl, Below.refl _ _⟩
    | true => exact absurd ⟨hr1.1 rfl, hr2.1 rfl⟩ hf
set_option maxRecDepth 20000 in
set_option maxHeartbeats 16000000 in
theorem keeps_walk (P : Prog6 D fp) (h1 : Ops6 w v1 l1) (h2 : Ops6 w v2 l2) : Calls Try.prog 6 #[v1, v2] w (RVal w (.bool true)) := by
  by_cases hf : fitsS l1 10 ∧ fitsS l2 60
  rotate_left
  · exact keeps_big h1 h2 hf
  obtain ⟨r1, hr1, F1⟩ := fits_c h1 10 (by omega)
  obtain ⟨r2, hr2, F2⟩ := fits_c h2 60 (by omega)
  obtain rfl := hr1.2 hf.1
  obtain rfl := hr2.2 hf.2
  have F1 := Lib.hid F1
  have F2 := Lib.hid F2
  have H1 := Lib.hid h1
  have H2 := Lib.hid h2
  have HF := Lib.hid hf
  have hP := Lib.hid P
  obtain ⟨A1, c1, rfl⟩ := h1.form
  obtain ⟨A2, c2, rfl⟩ := h2.form
  clear h1 h2 hr1 hr2 hf P
  go_enter Try.func6, Try.ntmps6
  go_wp2_with fail
  refine (F1.out).mono ?_
  rintro e wz ⟨rfl, rfl⟩
  clear F1
  go_wp2_with fail
  refine (F2.out).mono ?_
  rintro e wz ⟨rfl, rfl⟩
  clear F2
  go_wp2_with fail
  refine (hP.out.new w 4 (by omega) (by omega)).mono ?_
  rintro e w1 ⟨g1, rfl, hD, hB1, hF⟩
  have O1 := Lib.hid (show One D fp w1 w.heap.size g1 (newS 4) from ⟨hD, hF⟩)
  have B1 := Lib.hid hB1
  clear hD hF hB1
  go_wp2_with fail
  refine (hP.out.new w1 4 (by omega) (by omega)).mono ?_
  rintro e w2 ⟨g2, rfl, hD, hB2, hF⟩
  have PR := Lib.hid (Pair.new hP.out O1.out B1.out.size hD hB2 hF)
  have B2 := Lib.hid (below_then B1.out hB2)
  clear hD hF hB2 O1 B1
  have hl1 : (l1.length : Int) ≤ 10 := by have := HF.out.1.1; omega
  have hl2 : (l2.length : Int) ≤ 60 := by have := HF.out.2.1; omega
  go_wp2_with fail
  go_loopw [9] (fun i wr => ∃ (j : Nat) (s : DS), j ≤ l1.length ∧ i = .int .i64 j ∧ calm s ∧ s.dur.length = 4 ∧ s.pend.length ≤ j ∧ Pair D fp wr w.heap.size g1 g2 s s ∧ Below w.heap.size w wr) (fun i _ => l1.length - (intOf i).toNat)
  case atStart => exact ⟨0, newS 4, Nat.zero_le _, rfl, calm_new 4, new_len 4, Nat.zero_le _, PR.out, B2.out⟩
  case round =>
    clear PR B2
    obtain ⟨j, s, hj, rfl, hc, hs4, hsj, hO, hB⟩ := hrel
    have HC := Lib.hid hc
    have HS4 := Lib.hid hs4
    have HSJ := Lib.hid hsj
    have HPR := Lib.hid hO
    have HB := Lib.hid hB
    have HFW := Lib.hid (show fewD s from ⟨by omega, by have := HF.out.1.1; omega⟩)
    clear hc hs4 hsj hO hB
    by_cases hjn : j < l1.length
    · have HI : (j : Int) < l1.length := by omega
      have H80 := Lib.hid (HF.out.1.2 j hjn)
      obtain ⟨b, off, rfl, hb, -, a1, -, -, u, a4, hu⟩ := H1.out.cells hjn
      have hb := Lib.hid hb
      have hu := Lib.hid hu
      generalize l1.getD j default = o at *
      obtain ⟨q, eq⟩ : ∃ q, smallS o.at' 4 = q := ⟨_, rfl⟩
      have eq := Lib.hid eq
      go_wp2_with fail
      have hdw : Below wr.heap.size wr wr.drew := (Below.refl _ _).drew
      have HBD := Lib.hid (below_then HB.out hdw)
      have HPD := Lib.hid (HPR.out.below hP.out hdw)
      clear hdw HB HPR 
      refine wp_region_plan (S := fun W => Below w.heap.size w W) [(0, true), (1, true), (2, true), (3, true), (4, true), (5, true), (7, true), (8, true), (9, true), (10, true), (11, true), (6, false), (12, false)] (by kernel_rfl) (by kernel_rfl) (by kernel_rfl) (by kernel_rfl) (fun _ _ d _ _ h => by cases d <;> exact h) HBD.out ?_
      generalize wr.drew = yd at *
      refine wkS_take (some 56) (.pointer (some ⟨g1, 0, none⟩)) (by kernel_rfl) (by kernel_rfl) (by kernel_rfl) (fun W hS => by kernel_rfl) ?_
      simp only [put_lit, put_non, List.set_cons_zero, List.set_cons_succ]
      refine wkS_take (some 57) (.slice (some ⟨b, off, none⟩) l1.length c1) (by kernel_rfl) (by kernel_rfl) (by kernel_rfl) (fun W hS => by kernel_rfl) ?_
      simp only [put_lit, put_non, List.set_cons_zero, List.set_cons_succ]
      refine wkS_take (some 58) (.int .i64 (j : Int)) (by kernel_rfl) (by kernel_rfl) (by kernel_rfl) (fun W hS => by kernel_rfl) ?_
      simp only [put_lit, put_non, List.set_cons_zero, List.set_cons_succ]
      refine wkS_take (some 59) (.pointer (some ⟨b, off + j * 5, none⟩)) (by kernel_rfl) (by kernel_rfl) (by kernel_rfl) (fun W hS => exec_indexC Try.underlying22 info_op6 57 58 (n := l1.length) (c := c1) (by kernel_rfl) (by kernel_rfl) (by kernel_rfl) hjn) ?_
      simp only [put_lit, put_non, List.set_cons_zero, List.set_cons_succ]
      refine wkS_take (some 60) (.pointer (some ⟨b, off + j * 5 + 1, none⟩)) (by kernel_rfl) (by kernel_rfl) (by kernel_rfl) (fun W hS => exec_op1 59 (by kernel_rfl) (by kernel_rfl)) ?_
      simp only [put_lit, put_non, List.set_cons_zero, List.set_cons_succ]
      refine wkS_take (some 61) (.int .i64 o.at') (by kernel_rfl) (by kernel_rfl) (by kernel_rfl) (fun W hS => exec_loadCell 3 (.tmp 60) ⟨b, off + j * 5 + 1, none⟩ _ _ (by kernel_rfl) (by kernel_rfl) ((hS.cell (p := ⟨b, off + j * 5 + 1, none⟩) hb.out).trans a1) Try.underlying3 rfl) ?_
      simp only [put_lit, put_non, List.set_cons_zero, List.set_cons_succ]
      refine wkS_take (some 63) (.slice (some ⟨b, off, none⟩) l1.length c1) (by kernel_rfl) (by kernel_rfl) (by kernel_rfl) (fun W hS => by kernel_rfl) ?_
      simp only [put_lit, put_non, List.set_cons_zero, List.set_cons_succ]
      refine wkS_take (some 64) (.int .i64 (j : Int)) (by kernel_rfl) (by kernel_rfl) (by kernel_rfl) (fun W hS => by kernel_rfl) ?_
      simp only [put_lit, put_non, List.set_cons_zero, List.set_cons_succ]
      refine wkS_take (some 65) (.pointer (some ⟨b, off + j * 5, none⟩)) (by kernel_rfl) (by kernel_rfl) (by kernel_rfl) (fun W hS => exec_indexC Try.underlying22 info_op6 63 64 (n := l1.length) (c := c1) (by kernel_rfl) (by kernel_rfl) (by kernel_rfl) hjn) ?_
      simp only [put_lit, put_non, List.set_cons_zero, List.set_cons_succ]
      refine wkS_take (some 66) (.pointer (some ⟨b, off + j * 5 + 4, none⟩)) (by kernel_rfl) (by kernel_rfl) (by kernel_rfl) (fun W hS => exec_op4 65 (by kernel_rfl) (by kernel_rfl)) ?_
      simp only [put_lit, put_non, List.set_cons_zero, List.set_cons_succ]
      refine wkS_take (some 67) (u) (by kernel_rfl) (by kernel_rfl) (by kernel_rfl) (fun W hS => exec_loadCell 32 (.tmp 66) ⟨b, off + j * 5 + 4, none⟩ _ _ (by kernel_rfl) (by kernel_rfl) ((hS.cell (p := ⟨b, off + j * 5 + 4, none⟩) hb.out).trans a4) Try.underlying32 rfl) ?_
      simp only [put_lit, put_non, List.set_cons_zero, List.set_cons_succ]
      refine wkS_call (some 62) 18 #[.int .i64 o.at', .int .i64 4] (by kernel_rfl) (by kernel_rfl) (by kernel_rfl) (fun w => (by kernel_rfl)) ?_
      refine (small_c _ o.at' 4 (by omega) (by omega)).mono ?_
      rintro e wz ⟨rfl, rfl⟩
      refine ⟨_, rfl, HBD.out, ?_⟩
      simp only [put_lit, put_non, List.set_cons_zero, List.set_cons_succ]
      rw [eq.out]
      refine wkS_call (some 68) 17 #[.pointer (some ⟨g1, 0, none⟩), .int .i64 q, u] (by kernel_rfl) (by kernel_rfl) (by kernel_rfl) (fun w => (by kernel_rfl)) ?_
      refine (hP.out.write HPD.out.one1.1 HFW.out q u o.data (hu.out.below HBD.out) (by have := H80.out; omega) (fun hp k hk hF => by have h1 := hu.out.low hp k hk; have h2 := HPD.out.one1.2 k hF; omega)).mono ?_
      rintro e w3 hd
      obtain ⟨rfl, hO, hB⟩ := HPD.out.prog1 hP.out HBD.out.size hd
      have HB := Lib.hid (HBD.out.trans hB)
      refine ⟨_, rfl, HB.out, ?_⟩
      have HPR := Lib.hid hO
      clear hd hO hB HPD HBD 
      simp only [put_lit, put_non, List.set_cons_zero, List.set_cons_succ]
      refine wkS_done ?_
      go_wp2_with fail
      have hdw : Below w3.heap.size w3 w3.drew := (Below.refl _ _).drew
      have HBD := Lib.hid (below_then HB.out hdw)
      have HPD := Lib.hid (HPR.out.below hP.out hdw)
      clear hdw HB HPR 
      refine wp_region_plan (S := fun W => Below w.heap.size w W) [(0, true), (1, true), (2, true), (3, true), (4, true), (5, true), (7, true), (8, true), (9, true), (10, true), (11, true), (6, false), (12, false)] (by kernel_rfl) (by kernel_rfl) (by kernel_rfl) (by kernel_rfl) (fun _ _ d _ _ h => by cases d <;> exact h) HBD.out ?_
      generalize w3.drew = yd at *
      refine wkS_take (some 69) (.pointer (some ⟨g2, 0, none⟩)) (by kernel_rfl) (by kernel_rfl) (by kernel_rfl) (fun W hS => by kernel_rfl) ?_
      simp only [put_lit, put_non, List.set_cons_zero, List.set_cons_succ]
      refine wkS_take (some 70) (.slice (some ⟨b, off, none⟩) l1.length c1) (by kernel_rfl) (by kernel_rfl) (by kernel_rfl) (fun W hS => by kernel_rfl) ?_
      simp only [put_lit, put_non, List.set_cons_zero, List.set_cons_succ]
      refine wkS_take (some 71) (.int .i64 (j : Int)) (by kernel_rfl) (by kernel_rfl) (by kernel_rfl) (fun W hS => by kernel_rfl) ?_
      simp only [put_lit, put_non, List.set_cons_zero, List.set_cons_succ]
      refine wkS_take (some 72) (.pointer (some ⟨b, off + j * 5, none⟩)) (by kernel_rfl) (by kernel_rfl) (by kernel_rfl) (fun W hS => exec_indexC Try.underlying22 info_op6 70 71 (n := l1.length) (c := c1) (by kernel_rfl) (by kernel_rfl) (by kernel_rfl) hjn) ?_
      simp only [put_lit, put_non, List.set_cons_zero, List.set_cons_succ]
      refine wkS_take (some 73) (.pointer (some ⟨b, off + j * 5 + 1, none⟩)) (by kernel_rfl) (by kernel_rfl) (by kernel_rfl) (fun W hS => exec_op1 72 (by kernel_rfl) (by kernel_rfl)) ?_
      simp only [put_lit, put_non, List.set_cons_zero, List.set_cons_succ]
      refine wkS_take (some 74) (.int .i64 o.at') (by kernel_rfl) (by kernel_rfl) (by kernel_rfl) (fun W hS => exec_loadCell 3 (.tmp 73) ⟨b, off + j * 5 + 1, none⟩ _ _ (by kernel_rfl) (by kernel_rfl) ((hS.cell (p := ⟨b, off + j * 5 + 1, none⟩) hb.out).trans a1) Try.underlying3 rfl) ?_
      simp only [put_lit, put_non, List.set_cons_zero, List.set_cons_succ]
      refine wkS_take (some 76) (.slice (some ⟨b, off, none⟩) l1.length c1) (by kernel_rfl) (by kernel_rfl) (by kernel_rfl) (fun W hS => by kernel_rfl) ?_
      simp only [put_lit, put_non, List.set_cons_zero, List.set_cons_succ]
      refine wkS_take (some 77) (.int .i64 (j : Int)) (by kernel_rfl) (by kernel_rfl) (by kernel_rfl) (fun W hS => by kernel_rfl) ?_
      simp only [put_lit, put_non, List.set_cons_zero, List.set_cons_succ]
      refine wkS_take (some 78) (.pointer (some ⟨b, off + j * 5, none⟩)) (by kernel_rfl) (by kernel_rfl) (by kernel_rfl) (fun W hS => exec_indexC Try.underlying22 info_op6 76 77 (n := l1.length) (c := c1) (by kernel_rfl) (by kernel_rfl) (by kernel_rfl) hjn) ?_
      simp only [put_lit, put_non, List.set_cons_zero, List.set_cons_succ]
      refine wkS_take (some 79) (.pointer (some ⟨b, off + j * 5 + 4, none⟩)) (by kernel_rfl) (by kernel_rfl) (by kernel_rfl) (fun W hS => exec_op4 78 (by kernel_rfl) (by kernel_rfl)) ?_
      simp only [put_lit, put_non, List.set_cons_zero, List.set_cons_succ]
      refine wkS_take (some 80) (u) (by kernel_rfl) (by kernel_rfl) (by kernel_rfl) (fun W hS => exec_loadCell 32 (.tmp 79) ⟨b, off + j * 5 + 4, none⟩ _ _ (by kernel_rfl) (by kernel_rfl) ((hS.cell (p := ⟨b, off + j * 5 + 4, none⟩) hb.out).trans a4) Try.underlying32 rfl) ?_
      simp only [put_lit, put_non, List.set_cons_zero, List.set_cons_succ]
      refine wkS_call (some 75) 18 #[.int .i64 o.at', .int .i64 4] (by kernel_rfl) (by kernel_rfl) (by kernel_rfl) (fun w => (by kernel_rfl)) ?_
      refine (small_c _ o.at' 4 (by omega) (by omega)).mono ?_
      rintro e wz ⟨rfl, rfl⟩
      refine ⟨_, rfl, HBD.out, ?_⟩
      simp only [put_lit, put_non, List.set_cons_zero, List.set_cons_succ]
      rw [eq.out]
      refine wkS_call (some 81) 17 #[.pointer (some ⟨g2, 0, none⟩), .int .i64 q, u] (by kernel_rfl) (by kernel_rfl) (by kernel_rfl) (fun w => (by kernel_rfl)) ?_
      refine (hP.out.write HPD.out.one2.1 HFW.out q u o.data (hu.out.below HBD.out) (by have := H80.out; omega) (fun hp k hk hF => by have h1 := hu.out.low hp k hk; have h2 := HPD.out.one2.2 k hF; omega)).mono ?_
      rintro e w4 hd
      obtain ⟨rfl, hO, hB⟩ := HPD.out.prog2 hP.out HBD.out.size hd
      have HB := Lib.hid (HBD.out.trans hB)
      refine ⟨_, rfl, HB.out, ?_⟩
      have HPR := Lib.hid hO
      clear hd hO hB HPD HBD 
      simp only [put_lit, put_non, List.set_cons_zero, List.set_cons_succ]
      refine wkS_done ?_
      go_wp2_with fail
      have HN := Lib.hid (calm_next HC.out q o.data)
      have HL := Lib.hid (write_len s q o.data)
      go_roundw
      case rel => exact ⟨j + 1, _, by omega, by go_num, HN.out.1, (congrArg List.length HN.out.2).trans HS4.out, by have := HL.out.2; have := HSJ.out; omega, HPR.out, HB.out⟩
      case measure => simp [intOf]; omega
    · have HI : ¬ (j : Int) < l1.length := by omega
      have C := hP.out.flush HPR.out.one1.1 HFW.out
      rw [calm_flush HC.out] at C
      have C := Lib.hid C
      have HL4 := Lib.hid (show (secs s).length = 4 from (secs_ok (hP.out.ok HPR.out.one1.1)).2.trans HS4.out)
      have HC0 := Lib.hid (show calm { s with dur := secs s, pend := [] } from HC.out)
      go_wp2_with fail
      refine (C.out).mono ?_
      rintro e w3 hd
      obtain ⟨rfl, hO, hB⟩ := HPR.out.prog1 hP.out HB.out.size hd
      have PR3 := Lib.hid hO
      have B3 := Lib.hid (HB.out.trans hB)
      clear hd hO hB C HPR HB
      have C := hP.out.flush PR3.out.one2.1 HFW.out
      rw [calm_flush HC.out] at C
      have C := Lib.hid C
      clear HFW HC HS4 HSJ
      go_wp2_with fail
      refine (C.out).mono ?_
      rintro e w4 hd
      obtain ⟨rfl, hO, hB⟩ := PR3.out.prog2 hP.out B3.out.size hd
      have PR4 := Lib.hid hO
      have B4 := Lib.hid (B3.out.trans hB)
      clear hd hO hB C PR3 B3
      go_wp2_with fail
      have hBa : Below w4.heap.size w4 (w4.alloc (.cells #[.slice none 0 0, .slice none 0 0, .slice none 0 0, .slice none 0 0] 45)) := (Below.refl _ _).alloc (Nat.le_refl _) _
      have hBb : Below w4.heap.size w4 ((w4.alloc (.cells #[.slice none 0 0, .slice none 0 0, .slice none 0 0, .slice none 0 0] 45)).alloc (.cells #[.slice none 0 0, .slice none 0 0, .slice none 0 0, .slice none 0 0] 45)) := hBa.alloc (Nat.le_of_lt (by show w4.heap.size < (w4.heap.push _).size; simp)) _
      have hst := Row4.start hP.out PR4.out (secs s) []
      have RA := Lib.hid hst.1
      have RB := Lib.hid hst.2
      have PR5 := Lib.hid (PR4.out.below hP.out hBb)
      have B5 := Lib.hid (below_then B4.out hBb)
      have GA := Lib.hid (B4.out.size)
      have GB := Lib.hid (show w.heap.size ≤ w4.heap.size + 1 from Nat.le_trans GA.out (Nat.le_succ _))
      clear hBa hBb hst PR4 B4
      generalize ((w4.alloc (.cells #[.slice none 0 0, .slice none 0 0, .slice none 0 0, .slice none 0 0] 45)).alloc (.cells #[.slice none 0 0, .slice none 0 0, .slice none 0 0, .slice none 0 0] 45)) = w5 at *
      generalize w4.heap.size + 1 = gB at *
      generalize w4.heap.size = gA at *
      obtain ⟨s0, es0⟩ : ∃ s0 : DS, ({ s with dur := secs s, pend := [] } : DS) = s0 := ⟨_, rfl⟩
      have hd0 : s0.dur = secs s := by rw [← es0]
      have hp0 : s0.pend = [] := by rw [← es0]
      rw [es0] at PR5 HC0
      have HD0 := Lib.hid (show s0.dur.length = 4 by rw [hd0]; exact HL4.out)
      rw [← hd0] at RA
      have HP0 := Lib.hid hp0
      have HS0 := Lib.hid (show secs s0 = s0.dur by unfold secs; rw [hp0]; rfl)
      clear es0 hd0 hp0 HL4
      go_loopw [12] (fun i wr => ∃ (k : Nat) (R : Nat → Value), k ≤ 4 ∧ i = .int .i64 k ∧ Pair D fp wr w.heap.size g1 g2 s0 s0 ∧ Row4 fp wr g1 g2 gA gB R k s0.dur ∧ Row4 fp wr g1 g2 gB gA (fun _ => .slice none 0 0) 0 [] ∧ Below w.heap.size w wr) (fun i _ => 4 - (intOf i).toNat)
      case atStart => exact ⟨0, fun _ => .slice none 0 0, Nat.zero_le _, rfl, PR5.out, RA.out, RB.out, B5.out⟩
      case round =>
        clear PR5 RA RB B5
        obtain ⟨k, R, hk4, rfl, hPr, hRA, hRB, hB⟩ := hrel
        have HPR := Lib.hid hPr
        have RA := Lib.hid hRA
        have RB := Lib.hid hRB
        have HB := Lib.hid hB
        clear hPr hRA hRB hB
        by_cases hkn : k < 4
        · have HI : (k : Int) < 4 := by omega
          have C := hP.out.read HPR.out.one1.1 ⟨by have := HD0.out; omega, by rw [HP0.out]; exact Nat.zero_le _⟩ (k : Int)
          rw [calm_read HC0.out (by have := HD0.out; omega), HS0.out] at C
          have C := Lib.hid C
          go_wp2_with fail
          refine (C.out).mono ?_
          rintro e w6 ⟨r, rfl, hr, hB⟩
          obtain ⟨Ar, cr, er⟩ := hr.byt.form
          subst er
          have hp6 := HPR.out.below hP.out hB
          have hr6 := RA.out.below hP.out HPR.out hB
          have ho6 := RB.out.below hP.out HPR.out hB
          have ha := Asd.own hP.out HPR.out.one1.1 hB hr
          have ha2 := Asd.own hP.out HPR.out.one2.1 hB hr
          have hn1 : (Value.slice Ar (s0.dur.getD k []).length cr).ownBlock ≠ some gA := fun e => by have h1 := (hr.block gA e).1; have h2 := RA.out.lt; omega
          have hn2 : (Value.slice Ar (s0.dur.getD k []).length cr).ownBlock ≠ some gB := fun e => by have h1 := (hr.block gB e).1; have h2 := RB.out.lt; omega
          obtain ⟨hcell, hfz⟩ := hr6.cell hkn
          have HR6 := Lib.hid (hr6.put hP.out hp6 hkn hr.byt ha ha2 hn1 hn2)
          have HO6 := Lib.hid (ho6.other hP.out hp6 k (.slice Ar (s0.dur.getD k []).length cr) hr6.far1 hr6.far2)
          have HP6 := Lib.hid (hp6.poke hP.out k (.slice Ar (s0.dur.getD k []).length cr) hr6.far1 hr6.far2).1
          have HB6 := Lib.hid ((below_then HB.out hB).setCell (p := ⟨gA, k, none⟩) GA.out (.slice Ar (s0.dur.getD k []).length cr))
          generalize R k = rk at hcell
          clear hr hB ha ha2 hn1 hn2 hp6 hr6 ho6 HPR HB C RA RB
          go_wp2_with fail
          go_roundw
          case rel => exact ⟨k + 1, _, by omega, by go_num, HP6.out, HR6.out, HO6.out, HB6.out⟩
          case measure => simp [intOf]; omega
        · have HI : ¬ (k : Int) < 4 := by omega
          obtain rfl : 4 = k := by omega
          clear hkn
          go_wp2_with fail
          generalize wr = wp at *
          go_loopw [13] (fun i wx => ∃ (j : Nat) (s : DS), j ≤ l2.length ∧ i = .int .i64 j ∧ calm s ∧ s.dur = s0.dur ∧ s.pend.length ≤ j ∧ Pair D fp wx w.heap.size g1 g2 s s ∧ Row4 fp wx g1 g2 gA gB R 4 s0.dur ∧ Row4 fp wx g1 g2 gB gA (fun _ => .slice none 0 0) 0 [] ∧ Below w.heap.size w wx) (fun i _ => l2.length - (intOf i).toNat)
          case atStart => exact ⟨0, s0, Nat.zero_le _, rfl, HC0.out, rfl, by rw [HP0.out]; exact Nat.zero_le _, HPR.out, RA.out, RB.out, HB.out⟩
          case round =>
            clear HPR RA RB HB
            obtain ⟨j, s, hj, rfl, hc, hsd, hsp, hPr, hRA, hRB, hB⟩ := hrel
            have HC := Lib.hid hc
            have HSD := Lib.hid hsd
            have HSP := Lib.hid hsp
            have HPR := Lib.hid hPr
            have RA := Lib.hid hRA
            have RB := Lib.hid hRB
            have HB := Lib.hid hB
            have HFW := Lib.hid (show fewD s from ⟨by rw [hsd]; have := HD0.out; omega, by have := HF.out.2.1; omega⟩)
            clear hc hsd hsp hPr hRA hRB hB
            by_cases hjn : j < l2.length
            · have HI2 : (j : Int) < l2.length := by omega
              have H80 := Lib.hid (HF.out.2.2 j hjn)
              obtain ⟨b, off, rfl, hb, -, a1, -, -, u, a4, hu⟩ := H2.out.cells hjn
              have hb := Lib.hid hb
              have hu := Lib.hid hu
              generalize l2.getD j default = o at *
              obtain ⟨q, eq⟩ : ∃ q, smallS o.at' 4 = q := ⟨_, rfl⟩
              have eq := Lib.hid eq
              go_wp2_with fail
              have hdw : Below wr.heap.size wr wr.drew := (Below.refl _ _).drew
              have HBD := Lib.hid (below_then HB.out hdw)
              have HPD := Lib.hid (HPR.out.below hP.out hdw)
              have RAD := Lib.hid (RA.out.below hP.out HPR.out hdw)
              have RBD := Lib.hid (RB.out.below hP.out HPR.out hdw)
              clear hdw HB HPR RA RB
              refine wp_region_plan (S := fun W => Below w.heap.size w W) [(0, true), (1, true), (2, true), (3, true), (4, true), (5, true), (7, true), (8, true), (9, true), (10, true), (11, true), (6, false), (12, false)] (by kernel_rfl) (by kernel_rfl) (by kernel_rfl) (by kernel_rfl) (fun _ _ d _ _ h => by cases d <;> exact h) HBD.out ?_
              generalize wr.drew = yd at *
              refine wkS_take (some 108) (.pointer (some ⟨g1, 0, none⟩)) (by kernel_rfl) (by kernel_rfl) (by kernel_rfl) (fun W hS => by kernel_rfl) ?_
              simp only [put_lit, put_non, List.set_cons_zero, List.set_cons_succ]
              refine wkS_take (some 109) (.slice (some ⟨b, off, none⟩) l2.length c2) (by kernel_rfl) (by kernel_rfl) (by kernel_rfl) (fun W hS => by kernel_rfl) ?_
              simp only [put_lit, put_non, List.set_cons_zero, List.set_cons_succ]
              refine wkS_take (some 110) (.int .i64 (j : Int)) (by kernel_rfl) (by kernel_rfl) (by kernel_rfl) (fun W hS => by kernel_rfl) ?_
              simp only [put_lit, put_non, List.set_cons_zero, List.set_cons_succ]
              refine wkS_take (some 111) (.pointer (some ⟨b, off + j * 5, none⟩)) (by kernel_rfl) (by kernel_rfl) (by kernel_rfl) (fun W hS => exec_indexC Try.underlying22 info_op6 109 110 (n := l2.length) (c := c2) (by kernel_rfl) (by kernel_rfl) (by kernel_rfl) hjn) ?_
              simp only [put_lit, put_non, List.set_cons_zero, List.set_cons_succ]
              refine wkS_take (some 112) (.pointer (some ⟨b, off + j * 5 + 1, none⟩)) (by kernel_rfl) (by kernel_rfl) (by kernel_rfl) (fun W hS => exec_op1 111 (by kernel_rfl) (by kernel_rfl)) ?_
              simp only [put_lit, put_non, List.set_cons_zero, List.set_cons_succ]
              refine wkS_take (some 113) (.int .i64 o.at') (by kernel_rfl) (by kernel_rfl) (by kernel_rfl) (fun W hS => exec_loadCell 3 (.tmp 112) ⟨b, off + j * 5 + 1, none⟩ _ _ (by kernel_rfl) (by kernel_rfl) ((hS.cell (p := ⟨b, off + j * 5 + 1, none⟩) hb.out).trans a1) Try.underlying3 rfl) ?_
              simp only [put_lit, put_non, List.set_cons_zero, List.set_cons_succ]
              refine wkS_take (some 115) (.slice (some ⟨b, off, none⟩) l2.length c2) (by kernel_rfl) (by kernel_rfl) (by kernel_rfl) (fun W hS => by kernel_rfl) ?_
              simp only [put_lit, put_non, List.set_cons_zero, List.set_cons_succ]
              refine wkS_take (some 116) (.int .i64 (j : Int)) (by kernel_rfl) (by kernel_rfl) (by kernel_rfl) (fun W hS => by kernel_rfl) ?_
              simp only [put_lit, put_non, List.set_cons_zero, List.set_cons_succ]
              refine wkS_take (some 117) (.pointer (some ⟨b, off + j * 5, none⟩)) (by kernel_rfl) (by kernel_rfl) (by kernel_rfl) (fun W hS => exec_indexC Try.underlying22 info_op6 115 116 (n := l2.length) (c := c2) (by kernel_rfl) (by kernel_rfl) (by kernel_rfl) hjn) ?_
              simp only [put_lit, put_non, List.set_cons_zero, List.set_cons_succ]
              refine wkS_take (some 118) (.pointer (some ⟨b, off + j * 5 + 4, none⟩)) (by kernel_rfl) (by kernel_rfl) (by kernel_rfl) (fun W hS => exec_op4 117 (by kernel_rfl) (by kernel_rfl)) ?_
              simp only [put_lit, put_non, List.set_cons_zero, List.set_cons_succ]
              refine wkS_take (some 119) (u) (by kernel_rfl) (by kernel_rfl) (by kernel_rfl) (fun W hS => exec_loadCell 32 (.tmp 118) ⟨b, off + j * 5 + 4, none⟩ _ _ (by kernel_rfl) (by kernel_rfl) ((hS.cell (p := ⟨b, off + j * 5 + 4, none⟩) hb.out).trans a4) Try.underlying32 rfl) ?_
              simp only [put_lit, put_non, List.set_cons_zero, List.set_cons_succ]
              refine wkS_call (some 114) 18 #[.int .i64 o.at', .int .i64 4] (by kernel_rfl) (by kernel_rfl) (by kernel_rfl) (fun w => (by kernel_rfl)) ?_
              refine (small_c _ o.at' 4 (by omega) (by omega)).mono ?_
              rintro e wz ⟨rfl, rfl⟩
              refine ⟨_, rfl, HBD.out, ?_⟩
              simp only [put_lit, put_non, List.set_cons_zero, List.set_cons_succ]
              rw [eq.out]
              refine wkS_call (some 120) 17 #[.pointer (some ⟨g1, 0, none⟩), .int .i64 q, u] (by kernel_rfl) (by kernel_rfl) (by kernel_rfl) (fun w => (by kernel_rfl)) ?_
              refine (hP.out.write HPD.out.one1.1 HFW.out q u o.data (hu.out.below HBD.out) (by have := H80.out; omega) (fun hp k hk hF => by have h1 := hu.out.low hp k hk; have h2 := HPD.out.one1.2 k hF; omega)).mono ?_
              rintro e w3 hd
              obtain ⟨rfl, hO, hB⟩ := HPD.out.prog1 hP.out HBD.out.size hd
              have RA := Lib.hid (RAD.out.prog1 hP.out HPD.out hd)
              have RB := Lib.hid (RBD.out.prog1 hP.out HPD.out hd)
              have HB := Lib.hid (HBD.out.trans hB)
              refine ⟨_, rfl, HB.out, ?_⟩
              have HPR := Lib.hid hO
              clear hd hO hB HPD HBD RAD RBD
              simp only [put_lit, put_non, List.set_cons_zero, List.set_cons_succ]
              refine wkS_done ?_
              go_wp2_with fail
              have hdw : Below w3.heap.size w3 w3.drew := (Below.refl _ _).drew
              have HBD := Lib.hid (below_then HB.out hdw)
              have HPD := Lib.hid (HPR.out.below hP.out hdw)
              have RAD := Lib.hid (RA.out.below hP.out HPR.out hdw)
              have RBD := Lib.hid (RB.out.below hP.out HPR.out hdw)
              clear hdw HB HPR RA RB
              refine wp_region_plan (S := fun W => Below w.heap.size w W) [(0, true), (1, true), (2, true), (3, true), (4, true), (5, true), (7, true), (8, true), (9, true), (10, true), (11, true), (6, false), (12, false)] (by kernel_rfl) (by kernel_rfl) (by kernel_rfl) (by kernel_rfl) (fun _ _ d _ _ h => by cases d <;> exact h) HBD.out ?_
              generalize w3.drew = yd at *
              refine wkS_take (some 121) (.pointer (some ⟨g2, 0, none⟩)) (by kernel_rfl) (by kernel_rfl) (by kernel_rfl) (fun W hS => by kernel_rfl) ?_
              simp only [put_lit, put_non, List.set_cons_zero, List.set_cons_succ]
              refine wkS_take (some 122) (.slice (some ⟨b, off, none⟩) l2.length c2) (by kernel_rfl) (by kernel_rfl) (by kernel_rfl) (fun W hS => by kernel_rfl) ?_
              simp only [put_lit, put_non, List.set_cons_zero, List.set_cons_succ]
              refine wkS_take (some 123) (.int .i64 (j : Int)) (by kernel_rfl) (by kernel_rfl) (by kernel_rfl) (fun W hS => by kernel_rfl) ?_
              simp only [put_lit, put_non, List.set_cons_zero, List.set_cons_succ]
              refine wkS_take (some 124) (.pointer (some ⟨b, off + j * 5, none⟩)) (by kernel_rfl) (by kernel_rfl) (by kernel_rfl) (fun W hS => exec_indexC Try.underlying22 info_op6 122 123 (n := l2.length) (c := c2) (by kernel_rfl) (by kernel_rfl) (by kernel_rfl) hjn) ?_
              simp only [put_lit, put_non, List.set_cons_zero, List.set_cons_succ]
              refine wkS_take (some 125) (.pointer (some ⟨b, off + j * 5 + 1, none⟩)) (by kernel_rfl) (by kernel_rfl) (by kernel_rfl) (fun W hS => exec_op1 124 (by kernel_rfl) (by kernel_rfl)) ?_
              simp only [put_lit, put_non, List.set_cons_zero, List.set_cons_succ]
              refine wkS_take (some 126) (.int .i64 o.at') (by kernel_rfl) (by kernel_rfl) (by kernel_rfl) (fun W hS => exec_loadCell 3 (.tmp 125) ⟨b, off + j * 5 + 1, none⟩ _ _ (by kernel_rfl) (by kernel_rfl) ((hS.cell (p := ⟨b, off + j * 5 + 1, none⟩) hb.out).trans a1) Try.underlying3 rfl) ?_
              simp only [put_lit, put_non, List.set_cons_zero, List.set_cons_succ]
              refine wkS_take (some 128) (.slice (some ⟨b, off, none⟩) l2.length c2) (by kernel_rfl) (by kernel_rfl) (by kernel_rfl) (fun W hS => by kernel_rfl) ?_
              simp only [put_lit, put_non, List.set_cons_zero, List.set_cons_succ]
              refine wkS_take (some 129) (.int .i64 (j : Int)) (by kernel_rfl) (by kernel_rfl) (by kernel_rfl) (fun W hS => by kernel_rfl) ?_
              simp only [put_lit, put_non, List.set_cons_zero, List.set_cons_succ]
              refine wkS_take (some 130) (.pointer (some ⟨b, off + j * 5, none⟩)) (by kernel_rfl) (by kernel_rfl) (by kernel_rfl) (fun W hS => exec_indexC Try.underlying22 info_op6 128 129 (n := l2.length) (c := c2) (by kernel_rfl) (by kernel_rfl) (by kernel_rfl) hjn) ?_
              simp only [put_lit, put_non, List.set_cons_zero, List.set_cons_succ]
              refine wkS_take (some 131) (.pointer (some ⟨b, off + j * 5 + 4, none⟩)) (by kernel_rfl) (by kernel_rfl) (by kernel_rfl) (fun W hS => exec_op4 130 (by kernel_rfl) (by kernel_rfl)) ?_
              simp only [put_lit, put_non, List.set_cons_zero, List.set_cons_succ]
              refine wkS_take (some 132) (u) (by kernel_rfl) (by kernel_rfl) (by kernel_rfl) (fun W hS => exec_loadCell 32 (.tmp 131) ⟨b, off + j * 5 + 4, none⟩ _ _ (by kernel_rfl) (by kernel_rfl) ((hS.cell (p := ⟨b, off + j * 5 + 4, none⟩) hb.out).trans a4) Try.underlying32 rfl) ?_
              simp only [put_lit, put_non, List.set_cons_zero, List.set_cons_succ]
              refine wkS_call (some 127) 18 #[.int .i64 o.at', .int .i64 4] (by kernel_rfl) (by kernel_rfl) (by kernel_rfl) (fun w => (by kernel_rfl)) ?_
              refine (small_c _ o.at' 4 (by omega) (by omega)).mono ?_
              rintro e wz ⟨rfl, rfl⟩
              refine ⟨_, rfl, HBD.out, ?_⟩
              simp only [put_lit, put_non, List.set_cons_zero, List.set_cons_succ]
              rw [eq.out]
              refine wkS_call (some 133) 17 #[.pointer (some ⟨g2, 0, none⟩), .int .i64 q, u] (by kernel_rfl) (by kernel_rfl) (by kernel_rfl) (fun w => (by kernel_rfl)) ?_
              refine (hP.out.write HPD.out.one2.1 HFW.out q u o.data (hu.out.below HBD.out) (by have := H80.out; omega) (fun hp k hk hF => by have h1 := hu.out.low hp k hk; have h2 := HPD.out.one2.2 k hF; omega)).mono ?_
              rintro e w4 hd
              obtain ⟨rfl, hO, hB⟩ := HPD.out.prog2 hP.out HBD.out.size hd
              have RA := Lib.hid (RAD.out.prog2 hP.out HPD.out hd)
              have RB := Lib.hid (RBD.out.prog2 hP.out HPD.out hd)
              have HB := Lib.hid (HBD.out.trans hB)
              refine ⟨_, rfl, HB.out, ?_⟩
              have HPR := Lib.hid hO
              clear hd hO hB HPD HBD RAD RBD
              simp only [put_lit, put_non, List.set_cons_zero, List.set_cons_succ]
              refine wkS_done ?_
              go_wp2_with fail
              have HN := Lib.hid (calm_next HC.out q o.data)
              have HL := Lib.hid (write_len s q o.data)
              go_roundw
              case rel => exact ⟨j + 1, _, by omega, by go_num, HN.out.1, HN.out.2.trans HSD.out, by have := HL.out.2; have := HSP.out; omega, HPR.out, RA.out, RB.out, HB.out⟩
              case measure => simp [intOf]; omega
            · have HI2 : ¬ (j : Int) < l2.length := by omega
              have HLS := Lib.hid (show (secs s).length = 4 from (secs_ok (hP.out.ok HPR.out.one1.1)).2.trans (by rw [HSD.out]; exact HD0.out))
              have HOK := Lib.hid (hP.out.ok HPR.out.one1.1)
              clear HSP
              go_wp2_with fail
              generalize wr = wq at *
              go_loopw [14] (fun i wx => ∃ (k : Nat) (R' : Nat → Value), k ≤ 4 ∧ i = .int .i64 k ∧ Pair D fp wx w.heap.size g1 g2 s s ∧ Row4 fp wx g1 g2 gA gB R 4 s0.dur ∧ Row4 fp wx g1 g2 gB gA R' k (secs s) ∧ Below w.heap.size w wx) (fun i _ => 4 - (intOf i).toNat)
              case atStart => exact ⟨0, fun _ => .slice none 0 0, Nat.zero_le _, rfl, HPR.out, RA.out, RB.out.relabel _, HB.out⟩
              case round =>
                clear HPR RA RB HB
                obtain ⟨k, R', hk4, rfl, hPr, hRA, hRB, hB⟩ := hrel
                have HPR := Lib.hid hPr
                have RA := Lib.hid hRA
                have RB := Lib.hid hRB
                have HB := Lib.hid hB
                clear hPr hRA hRB hB
                by_cases hkn : k < 4
                · have HI3 : (k : Int) < 4 := by omega
                  have C := hP.out.read HPR.out.one1.1 HFW.out (k : Int)
                  rw [calm_read HC.out (by have h1 := HSD.out; have h2 := HD0.out; rw [h1]; omega)] at C
                  have C := Lib.hid C
                  go_wp2_with fail
                  refine (C.out).mono ?_
                  rintro e w6 ⟨r, rfl, hr, hB⟩
                  obtain ⟨Ar, cr, er⟩ := hr.byt.form
                  subst er
                  have hp6 := HPR.out.below hP.out hB
                  have hr6 := RB.out.below hP.out HPR.out hB
                  have ho6 := RA.out.below hP.out HPR.out hB
                  have ha := Asd.own hP.out HPR.out.one1.1 hB hr
                  have ha2 := Asd.own hP.out HPR.out.one2.1 hB hr
                  have hn1 : (Value.slice Ar ((secs s).getD k []).length cr).ownBlock ≠ some gA := fun e => by have h1 := (hr.block gA e).1; have h2 := RA.out.lt; omega
                  have hn2 : (Value.slice Ar ((secs s).getD k []).length cr).ownBlock ≠ some gB := fun e => by have h1 := (hr.block gB e).1; have h2 := RB.out.lt; omega
                  obtain ⟨hcell, hfz⟩ := hr6.cell hkn
                  have HR6 := Lib.hid (hr6.put hP.out hp6 hkn hr.byt ha ha2 hn2 hn1)
                  have HO6 := Lib.hid (ho6.other hP.out hp6 k (.slice Ar ((secs s).getD k []).length cr) hr6.far1 hr6.far2)
                  have HP6 := Lib.hid (hp6.poke hP.out k (.slice Ar ((secs s).getD k []).length cr) hr6.far1 hr6.far2).1
                  have HB6 := Lib.hid ((below_then HB.out hB).setCell (p := ⟨gB, k, none⟩) GB.out (.slice Ar ((secs s).getD k []).length cr))
                  generalize R' k = rk at hcell
                  clear hr hB ha ha2 hn1 hn2 hp6 hr6 ho6 HPR HB C RA RB
                  go_wp2_with fail
                  go_roundw
                  case rel => exact ⟨k + 1, _, by omega, by go_num, HP6.out, HO6.out, HR6.out, HB6.out⟩
                  case measure => simp [intOf]; omega
                · have HI3 : ¬ (k : Int) < 4 := by omega
                  obtain rfl : 4 = k := by omega
                  clear hkn
                  have C := Lib.hid (show Calls Try.prog 20 #[.pointer (some ⟨g1, 0, none⟩), .int .u64 18446744073709551615, .int .i64 (-1)] wr (PDk D fp wr g1 (.tuple #[]) (crashS s 18446744073709551615 (-1))) from hP.out.crash HPR.out.one1.1 HFW.out 18446744073709551615 (-1) (by omega))
                  go_wp2_with fail
                  refine (C.out).mono ?_
                  rintro e w7 hd
                  have RA7 := Lib.hid (RA.out.prog1 hP.out HPR.out hd)
                  have RB7 := Lib.hid (RB.out.prog1 hP.out HPR.out hd)
                  obtain ⟨rfl, hO, hB⟩ := HPR.out.prog1 hP.out HB.out.size hd
                  have PR7 := Lib.hid hO
                  have B7 := Lib.hid (HB.out.trans hB)
                  clear hd hO hB C HPR HB RA RB
                  have C := Lib.hid (show Calls Try.prog 20 #[.pointer (some ⟨g2, 0, none⟩), .int .u64 0, .int .i64 0] w7 (PDk D fp w7 g2 (.tuple #[]) (crashS s 0 0)) from hP.out.crash PR7.out.one2.1 HFW.out 0 0 (by omega))
                  go_wp2_with fail
                  refine (C.out).mono ?_
                  rintro e w8 hd
                  have RA8 := Lib.hid (RA7.out.prog2 hP.out PR7.out hd)
                  have RB8 := Lib.hid (RB7.out.prog2 hP.out PR7.out hd)
                  obtain ⟨rfl, hO, hB⟩ := PR7.out.prog2 hP.out B7.out.size hd
                  have PR8 := Lib.hid hO
                  have B8 := Lib.hid (B7.out.trans hB)
                  clear hd hO hB C PR7 B7 RA7 RB7
                  have C := Lib.hid (hP.out.power PR8.out.one1.1)
                  go_wp2_with fail
                  refine (C.out).mono ?_
                  rintro e w9 hd
                  have RA9 := Lib.hid (RA8.out.prog1 hP.out PR8.out hd)
                  have RB9 := Lib.hid (RB8.out.prog1 hP.out PR8.out hd)
                  obtain ⟨rfl, hO, hB⟩ := PR8.out.prog1 hP.out B8.out.size hd
                  have PR9 := Lib.hid hO
                  have B9 := Lib.hid (B8.out.trans hB)
                  clear hd hO hB C PR8 B8 RA8 RB8
                  have C := Lib.hid (hP.out.power PR9.out.one2.1)
                  go_wp2_with fail
                  refine (C.out).mono ?_
                  rintro e w10 hd
                  have RA10 := Lib.hid (RA9.out.prog2 hP.out PR9.out hd)
                  have RB10 := Lib.hid (RB9.out.prog2 hP.out PR9.out hd)
                  obtain ⟨rfl, hO, hB⟩ := PR9.out.prog2 hP.out B9.out.size hd
                  have B10 := Lib.hid (B9.out.trans hB)
                  obtain ⟨s1, es1⟩ : ∃ x, powerS (crashS s 18446744073709551615 (-1)) = x := ⟨_, rfl⟩
                  obtain ⟨s2, es2⟩ : ∃ x, powerS (crashS s 0 0) = x := ⟨_, rfl⟩
                  rw [es1, es2] at hO
                  have PR10 := Lib.hid hO
                  have HCA := Lib.hid (show calm s1 by rw [← es1]; exact ⟨rfl, rfl⟩)
                  have HCB := Lib.hid (show calm s2 by rw [← es2]; exact ⟨rfl, rfl⟩)
                  have HPA := Lib.hid (show s1.pend = [] by rw [← es1]; rfl)
                  have HPB := Lib.hid (show s2.pend = [] by rw [← es2]; rfl)
                  have HDA := Lib.hid (show s1.dur = secs s by rw [← es1]; exact crash_all _ _ _ _ HOK.out.1 HOK.out.2.1)
                  have HDB := Lib.hid (show s2.dur = s0.dur by rw [← es2]; exact (crash_none _ _ _ _ _).trans HSD.out)
                  have HSA := Lib.hid (show secs s1 = secs s by rw [← HDA.out]; unfold secs; rw [HPA.out]; rfl)
                  have HSB := Lib.hid (show secs s2 = s0.dur by rw [← HDB.out]; unfold secs; rw [HPB.out]; rfl)
                  have HLA := Lib.hid (show s1.dur.length = 4 by rw [HDA.out]; exact HLS.out)
                  have HLB := Lib.hid (show s2.dur.length = 4 by rw [HDB.out]; exact HD0.out)
                  clear hd hO hB C PR9 B9 RA9 RB9 es1 es2
                  go_wp2_with fail
                  generalize wr = wv at *
                  clear HI HI2 HI3
                  go_loopw [15] (fun i wx => ∃ k : Nat, k ≤ 4 ∧ i = .int .i64 k ∧ Pair D fp wx w.heap.size g1 g2 s1 s2 ∧ Row4 fp wx g1 g2 gA gB R 4 s0.dur ∧ Row4 fp wx g1 g2 gB gA R' 4 (secs s) ∧ Below w.heap.size w wx) (fun i _ => 4 - (intOf i).toNat)
                  case atStart => exact ⟨0, Nat.zero_le _, rfl, PR10.out, RA10.out, RB10.out, B10.out⟩
                  case round =>
                    clear PR10 RA10 RB10 B10
                    obtain ⟨k, hk4, rfl, hPr, hRA, hRB, hB⟩ := hrel
                    have HPR := Lib.hid hPr
                    have RA := Lib.hid hRA
                    have RB := Lib.hid hRB
                    have HB := Lib.hid hB
                    clear hPr hRA hRB hB
                    by_cases hkn : k < 4
                    · have HI : (k : Int) < 4 := by omega
                      have C := hP.out.read HPR.out.one1.1 ⟨by have := HLA.out; omega, by rw [HPA.out]; exact Nat.zero_le _⟩ (k : Int)
                      rw [calm_read HCA.out (by have := HLA.out; omega), HSA.out] at C
                      have C := Lib.hid C
                      go_wp2_with fail
                      refine (C.out).mono ?_
                      rintro e w11 ⟨r1, rfl, hr, hB⟩
                      have PR11 := Lib.hid (HPR.out.below hP.out hB)
                      have RA11 := Lib.hid (RA.out.below hP.out HPR.out hB)
                      have RB11 := Lib.hid (RB.out.below hP.out HPR.out hB)
                      have B11 := Lib.hid (below_then HB.out hB)
                      have Y1 := Lib.hid hr.byt
                      clear hr hB HPR RA RB HB C
                      have C := hP.out.read PR11.out.one2.1 ⟨by have := HLB.out; omega, by rw [HPB.out]; exact Nat.zero_le _⟩ (k : Int)
                      rw [calm_read HCB.out (by have := HLB.out; omega), HSB.out] at C
                      have C := Lib.hid C
                      go_wp2_with fail
                      refine (C.out).mono ?_
                      rintro e w12 ⟨r2, rfl, hr, hB⟩
                      have hdw : Below w12.heap.size w12 w12.drew := (Below.refl _ _).drew
                      have hbz := below_then hB hdw
                      have HPZ := Lib.hid (PR11.out.below hP.out hbz)
                      have RAZ := Lib.hid (RA11.out.below hP.out PR11.out hbz)
                      have RBZ := Lib.hid (RB11.out.below hP.out PR11.out hbz)
                      have BZ := Lib.hid (below_then B11.out hbz)
                      have Y1Z := Lib.hid (Y1.out.below hbz)
                      have Y2Z := Lib.hid (hr.byt.below hdw)
                      clear hr hB hdw hbz PR11 RA11 RB11 B11 Y1 C
                      go_wp2_with fail
                      have CA := Lib.hid (RAZ.out.cell hkn).1
                      have CB := Lib.hid (RBZ.out.cell hkn).1
                      have TA := Lib.hid (RAZ.out.told k hkn).1
                      have TB := Lib.hid (RBZ.out.told k hkn).1
                      refine wp_region_plan (S := fun W => W = w12.drew) [(0, true), (1, true), (2, true), (3, true), (4, true), (5, true), (6, true), (7, true), (8, true), (9, true), (10, true), (11, true), (12, true), (13, true), (14, true), (15, true)] (by kernel_rfl) (by kernel_rfl) (by kernel_rfl) (by kernel_rfl) (fun _ _ d _ _ h => by cases d <;> exact h) rfl ?_
                      generalize w12.drew = yd at *
                      generalize (secs s).getD k [] = zs at Y1Z TB
                      generalize s0.dur.getD k [] = zt at Y2Z TA
                      refine wkS_take (some 170) (r1) (by kernel_rfl) (by kernel_rfl) (by kernel_rfl) (fun W hS => by kernel_rfl) ?_
                      simp only [put_lit, put_non, List.set_cons_zero, List.set_cons_succ]
                      refine wkS_take (some 171) (.string ⟨zs.toArray⟩) (by kernel_rfl) (by kernel_rfl) (by kernel_rfl) (fun W hS => exec_strB (u := r1) 170 (by rw [hS]; exact Y1Z.out) (by kernel_rfl) (by kernel_rfl)) ?_
                      simp only [put_lit, put_non, List.set_cons_zero, List.set_cons_succ]
                      refine wkS_take (some 172) (.int .i64 (k : Int)) (by kernel_rfl) (by kernel_rfl) (by kernel_rfl) (fun W hS => by kernel_rfl) ?_
                      simp only [put_lit, put_non, List.set_cons_zero, List.set_cons_succ]
                      refine wkS_take (some 173) (.pointer (some ⟨gB, k, none⟩)) (by kernel_rfl) (by kernel_rfl) (by kernel_rfl) (fun W hS => exec_arrA 11 172 (by kernel_rfl) (by kernel_rfl) (by kernel_rfl) hkn) ?_
                      simp only [put_lit, put_non, List.set_cons_zero, List.set_cons_succ]
                      refine wkS_take (some 174) (R' k) (by kernel_rfl) (by kernel_rfl) (by kernel_rfl) (fun W hS => exec_loadCell 32 (.tmp 173) ⟨gB, k, none⟩ _ _ (by kernel_rfl) (by kernel_rfl) (by rw [hS]; exact CB.out) Try.underlying32 rfl) ?_
                      simp only [put_lit, put_non, List.set_cons_zero, List.set_cons_succ]
                      refine wkS_take (some 175) (.string ⟨zs.toArray⟩) (by kernel_rfl) (by kernel_rfl) (by kernel_rfl) (fun W hS => exec_strB (u := R' k) 174 (by rw [hS]; exact TB.out) (by kernel_rfl) (by kernel_rfl)) ?_
                      simp only [put_lit, put_non, List.set_cons_zero, List.set_cons_succ]
                      refine wkS_take (some 176) (.bool false) (by kernel_rfl) (by kernel_rfl) (by kernel_rfl) (fun W hS => exec_neqStr 171 175 ⟨zs.toArray⟩ (by kernel_rfl) (by kernel_rfl) (by kernel_rfl)) ?_
                      simp only [put_lit, put_non, List.set_cons_zero, List.set_cons_succ]
                      refine wkS_take (some 177) (.bool false) (by kernel_rfl) (by kernel_rfl) (by kernel_rfl) (fun W hS => by kernel_rfl) ?_
                      simp only [put_lit, put_non, List.set_cons_zero, List.set_cons_succ]
                      refine wkS_take (some 178) (r2) (by kernel_rfl) (by kernel_rfl) (by kernel_rfl) (fun W hS => by kernel_rfl) ?_
                      simp only [put_lit, put_non, List.set_cons_zero, List.set_cons_succ]
                      refine wkS_take (some 179) (.string ⟨zt.toArray⟩) (by kernel_rfl) (by kernel_rfl) (by kernel_rfl) (fun W hS => exec_strB (u := r2) 178 (by rw [hS]; exact Y2Z.out) (by kernel_rfl) (by kernel_rfl)) ?_
                      simp only [put_lit, put_non, List.set_cons_zero, List.set_cons_succ]
                      refine wkS_take (some 180) (.int .i64 (k : Int)) (by kernel_rfl) (by kernel_rfl) (by kernel_rfl) (fun W hS => by kernel_rfl) ?_
                      simp only [put_lit, put_non, List.set_cons_zero, List.set_cons_succ]
                      refine wkS_take (some 181) (.pointer (some ⟨gA, k, none⟩)) (by kernel_rfl) (by kernel_rfl) (by kernel_rfl) (fun W hS => exec_arrA 10 180 (by kernel_rfl) (by kernel_rfl) (by kernel_rfl) hkn) ?_
                      simp only [put_lit, put_non, List.set_cons_zero, List.set_cons_succ]
                      refine wkS_take (some 182) (R k) (by kernel_rfl) (by kernel_rfl) (by kernel_rfl) (fun W hS => exec_loadCell 32 (.tmp 181) ⟨gA, k, none⟩ _ _ (by kernel_rfl) (by kernel_rfl) (by rw [hS]; exact CA.out) Try.underlying32 rfl) ?_
                      simp only [put_lit, put_non, List.set_cons_zero, List.set_cons_succ]
                      refine wkS_take (some 183) (.string ⟨zt.toArray⟩) (by kernel_rfl) (by kernel_rfl) (by kernel_rfl) (fun W hS => exec_strB (u := R k) 182 (by rw [hS]; exact TA.out) (by kernel_rfl) (by kernel_rfl)) ?_
                      simp only [put_lit, put_non, List.set_cons_zero, List.set_cons_succ]
                      refine wkS_take (some 184) (.bool false) (by kernel_rfl) (by kernel_rfl) (by kernel_rfl) (fun W hS => exec_neqStr 179 183 ⟨zt.toArray⟩ (by kernel_rfl) (by kernel_rfl) (by kernel_rfl)) ?_
                      simp only [put_lit, put_non, List.set_cons_zero, List.set_cons_succ]
                      refine wkS_take (some 185) (.bool false) (by kernel_rfl) (by kernel_rfl) (by kernel_rfl) (fun W hS => by kernel_rfl) ?_
                      simp only [put_lit, put_non, List.set_cons_zero, List.set_cons_succ]
                      refine wkS_done ?_
                      go_wp2_with fail
                      go_roundw
                      case rel => exact ⟨k + 1, by omega, by go_num, HPZ.out, RAZ.out, RBZ.out, BZ.out⟩
                      case measure => simp [intOf]; omega
                    · have HI : ¬ (k : Int) < 4 := by omega
                      clear HPR RA RB
                      go_wp2_with fail
                      refine (known6_c hP.out wr).mono ?_
                      rintro e w11 ⟨rfl, hB⟩
                      have B11 := Lib.hid (below_then HB.out hB)
                      clear hB HB
                      go_wp2_with fail
                      go_ret
                      exact ⟨rfl, B11.out⟩
end
end Go.Proofs.Ythknlimhenbhfaa

/- The walk of DiskDurable. -/
import Derived.Test.YthknlimhenbhfaaDko
namespace Go.Proofs.Ythknlimhenbhfaa
set_option linter.unusedSimpArgs false
open Go.RowKit Dig
set_option linter.unusedVariables false
theorem info_op6 : (Try.prog.info? 34).map (·.size) = some 5 := by kernel_rfl
section
variable {ev : Operand → Value} {o : Oper} {w : World}
theorem exec_op1 (t : Tmp) {b off : Nat} (ho : o.op = .fieldAddr 34 (.tmp t) 1) (hx : ev (.tmp t) = .pointer (some ⟨b, off, none⟩)) :
    (execOp ev o).run Try.prog w = .ok (.value (.pointer (some ⟨b, off + 1, none⟩))) w := by
  unfold execOp
  simp only [ho, hx]
  go_simp
theorem exec_op4 (t : Tmp) {b off : Nat} (ho : o.op = .fieldAddr 34 (.tmp t) 4) (hx : ev (.tmp t) = .pointer (some ⟨b, off, none⟩)) :
    (execOp ev o).run Try.prog w = .ok (.value (.pointer (some ⟨b, off + 4, none⟩))) w := by
  unfold execOp
  simp only [ho, hx]
  go_simp
end
section
variable {D : World → Nat → DS → Prop} {fp : World → Nat → Nat → Prop} {w : World} {v1 v2 : Value} {l1 l2 : List Op6}
/-- Lists that do not fit. -/
theorem durable_big (h1 : Ops6 w v1 l1) (h2 : Ops6 w v2 l2) (keep : Nat) (torn : Int) (hf : ¬ (fitsS l1 20 ∧ fitsS l2 20)) : Calls Try.prog 5 #[v1, v2, .int .u64 (keep : Int), .int .i64 torn] w (RVal w (.bool true)) := by
  obtain ⟨r1, hr1, F1⟩ := fits_c h1 20 (by omega)
  obtain ⟨r2, hr2, F2⟩ := fits_c h2 20 (by omega)
  have F1 := Lib.hid F1
  have F2 := Lib.hid F2
  cases r1 with
  | false =>
    clear h1 h2 hr1 hr2 F2 hf
    go_enter Try.func5, Try.ntmps5
    go_wp2_with fail
    refine (F1.out).mono ?_
    rintro e wz ⟨rfl, rfl⟩
    go_wp2_with fail
    go_ret
    exact ⟨rfl, Below.refl _ _⟩
  | true =>
    cases r2 with
    | false =>
      clear h1 h2 hr1 hr2 hf
      go_enter Try.func5, Try.ntmps5
      go_wp2_with fail
      refine (F1.out).mono ?_
      rintro e wz ⟨rfl, rfl⟩
      clear F1
      go_wp2_with fail
      refine (F2.out).mono ?_
      rintro e wz ⟨rfl, rfl⟩
      go_wp2_with fail
      go_ret
      exact ⟨rfl, Below.refl _ _⟩
    | true => exact absurd ⟨hr1.1 rfl, hr2.1 rfl⟩ hf
set_option maxRecDepth 20000 in
set_option maxHeartbeats 8000000 in
theorem durable_walk (P : Prog6 D fp) (h1 : Ops6 w v1 l1) (h2 : Ops6 w v2 l2) (keep : Nat) (hk : keep < 18446744073709551616) (torn : Int) : Calls Try.prog 5 #[v1, v2, .int .u64 (keep : Int), .int .i64 torn] w (RVal w (.bool true)) := by
  by_cases hf : fitsS l1 20 ∧ fitsS l2 20
  rotate_left
  · exact durable_big h1 h2 keep torn hf
  obtain ⟨r1, hr1, F1⟩ := fits_c h1 20 (by omega)
  obtain ⟨r2, hr2, F2⟩ := fits_c h2 20 (by omega)
  obtain rfl := hr1.2 hf.1
  obtain rfl := hr2.2 hf.2
  have F1 := Lib.hid F1
  have F2 := Lib.hid F2
  have H1 := Lib.hid h1
  have H2 := Lib.hid h2
  have HF := Lib.hid hf
  have hP := Lib.hid P
  have HK := Lib.hid hk
  obtain ⟨A1, c1, rfl⟩ := h1.form
  obtain ⟨A2, c2, rfl⟩ := h2.form
  clear h1 h2 hr1 hr2 hf P hk
  go_enter Try.func5, Try.ntmps5
  go_wp2_with fail
  refine (F1.out).mono ?_
  rintro e wz ⟨rfl, rfl⟩
  clear F1
  go_wp2_with fail
  refine (F2.out).mono ?_
  rintro e wz ⟨rfl, rfl⟩
  clear F2
  go_wp2_with fail
  refine (hP.out.new w 4 (by omega) (by omega)).mono ?_
  rintro e w1 ⟨g, rfl, hD, hB1, hF⟩
  have O1 := Lib.hid (show One D fp w1 w.heap.size g (newS 4) from ⟨hD, hF⟩)
  have B1 := Lib.hid hB1
  clear hD hF hB1
  have hl1 : (l1.length : Int) ≤ 20 := by have := HF.out.1.1; omega
  have hl2 : (l2.length : Int) ≤ 20 := by have := HF.out.2.1; omega
  go_wp2_with fail
  go_loopw [11] (fun i wr => ∃ (j : Nat) (s : DS), j ≤ l1.length ∧ i = .int .i64 j ∧ calm s ∧ s.dur.length = 4 ∧ s.pend.length ≤ j ∧ One D fp wr w.heap.size g s ∧ Below w.heap.size w wr) (fun i _ => l1.length - (intOf i).toNat)
  case atStart => exact ⟨0, newS 4, Nat.zero_le _, rfl, calm_new 4, new_len 4, Nat.zero_le _, O1.out, B1.out⟩
  case round =>
    clear O1 B1
    obtain ⟨j, s, hj, rfl, hc, hs4, hsj, hO, hB⟩ := hrel
    have HC := Lib.hid hc
    have HS4 := Lib.hid hs4
    have HSJ := Lib.hid hsj
    have HO := Lib.hid hO
    have HB := Lib.hid hB
    clear hc hs4 hsj hO hB
    by_cases hjn : j < l1.length
    · have HI : (j : Int) < l1.length := by omega
      have H80 := Lib.hid (HF.out.1.2 j hjn)
      obtain ⟨b, off, rfl, hb, -, a1, -, -, u, a4, hu⟩ := H1.out.cells hjn
      have hb := Lib.hid hb
      have hu := Lib.hid hu
      generalize l1.getD j default = o at *
      go_wp2_with fail
      have hdw : Below wr.heap.size wr wr.drew := (Below.refl _ _).drew
      have HBD := Lib.hid (below_then HB.out hdw)
      have HOD := Lib.hid (HO.out.below hP.out hdw)
      have HFW := Lib.hid (show fewD s from ⟨by have := HS4.out; omega, by have := HSJ.out; have := HF.out.1.1; omega⟩)
      clear hdw
      refine wp_region_plan (S := fun W => Below w.heap.size w W) [(0, true), (1, true), (2, true), (3, true), (4, true), (5, true), (7, true), (8, true), (9, true), (10, true), (11, true), (6, false), (12, false)] (by kernel_rfl) (by kernel_rfl) (by kernel_rfl) (by kernel_rfl) (fun _ _ d _ _ h => by cases d <;> exact h) HBD.out ?_
      generalize wr.drew = yd at *
      refine wkS_take (some 44) (.pointer (some ⟨g, 0, none⟩)) (by kernel_rfl) (by kernel_rfl) (by kernel_rfl) (fun W hS => by kernel_rfl) ?_
      simp only [put_lit, put_non, List.set_cons_zero, List.set_cons_succ]
      refine wkS_take (some 45) (.slice (some ⟨b, off, none⟩) l1.length c1) (by kernel_rfl) (by kernel_rfl) (by kernel_rfl) (fun W hS => by kernel_rfl) ?_
      simp only [put_lit, put_non, List.set_cons_zero, List.set_cons_succ]
      refine wkS_take (some 46) (.int .i64 (j : Int)) (by kernel_rfl) (by kernel_rfl) (by kernel_rfl) (fun W hS => by kernel_rfl) ?_
      simp only [put_lit, put_non, List.set_cons_zero, List.set_cons_succ]
      refine wkS_take (some 47) (.pointer (some ⟨b, off + j * 5, none⟩)) (by kernel_rfl) (by kernel_rfl) (by kernel_rfl) (fun W hS => exec_indexC Try.underlying22 info_op6 45 46 (n := l1.length) (c := c1) (by kernel_rfl) (by kernel_rfl) (by kernel_rfl) hjn) ?_
      simp only [put_lit, put_non, List.set_cons_zero, List.set_cons_succ]
      refine wkS_take (some 48) (.pointer (some ⟨b, off + j * 5 + 1, none⟩)) (by kernel_rfl) (by kernel_rfl) (by kernel_rfl) (fun W hS => exec_op1 47 (by kernel_rfl) (by kernel_rfl)) ?_
      simp only [put_lit, put_non, List.set_cons_zero, List.set_cons_succ]
      refine wkS_take (some 49) (.int .i64 o.at') (by kernel_rfl) (by kernel_rfl) (by kernel_rfl) (fun W hS => exec_loadCell 3 (.tmp 48) ⟨b, off + j * 5 + 1, none⟩ _ _ (by kernel_rfl) (by kernel_rfl) ((hS.cell (p := ⟨b, off + j * 5 + 1, none⟩) hb.out).trans a1) Try.underlying3 rfl) ?_
      simp only [put_lit, put_non, List.set_cons_zero, List.set_cons_succ]
      refine wkS_take (some 51) (.slice (some ⟨b, off, none⟩) l1.length c1) (by kernel_rfl) (by kernel_rfl) (by kernel_rfl) (fun W hS => by kernel_rfl) ?_
      simp only [put_lit, put_non, List.set_cons_zero, List.set_cons_succ]
      refine wkS_take (some 52) (.int .i64 (j : Int)) (by kernel_rfl) (by kernel_rfl) (by kernel_rfl) (fun W hS => by kernel_rfl) ?_
      simp only [put_lit, put_non, List.set_cons_zero, List.set_cons_succ]
      refine wkS_take (some 53) (.pointer (some ⟨b, off + j * 5, none⟩)) (by kernel_rfl) (by kernel_rfl) (by kernel_rfl) (fun W hS => exec_indexC Try.underlying22 info_op6 51 52 (n := l1.length) (c := c1) (by kernel_rfl) (by kernel_rfl) (by kernel_rfl) hjn) ?_
      simp only [put_lit, put_non, List.set_cons_zero, List.set_cons_succ]
      refine wkS_take (some 54) (.pointer (some ⟨b, off + j * 5 + 4, none⟩)) (by kernel_rfl) (by kernel_rfl) (by kernel_rfl) (fun W hS => exec_op4 53 (by kernel_rfl) (by kernel_rfl)) ?_
      simp only [put_lit, put_non, List.set_cons_zero, List.set_cons_succ]
      refine wkS_take (some 55) (u) (by kernel_rfl) (by kernel_rfl) (by kernel_rfl) (fun W hS => exec_loadCell 32 (.tmp 54) ⟨b, off + j * 5 + 4, none⟩ _ _ (by kernel_rfl) (by kernel_rfl) ((hS.cell (p := ⟨b, off + j * 5 + 4, none⟩) hb.out).trans a4) Try.underlying32 rfl) ?_
      simp only [put_lit, put_non, List.set_cons_zero, List.set_cons_succ]
      refine wkS_call (some 50) 18 #[.int .i64 o.at', .int .i64 4] (by kernel_rfl) (by kernel_rfl) (by kernel_rfl) (fun w => (by kernel_rfl)) ?_
      refine (small_c _ o.at' 4 (by omega) (by omega)).mono ?_
      rintro e wz ⟨rfl, rfl⟩
      refine ⟨_, rfl, HBD.out, ?_⟩
      simp only [put_lit, put_non, List.set_cons_zero, List.set_cons_succ]
      obtain ⟨q, eq⟩ : ∃ q, smallS o.at' 4 = q := ⟨_, rfl⟩
      rw [eq]
      refine wkS_call (some 56) 17 #[.pointer (some ⟨g, 0, none⟩), .int .i64 q, u] (by kernel_rfl) (by kernel_rfl) (by kernel_rfl) (fun w => (by kernel_rfl)) ?_
      refine (hP.out.write HOD.out.1 HFW.out q u o.data (hu.out.below HBD.out) (by have := H80.out; omega) (fun hp k hk hF => by have h1 := hu.out.low hp k hk; have h2 := HOD.out.2 k hF; omega)).mono ?_
      rintro e w3 hd
      obtain ⟨rfl, hO, hB⟩ := HOD.out.prog HBD.out.size hd
      have HB2 := Lib.hid (HBD.out.trans hB)
      refine ⟨_, rfl, HB2.out, ?_⟩
      have HO2 := Lib.hid hO
      clear hd hO hB
      simp only [put_lit, put_non, List.set_cons_zero, List.set_cons_succ]
      refine wkS_done ?_
      have HN := Lib.hid (calm_next HC.out q o.data)
      have HL := Lib.hid (write_len s q o.data)
      go_wp2_with fail
      go_roundw
      case rel => exact ⟨j + 1, _, by omega, by go_num, HN.out.1, (congrArg List.length HN.out.2).trans HS4.out, by have := HL.out.2; have := HSJ.out; omega, HO2.out, HB2.out⟩
      case measure => simp [intOf]; omega
    · have HI : ¬ (j : Int) < l1.length := by omega
      have HFW := Lib.hid (show fewD s from ⟨by have := HS4.out; omega, by have := HSJ.out; have := HF.out.1.1; omega⟩)
      have C := hP.out.flush HO.out.1 HFW.out
      rw [calm_flush HC.out] at C
      have C := Lib.hid C
      have HL4 := Lib.hid (show (secs s).length = 4 from (secs_ok (hP.out.ok HO.out.1)).2.trans HS4.out)
      have HC0 := Lib.hid (show calm { s with dur := secs s, pend := [] } from HC.out)
      clear HFW HC HS4 HSJ
      go_wp2_with fail
      refine (C.out).mono ?_
      rintro e w3 hd
      obtain ⟨rfl, hO, hB⟩ := HO.out.prog HB.out.size hd
      have O3 := Lib.hid hO
      have B3 := Lib.hid (HB.out.trans hB)
      clear hd hO hB C HO HB
      go_wp2_with fail
      have hBa : Below w3.heap.size w3 (w3.alloc (.cells #[.slice none 0 0, .slice none 0 0, .slice none 0 0, .slice none 0 0] 45)) := (Below.refl _ _).alloc (Nat.le_refl _) _
      have hBb : Below w3.heap.size w3 ((w3.alloc (.cells #[.slice none 0 0, .slice none 0 0, .slice none 0 0, .slice none 0 0] 45)).alloc (.cells #[.bool false, .bool false, .bool false, .bool false] 46)) := hBa.alloc (Nat.le_of_lt (by show w3.heap.size < (w3.heap.push _).size; simp)) _
      have D5 := Lib.hid (Dur.start (L := secs s) hP.out O3.out)
      have B5 := Lib.hid (below_then B3.out hBb)
      have GA := Lib.hid (B3.out.size)
      rw [show (w3.alloc (.cells #[.slice none 0 0, .slice none 0 0, .slice none 0 0, .slice none 0 0] 45)).heap.size = w3.heap.size + 1 from by show (w3.heap.push _).size = _; simp] at D5
      clear hBa hBb O3 B3
      have GB := Lib.hid (show w.heap.size ≤ w3.heap.size + 1 from Nat.le_trans GA.out (Nat.le_succ _))
      generalize ((w3.alloc (.cells #[.slice none 0 0, .slice none 0 0, .slice none 0 0, .slice none 0 0] 45)).alloc (.cells #[.bool false, .bool false, .bool false, .bool false] 46)) = w5 at *
      generalize w3.heap.size + 1 = gB at *
      generalize w3.heap.size = gA at *
      obtain ⟨s0, es0⟩ : ∃ s0 : DS, ({ s with dur := secs s, pend := [] } : DS) = s0 := ⟨_, rfl⟩
      have hd0 : s0.dur = secs s := by rw [← es0]
      have hp0 : s0.pend = [] := by rw [← es0]
      rw [es0] at D5 HC0
      have HD0 := Lib.hid (show s0.dur.length = 4 by rw [hd0]; exact HL4.out)
      rw [← hd0] at D5
      have HP0 := Lib.hid hp0
      have HS0 := Lib.hid (show secs s0 = s0.dur by unfold secs; rw [hp0]; rfl)
      clear es0 hd0 hp0 HL4
      go_loopw [14] (fun i wr => ∃ (k : Nat) (R : Nat → Value), k ≤ 4 ∧ i = .int .i64 k ∧ Dur D fp wr w.heap.size g gA gB s0 R k s0.dur (fun _ => false) ∧ Below w.heap.size w wr) (fun i _ => 4 - (intOf i).toNat)
      case atStart => exact ⟨0, fun _ => .slice none 0 0, Nat.zero_le _, rfl, D5.out, B5.out⟩
      case round =>
        clear D5 B5
        obtain ⟨k, R, hk4, rfl, hDu, hB⟩ := hrel
        have HDU := Lib.hid hDu
        have HB := Lib.hid hB
        clear hDu hB
        by_cases hkn : k < 4
        · have HI : (k : Int) < 4 := by omega
          have C := hP.out.read HDU.out.one.1 ⟨by have := HD0.out; omega, by rw [HP0.out]; exact Nat.zero_le _⟩ (k : Int)
          rw [calm_read HC0.out (by have := HD0.out; omega), HS0.out] at C
          have C := Lib.hid C
          go_wp2_with fail
          refine (C.out).mono ?_
          rintro e w6 ⟨r, rfl, hr, hB⟩
          obtain ⟨Ar, cr, er⟩ := hr.byt.form
          subst er
          have HDU6 := HDU.out.below hP.out hB
          have ha := Asd.own hP.out HDU.out.one.1 hB hr
          have hn1 : (Value.slice Ar (s0.dur.getD k []).length cr).ownBlock ≠ some gA := fun e => by have h1 := (hr.block gA e).1; have h2 := HDU.out.ltA; omega
          have hn2 : (Value.slice Ar (s0.dur.getD k []).length cr).ownBlock ≠ some gB := fun e => by have h1 := (hr.block gB e).1; have h2 := HDU.out.ltB; omega
          obtain ⟨hcell, hfz⟩ := HDU6.cellA hkn
          have HPA := Lib.hid (HDU6.putA hP.out hkn hr.byt ha hn1 hn2)
          have HB6 := Lib.hid ((below_then HB.out hB).setCell (p := ⟨gA, k, none⟩) GA.out (.slice Ar (s0.dur.getD k []).length cr))
          generalize R k = rk at hcell
          clear hr hB ha hn1 hn2 HDU6 HDU HB C
          go_wp2_with fail
          go_roundw
          case rel => exact ⟨k + 1, _, by omega, by go_num, HPA.out, HB6.out⟩
          case measure => simp [intOf]; omega
        · have HI : ¬ (k : Int) < 4 := by omega
          obtain rfl : 4 = k := by omega
          clear hkn
          go_wp2_with fail
          generalize wr = w4 at *
          go_loopw [15] (fun i wx => ∃ (m : Nat) (s : DS) (wb : Nat → Bool), m ≤ l2.length ∧ i = .int .i64 m ∧ calm s ∧ s.dur = s0.dur ∧ s.pend.length ≤ m ∧ (∀ p ∈ s.pend, wb p.1 = true) ∧ Dur D fp wx w.heap.size g gA gB s R 4 s0.dur wb ∧ Below w.heap.size w wx) (fun i _ => l2.length - (intOf i).toNat)
          case atStart => exact ⟨0, s0, fun _ => false, Nat.zero_le _, rfl, HC0.out, rfl, by rw [HP0.out]; exact Nat.zero_le _, fun p hp => (by rw [HP0.out] at hp; exact (List.not_mem_nil hp).elim), HDU.out, HB.out⟩
          case round =>
            clear HDU HB
            obtain ⟨m, s, wb, hm, rfl, hc, hsd, hsp, hpw, hDu, hB⟩ := hrel
            have HC := Lib.hid hc
            have HSD := Lib.hid hsd
            have HSP := Lib.hid hsp
            have HPW := Lib.hid hpw
            have HDU := Lib.hid hDu
            have HB := Lib.hid hB
            have HFW := Lib.hid (show fewD s from ⟨by rw [hsd]; have := HD0.out; omega, by have := HF.out.2.1; omega⟩)
            clear hc hsd hsp hpw hDu hB
            by_cases hmn : m < l2.length
            · have HI2 : (m : Int) < l2.length := by omega
              have H80 := Lib.hid (HF.out.2.2 m hmn)
              obtain ⟨b, off, rfl, hb, -, a1, -, -, u, a4, hu⟩ := H2.out.cells hmn
              have c1' := (HB.out.cell (p := ⟨b, off + m * 5 + 1, none⟩) hb).trans a1
              have c4' := (HB.out.cell (p := ⟨b, off + m * 5 + 4, none⟩) hb).trans a4
              have HLOW := Lib.hid hu.low
              have HU := Lib.hid (hu.below HB.out)
              clear a1 a4 hb hu
              generalize l2.getD m default = o at *
              have SM := Lib.hid (small_c wr o.at' 4 (by omega) (by omega))
              obtain ⟨q, eq⟩ : ∃ q, smallS o.at' 4 = q := ⟨_, rfl⟩
              rw [eq] at SM
              clear eq
              have C := hP.out.write HDU.out.one.1 HFW.out q u o.data HU.out (by have := H80.out; omega) (fun hp k hk hF => by have h1 := HLOW.out hp k hk; have h2 := HDU.out.one.2 k hF; omega)
              by_cases hfit : fitW s q o.data
              · rw [calm_write HC.out hfit] at C
                have C := Lib.hid C
                obtain ⟨qn, rfl⟩ : ∃ qn : Nat, q = (qn : Int) := ⟨q.toNat, by have := hfit.1; omega⟩
                have hq4 : qn < 4 := by have h1 := hfit.2.1; rw [HSD.out] at h1; have h2 := HD0.out; omega
                have hq4i : (qn : Int) < 4 := by omega
                rw [Int.toNat_natCast] at C
                clear hfit
                go_wp2_with fail
                refine (SM.out).mono ?_
                rintro e wz ⟨rfl, rfl⟩
                clear SM
                go_wp2_with fail
                refine (C.out).mono ?_
                rintro e w7 hd
                obtain ⟨rfl, hD7, hB7⟩ := HDU.out.prog HB.out.size hd
                obtain ⟨hcell, hfz⟩ := hD7.cellB hq4
                have HPB := Lib.hid (hD7.putB hP.out hq4)
                have HB7 := Lib.hid ((HB.out.trans hB7).setCell (p := ⟨gB, qn, none⟩) GB.out (.bool true))
                generalize wb qn = x0 at hcell
                clear hD7 hB7 hd HDU HB C c1' c4' HU
                go_wp2_with fail
                go_roundw
                case rel =>
                  refine ⟨m + 1, ({ s with pend := s.pend ++ [(qn, padS o.data)] } : DS), (fun k => if k = qn then true else wb k), by omega, by go_num, ⟨HC.out.1, HC.out.2⟩, HSD.out, ?_, fun p hp => ?_, HPB.out, HB7.out⟩
                  · have := HSP.out
                    simp
                    omega
                  · rcases List.mem_append.1 hp with hp | hp
                    · have := HPW.out p hp
                      by_cases e : p.1 = qn
                      · simp [e]
                      · simp [e, this]
                    · obtain rfl := List.mem_singleton.1 hp
                      simp
                case measure => simp [intOf]; omega
              · have hbad := calm_bad HC.out hfit
                obtain ⟨er, hr⟩ : ∃ r, (writeS s q o.data).1 = r := ⟨_, rfl⟩
                rw [hr, hbad.2] at C
                have hne : (er == 0) = false := by rw [← hr]; exact beq_eq_false_iff_ne.2 hbad.1
                have C := Lib.hid C
                clear hbad hr hfit
                go_wp2_with fail
                refine (SM.out).mono ?_
                rintro e wz ⟨rfl, rfl⟩
                clear SM
                go_wp2_with fail
                refine (C.out).mono ?_
                rintro e w7 hd
                obtain ⟨rfl, hD7, hB7⟩ := HDU.out.prog HB.out.size hd
                have HPB := Lib.hid hD7
                have HB7 := Lib.hid (HB.out.trans hB7)
                clear hD7 hB7 hd HDU HB C c1' c4' HU
                go_wp2_with fail
                go_roundw
                case rel => exact ⟨m + 1, s, wb, by omega, by go_num, HC.out, HSD.out, by have := HSP.out; omega, HPW.out, HPB.out, HB7.out⟩
                case measure => simp [intOf]; omega
            · have HI2 : ¬ (m : Int) < l2.length := by omega
              have C := Lib.hid (hP.out.crash HDU.out.one.1 HFW.out keep torn HK.out)
              go_wp2_with fail
              refine (C.out).mono ?_
              rintro e w7 hd
              obtain ⟨rfl, hD7, hB7⟩ := HDU.out.prog HB.out.size hd
              have D7 := Lib.hid hD7
              have B7 := Lib.hid (HB.out.trans hB7)
              have C2 := Lib.hid (hP.out.power D7.out.one.1)
              clear hd hD7 hB7 HDU HB C
              go_wp2_with fail
              refine (C2.out).mono ?_
              rintro e w8 hd
              obtain ⟨rfl, hD8, hB8⟩ := D7.out.prog B7.out.size hd
              have B8 := Lib.hid (B7.out.trans hB8)
              obtain ⟨s2, es2⟩ : ∃ s2, powerS (crashS s keep torn) = s2 := ⟨_, rfl⟩
              rw [es2] at hD8
              have D8 := Lib.hid hD8
              have HC2 := Lib.hid (show calm s2 by rw [← es2]; exact ⟨rfl, rfl⟩)
              have HP2 := Lib.hid (show s2.pend = [] by rw [← es2]; rfl)
              have HS2 := Lib.hid (show secs s2 = s2.dur by unfold secs; rw [HP2.out]; rfl)
              have HE2 := Lib.hid (show s2.dur = crashL keep (lastS keep s.pend.length) torn s.dur 0 s.pend by rw [← es2]; rfl)
              have HL2 := Lib.hid (show s2.dur.length = 4 by rw [HE2.out, crashL_length, HSD.out]; exact HD0.out)
              have HQ2 := Lib.hid (show ∀ q, wb q = false → s2.dur.getD q [] = s0.dur.getD q [] from fun q hq => by
                rw [HE2.out, crash_apart keep _ torn q _ _ _ (fun p hp e => by have := HPW.out p hp; rw [e, hq] at this; cases this), HSD.out])
              clear hd hD8 hB8 D7 B7 C2 es2
              go_wp2_with fail
              generalize wr = wq at *
              clear HI2 hmn
              go_loopw [17] (fun i wx => ∃ k : Nat, k ≤ 4 ∧ i = .int .i64 k ∧ Dur D fp wx w.heap.size g gA gB s2 R 4 s0.dur wb ∧ Below w.heap.size w wx) (fun i _ => 4 - (intOf i).toNat)
              case atStart => exact ⟨0, Nat.zero_le _, rfl, D8.out, B8.out⟩
              case round =>
                clear D8 B8
                obtain ⟨k, hk4, rfl, hDu, hB⟩ := hrel
                have HDU := Lib.hid hDu
                have HB := Lib.hid hB
                clear hDu hB
                by_cases hkn : k < 4
                · have HI3 : (k : Int) < 4 := by omega
                  have C := hP.out.read HDU.out.one.1 ⟨by have := HL2.out; omega, by rw [HP2.out]; exact Nat.zero_le _⟩ (k : Int)
                  rw [calm_read HC2.out (by have := HL2.out; omega), HS2.out] at C
                  have C := Lib.hid C
                  go_wp2_with fail
                  refine (C.out).mono ?_
                  rintro e w9 ⟨r, rfl, hr, hB⟩
                  have HDU9 := Lib.hid (HDU.out.below hP.out hB)
                  have HB9 := Lib.hid (below_then HB.out hB)
                  have HBY := Lib.hid hr.byt
                  clear hr hB HDU HB C
                  go_wp2_with fail
                  have hdw : Below w9.heap.size w9 w9.drew := (Below.refl _ _).drew
                  have HDZ := Lib.hid (HDU9.out.below hP.out hdw)
                  have HBZ := Lib.hid (below_then HB9.out hdw)
                  have HYZ := Lib.hid (HBY.out.below hdw)
                  clear hdw HDU9 HB9 HBY
                  cases hwb : wb k with
                  | true =>
                    have HCB := Lib.hid (show (w9.drew).cell? ⟨gB, k, none⟩ = some (.bool true) by rw [← hwb]; exact (HDZ.out.cellB hkn).1)
                    refine wp_region_plan (S := fun W => W = w9.drew) [(0, true), (1, true), (2, true), (3, true), (4, true), (5, true), (6, true), (7, true), (8, true), (9, true), (10, true), (11, true), (12, true), (13, true), (14, true), (15, true), (16, true)] (by kernel_rfl) (by kernel_rfl) (by kernel_rfl) (by kernel_rfl) (fun _ _ d _ _ h => by cases d <;> exact h) rfl ?_
                    generalize w9.drew = yd at *
                    refine wkS_take (some 111) (.int .i64 0) (by kernel_rfl) (by kernel_rfl) (by kernel_rfl) (fun W hS => by kernel_rfl) ?_
                    simp only [put_lit, put_non, List.set_cons_zero, List.set_cons_succ]
                    refine wkS_take (some 112) (.bool false) (by kernel_rfl) (by kernel_rfl) (by kernel_rfl) (fun W hS => by kernel_rfl) ?_
                    simp only [put_lit, put_non, List.set_cons_zero, List.set_cons_succ]
                    refine wkS_take (some 113) (.bool false) (by kernel_rfl) (by kernel_rfl) (by kernel_rfl) (fun W hS => by kernel_rfl) ?_
                    simp only [put_lit, put_non, List.set_cons_zero, List.set_cons_succ]
                    refine wkS_take (some 114) (.int .i64 (k : Int)) (by kernel_rfl) (by kernel_rfl) (by kernel_rfl) (fun W hS => by kernel_rfl) ?_
                    simp only [put_lit, put_non, List.set_cons_zero, List.set_cons_succ]
                    refine wkS_take (some 115) (.pointer (some ⟨gB, k, none⟩)) (by kernel_rfl) (by kernel_rfl) (by kernel_rfl) (fun W hS => exec_arrB 13 114 (by kernel_rfl) (by kernel_rfl) (by kernel_rfl) hkn) ?_
                    simp only [put_lit, put_non, List.set_cons_zero, List.set_cons_succ]
                    refine wkS_take (some 116) (.bool true) (by kernel_rfl) (by kernel_rfl) (by kernel_rfl) (fun W hS => exec_loadCell 4 (.tmp 115) ⟨gB, k, none⟩ _ _ (by kernel_rfl) (by kernel_rfl) (by rw [hS]; exact HCB.out) Try.underlying4 rfl) ?_
                    simp only [put_lit, put_non, List.set_cons_zero, List.set_cons_succ]
                    refine wkS_take (some 117) (.bool false) (by kernel_rfl) (by kernel_rfl) (by kernel_rfl) (fun W hS => by kernel_rfl) ?_
                    simp only [put_lit, put_non, List.set_cons_zero, List.set_cons_succ]
                    refine wkS_take (some 118) (.bool false) (by kernel_rfl) (by kernel_rfl) (by kernel_rfl) (fun W hS => by kernel_rfl) ?_
                    simp only [put_lit, put_non, List.set_cons_zero, List.set_cons_succ]
                    refine wkS_skip (some 119) (by kernel_rfl) (by kernel_rfl) (by kernel_rfl) ?_
                    simp only [put_lit, put_non, List.set_cons_zero, List.set_cons_succ]
                    refine wkS_skip (some 120) (by kernel_rfl) (by kernel_rfl) (by kernel_rfl) ?_
                    simp only [put_lit, put_non, List.set_cons_zero, List.set_cons_succ]
                    refine wkS_skip (some 121) (by kernel_rfl) (by kernel_rfl) (by kernel_rfl) ?_
                    simp only [put_lit, put_non, List.set_cons_zero, List.set_cons_succ]
                    refine wkS_skip (some 122) (by kernel_rfl) (by kernel_rfl) (by kernel_rfl) ?_
                    simp only [put_lit, put_non, List.set_cons_zero, List.set_cons_succ]
                    refine wkS_skip (some 123) (by kernel_rfl) (by kernel_rfl) (by kernel_rfl) ?_
                    simp only [put_lit, put_non, List.set_cons_zero, List.set_cons_succ]
                    refine wkS_skip (some 124) (by kernel_rfl) (by kernel_rfl) (by kernel_rfl) ?_
                    simp only [put_lit, put_non, List.set_cons_zero, List.set_cons_succ]
                    refine wkS_skip (some 125) (by kernel_rfl) (by kernel_rfl) (by kernel_rfl) ?_
                    simp only [put_lit, put_non, List.set_cons_zero, List.set_cons_succ]
                    refine wkS_take (some 126) (.bool false) (by kernel_rfl) (by kernel_rfl) (by kernel_rfl) (fun W hS => by kernel_rfl) ?_
                    simp only [put_lit, put_non, List.set_cons_zero, List.set_cons_succ]
                    refine wkS_take (some 127) (.bool false) (by kernel_rfl) (by kernel_rfl) (by kernel_rfl) (fun W hS => by kernel_rfl) ?_
                    simp only [put_lit, put_non, List.set_cons_zero, List.set_cons_succ]
                    refine wkS_done ?_
                    go_wp2_with fail
                    go_roundw
                    case rel => exact ⟨k + 1, by omega, by go_num, HDZ.out, HBZ.out⟩
                    case measure => simp [intOf]; omega
                  | false =>
                    have HCB := Lib.hid (show (w9.drew).cell? ⟨gB, k, none⟩ = some (.bool false) by rw [← hwb]; exact (HDZ.out.cellB hkn).1)
                    have HCA := Lib.hid (HDZ.out.cellA hkn).1
                    have HRB := Lib.hid (HDZ.out.told k hkn).1
                    have HRE := HQ2.out k hwb
                    rw [HRE] at HYZ
                    generalize s0.dur.getD k [] = zs at HYZ HRB
                    refine wp_region_plan (S := fun W => W = w9.drew) [(0, true), (1, true), (2, true), (3, true), (4, true), (5, true), (6, true), (7, true), (8, true), (9, true), (10, true), (11, true), (12, true), (13, true), (14, true), (15, true), (16, true)] (by kernel_rfl) (by kernel_rfl) (by kernel_rfl) (by kernel_rfl) (fun _ _ d _ _ h => by cases d <;> exact h) rfl ?_
                    generalize w9.drew = yd at *
                    refine wkS_take (some 111) (.int .i64 0) (by kernel_rfl) (by kernel_rfl) (by kernel_rfl) (fun W hS => by kernel_rfl) ?_
                    simp only [put_lit, put_non, List.set_cons_zero, List.set_cons_succ]
                    refine wkS_take (some 112) (.bool false) (by kernel_rfl) (by kernel_rfl) (by kernel_rfl) (fun W hS => by kernel_rfl) ?_
                    simp only [put_lit, put_non, List.set_cons_zero, List.set_cons_succ]
                    refine wkS_take (some 113) (.bool false) (by kernel_rfl) (by kernel_rfl) (by kernel_rfl) (fun W hS => by kernel_rfl) ?_
                    simp only [put_lit, put_non, List.set_cons_zero, List.set_cons_succ]
                    refine wkS_take (some 114) (.int .i64 (k : Int)) (by kernel_rfl) (by kernel_rfl) (by kernel_rfl) (fun W hS => by kernel_rfl) ?_
                    simp only [put_lit, put_non, List.set_cons_zero, List.set_cons_succ]
                    refine wkS_take (some 115) (.pointer (some ⟨gB, k, none⟩)) (by kernel_rfl) (by kernel_rfl) (by kernel_rfl) (fun W hS => exec_arrB 13 114 (by kernel_rfl) (by kernel_rfl) (by kernel_rfl) hkn) ?_
                    simp only [put_lit, put_non, List.set_cons_zero, List.set_cons_succ]
                    refine wkS_take (some 116) (.bool false) (by kernel_rfl) (by kernel_rfl) (by kernel_rfl) (fun W hS => exec_loadCell 4 (.tmp 115) ⟨gB, k, none⟩ _ _ (by kernel_rfl) (by kernel_rfl) (by rw [hS]; exact HCB.out) Try.underlying4 rfl) ?_
                    simp only [put_lit, put_non, List.set_cons_zero, List.set_cons_succ]
                    refine wkS_take (some 117) (.bool true) (by kernel_rfl) (by kernel_rfl) (by kernel_rfl) (fun W hS => by kernel_rfl) ?_
                    simp only [put_lit, put_non, List.set_cons_zero, List.set_cons_succ]
                    refine wkS_take (some 118) (.bool true) (by kernel_rfl) (by kernel_rfl) (by kernel_rfl) (fun W hS => by kernel_rfl) ?_
                    simp only [put_lit, put_non, List.set_cons_zero, List.set_cons_succ]
                    refine wkS_take (some 119) (r) (by kernel_rfl) (by kernel_rfl) (by kernel_rfl) (fun W hS => by kernel_rfl) ?_
                    simp only [put_lit, put_non, List.set_cons_zero, List.set_cons_succ]
                    refine wkS_take (some 120) (.string ⟨zs.toArray⟩) (by kernel_rfl) (by kernel_rfl) (by kernel_rfl) (fun W hS => exec_strB (u := r) 119 (by rw [hS]; exact HYZ.out) (by kernel_rfl) (by kernel_rfl)) ?_
                    simp only [put_lit, put_non, List.set_cons_zero, List.set_cons_succ]
                    refine wkS_take (some 121) (.int .i64 (k : Int)) (by kernel_rfl) (by kernel_rfl) (by kernel_rfl) (fun W hS => by kernel_rfl) ?_
                    simp only [put_lit, put_non, List.set_cons_zero, List.set_cons_succ]
                    refine wkS_take (some 122) (.pointer (some ⟨gA, k, none⟩)) (by kernel_rfl) (by kernel_rfl) (by kernel_rfl) (fun W hS => exec_arrA 12 121 (by kernel_rfl) (by kernel_rfl) (by kernel_rfl) hkn) ?_
                    simp only [put_lit, put_non, List.set_cons_zero, List.set_cons_succ]
                    refine wkS_take (some 123) (R k) (by kernel_rfl) (by kernel_rfl) (by kernel_rfl) (fun W hS => exec_loadCell 32 (.tmp 122) ⟨gA, k, none⟩ _ _ (by kernel_rfl) (by kernel_rfl) (by rw [hS]; exact HCA.out) Try.underlying32 rfl) ?_
                    simp only [put_lit, put_non, List.set_cons_zero, List.set_cons_succ]
                    refine wkS_take (some 124) (.string ⟨zs.toArray⟩) (by kernel_rfl) (by kernel_rfl) (by kernel_rfl) (fun W hS => exec_strB (u := R k) 123 (by rw [hS]; exact HRB.out) (by kernel_rfl) (by kernel_rfl)) ?_
                    simp only [put_lit, put_non, List.set_cons_zero, List.set_cons_succ]
                    refine wkS_take (some 125) (.bool false) (by kernel_rfl) (by kernel_rfl) (by kernel_rfl) (fun W hS => exec_neqStr 120 124 ⟨zs.toArray⟩ (by kernel_rfl) (by kernel_rfl) (by kernel_rfl)) ?_
                    simp only [put_lit, put_non, List.set_cons_zero, List.set_cons_succ]
                    refine wkS_take (some 126) (.bool false) (by kernel_rfl) (by kernel_rfl) (by kernel_rfl) (fun W hS => by kernel_rfl) ?_
                    simp only [put_lit, put_non, List.set_cons_zero, List.set_cons_succ]
                    refine wkS_take (some 127) (.bool false) (by kernel_rfl) (by kernel_rfl) (by kernel_rfl) (fun W hS => by kernel_rfl) ?_
                    simp only [put_lit, put_non, List.set_cons_zero, List.set_cons_succ]
                    refine wkS_done ?_
                    go_wp2_with fail
                    go_roundw
                    case rel => exact ⟨k + 1, by omega, by go_num, HDZ.out, HBZ.out⟩
                    case measure => simp [intOf]; omega
                · have HI3 : ¬ (k : Int) < 4 := by omega
                  have C := hP.out.pending HDU.out.one.1
                  rw [HP2.out] at C
                  have C := Lib.hid C
                  go_wp2_with fail
                  refine (C.out).mono ?_
                  rintro e w9 ⟨rfl, hB⟩
                  have HB9 := Lib.hid (below_then HB.out hB)
                  clear hB HDU HB C
                  go_wp2_with fail
                  refine (known6_c hP.out w9).mono ?_
                  rintro e w10 ⟨rfl, hB⟩
                  have HB10 := Lib.hid (below_then HB9.out hB)
                  clear hB HB9
                  go_wp2_with fail
                  go_ret
                  exact ⟨rfl, HB10.out⟩
end
end Go.Proofs.Ythknlimhenbhfaa

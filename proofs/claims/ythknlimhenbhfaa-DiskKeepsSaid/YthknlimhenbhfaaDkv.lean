/- The reference's disk: Write. -/
import Derived.Test.YthknlimhenbhfaaDkw
namespace Go.Proofs.Ythknlimhenbhfaa
set_option linter.unusedSimpArgs false
open Go.RowKit Dig
set_option linter.unusedVariables false
section
variable {w w' : World} {g : Nat} {s : DS} {vb : Value} {bs : List UInt8}
set_option maxRecDepth 20000 in
set_option maxHeartbeats 4000000 in
theorem rwrite_c (h : DskR w g s) (hn : s.dur.length ≤ 10000) (hp : s.pend.length ≤ 1000) (at' : Int) (hb : Byt w vb bs) (hl : bs.length ≤ 1000000) : Calls Try.prog 29 #[.pointer (some ⟨g, 0, none⟩), .int .i64 at', vb] w (RDk w g (.int .i64 (writeS s at' bs).1) (writeS s at' bs).2) := by
  have H := Lib.hid h
  have F := Lib.hid (rfails_c h)
  have HBY := Lib.hid hb
  obtain ⟨B, bc, rfl⟩ := hb.form
  obtain ⟨_, v1, v2, hc, hd, _⟩ := h
  obtain ⟨A1, c1, rfl⟩ := hd.form
  obtain ⟨c0, -, c2, -, -⟩ := hc.cells
  have hni : (s.dur.length : Int) ≤ 10000 := by omega
  have hli : (bs.length : Int) ≤ 1000000 := by omega
  have HN := Lib.hid hn
  have HP := Lib.hid hp
  unfold writeS badS
  clear hc hd hn hp hb hl
  by_cases ho : s.off = true
  · rw [if_pos ho, if_pos (by decide)]
    rw [ho] at c2
    clear ho F
    go_enter Try.func29, Try.ntmps29
    go_wp2_with fail
    go_ret
    exact ⟨rfl, H.out, World.grownBy.refl _ _, Feet.refl _ _⟩
  · rw [if_neg ho]
    have ho' : s.off = false := by simpa using ho
    rw [ho'] at c2
    by_cases hbd : at' < 0 ∨ (s.dur.length : Int) ≤ at'
    · rw [if_pos hbd, if_pos (by decide)]
      by_cases h0 : at' < 0
      · clear ho ho' hbd F
        go_enter Try.func29, Try.ntmps29
        go_wp2_with fail
        go_ret
        exact ⟨rfl, H.out, World.grownBy.refl _ _, Feet.refl _ _⟩
      · have h1 : at' ≥ (s.dur.length : Int) := by omega
        clear ho ho' hbd F
        obtain ⟨n, en⟩ : ∃ n, s.dur.length = n := ⟨_, rfl⟩
        rw [en] at *
        clear en
        go_enter Try.func29, Try.ntmps29
        go_wp2_with fail
        go_ret
        exact ⟨rfl, H.out, World.grownBy.refl _ _, Feet.refl _ _⟩
    · rw [if_neg hbd]
      have h0 : ¬ at' < 0 := by omega
      have h1 : ¬ at' ≥ (s.dur.length : Int) := by omega
      have HBD := Lib.hid hbd
      obtain ⟨n, en⟩ : ∃ n, s.dur.length = n := ⟨_, rfl⟩
      have EN := Lib.hid en
      rw [en] at c0 hni h1
      clear en
      by_cases h64 : 64 < bs.length
      · rw [if_pos h64, if_pos (by decide)]
        have h64i : (64 : Int) < bs.length := by omega
        clear ho ho' hbd F h64
        generalize bs.length = l at *
        go_enter Try.func29, Try.ntmps29
        go_wp2_with fail
        go_ret
        exact ⟨rfl, H.out, World.grownBy.refl _ _, Feet.refl _ _⟩
      · rw [if_neg h64, if_neg (by decide)]
        have h64i : ¬ (64 : Int) < bs.length := by omega
        have H64 := Lib.hid h64
        have hsame := Lib.hid (failsS_same s)
        generalize hf : (failsS s).1 = f at F ⊢
        generalize hs1 : (failsS s).2 = s1 at F hsame ⊢
        cases f with
        | true =>
          rw [if_pos rfl]
          clear ho ho' hf hs1 hbd h64
          generalize bs.length = l at *
          go_enter Try.func29, Try.ntmps29
          go_wp2_with fail
          refine (F.out).mono ?_
          rintro e w1 ⟨rfl, hD, hG, hF⟩
          have HD := Lib.hid hD
          have HG := Lib.hid hG
          have HF := Lib.hid hF
          clear hD hG hF c2
          go_wp2_with fail
          go_ret
          exact ⟨rfl, HD.out, HG.out, HF.out⟩
        | false =>
          rw [if_neg (by decide)]
          clear ho ho' hf hs1 hbd h64
          go_enter Try.func29, Try.ntmps29
          go_wp2_with fail
          refine (F.out).mono ?_
          rintro e w1 ⟨rfl, hD, hG, hF⟩
          have HD := Lib.hid hD
          have HG := Lib.hid hG
          have HF := Lib.hid hF
          have HBW := Lib.hid (HBY.out.besideD H.out hG)
          clear hD hG hF c2 c0
          go_wp2_with (first | ((with_reducible refine wp_buildP (z := at') ?hgd 33 ?ho ?hx ?_); (case hgd => rfl); (case ho => rfl); (case hx => rfl)) | ((with_reducible refine wp_allocC zero_penV rfl rfl ?_); intro w2 hA hB2; have HA2 := Lib.hid hA; have B2 := Lib.hid hB2; clear hA hB2) | ((with_reducible refine wp_storeC (T := 74) (e := 74) (g := w1.heap.size) (cur := (pen1 0 Z64).toArray) (cs := pen1 at' Z64) ?hi ?hg ?hl ?h1 ?hgd 7 34 ?ho ?hx ?hy ?_); (case hgd => rfl); (case ho => rfl); (case hi => exact size_pen Z64_length); (case hg => exact HA2.out); (case hl => rw [pen1_length Z64_length, List.size_toArray, pen1_length Z64_length]); (case h1 => exact pen1_one _ _); (case hx => rfl); (case hy => rfl); intro w3 hC hG3; have HC3 := Lib.hid hC; have HG3 := Lib.hid hG3; clear hC hG3))
          have BW := Lib.hid (Below.grown (row := some w1.heap.size) B2.out HG3.out B2.out.size (fun k e => by injection e with e; omega))
          go_loopw [8] (fun i wr => ∃ j : Nat, j ≤ bs.length ∧ i = .int .i64 j ∧ wr.heap[w1.heap.size]? = some (.cells (pen1 at' (fillS bs j)).toArray 74 (0, 0)) ∧ Below w1.heap.size w1 wr) (fun i _ => bs.length - (intOf i).toNat)
          case atStart => exact ⟨0, Nat.zero_le _, rfl, by rw [fillS_zero]; exact HC3.out, BW.out⟩
          case round =>
            obtain ⟨j, hj, rfl, hR, hB⟩ := hrel
            by_cases hjb : j < bs.length
            · have HJ : (j : Int) < bs.length := by omega
              have hbl : bs.length ≤ 64 := by have := H64.out; omega
              obtain ⟨b, off, rfl, hb, hcell⟩ := (HBW.out.below hB).cells (by omega)
              have hcj := hcell j hjb
              obtain ⟨hpc, hpf⟩ := pen_cell hR (j := j) (by rw [fillS_length hj hbl]; omega)
              have hput := pen_put hR j (bs.getD j 0) _ rfl
              rw [fillS_set hjb hbl] at hput
              generalize (bs.getD j 0).toNat = q at hcj hput
              generalize ((fillS bs j).getD j 0).toNat = q0 at hpc
              have HPT := Lib.hid hput
              have HBN := Lib.hid (hB.setCell (p := ⟨w1.heap.size, 1 + j, none⟩) (Nat.le_refl _) (.int .u8 (q : Int)))
              clear hput hR hB hcell hbl
              go_wp2_with fail
              go_roundw
              case rel => exact ⟨j + 1, by omega, by go_num, HPT.out, HBN.out⟩
              case measure => simp [intOf]; omega
            · have HJ : ¬ (j : Int) < bs.length := by omega
              have e : j = bs.length := by omega
              rw [e, fillS_all] at hR
              have HR := Lib.hid hR
              have HBR := Lib.hid hB
              have H64' : (padS bs).length = 64 := padS_length (by have := H64.out; omega)
              have HPM := Lib.hid (show s.pend.length ≤ 1000 from HP.out)
              have hwp : at'.toNat < s1.dur.length ∧ (padS bs).length = 64 := ⟨by rw [hsame.out.1]; have := HBD.out; omega, H64'⟩
              have HWP := Lib.hid hwp
              have hat : ((at'.toNat : Nat) : Int) = at' := by have := HBD.out; omega
              have HAT := Lib.hid hat
              have hsp := hsame.out.2
              have HSP := Lib.hid hsp
              clear hR hB hwp hat hsp
              go_wp2_with fail
              refine hk_begin (S := fun w' => w'.heap[w1.heap.size]? = some (.cells (pen1 at' (padS bs)).toArray 74 (0, 0))) 13 (by kernel_rfl) (by kernel_rfl) ?_
              have HDW := HD.out.below (HBR.out.drew)
              have HP0 : wr.drew.heap[w1.heap.size]? = some (.cells (pen1 at' (padS bs)).toArray 74 (0, 0)) := HR.out
              have hB1 := HBR.out.drew
              have hgw1 := HD.out.lt
              generalize wr.drew = yd at HDW HP0 hB1 ⊢
              have FIN := Lib.hid (fun (y : World) (r : Value) (hB : Below yd.heap.size yd y) (ho : y.ownsRow yd.heap.size 74 65 r (s.pend.length + 1) (penC s.pend ++ pen1 at' (padS bs))) => show DskR (y.setCell ⟨g, 1, none⟩ r) g { dur := s1.dur, pend := s.pend ++ [(at'.toNat, padS bs)], off := s1.off, armed := s1.armed, left := s1.left } ∧ w.grownBy (y.setCell ⟨g, 1, none⟩ r) (some g) ∧ Feet w (y.setCell ⟨g, 1, none⟩ r) g from by
                have h := HD.out.pended (w2 := y) (r := r) (base := yd.heap.size) (p := (at'.toNat, padS bs)) (below_then hB1 hB) (Nat.lt_of_lt_of_le hgw1 hB1.size) (by rw [HSP.out, penC_snoc, HAT.out]; exact ho) HWP.out
                rw [HSP.out] at h
                exact ⟨h.1, grown_trans HG.out h.2.1, HF.out.trans (h.2.2 hB1.size) HG.out.size⟩)
              obtain ⟨_, u1, u2, hdc, _, hcu, _⟩ := HDW
              rw [HSP.out] at hcu
              obtain ⟨A2, c2, rfl⟩ := hcu.form
              obtain ⟨-, d1, -, -, -⟩ := hdc.cells
              have dz := hdc.thaw 1
              have hgy := hdc.lt
              have hgp0 : w1.heap.size < yd.heap.size := lt_of_heap HP0
              have hgpg : (w1.heap.size : Nat) ≠ g := by omega
              have CU := Lib.hid hcu
              have BK0 := Below.refl yd.heap.size yd
              obtain ⟨m, em⟩ : ∃ m, s.pend.length = m := ⟨_, rfl⟩
              rw [em] at d1 CU FIN HPM
              clear hdc hcu em hB1
              -- REGION 14
              refine hk_take (i := 0) (some 48) (.pointer (some ⟨g, 0, none⟩)) (by kernel_rfl) (by kernel_rfl) (by kernel_rfl) (by kernel_rfl) (by kernel_rfl) (by kernel_rfl) (fun W hS => by kernel_rfl) (fun _ _ d _ _ h => by cases d <;> exact h) ((BK0.block _ hgp0).trans HP0) ?_
              simp only [put_lit, put_non, List.set_cons_zero, List.set_cons_succ]
              refine hk_take (i := 2) (some 50) (.pointer (some ⟨g, 0, none⟩)) (by kernel_rfl) (by kernel_rfl) (by kernel_rfl) (by kernel_rfl) (by kernel_rfl) (by kernel_rfl) (fun W hS => by kernel_rfl) (fun _ _ d _ _ h => by cases d <;> exact h) ((BK0.block _ hgp0).trans HP0) ?_
              simp only [put_lit, put_non, List.set_cons_zero, List.set_cons_succ]
              refine hk_take (i := 3) (some 51) (.pointer (some ⟨g, 0, none⟩)) (by kernel_rfl) (by kernel_rfl) (by kernel_rfl) (by kernel_rfl) (by kernel_rfl) (by kernel_rfl) (fun W hS => by kernel_rfl) (fun _ _ d _ _ h => by cases d <;> exact h) ((BK0.block _ hgp0).trans HP0) ?_
              simp only [put_lit, put_non, List.set_cons_zero, List.set_cons_succ]
              refine hk_take (i := 4) (some 52) (.pointer (some ⟨g, 1, none⟩)) (by kernel_rfl) (by kernel_rfl) (by kernel_rfl) (by kernel_rfl) (by kernel_rfl) (by kernel_rfl) (fun W hS => by kernel_rfl) (fun _ _ d _ _ h => by cases d <;> exact h) ((BK0.block _ hgp0).trans HP0) ?_
              simp only [put_lit, put_non, List.set_cons_zero, List.set_cons_succ]
              refine hk_take (i := 7) (some 55) (.agg (pen1 at' (padS bs)).toArray) (by kernel_rfl) (by kernel_rfl) (by kernel_rfl) (by kernel_rfl) (by kernel_rfl) (by kernel_rfl) (fun W hS => exec_loadRow 74 (.tmp 7) w1.heap.size _ _ (by kernel_rfl) (by kernel_rfl) hS Try.underlying74 rfl (by rw [List.size_toArray]; exact size_pen H64')) (fun _ _ d _ _ h => by cases d <;> exact h) ((BK0.block _ hgp0).trans HP0) ?_
              simp only [put_lit, put_non, List.set_cons_zero, List.set_cons_succ]
              refine hk_three (i := 1) (j := 5) (k := 8) (by kernel_rfl) ?_ ?_ ?_
              · skip
                obtain ⟨y1, e1⟩ : ∃ y, y = yd.alloc (.cells #[] 74) := ⟨_, rfl⟩
                have hBa : Below yd.heap.size yd y1 := by rw [e1]; exact (Below.refl _ _).alloc (Nat.le_refl _) _
                have hlt1 : yd.heap.size < y1.heap.size := by rw [e1]; show _ < (yd.heap.push _).size; simp
                have BK1 := BK0.trans (hBa.mono BK0.size)
                have o1 : y1.ownsRow yd.heap.size 74 65 (.slice (some ⟨yd.heap.size, 0, none⟩) 0 0) 0 [] := by rw [e1]; exact World.ownsRow_made yd #[] 0 BK0.size (by unfold maxLen; omega) (by simp)
                clear hBa
                refine op_do (some 49) (.slice (some ⟨yd.heap.size, 0, none⟩) 0 0) y1 (by kernel_rfl) (by kernel_rfl) (by kernel_rfl) (by rw [e1]; exact exec_noneC Try.underlying62 info_pen (by kernel_rfl)) ?_
                refine ⟨((BK1.block _ hgp0).trans HP0), ?_⟩
                simp only [put_lit, put_non, List.set_cons_zero, List.set_cons_succ]
                refine hk_two (i := 5) (j := 8) (by kernel_rfl) ?_ ?_
                · skip
                  refine op_do (some 53) (.slice A2 m c2) y1 (by kernel_rfl) (by kernel_rfl) (by kernel_rfl) (exec_loadCell 62 (.tmp 52) ⟨g, 1, none⟩ _ _ (by kernel_rfl) (by kernel_rfl) (by rw [BK1.cell (p := ⟨g, 1, none⟩) hgy]; exact d1) Try.underlying62 rfl) ?_
                  refine ⟨((BK1.block _ hgp0).trans HP0), ?_⟩
                  simp only [put_lit, put_non, List.set_cons_zero, List.set_cons_succ]
                  refine hk_two (i := 6) (j := 8) (by kernel_rfl) ?_ ?_
                  · skip
                    refine op_appendC Try.underlying62 zero_penV (pen1_length Z64_length) (by omega) (by omega) (some 54) 49 53 (by kernel_rfl) (by kernel_rfl) (by kernel_rfl) (by kernel_rfl) yd.heap.size (.slice (some ⟨yd.heap.size, 0, none⟩) 0 0) 0 [] (by kernel_rfl) o1 (.slice A2 m c2) m (penC s.pend) (by kernel_rfl) (CU.out.below BK1) (penC_one _) (by have := HPM.out; omega) BK1.size ?_
                    intro v2 y2 o2 hg
                    have BK2 := BK1.grown hg BK1.size (fun k e => (o1.lt k e).1)
                    clear hg o1
                    refine ⟨((BK2.block _ hgp0).trans HP0), ?_⟩
                    simp only [put_lit, put_non, List.set_cons_zero, List.set_cons_succ]
                    refine hk_one (i := 8) (by kernel_rfl) ?_
                    obtain ⟨y3, e3⟩ : ∃ y, y = y2.alloc (.cells (pen1 at' (padS bs)).toArray 74) := ⟨_, rfl⟩
                    have hBa : Below y2.heap.size y2 y3 := by rw [e3]; exact (Below.refl _ _).alloc (Nat.le_refl _) _
                    have hlt3 : y2.heap.size < y3.heap.size := by rw [e3]; show _ < (y2.heap.push _).size; simp
                    have BK3 := BK2.trans (hBa.mono BK2.size)
                    have o2 := own_below o2 hBa (Nat.le_refl _)
                    have k3 : Cel y3 (.slice (some ⟨y2.heap.size, 0, none⟩) 1 1) 65 1 (pen1 at' (padS bs)) := by rw [e3]; exact cel_one y2 74 (pen1_length H64')
                    clear hBa
                    refine op_do (some 56) (.slice (some ⟨y2.heap.size, 0, none⟩) 1 1) y3 (by kernel_rfl) (by kernel_rfl) (by kernel_rfl) (by rw [e3]; exact exec_oneC Try.underlying62 zero_penV (by omega) (by omega) (pen1_length H64') 55 (by kernel_rfl) (by kernel_rfl)) ?_
                    refine ⟨((BK3.block _ hgp0).trans HP0), ?_⟩
                    simp only [put_lit, put_non, List.set_cons_zero, List.set_cons_succ]
                    refine hk_one (i := 9) (by kernel_rfl) ?_
                    refine op_appendC Try.underlying62 zero_penV (pen1_length Z64_length) (by omega) (by omega) (some 57) 54 56 (by kernel_rfl) (by kernel_rfl) (by kernel_rfl) (by kernel_rfl) yd.heap.size v2 (0 + m) ([] ++ penC s.pend) (by kernel_rfl) o2 (.slice (some ⟨y2.heap.size, 0, none⟩) 1 1) 1 (pen1 at' (padS bs)) (by kernel_rfl) k3 (pen1_one _ _) (by have := HPM.out; omega) BK3.size ?_
                    intro v4 y4 o4 hg
                    have BK4 := BK3.grown hg BK3.size (fun k e => (o2.lt k e).1)
                    clear hg o2
                    refine ⟨((BK4.block _ hgp0).trans HP0), ?_⟩
                    simp only [put_lit, put_non, List.set_cons_zero, List.set_cons_succ]
                    refine hk_take (i := 10) (some 58) (.pointer (some ⟨g, 0, none⟩)) (by kernel_rfl) (by kernel_rfl) (by kernel_rfl) (by kernel_rfl) (by kernel_rfl) (by kernel_rfl) (fun W hS => by kernel_rfl) (fun _ _ d _ _ h => by cases d <;> exact h) ((BK4.block _ hgp0).trans HP0) ?_
                    simp only [put_lit, put_non, List.set_cons_zero, List.set_cons_succ]
                    refine hk_take (i := 11) (some 59) (.pointer (some ⟨g, 1, none⟩)) (by kernel_rfl) (by kernel_rfl) (by kernel_rfl) (by kernel_rfl) (by kernel_rfl) (by kernel_rfl) (fun W hS => by kernel_rfl) (fun _ _ d _ _ h => by cases d <;> exact h) ((BK4.block _ hgp0).trans HP0) ?_
                    simp only [put_lit, put_non, List.set_cons_zero, List.set_cons_succ]
                    obtain ⟨A9, c9, e9⟩ := (own_cel o4).form
                    subst e9
                    refine hk_one (i := 12) (by kernel_rfl) ?_
                    refine op_skip none (y4.setCell ⟨g, 1, none⟩ (.slice A9 (0 + m + 1) c9)) (by kernel_rfl) (by kernel_rfl) (by kernel_rfl) (exec_storeS 59 57 (by kernel_rfl) (by kernel_rfl) (by kernel_rfl) (by rw [BK4.frozen (p := ⟨g, 1, none⟩) hgy]; exact dz) (by rw [BK4.cell (p := ⟨g, 1, none⟩) hgy]; exact d1)) ?_
                    refine ⟨by rw [Below.heap_setCell _ _ _ _ hgpg]; exact ((BK4.block _ hgp0).trans HP0), ?_⟩
                    simp only [put_lit, put_non, List.set_cons_zero, List.set_cons_succ]
                    refine hk_done (by kernel_rfl) ?_
                    have hfin := FIN.out y4 (.slice A9 (0 + m + 1) c9) BK4 (by rw [List.nil_append] at o4; rw [show m + 1 = 0 + m + 1 by omega]; exact o4)
                    have HFN := Lib.hid hfin
                    clear hfin o4 BK4 hlt1 e1 BK1 hlt3 k3 e3 BK2 BK3
                    go_wp2_with fail
                    go_ret
                    exact ⟨rfl, HFN.out.1, HFN.out.2.1, HFN.out.2.2⟩
                  · skip
                    obtain ⟨y2, e2⟩ : ∃ y, y = y1.alloc (.cells (pen1 at' (padS bs)).toArray 74) := ⟨_, rfl⟩
                    have hBa : Below y1.heap.size y1 y2 := by rw [e2]; exact (Below.refl _ _).alloc (Nat.le_refl _) _
                    have hlt2 : y1.heap.size < y2.heap.size := by rw [e2]; show _ < (y1.heap.push _).size; simp
                    have hne18 : (yd.heap.size : Nat) ≠ y1.heap.size := Nat.ne_of_lt (o1.lt _ rfl).2
                    have BK2 := BK1.trans (hBa.mono BK1.size)
                    have o1 := own_below o1 hBa (Nat.le_refl _)
                    have k2 : Cel y2 (.slice (some ⟨y1.heap.size, 0, none⟩) 1 1) 65 1 (pen1 at' (padS bs)) := by rw [e2]; exact cel_one y1 74 (pen1_length H64')
                    clear hBa
                    refine op_do (some 56) (.slice (some ⟨y1.heap.size, 0, none⟩) 1 1) y2 (by kernel_rfl) (by kernel_rfl) (by kernel_rfl) (by rw [e2]; exact exec_oneC Try.underlying62 zero_penV (by omega) (by omega) (pen1_length H64') 55 (by kernel_rfl) (by kernel_rfl)) ?_
                    refine ⟨((BK2.block _ hgp0).trans HP0), ?_⟩
                    simp only [put_lit, put_non, List.set_cons_zero, List.set_cons_succ]
                    refine hk_one (i := 6) (by kernel_rfl) ?_
                    refine op_appendC Try.underlying62 zero_penV (pen1_length Z64_length) (by omega) (by omega) (some 54) 49 53 (by kernel_rfl) (by kernel_rfl) (by kernel_rfl) (by kernel_rfl) yd.heap.size (.slice (some ⟨yd.heap.size, 0, none⟩) 0 0) 0 [] (by kernel_rfl) o1 (.slice A2 m c2) m (penC s.pend) (by kernel_rfl) (CU.out.below BK2) (penC_one _) (by have := HPM.out; omega) BK2.size ?_
                    intro v3 y3 o3 hg
                    have BK3 := BK2.grown hg BK2.size (fun k e => (o1.lt k e).1)
                    have k2 := k2.grown hg (fun b hb e => hne18 (by simp only [Value.ownBlock, Option.some.injEq] at hb e; omega))
                    clear hg o1
                    refine ⟨((BK3.block _ hgp0).trans HP0), ?_⟩
                    simp only [put_lit, put_non, List.set_cons_zero, List.set_cons_succ]
                    refine hk_one (i := 9) (by kernel_rfl) ?_
                    refine op_appendC Try.underlying62 zero_penV (pen1_length Z64_length) (by omega) (by omega) (some 57) 54 56 (by kernel_rfl) (by kernel_rfl) (by kernel_rfl) (by kernel_rfl) yd.heap.size v3 (0 + m) ([] ++ penC s.pend) (by kernel_rfl) o3 (.slice (some ⟨y1.heap.size, 0, none⟩) 1 1) 1 (pen1 at' (padS bs)) (by kernel_rfl) k2 (pen1_one _ _) (by have := HPM.out; omega) BK3.size ?_
                    intro v4 y4 o4 hg
                    have BK4 := BK3.grown hg BK3.size (fun k e => (o3.lt k e).1)
                    clear hg o3
                    refine ⟨((BK4.block _ hgp0).trans HP0), ?_⟩
                    simp only [put_lit, put_non, List.set_cons_zero, List.set_cons_succ]
                    refine hk_take (i := 10) (some 58) (.pointer (some ⟨g, 0, none⟩)) (by kernel_rfl) (by kernel_rfl) (by kernel_rfl) (by kernel_rfl) (by kernel_rfl) (by kernel_rfl) (fun W hS => by kernel_rfl) (fun _ _ d _ _ h => by cases d <;> exact h) ((BK4.block _ hgp0).trans HP0) ?_
                    simp only [put_lit, put_non, List.set_cons_zero, List.set_cons_succ]
                    refine hk_take (i := 11) (some 59) (.pointer (some ⟨g, 1, none⟩)) (by kernel_rfl) (by kernel_rfl) (by kernel_rfl) (by kernel_rfl) (by kernel_rfl) (by kernel_rfl) (fun W hS => by kernel_rfl) (fun _ _ d _ _ h => by cases d <;> exact h) ((BK4.block _ hgp0).trans HP0) ?_
                    simp only [put_lit, put_non, List.set_cons_zero, List.set_cons_succ]
                    obtain ⟨A9, c9, e9⟩ := (own_cel o4).form
                    subst e9
                    refine hk_one (i := 12) (by kernel_rfl) ?_
                    refine op_skip none (y4.setCell ⟨g, 1, none⟩ (.slice A9 (0 + m + 1) c9)) (by kernel_rfl) (by kernel_rfl) (by kernel_rfl) (exec_storeS 59 57 (by kernel_rfl) (by kernel_rfl) (by kernel_rfl) (by rw [BK4.frozen (p := ⟨g, 1, none⟩) hgy]; exact dz) (by rw [BK4.cell (p := ⟨g, 1, none⟩) hgy]; exact d1)) ?_
                    refine ⟨by rw [Below.heap_setCell _ _ _ _ hgpg]; exact ((BK4.block _ hgp0).trans HP0), ?_⟩
                    simp only [put_lit, put_non, List.set_cons_zero, List.set_cons_succ]
                    refine hk_done (by kernel_rfl) ?_
                    have hfin := FIN.out y4 (.slice A9 (0 + m + 1) c9) BK4 (by rw [List.nil_append] at o4; rw [show m + 1 = 0 + m + 1 by omega]; exact o4)
                    have HFN := Lib.hid hfin
                    clear hfin o4 BK4 hlt1 e1 hlt2 k2 e2 BK1 hne18 BK2 BK3
                    go_wp2_with fail
                    go_ret
                    exact ⟨rfl, HFN.out.1, HFN.out.2.1, HFN.out.2.2⟩
                · skip
                  obtain ⟨y2, e2⟩ : ∃ y, y = y1.alloc (.cells (pen1 at' (padS bs)).toArray 74) := ⟨_, rfl⟩
                  have hBa : Below y1.heap.size y1 y2 := by rw [e2]; exact (Below.refl _ _).alloc (Nat.le_refl _) _
                  have hlt2 : y1.heap.size < y2.heap.size := by rw [e2]; show _ < (y1.heap.push _).size; simp
                  have hne18 : (yd.heap.size : Nat) ≠ y1.heap.size := Nat.ne_of_lt (o1.lt _ rfl).2
                  have BK2 := BK1.trans (hBa.mono BK1.size)
                  have o1 := own_below o1 hBa (Nat.le_refl _)
                  have k2 : Cel y2 (.slice (some ⟨y1.heap.size, 0, none⟩) 1 1) 65 1 (pen1 at' (padS bs)) := by rw [e2]; exact cel_one y1 74 (pen1_length H64')
                  clear hBa
                  refine op_do (some 56) (.slice (some ⟨y1.heap.size, 0, none⟩) 1 1) y2 (by kernel_rfl) (by kernel_rfl) (by kernel_rfl) (by rw [e2]; exact exec_oneC Try.underlying62 zero_penV (by omega) (by omega) (pen1_length H64') 55 (by kernel_rfl) (by kernel_rfl)) ?_
                  refine ⟨((BK2.block _ hgp0).trans HP0), ?_⟩
                  simp only [put_lit, put_non, List.set_cons_zero, List.set_cons_succ]
                  refine hk_one (i := 5) (by kernel_rfl) ?_
                  refine op_do (some 53) (.slice A2 m c2) y2 (by kernel_rfl) (by kernel_rfl) (by kernel_rfl) (exec_loadCell 62 (.tmp 52) ⟨g, 1, none⟩ _ _ (by kernel_rfl) (by kernel_rfl) (by rw [BK2.cell (p := ⟨g, 1, none⟩) hgy]; exact d1) Try.underlying62 rfl) ?_
                  refine ⟨((BK2.block _ hgp0).trans HP0), ?_⟩
                  simp only [put_lit, put_non, List.set_cons_zero, List.set_cons_succ]
                  refine hk_one (i := 6) (by kernel_rfl) ?_
                  refine op_appendC Try.underlying62 zero_penV (pen1_length Z64_length) (by omega) (by omega) (some 54) 49 53 (by kernel_rfl) (by kernel_rfl) (by kernel_rfl) (by kernel_rfl) yd.heap.size (.slice (some ⟨yd.heap.size, 0, none⟩) 0 0) 0 [] (by kernel_rfl) o1 (.slice A2 m c2) m (penC s.pend) (by kernel_rfl) (CU.out.below BK2) (penC_one _) (by have := HPM.out; omega) BK2.size ?_
                  intro v3 y3 o3 hg
                  have BK3 := BK2.grown hg BK2.size (fun k e => (o1.lt k e).1)
                  have k2 := k2.grown hg (fun b hb e => hne18 (by simp only [Value.ownBlock, Option.some.injEq] at hb e; omega))
                  clear hg o1
                  refine ⟨((BK3.block _ hgp0).trans HP0), ?_⟩
                  simp only [put_lit, put_non, List.set_cons_zero, List.set_cons_succ]
                  refine hk_one (i := 9) (by kernel_rfl) ?_
                  refine op_appendC Try.underlying62 zero_penV (pen1_length Z64_length) (by omega) (by omega) (some 57) 54 56 (by kernel_rfl) (by kernel_rfl) (by kernel_rfl) (by kernel_rfl) yd.heap.size v3 (0 + m) ([] ++ penC s.pend) (by kernel_rfl) o3 (.slice (some ⟨y1.heap.size, 0, none⟩) 1 1) 1 (pen1 at' (padS bs)) (by kernel_rfl) k2 (pen1_one _ _) (by have := HPM.out; omega) BK3.size ?_
                  intro v4 y4 o4 hg
                  have BK4 := BK3.grown hg BK3.size (fun k e => (o3.lt k e).1)
                  clear hg o3
                  refine ⟨((BK4.block _ hgp0).trans HP0), ?_⟩
                  simp only [put_lit, put_non, List.set_cons_zero, List.set_cons_succ]
                  refine hk_take (i := 10) (some 58) (.pointer (some ⟨g, 0, none⟩)) (by kernel_rfl) (by kernel_rfl) (by kernel_rfl) (by kernel_rfl) (by kernel_rfl) (by kernel_rfl) (fun W hS => by kernel_rfl) (fun _ _ d _ _ h => by cases d <;> exact h) ((BK4.block _ hgp0).trans HP0) ?_
                  simp only [put_lit, put_non, List.set_cons_zero, List.set_cons_succ]
                  refine hk_take (i := 11) (some 59) (.pointer (some ⟨g, 1, none⟩)) (by kernel_rfl) (by kernel_rfl) (by kernel_rfl) (by kernel_rfl) (by kernel_rfl) (by kernel_rfl) (fun W hS => by kernel_rfl) (fun _ _ d _ _ h => by cases d <;> exact h) ((BK4.block _ hgp0).trans HP0) ?_
                  simp only [put_lit, put_non, List.set_cons_zero, List.set_cons_succ]
                  obtain ⟨A9, c9, e9⟩ := (own_cel o4).form
                  subst e9
                  refine hk_one (i := 12) (by kernel_rfl) ?_
                  refine op_skip none (y4.setCell ⟨g, 1, none⟩ (.slice A9 (0 + m + 1) c9)) (by kernel_rfl) (by kernel_rfl) (by kernel_rfl) (exec_storeS 59 57 (by kernel_rfl) (by kernel_rfl) (by kernel_rfl) (by rw [BK4.frozen (p := ⟨g, 1, none⟩) hgy]; exact dz) (by rw [BK4.cell (p := ⟨g, 1, none⟩) hgy]; exact d1)) ?_
                  refine ⟨by rw [Below.heap_setCell _ _ _ _ hgpg]; exact ((BK4.block _ hgp0).trans HP0), ?_⟩
                  simp only [put_lit, put_non, List.set_cons_zero, List.set_cons_succ]
                  refine hk_done (by kernel_rfl) ?_
                  have hfin := FIN.out y4 (.slice A9 (0 + m + 1) c9) BK4 (by rw [List.nil_append] at o4; rw [show m + 1 = 0 + m + 1 by omega]; exact o4)
                  have HFN := Lib.hid hfin
                  clear hfin o4 BK4 hlt1 e1 hlt2 k2 e2 BK1 hne18 BK2 BK3
                  go_wp2_with fail
                  go_ret
                  exact ⟨rfl, HFN.out.1, HFN.out.2.1, HFN.out.2.2⟩
              · skip
                refine op_do (some 53) (.slice A2 m c2) yd (by kernel_rfl) (by kernel_rfl) (by kernel_rfl) (exec_loadCell 62 (.tmp 52) ⟨g, 1, none⟩ _ _ (by kernel_rfl) (by kernel_rfl) (by rw [BK0.cell (p := ⟨g, 1, none⟩) hgy]; exact d1) Try.underlying62 rfl) ?_
                refine ⟨((BK0.block _ hgp0).trans HP0), ?_⟩
                simp only [put_lit, put_non, List.set_cons_zero, List.set_cons_succ]
                refine hk_two (i := 1) (j := 8) (by kernel_rfl) ?_ ?_
                · skip
                  obtain ⟨y1, e1⟩ : ∃ y, y = yd.alloc (.cells #[] 74) := ⟨_, rfl⟩
                  have hBa : Below yd.heap.size yd y1 := by rw [e1]; exact (Below.refl _ _).alloc (Nat.le_refl _) _
                  have hlt1 : yd.heap.size < y1.heap.size := by rw [e1]; show _ < (yd.heap.push _).size; simp
                  have BK1 := BK0.trans (hBa.mono BK0.size)
                  have o1 : y1.ownsRow yd.heap.size 74 65 (.slice (some ⟨yd.heap.size, 0, none⟩) 0 0) 0 [] := by rw [e1]; exact World.ownsRow_made yd #[] 0 BK0.size (by unfold maxLen; omega) (by simp)
                  clear hBa
                  refine op_do (some 49) (.slice (some ⟨yd.heap.size, 0, none⟩) 0 0) y1 (by kernel_rfl) (by kernel_rfl) (by kernel_rfl) (by rw [e1]; exact exec_noneC Try.underlying62 info_pen (by kernel_rfl)) ?_
                  refine ⟨((BK1.block _ hgp0).trans HP0), ?_⟩
                  simp only [put_lit, put_non, List.set_cons_zero, List.set_cons_succ]
                  refine hk_two (i := 6) (j := 8) (by kernel_rfl) ?_ ?_
                  · skip
                    refine op_appendC Try.underlying62 zero_penV (pen1_length Z64_length) (by omega) (by omega) (some 54) 49 53 (by kernel_rfl) (by kernel_rfl) (by kernel_rfl) (by kernel_rfl) yd.heap.size (.slice (some ⟨yd.heap.size, 0, none⟩) 0 0) 0 [] (by kernel_rfl) o1 (.slice A2 m c2) m (penC s.pend) (by kernel_rfl) (CU.out.below BK1) (penC_one _) (by have := HPM.out; omega) BK1.size ?_
                    intro v2 y2 o2 hg
                    have BK2 := BK1.grown hg BK1.size (fun k e => (o1.lt k e).1)
                    clear hg o1
                    refine ⟨((BK2.block _ hgp0).trans HP0), ?_⟩
                    simp only [put_lit, put_non, List.set_cons_zero, List.set_cons_succ]
                    refine hk_one (i := 8) (by kernel_rfl) ?_
                    obtain ⟨y3, e3⟩ : ∃ y, y = y2.alloc (.cells (pen1 at' (padS bs)).toArray 74) := ⟨_, rfl⟩
                    have hBa : Below y2.heap.size y2 y3 := by rw [e3]; exact (Below.refl _ _).alloc (Nat.le_refl _) _
                    have hlt3 : y2.heap.size < y3.heap.size := by rw [e3]; show _ < (y2.heap.push _).size; simp
                    have BK3 := BK2.trans (hBa.mono BK2.size)
                    have o2 := own_below o2 hBa (Nat.le_refl _)
                    have k3 : Cel y3 (.slice (some ⟨y2.heap.size, 0, none⟩) 1 1) 65 1 (pen1 at' (padS bs)) := by rw [e3]; exact cel_one y2 74 (pen1_length H64')
                    clear hBa
                    refine op_do (some 56) (.slice (some ⟨y2.heap.size, 0, none⟩) 1 1) y3 (by kernel_rfl) (by kernel_rfl) (by kernel_rfl) (by rw [e3]; exact exec_oneC Try.underlying62 zero_penV (by omega) (by omega) (pen1_length H64') 55 (by kernel_rfl) (by kernel_rfl)) ?_
                    refine ⟨((BK3.block _ hgp0).trans HP0), ?_⟩
                    simp only [put_lit, put_non, List.set_cons_zero, List.set_cons_succ]
                    refine hk_one (i := 9) (by kernel_rfl) ?_
                    refine op_appendC Try.underlying62 zero_penV (pen1_length Z64_length) (by omega) (by omega) (some 57) 54 56 (by kernel_rfl) (by kernel_rfl) (by kernel_rfl) (by kernel_rfl) yd.heap.size v2 (0 + m) ([] ++ penC s.pend) (by kernel_rfl) o2 (.slice (some ⟨y2.heap.size, 0, none⟩) 1 1) 1 (pen1 at' (padS bs)) (by kernel_rfl) k3 (pen1_one _ _) (by have := HPM.out; omega) BK3.size ?_
                    intro v4 y4 o4 hg
                    have BK4 := BK3.grown hg BK3.size (fun k e => (o2.lt k e).1)
                    clear hg o2
                    refine ⟨((BK4.block _ hgp0).trans HP0), ?_⟩
                    simp only [put_lit, put_non, List.set_cons_zero, List.set_cons_succ]
                    refine hk_take (i := 10) (some 58) (.pointer (some ⟨g, 0, none⟩)) (by kernel_rfl) (by kernel_rfl) (by kernel_rfl) (by kernel_rfl) (by kernel_rfl) (by kernel_rfl) (fun W hS => by kernel_rfl) (fun _ _ d _ _ h => by cases d <;> exact h) ((BK4.block _ hgp0).trans HP0) ?_
                    simp only [put_lit, put_non, List.set_cons_zero, List.set_cons_succ]
                    refine hk_take (i := 11) (some 59) (.pointer (some ⟨g, 1, none⟩)) (by kernel_rfl) (by kernel_rfl) (by kernel_rfl) (by kernel_rfl) (by kernel_rfl) (by kernel_rfl) (fun W hS => by kernel_rfl) (fun _ _ d _ _ h => by cases d <;> exact h) ((BK4.block _ hgp0).trans HP0) ?_
                    simp only [put_lit, put_non, List.set_cons_zero, List.set_cons_succ]
                    obtain ⟨A9, c9, e9⟩ := (own_cel o4).form
                    subst e9
                    refine hk_one (i := 12) (by kernel_rfl) ?_
                    refine op_skip none (y4.setCell ⟨g, 1, none⟩ (.slice A9 (0 + m + 1) c9)) (by kernel_rfl) (by kernel_rfl) (by kernel_rfl) (exec_storeS 59 57 (by kernel_rfl) (by kernel_rfl) (by kernel_rfl) (by rw [BK4.frozen (p := ⟨g, 1, none⟩) hgy]; exact dz) (by rw [BK4.cell (p := ⟨g, 1, none⟩) hgy]; exact d1)) ?_
                    refine ⟨by rw [Below.heap_setCell _ _ _ _ hgpg]; exact ((BK4.block _ hgp0).trans HP0), ?_⟩
                    simp only [put_lit, put_non, List.set_cons_zero, List.set_cons_succ]
                    refine hk_done (by kernel_rfl) ?_
                    have hfin := FIN.out y4 (.slice A9 (0 + m + 1) c9) BK4 (by rw [List.nil_append] at o4; rw [show m + 1 = 0 + m + 1 by omega]; exact o4)
                    have HFN := Lib.hid hfin
                    clear hfin o4 BK4 hlt1 e1 BK1 hlt3 k3 e3 BK2 BK3
                    go_wp2_with fail
                    go_ret
                    exact ⟨rfl, HFN.out.1, HFN.out.2.1, HFN.out.2.2⟩
                  · skip
                    obtain ⟨y2, e2⟩ : ∃ y, y = y1.alloc (.cells (pen1 at' (padS bs)).toArray 74) := ⟨_, rfl⟩
                    have hBa : Below y1.heap.size y1 y2 := by rw [e2]; exact (Below.refl _ _).alloc (Nat.le_refl _) _
                    have hlt2 : y1.heap.size < y2.heap.size := by rw [e2]; show _ < (y1.heap.push _).size; simp
                    have hne18 : (yd.heap.size : Nat) ≠ y1.heap.size := Nat.ne_of_lt (o1.lt _ rfl).2
                    have BK2 := BK1.trans (hBa.mono BK1.size)
                    have o1 := own_below o1 hBa (Nat.le_refl _)
                    have k2 : Cel y2 (.slice (some ⟨y1.heap.size, 0, none⟩) 1 1) 65 1 (pen1 at' (padS bs)) := by rw [e2]; exact cel_one y1 74 (pen1_length H64')
                    clear hBa
                    refine op_do (some 56) (.slice (some ⟨y1.heap.size, 0, none⟩) 1 1) y2 (by kernel_rfl) (by kernel_rfl) (by kernel_rfl) (by rw [e2]; exact exec_oneC Try.underlying62 zero_penV (by omega) (by omega) (pen1_length H64') 55 (by kernel_rfl) (by kernel_rfl)) ?_
                    refine ⟨((BK2.block _ hgp0).trans HP0), ?_⟩
                    simp only [put_lit, put_non, List.set_cons_zero, List.set_cons_succ]
                    refine hk_one (i := 6) (by kernel_rfl) ?_
                    refine op_appendC Try.underlying62 zero_penV (pen1_length Z64_length) (by omega) (by omega) (some 54) 49 53 (by kernel_rfl) (by kernel_rfl) (by kernel_rfl) (by kernel_rfl) yd.heap.size (.slice (some ⟨yd.heap.size, 0, none⟩) 0 0) 0 [] (by kernel_rfl) o1 (.slice A2 m c2) m (penC s.pend) (by kernel_rfl) (CU.out.below BK2) (penC_one _) (by have := HPM.out; omega) BK2.size ?_
                    intro v3 y3 o3 hg
                    have BK3 := BK2.grown hg BK2.size (fun k e => (o1.lt k e).1)
                    have k2 := k2.grown hg (fun b hb e => hne18 (by simp only [Value.ownBlock, Option.some.injEq] at hb e; omega))
                    clear hg o1
                    refine ⟨((BK3.block _ hgp0).trans HP0), ?_⟩
                    simp only [put_lit, put_non, List.set_cons_zero, List.set_cons_succ]
                    refine hk_one (i := 9) (by kernel_rfl) ?_
                    refine op_appendC Try.underlying62 zero_penV (pen1_length Z64_length) (by omega) (by omega) (some 57) 54 56 (by kernel_rfl) (by kernel_rfl) (by kernel_rfl) (by kernel_rfl) yd.heap.size v3 (0 + m) ([] ++ penC s.pend) (by kernel_rfl) o3 (.slice (some ⟨y1.heap.size, 0, none⟩) 1 1) 1 (pen1 at' (padS bs)) (by kernel_rfl) k2 (pen1_one _ _) (by have := HPM.out; omega) BK3.size ?_
                    intro v4 y4 o4 hg
                    have BK4 := BK3.grown hg BK3.size (fun k e => (o3.lt k e).1)
                    clear hg o3
                    refine ⟨((BK4.block _ hgp0).trans HP0), ?_⟩
                    simp only [put_lit, put_non, List.set_cons_zero, List.set_cons_succ]
                    refine hk_take (i := 10) (some 58) (.pointer (some ⟨g, 0, none⟩)) (by kernel_rfl) (by kernel_rfl) (by kernel_rfl) (by kernel_rfl) (by kernel_rfl) (by kernel_rfl) (fun W hS => by kernel_rfl) (fun _ _ d _ _ h => by cases d <;> exact h) ((BK4.block _ hgp0).trans HP0) ?_
                    simp only [put_lit, put_non, List.set_cons_zero, List.set_cons_succ]
                    refine hk_take (i := 11) (some 59) (.pointer (some ⟨g, 1, none⟩)) (by kernel_rfl) (by kernel_rfl) (by kernel_rfl) (by kernel_rfl) (by kernel_rfl) (by kernel_rfl) (fun W hS => by kernel_rfl) (fun _ _ d _ _ h => by cases d <;> exact h) ((BK4.block _ hgp0).trans HP0) ?_
                    simp only [put_lit, put_non, List.set_cons_zero, List.set_cons_succ]
                    obtain ⟨A9, c9, e9⟩ := (own_cel o4).form
                    subst e9
                    refine hk_one (i := 12) (by kernel_rfl) ?_
                    refine op_skip none (y4.setCell ⟨g, 1, none⟩ (.slice A9 (0 + m + 1) c9)) (by kernel_rfl) (by kernel_rfl) (by kernel_rfl) (exec_storeS 59 57 (by kernel_rfl) (by kernel_rfl) (by kernel_rfl) (by rw [BK4.frozen (p := ⟨g, 1, none⟩) hgy]; exact dz) (by rw [BK4.cell (p := ⟨g, 1, none⟩) hgy]; exact d1)) ?_
                    refine ⟨by rw [Below.heap_setCell _ _ _ _ hgpg]; exact ((BK4.block _ hgp0).trans HP0), ?_⟩
                    simp only [put_lit, put_non, List.set_cons_zero, List.set_cons_succ]
                    refine hk_done (by kernel_rfl) ?_
                    have hfin := FIN.out y4 (.slice A9 (0 + m + 1) c9) BK4 (by rw [List.nil_append] at o4; rw [show m + 1 = 0 + m + 1 by omega]; exact o4)
                    have HFN := Lib.hid hfin
                    clear hfin o4 BK4 hlt1 e1 hlt2 k2 e2 BK1 hne18 BK2 BK3
                    go_wp2_with fail
                    go_ret
                    exact ⟨rfl, HFN.out.1, HFN.out.2.1, HFN.out.2.2⟩
                · skip
                  obtain ⟨y1, e1⟩ : ∃ y, y = yd.alloc (.cells (pen1 at' (padS bs)).toArray 74) := ⟨_, rfl⟩
                  have hBa : Below yd.heap.size yd y1 := by rw [e1]; exact (Below.refl _ _).alloc (Nat.le_refl _) _
                  have hlt1 : yd.heap.size < y1.heap.size := by rw [e1]; show _ < (yd.heap.push _).size; simp
                  have BK1 := BK0.trans (hBa.mono BK0.size)
                  have k1 : Cel y1 (.slice (some ⟨yd.heap.size, 0, none⟩) 1 1) 65 1 (pen1 at' (padS bs)) := by rw [e1]; exact cel_one yd 74 (pen1_length H64')
                  clear hBa
                  refine op_do (some 56) (.slice (some ⟨yd.heap.size, 0, none⟩) 1 1) y1 (by kernel_rfl) (by kernel_rfl) (by kernel_rfl) (by rw [e1]; exact exec_oneC Try.underlying62 zero_penV (by omega) (by omega) (pen1_length H64') 55 (by kernel_rfl) (by kernel_rfl)) ?_
                  refine ⟨((BK1.block _ hgp0).trans HP0), ?_⟩
                  simp only [put_lit, put_non, List.set_cons_zero, List.set_cons_succ]
                  refine hk_one (i := 1) (by kernel_rfl) ?_
                  obtain ⟨y2, e2⟩ : ∃ y, y = y1.alloc (.cells #[] 74) := ⟨_, rfl⟩
                  have hBa : Below y1.heap.size y1 y2 := by rw [e2]; exact (Below.refl _ _).alloc (Nat.le_refl _) _
                  have hlt2 : y1.heap.size < y2.heap.size := by rw [e2]; show _ < (y1.heap.push _).size; simp
                  have BK2 := BK1.trans (hBa.mono BK1.size)
                  have k1 := k1.below hBa
                  have o2 : y2.ownsRow yd.heap.size 74 65 (.slice (some ⟨y1.heap.size, 0, none⟩) 0 0) 0 [] := by rw [e2]; exact World.ownsRow_made y1 #[] 0 BK1.size (by unfold maxLen; omega) (by simp)
                  have hne18 : (y1.heap.size : Nat) ≠ yd.heap.size := Nat.ne_of_gt (Nat.lt_of_lt_of_le hlt1 (Nat.le_refl _))
                  clear hBa
                  refine op_do (some 49) (.slice (some ⟨y1.heap.size, 0, none⟩) 0 0) y2 (by kernel_rfl) (by kernel_rfl) (by kernel_rfl) (by rw [e2]; exact exec_noneC Try.underlying62 info_pen (by kernel_rfl)) ?_
                  refine ⟨((BK2.block _ hgp0).trans HP0), ?_⟩
                  simp only [put_lit, put_non, List.set_cons_zero, List.set_cons_succ]
                  refine hk_one (i := 6) (by kernel_rfl) ?_
                  refine op_appendC Try.underlying62 zero_penV (pen1_length Z64_length) (by omega) (by omega) (some 54) 49 53 (by kernel_rfl) (by kernel_rfl) (by kernel_rfl) (by kernel_rfl) yd.heap.size (.slice (some ⟨y1.heap.size, 0, none⟩) 0 0) 0 [] (by kernel_rfl) o2 (.slice A2 m c2) m (penC s.pend) (by kernel_rfl) (CU.out.below BK2) (penC_one _) (by have := HPM.out; omega) BK2.size ?_
                  intro v3 y3 o3 hg
                  have BK3 := BK2.grown hg BK2.size (fun k e => (o2.lt k e).1)
                  have k1 := k1.grown hg (fun b hb e => hne18 (by simp only [Value.ownBlock, Option.some.injEq] at hb e; omega))
                  clear hg o2
                  refine ⟨((BK3.block _ hgp0).trans HP0), ?_⟩
                  simp only [put_lit, put_non, List.set_cons_zero, List.set_cons_succ]
                  refine hk_one (i := 9) (by kernel_rfl) ?_
                  refine op_appendC Try.underlying62 zero_penV (pen1_length Z64_length) (by omega) (by omega) (some 57) 54 56 (by kernel_rfl) (by kernel_rfl) (by kernel_rfl) (by kernel_rfl) yd.heap.size v3 (0 + m) ([] ++ penC s.pend) (by kernel_rfl) o3 (.slice (some ⟨yd.heap.size, 0, none⟩) 1 1) 1 (pen1 at' (padS bs)) (by kernel_rfl) k1 (pen1_one _ _) (by have := HPM.out; omega) BK3.size ?_
                  intro v4 y4 o4 hg
                  have BK4 := BK3.grown hg BK3.size (fun k e => (o3.lt k e).1)
                  clear hg o3
                  refine ⟨((BK4.block _ hgp0).trans HP0), ?_⟩
                  simp only [put_lit, put_non, List.set_cons_zero, List.set_cons_succ]
                  refine hk_take (i := 10) (some 58) (.pointer (some ⟨g, 0, none⟩)) (by kernel_rfl) (by kernel_rfl) (by kernel_rfl) (by kernel_rfl) (by kernel_rfl) (by kernel_rfl) (fun W hS => by kernel_rfl) (fun _ _ d _ _ h => by cases d <;> exact h) ((BK4.block _ hgp0).trans HP0) ?_
                  simp only [put_lit, put_non, List.set_cons_zero, List.set_cons_succ]
                  refine hk_take (i := 11) (some 59) (.pointer (some ⟨g, 1, none⟩)) (by kernel_rfl) (by kernel_rfl) (by kernel_rfl) (by kernel_rfl) (by kernel_rfl) (by kernel_rfl) (fun W hS => by kernel_rfl) (fun _ _ d _ _ h => by cases d <;> exact h) ((BK4.block _ hgp0).trans HP0) ?_
                  simp only [put_lit, put_non, List.set_cons_zero, List.set_cons_succ]
                  obtain ⟨A9, c9, e9⟩ := (own_cel o4).form
                  subst e9
                  refine hk_one (i := 12) (by kernel_rfl) ?_
                  refine op_skip none (y4.setCell ⟨g, 1, none⟩ (.slice A9 (0 + m + 1) c9)) (by kernel_rfl) (by kernel_rfl) (by kernel_rfl) (exec_storeS 59 57 (by kernel_rfl) (by kernel_rfl) (by kernel_rfl) (by rw [BK4.frozen (p := ⟨g, 1, none⟩) hgy]; exact dz) (by rw [BK4.cell (p := ⟨g, 1, none⟩) hgy]; exact d1)) ?_
                  refine ⟨by rw [Below.heap_setCell _ _ _ _ hgpg]; exact ((BK4.block _ hgp0).trans HP0), ?_⟩
                  simp only [put_lit, put_non, List.set_cons_zero, List.set_cons_succ]
                  refine hk_done (by kernel_rfl) ?_
                  have hfin := FIN.out y4 (.slice A9 (0 + m + 1) c9) BK4 (by rw [List.nil_append] at o4; rw [show m + 1 = 0 + m + 1 by omega]; exact o4)
                  have HFN := Lib.hid hfin
                  clear hfin o4 BK4 hlt1 k1 e1 hlt2 hne18 e2 BK1 BK2 BK3
                  go_wp2_with fail
                  go_ret
                  exact ⟨rfl, HFN.out.1, HFN.out.2.1, HFN.out.2.2⟩
              · skip
                obtain ⟨y1, e1⟩ : ∃ y, y = yd.alloc (.cells (pen1 at' (padS bs)).toArray 74) := ⟨_, rfl⟩
                have hBa : Below yd.heap.size yd y1 := by rw [e1]; exact (Below.refl _ _).alloc (Nat.le_refl _) _
                have hlt1 : yd.heap.size < y1.heap.size := by rw [e1]; show _ < (yd.heap.push _).size; simp
                have BK1 := BK0.trans (hBa.mono BK0.size)
                have k1 : Cel y1 (.slice (some ⟨yd.heap.size, 0, none⟩) 1 1) 65 1 (pen1 at' (padS bs)) := by rw [e1]; exact cel_one yd 74 (pen1_length H64')
                clear hBa
                refine op_do (some 56) (.slice (some ⟨yd.heap.size, 0, none⟩) 1 1) y1 (by kernel_rfl) (by kernel_rfl) (by kernel_rfl) (by rw [e1]; exact exec_oneC Try.underlying62 zero_penV (by omega) (by omega) (pen1_length H64') 55 (by kernel_rfl) (by kernel_rfl)) ?_
                refine ⟨((BK1.block _ hgp0).trans HP0), ?_⟩
                simp only [put_lit, put_non, List.set_cons_zero, List.set_cons_succ]
                refine hk_two (i := 1) (j := 5) (by kernel_rfl) ?_ ?_
                · skip
                  obtain ⟨y2, e2⟩ : ∃ y, y = y1.alloc (.cells #[] 74) := ⟨_, rfl⟩
                  have hBa : Below y1.heap.size y1 y2 := by rw [e2]; exact (Below.refl _ _).alloc (Nat.le_refl _) _
                  have hlt2 : y1.heap.size < y2.heap.size := by rw [e2]; show _ < (y1.heap.push _).size; simp
                  have BK2 := BK1.trans (hBa.mono BK1.size)
                  have k1 := k1.below hBa
                  have o2 : y2.ownsRow yd.heap.size 74 65 (.slice (some ⟨y1.heap.size, 0, none⟩) 0 0) 0 [] := by rw [e2]; exact World.ownsRow_made y1 #[] 0 BK1.size (by unfold maxLen; omega) (by simp)
                  have hne18 : (y1.heap.size : Nat) ≠ yd.heap.size := Nat.ne_of_gt (Nat.lt_of_lt_of_le hlt1 (Nat.le_refl _))
                  clear hBa
                  refine op_do (some 49) (.slice (some ⟨y1.heap.size, 0, none⟩) 0 0) y2 (by kernel_rfl) (by kernel_rfl) (by kernel_rfl) (by rw [e2]; exact exec_noneC Try.underlying62 info_pen (by kernel_rfl)) ?_
                  refine ⟨((BK2.block _ hgp0).trans HP0), ?_⟩
                  simp only [put_lit, put_non, List.set_cons_zero, List.set_cons_succ]
                  refine hk_one (i := 5) (by kernel_rfl) ?_
                  refine op_do (some 53) (.slice A2 m c2) y2 (by kernel_rfl) (by kernel_rfl) (by kernel_rfl) (exec_loadCell 62 (.tmp 52) ⟨g, 1, none⟩ _ _ (by kernel_rfl) (by kernel_rfl) (by rw [BK2.cell (p := ⟨g, 1, none⟩) hgy]; exact d1) Try.underlying62 rfl) ?_
                  refine ⟨((BK2.block _ hgp0).trans HP0), ?_⟩
                  simp only [put_lit, put_non, List.set_cons_zero, List.set_cons_succ]
                  refine hk_one (i := 6) (by kernel_rfl) ?_
                  refine op_appendC Try.underlying62 zero_penV (pen1_length Z64_length) (by omega) (by omega) (some 54) 49 53 (by kernel_rfl) (by kernel_rfl) (by kernel_rfl) (by kernel_rfl) yd.heap.size (.slice (some ⟨y1.heap.size, 0, none⟩) 0 0) 0 [] (by kernel_rfl) o2 (.slice A2 m c2) m (penC s.pend) (by kernel_rfl) (CU.out.below BK2) (penC_one _) (by have := HPM.out; omega) BK2.size ?_
                  intro v3 y3 o3 hg
                  have BK3 := BK2.grown hg BK2.size (fun k e => (o2.lt k e).1)
                  have k1 := k1.grown hg (fun b hb e => hne18 (by simp only [Value.ownBlock, Option.some.injEq] at hb e; omega))
                  clear hg o2
                  refine ⟨((BK3.block _ hgp0).trans HP0), ?_⟩
                  simp only [put_lit, put_non, List.set_cons_zero, List.set_cons_succ]
                  refine hk_one (i := 9) (by kernel_rfl) ?_
                  refine op_appendC Try.underlying62 zero_penV (pen1_length Z64_length) (by omega) (by omega) (some 57) 54 56 (by kernel_rfl) (by kernel_rfl) (by kernel_rfl) (by kernel_rfl) yd.heap.size v3 (0 + m) ([] ++ penC s.pend) (by kernel_rfl) o3 (.slice (some ⟨yd.heap.size, 0, none⟩) 1 1) 1 (pen1 at' (padS bs)) (by kernel_rfl) k1 (pen1_one _ _) (by have := HPM.out; omega) BK3.size ?_
                  intro v4 y4 o4 hg
                  have BK4 := BK3.grown hg BK3.size (fun k e => (o3.lt k e).1)
                  clear hg o3
                  refine ⟨((BK4.block _ hgp0).trans HP0), ?_⟩
                  simp only [put_lit, put_non, List.set_cons_zero, List.set_cons_succ]
                  refine hk_take (i := 10) (some 58) (.pointer (some ⟨g, 0, none⟩)) (by kernel_rfl) (by kernel_rfl) (by kernel_rfl) (by kernel_rfl) (by kernel_rfl) (by kernel_rfl) (fun W hS => by kernel_rfl) (fun _ _ d _ _ h => by cases d <;> exact h) ((BK4.block _ hgp0).trans HP0) ?_
                  simp only [put_lit, put_non, List.set_cons_zero, List.set_cons_succ]
                  refine hk_take (i := 11) (some 59) (.pointer (some ⟨g, 1, none⟩)) (by kernel_rfl) (by kernel_rfl) (by kernel_rfl) (by kernel_rfl) (by kernel_rfl) (by kernel_rfl) (fun W hS => by kernel_rfl) (fun _ _ d _ _ h => by cases d <;> exact h) ((BK4.block _ hgp0).trans HP0) ?_
                  simp only [put_lit, put_non, List.set_cons_zero, List.set_cons_succ]
                  obtain ⟨A9, c9, e9⟩ := (own_cel o4).form
                  subst e9
                  refine hk_one (i := 12) (by kernel_rfl) ?_
                  refine op_skip none (y4.setCell ⟨g, 1, none⟩ (.slice A9 (0 + m + 1) c9)) (by kernel_rfl) (by kernel_rfl) (by kernel_rfl) (exec_storeS 59 57 (by kernel_rfl) (by kernel_rfl) (by kernel_rfl) (by rw [BK4.frozen (p := ⟨g, 1, none⟩) hgy]; exact dz) (by rw [BK4.cell (p := ⟨g, 1, none⟩) hgy]; exact d1)) ?_
                  refine ⟨by rw [Below.heap_setCell _ _ _ _ hgpg]; exact ((BK4.block _ hgp0).trans HP0), ?_⟩
                  simp only [put_lit, put_non, List.set_cons_zero, List.set_cons_succ]
                  refine hk_done (by kernel_rfl) ?_
                  have hfin := FIN.out y4 (.slice A9 (0 + m + 1) c9) BK4 (by rw [List.nil_append] at o4; rw [show m + 1 = 0 + m + 1 by omega]; exact o4)
                  have HFN := Lib.hid hfin
                  clear hfin o4 BK4 hlt1 k1 e1 hlt2 hne18 e2 BK1 BK2 BK3
                  go_wp2_with fail
                  go_ret
                  exact ⟨rfl, HFN.out.1, HFN.out.2.1, HFN.out.2.2⟩
                · skip
                  refine op_do (some 53) (.slice A2 m c2) y1 (by kernel_rfl) (by kernel_rfl) (by kernel_rfl) (exec_loadCell 62 (.tmp 52) ⟨g, 1, none⟩ _ _ (by kernel_rfl) (by kernel_rfl) (by rw [BK1.cell (p := ⟨g, 1, none⟩) hgy]; exact d1) Try.underlying62 rfl) ?_
                  refine ⟨((BK1.block _ hgp0).trans HP0), ?_⟩
                  simp only [put_lit, put_non, List.set_cons_zero, List.set_cons_succ]
                  refine hk_one (i := 1) (by kernel_rfl) ?_
                  obtain ⟨y2, e2⟩ : ∃ y, y = y1.alloc (.cells #[] 74) := ⟨_, rfl⟩
                  have hBa : Below y1.heap.size y1 y2 := by rw [e2]; exact (Below.refl _ _).alloc (Nat.le_refl _) _
                  have hlt2 : y1.heap.size < y2.heap.size := by rw [e2]; show _ < (y1.heap.push _).size; simp
                  have BK2 := BK1.trans (hBa.mono BK1.size)
                  have k1 := k1.below hBa
                  have o2 : y2.ownsRow yd.heap.size 74 65 (.slice (some ⟨y1.heap.size, 0, none⟩) 0 0) 0 [] := by rw [e2]; exact World.ownsRow_made y1 #[] 0 BK1.size (by unfold maxLen; omega) (by simp)
                  have hne18 : (y1.heap.size : Nat) ≠ yd.heap.size := Nat.ne_of_gt (Nat.lt_of_lt_of_le hlt1 (Nat.le_refl _))
                  clear hBa
                  refine op_do (some 49) (.slice (some ⟨y1.heap.size, 0, none⟩) 0 0) y2 (by kernel_rfl) (by kernel_rfl) (by kernel_rfl) (by rw [e2]; exact exec_noneC Try.underlying62 info_pen (by kernel_rfl)) ?_
                  refine ⟨((BK2.block _ hgp0).trans HP0), ?_⟩
                  simp only [put_lit, put_non, List.set_cons_zero, List.set_cons_succ]
                  refine hk_one (i := 6) (by kernel_rfl) ?_
                  refine op_appendC Try.underlying62 zero_penV (pen1_length Z64_length) (by omega) (by omega) (some 54) 49 53 (by kernel_rfl) (by kernel_rfl) (by kernel_rfl) (by kernel_rfl) yd.heap.size (.slice (some ⟨y1.heap.size, 0, none⟩) 0 0) 0 [] (by kernel_rfl) o2 (.slice A2 m c2) m (penC s.pend) (by kernel_rfl) (CU.out.below BK2) (penC_one _) (by have := HPM.out; omega) BK2.size ?_
                  intro v3 y3 o3 hg
                  have BK3 := BK2.grown hg BK2.size (fun k e => (o2.lt k e).1)
                  have k1 := k1.grown hg (fun b hb e => hne18 (by simp only [Value.ownBlock, Option.some.injEq] at hb e; omega))
                  clear hg o2
                  refine ⟨((BK3.block _ hgp0).trans HP0), ?_⟩
                  simp only [put_lit, put_non, List.set_cons_zero, List.set_cons_succ]
                  refine hk_one (i := 9) (by kernel_rfl) ?_
                  refine op_appendC Try.underlying62 zero_penV (pen1_length Z64_length) (by omega) (by omega) (some 57) 54 56 (by kernel_rfl) (by kernel_rfl) (by kernel_rfl) (by kernel_rfl) yd.heap.size v3 (0 + m) ([] ++ penC s.pend) (by kernel_rfl) o3 (.slice (some ⟨yd.heap.size, 0, none⟩) 1 1) 1 (pen1 at' (padS bs)) (by kernel_rfl) k1 (pen1_one _ _) (by have := HPM.out; omega) BK3.size ?_
                  intro v4 y4 o4 hg
                  have BK4 := BK3.grown hg BK3.size (fun k e => (o3.lt k e).1)
                  clear hg o3
                  refine ⟨((BK4.block _ hgp0).trans HP0), ?_⟩
                  simp only [put_lit, put_non, List.set_cons_zero, List.set_cons_succ]
                  refine hk_take (i := 10) (some 58) (.pointer (some ⟨g, 0, none⟩)) (by kernel_rfl) (by kernel_rfl) (by kernel_rfl) (by kernel_rfl) (by kernel_rfl) (by kernel_rfl) (fun W hS => by kernel_rfl) (fun _ _ d _ _ h => by cases d <;> exact h) ((BK4.block _ hgp0).trans HP0) ?_
                  simp only [put_lit, put_non, List.set_cons_zero, List.set_cons_succ]
                  refine hk_take (i := 11) (some 59) (.pointer (some ⟨g, 1, none⟩)) (by kernel_rfl) (by kernel_rfl) (by kernel_rfl) (by kernel_rfl) (by kernel_rfl) (by kernel_rfl) (fun W hS => by kernel_rfl) (fun _ _ d _ _ h => by cases d <;> exact h) ((BK4.block _ hgp0).trans HP0) ?_
                  simp only [put_lit, put_non, List.set_cons_zero, List.set_cons_succ]
                  obtain ⟨A9, c9, e9⟩ := (own_cel o4).form
                  subst e9
                  refine hk_one (i := 12) (by kernel_rfl) ?_
                  refine op_skip none (y4.setCell ⟨g, 1, none⟩ (.slice A9 (0 + m + 1) c9)) (by kernel_rfl) (by kernel_rfl) (by kernel_rfl) (exec_storeS 59 57 (by kernel_rfl) (by kernel_rfl) (by kernel_rfl) (by rw [BK4.frozen (p := ⟨g, 1, none⟩) hgy]; exact dz) (by rw [BK4.cell (p := ⟨g, 1, none⟩) hgy]; exact d1)) ?_
                  refine ⟨by rw [Below.heap_setCell _ _ _ _ hgpg]; exact ((BK4.block _ hgp0).trans HP0), ?_⟩
                  simp only [put_lit, put_non, List.set_cons_zero, List.set_cons_succ]
                  refine hk_done (by kernel_rfl) ?_
                  have hfin := FIN.out y4 (.slice A9 (0 + m + 1) c9) BK4 (by rw [List.nil_append] at o4; rw [show m + 1 = 0 + m + 1 by omega]; exact o4)
                  have HFN := Lib.hid hfin
                  clear hfin o4 BK4 hlt1 k1 e1 hlt2 hne18 e2 BK1 BK2 BK3
                  go_wp2_with fail
                  go_ret
                  exact ⟨rfl, HFN.out.1, HFN.out.2.1, HFN.out.2.2⟩
              -- END 14
end
end Go.Proofs.Ythknlimhenbhfaa

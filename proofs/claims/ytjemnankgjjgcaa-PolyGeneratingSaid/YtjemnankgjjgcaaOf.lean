/- The contract of credencelaw3.of: the list that the laws on polynomials build of a row of whole numbers. -/
import Derived.Deep.CutRange
import Derived.Test.YtjemnankgjjgcaaPair
import Derived.Test.YtjemnankgjjgcaaKnow3
namespace Go.Proofs.Ytjemnankgjjgcaa
set_option linter.unusedSimpArgs false
open Go.RowKit Dig
set_option linter.unusedVariables false

theorem Ofl.inside {E : World → Value → Rat → Prop} {base k : Nat} {w : World} {v : Value} {qs : List Rat} (h : Ofl E base w v qs) (hk : v.ownBlock = some k) : base ≤ k := by
  rcases h with ⟨rfl, rfl⟩ | ⟨g, ts, rfl, hb, _⟩
  · simp [Value.ownBlock] at hk
  · simp [Value.ownBlock] at hk
    omega
theorem take_ofq {zs : List Int} {j : Nat} (h : j < zs.length) : (zs.take (j + 1)).map ofq = (zs.take j).map ofq ++ [ofq (zs.getD j 0)] := by
  rw [List.take_succ_eq_append_getElem h, List.map_append, List.getD_eq_getElem?_getD, List.getElem?_eq_getElem h]
  rfl
theorem OF.pf {w wn : World} {b : Bool} {A A' : Option Addr} {m c m' c' : Nat} {q : Rat} (h : OF w.heap.size wn (.agg #[.bool b, .slice A m c, .slice A' m' c']) q 2) (hB : Below w.heap.size w wn) :
    PF 2 w (wn.alloc (.cells #[.bool b, .slice A m c, .slice A' m' c'] 29)) wn.heap.size q := by
  obtain ⟨b', A1, m1, c1, A2, m2, c2, e, hb, hx, hy, ox, oy, ha⟩ := h
  simp only [Value.agg.injEq, Array.mk.injEq, List.cons.injEq, Value.bool.injEq, Value.slice.injEq, and_true] at e
  obtain ⟨rfl, ⟨rfl, rfl, rfl⟩, rfl, rfl, rfl⟩ := e
  refine ⟨b, _, _, _, _, Fcl.new wn _ _ _, Pair.new ox oy ha _, dg_length_le _ _ hx.2, dg_length_le _ _ hy.2, ?_, hB.alloc hB.size _, hB.size⟩
  rw [val_dg, val_dg, ← hb]
  exact fr_self q
theorem PF.zero {B w : World} {g k : Nat} {q : Rat} (h : PF k B w g q) : PF k B (stor3 w g (.bool false) (.slice none 0 0) (.slice none 0 0)) g 0 := by
  obtain ⟨b, X, Y, xs, ys, hF, hP, hx, hy, hq, hB, hg⟩ := h
  refine ⟨false, _, _, [], [], hF.put3 false _ _, ⟨Own.nil _ _, Own.nil _ _, fun e => by simp [Value.ownBlock] at e, fun e => by simp [Value.ownBlock] at e, fun h e => by simp [Value.ownBlock] at e, fun h e => (by cases e), fun h e => (by cases e), ?_⟩, by simp, by simp, ?_, below_put3 hB hg _ _ _, hg⟩
  · exact (hF.put3 false (.slice none 0 0) (.slice none 0 0)).lt
  · exact fr_zero _ _
set_option maxHeartbeats 16000000 in
theorem of_v (w : World) (v : Value) (zs : List Int) (h : Ints w v zs) : Calls Try.prog 10 #[v] w fun e w' => ∃ r, e = .returned r ∧ Ofl (FV 3) w.heap.size w' r (ofl zs) ∧ Below w.heap.size w w' := by
  obtain ⟨A, c, rfl⟩ := h.form
  have hbd := h.len.2
  have hlen : (zs.length : Int) ≤ 9223372036854775807 := by omega
  go_enter Try.func10, Try.ntmps10
  go_wp2_with fail
  go_loopw [3, 4] (fun p i wr => ∃ j : Nat, j ≤ zs.length ∧ j ≤ 7 ∧ i = .int .i64 j ∧ Ofl (FV 3) w.heap.size wr p ((zs.take j).map ofq) ∧ Below w.heap.size w wr) (fun _ i _ => 7 - (intOf i).toNat)
  case atStart => exact ⟨0, Nat.zero_le _, by omega, rfl, Ofl.nil _ _ _, Below.refl _ _⟩
  case round =>
    obtain ⟨j, hj, hj7, rfl, hO, hB⟩ := hrel
    by_cases hlt : j < zs.length
    · by_cases h7 : j < 7
      · have HZ := Lib.hid (h.below hB)
        obtain ⟨b0, off, rfl, hbb, hall⟩ := (h.below hB).cells (by omega)
        obtain ⟨hc, hfit⟩ := hall j hlt
        have HSN := Lib.hid (take_ofq hlt)
        have HO := Lib.hid hO
        have HB := Lib.hid hB
        obtain ⟨z, ez⟩ : ∃ z, zs.getD j 0 = z := ⟨_, rfl⟩
        rw [ez] at hc hfit HSN
        have HE := Lib.hid ez
        clear ez
        have hki : (j : Int) < zs.length := by omega
        have hk7 : (j : Int) < 7 := by omega
        clear hall hO hB
        go_wp2_with fail
        refine (baseFrac_own wr z).mono ?_
        rintro e w1 ⟨vf, rfl, hv, hB1⟩
        obtain ⟨b, A1, m, c1, A1', m', c1', rfl, hb, hvx, hvy⟩ := hv.canF.parts
        have hp := hv.pf hB1
        have hc := (hB1.cell (p := ⟨b0, off + j, none⟩) hbb).trans hc
        have hb1 : b0 < w1.heap.size := Nat.lt_of_lt_of_le hbb hB1.size
        obtain ⟨W, g, ew, eg, hBW, hFW⟩ := var1 w1 b (.slice A1 m c1) (.slice A1' m' c1')
        rw [ew, eg] at hp
        have hc := (hBW.cell (p := ⟨b0, off + j, none⟩) hb1).trans hc
        have hne : b0 ≠ g := by omega
        have HP := Lib.hid hp
        obtain ⟨k0, k1, k2⟩ := hFW.cells
        obtain ⟨f0, f1, f2⟩ := hFW.frozen
        clear hv hvx hvy hb hp hB1
        go_upto_if 26 with fail
        go_cut [] from 6 to 47 (fun wx => PF 2 wr wx g (ofq z))
        case first =>
          by_cases h3 : bits .and .i64 z 3 = 3
          · have hb3 : (bits .and .i64 z 3 == 3) = true := by rw [h3]; rfl
            have hq : ofq z = 0 := by unfold ofq; rw [if_pos h3]
            have HQ := Lib.hid (hq ▸ HP.out.zero)
            clear h3 hq
            go_wp2_with fail
            go_meet
            case rel => exact HQ.out
          · have hb3 : (bits .and .i64 z 3 == 3) = false := by rw [beq_eq_false_iff_ne]; exact h3
            have hq : ofq z = bq z := by unfold ofq; rw [if_neg h3]
            have HQ := Lib.hid (hq ▸ HP.out)
            clear h3 hq
            go_wp2_with fail
            go_meet
            case rel => exact HQ.out
        case rest =>
          have HP := Lib.hid hcut
          obtain ⟨b, X, Y, xs, ys, hF, hP, hlx, hly, hq, hB, hg⟩ := hcut
          obtain ⟨b2, off2, e2, hb2, hall2⟩ := (HZ.out.below hB).cells (by omega)
          cases e2
          obtain ⟨hc, _⟩ := hall2 j hlt
          rw [HE.out] at hc
          clear hall2 HZ
          go_upto_if 33 with fail
          go_cut [] from 6 to 47 (fun wx => PF 3 wr wx g (ofq z))
          case first =>
            by_cases h12 : bits .and .i64 z 12 = 12
            · have hb12 : (bits .and .i64 z 12 == 12) = true := by rw [h12]; rfl
              clear h12
              go_wp2_with fail
              refine lw_begin (S := till 9 11 (fun w => w.cell? ⟨g, 1, none⟩ = some X) (fun w => w.cell? ⟨g, 2, none⟩ = some Y)) 12 (by kernel_rfl) (by kernel_rfl) ?_
              have hF : Fcl wc.drew g b X Y := hF
              have hP : Pair wc.drew wr.heap.size g X Y xs ys none none := hP.drew
              have hB := hB.drew
              generalize wc.drew = y0 at *
              have hS0 : till 9 11 (fun w => w.cell? ⟨g, 1, none⟩ = some X) (fun w => w.cell? ⟨g, 2, none⟩ = some Y) (Array.replicate 12 false) y0 := ⟨fun _ => hF.cells.2.1, fun _ => hF.cells.2.2⟩
              refine lw_any (i := 0) (some 34) (.pointer (some ⟨g, 1, none⟩)) (by kernel_rfl) (by kernel_rfl) (by kernel_rfl) (by kernel_rfl) (by kernel_rfl) (by kernel_rfl) (fun w => by kernel_rfl) (by decide) (by decide) (shut_start 12) (fun _ _ d _ _ h => by cases d <;> exact h) hS0 (fun hsh hS => ?_)
              simp only [put_lit, put_non, List.set_cons_zero, List.set_cons_succ]
              refine lw_load (i := 1) (m := 3) (some 35) X (by kernel_rfl) (by kernel_rfl) (by kernel_rfl) (by kernel_rfl) (by kernel_rfl) (by kernel_rfl) (fun w hS => exec_part 27 34 hS (by kernel_rfl) (by kernel_rfl) (by kernel_rfl)) (by kernel_rfl) (by kernel_rfl) (by decide) (by decide) hsh (fun _ _ d _ _ h => by cases d <;> exact h) hS (fun hsh hS => ?_)
              simp only [put_lit, put_non, List.set_cons_zero, List.set_cons_succ]
              refine lw_any (i := 4) (some 38) (.pointer (some ⟨g, 2, none⟩)) (by kernel_rfl) (by kernel_rfl) (by kernel_rfl) (by kernel_rfl) (by kernel_rfl) (by kernel_rfl) (fun w => by kernel_rfl) (by decide) (by decide) hsh (fun _ _ d _ _ h => by cases d <;> exact h) hS (fun hsh hS => ?_)
              simp only [put_lit, put_non, List.set_cons_zero, List.set_cons_succ]
              refine lw_load2 (i := 5) (m := 7) (some 39) Y (by kernel_rfl) (by kernel_rfl) (by kernel_rfl) (by kernel_rfl) (by kernel_rfl) (by kernel_rfl) (fun w hS => exec_part 27 38 hS (by kernel_rfl) (by kernel_rfl) (by kernel_rfl)) (by kernel_rfl) (by kernel_rfl) (by decide) (by decide) hsh (fun _ _ d _ _ h => by cases d <;> exact h) hS (fun hsh hS => ?_)
              simp only [put_lit, put_non, List.set_cons_zero, List.set_cons_succ]
              clear hsh hS hS0
              refine lw_two (i := 2) (j := 6) (by kernel_rfl) ?_ ?_
              · skip
                refine op_do (some 36) (.slice (some ⟨y0.heap.size, 0, none⟩) 1 1) (y0.alloc (.cells #[.int .u32 0] 53)) (by kernel_rfl) (by kernel_rfl) (by kernel_rfl) (exec_zero1 (by kernel_rfl) rfl) ?_
                have hF := hF.alloc (.cells #[.int .u32 0] 53)
                have hP := hP.build
                have hB := hB.alloc hB.size (.cells #[.int .u32 0] 53)
                obtain ⟨hx, ehx⟩ : ∃ n, y0.heap.size = n := ⟨_, rfl⟩
                rw [ehx] at hP ⊢
                clear ehx
                generalize y0.alloc (.cells #[.int .u32 0] 53) = y1 at *
                refine ⟨⟨fun _ => hF.cells.2.1, fun _ => hF.cells.2.2⟩, ?_⟩
                simp only [put_lit, put_non, List.set_cons_zero, List.set_cons_succ]
                refine lw_two (i := 3) (j := 6) (by kernel_rfl) ?_ ?_
                · skip
                  refine op_app (some 37) (.tmp 35) (.tmp 36) (by kernel_rfl) (by kernel_rfl) (by kernel_rfl) (by kernel_rfl) (by kernel_rfl) (by kernel_rfl) hP.ox (hP.op _ rfl).1 (by omega) hB.size ?_
                  intro V2 y2 hO hG hV
                  have hF := hF.of_block (hG.block _ hP.lt (fun e => hP.gx e.symm))
                  have hB := hB.grown hG hB.size (fun k e => (hP.ox.inside e).1)
                  have hP := hP.grow hO hG hV
                  obtain ⟨A2, n2, c2, rfl⟩ := hO.shape
                  clear hO hG hV
                  refine ⟨⟨fun _ => hF.cells.2.1, fun _ => hF.cells.2.2⟩, ?_⟩
                  simp only [put_lit, put_non, List.set_cons_zero, List.set_cons_succ]
                  refine lw_free (i := 8) (some 42) (.pointer (some ⟨g, 1, none⟩)) (by kernel_rfl) (by kernel_rfl) (by kernel_rfl) (by kernel_rfl) (by kernel_rfl) (by kernel_rfl) (fun w => by kernel_rfl) (by decide) (by decide) (by kernel_rfl) (fun _ _ d _ _ h => by cases d <;> exact h) ⟨fun _ => hF.cells.2.1, fun _ => hF.cells.2.2⟩ ?_
                  simp only [put_lit, put_non, List.set_cons_zero, List.set_cons_succ]
                  refine lw_one (i := 6) (by kernel_rfl) ?_
                  refine op_do (some 40) (.slice (some ⟨y2.heap.size, 0, none⟩) 1 1) (y2.alloc (.cells #[.int .u32 0] 53)) (by kernel_rfl) (by kernel_rfl) (by kernel_rfl) (exec_zero1 (by kernel_rfl) rfl) ?_
                  have hF := hF.alloc (.cells #[.int .u32 0] 53)
                  have hP := hP.swap.build.swap
                  have hB := hB.alloc hB.size (.cells #[.int .u32 0] 53)
                  obtain ⟨hy, ehy⟩ : ∃ n, y2.heap.size = n := ⟨_, rfl⟩
                  rw [ehy] at hP ⊢
                  clear ehy
                  generalize y2.alloc (.cells #[.int .u32 0] 53) = y3 at *
                  refine ⟨⟨fun _ => hF.cells.2.1, fun _ => hF.cells.2.2⟩, ?_⟩
                  simp only [put_lit, put_non, List.set_cons_zero, List.set_cons_succ]
                  refine lw_one (i := 7) (by kernel_rfl) ?_
                  refine op_app (some 41) (.tmp 39) (.tmp 40) (by kernel_rfl) (by kernel_rfl) (by kernel_rfl) (by kernel_rfl) (by kernel_rfl) (by kernel_rfl) hP.swap.ox (hP.swap.op _ rfl).1 (by omega) hB.size ?_
                  intro V2 y4 hO hG hV
                  have hF := hF.of_block (hG.block _ hP.lt (fun e => hP.swap.gx e.symm))
                  have hB := hB.grown hG hB.size (fun k e => (hP.swap.ox.inside e).1)
                  have hP := (hP.swap.grow hO hG hV).swap
                  obtain ⟨A3, n3, c3, rfl⟩ := hO.shape
                  clear hO hG hV
                  refine ⟨⟨fun _ => hF.cells.2.1, fun _ => hF.cells.2.2⟩, ?_⟩
                  simp only [put_lit, put_non, List.set_cons_zero, List.set_cons_succ]
                  refine lw_one (i := 9) (by kernel_rfl) ?_
                  refine op_skip none (y4.setCell ⟨g, 1, none⟩ (.slice A2 n2 c2)) (by kernel_rfl) (by kernel_rfl) (by kernel_rfl) (exec_storeNat 42 37 (by kernel_rfl) (by kernel_rfl) (by kernel_rfl) hF.frozen.2.1 hF.cells.2.1) ?_
                  have hF := hF.part1 (.slice A2 n2 c2)
                  have hP := hP.store 1 (.slice A2 n2 c2)
                  have hB := hB.setCell (p := ⟨g, 1, none⟩) hg (.slice A2 n2 c2)
                  generalize y4.setCell ⟨g, 1, none⟩ (.slice A2 n2 c2) = y5 at *
                  refine ⟨⟨fun h => absurd h (by decide), fun h => hF.cells.2.2⟩, ?_⟩
                  simp only [put_lit, put_non, List.set_cons_zero, List.set_cons_succ]
                  refine lw_free (i := 10) (some 43) (.pointer (some ⟨g, 2, none⟩)) (by kernel_rfl) (by kernel_rfl) (by kernel_rfl) (by kernel_rfl) (by kernel_rfl) (by kernel_rfl) (fun w => by kernel_rfl) (by decide) (by decide) (by kernel_rfl) (fun _ _ d _ _ h => by cases d <;> exact h) ⟨fun h => absurd h (by decide), fun _ => hF.cells.2.2⟩ ?_
                  simp only [put_lit, put_non, List.set_cons_zero, List.set_cons_succ]
                  refine lw_one (i := 11) (by kernel_rfl) ?_
                  refine op_skip none (y5.setCell ⟨g, 2, none⟩ (.slice A3 n3 c3)) (by kernel_rfl) (by kernel_rfl) (by kernel_rfl) (exec_storeNat 43 41 (by kernel_rfl) (by kernel_rfl) (by kernel_rfl) hF.frozen.2.2 hF.cells.2.2) ?_
                  have hF := hF.part2 (.slice A3 n3 c3)
                  have hP := hP.store 2 (.slice A3 n3 c3)
                  have hB := hB.setCell (p := ⟨g, 2, none⟩) hg (.slice A3 n3 c3)
                  generalize y5.setCell ⟨g, 2, none⟩ (.slice A3 n3 c3) = y6 at *
                  refine ⟨⟨fun h => absurd h (by decide), fun h => absurd h (by decide)⟩, ?_⟩
                  simp only [put_lit, put_non, List.set_cons_zero, List.set_cons_succ]
                  refine lw_done (by kernel_rfl) ?_
                  go_wp2_with fail
                  go_meet
                  case rel => exact PF.put hF hP hlx hly hq hB hg
                · skip
                  refine op_do (some 40) (.slice (some ⟨y1.heap.size, 0, none⟩) 1 1) (y1.alloc (.cells #[.int .u32 0] 53)) (by kernel_rfl) (by kernel_rfl) (by kernel_rfl) (exec_zero1 (by kernel_rfl) rfl) ?_
                  have hF := hF.alloc (.cells #[.int .u32 0] 53)
                  have hP := hP.swap.build.swap
                  have hB := hB.alloc hB.size (.cells #[.int .u32 0] 53)
                  obtain ⟨hy, ehy⟩ : ∃ n, y1.heap.size = n := ⟨_, rfl⟩
                  rw [ehy] at hP ⊢
                  clear ehy
                  generalize y1.alloc (.cells #[.int .u32 0] 53) = y2 at *
                  refine ⟨⟨fun _ => hF.cells.2.1, fun _ => hF.cells.2.2⟩, ?_⟩
                  simp only [put_lit, put_non, List.set_cons_zero, List.set_cons_succ]
                  refine lw_one (i := 3) (by kernel_rfl) ?_
                  refine op_app (some 37) (.tmp 35) (.tmp 36) (by kernel_rfl) (by kernel_rfl) (by kernel_rfl) (by kernel_rfl) (by kernel_rfl) (by kernel_rfl) hP.ox (hP.op _ rfl).1 (by omega) hB.size ?_
                  intro V2 y3 hO hG hV
                  have hF := hF.of_block (hG.block _ hP.lt (fun e => hP.gx e.symm))
                  have hB := hB.grown hG hB.size (fun k e => (hP.ox.inside e).1)
                  have hP := hP.grow hO hG hV
                  obtain ⟨A2, n2, c2, rfl⟩ := hO.shape
                  clear hO hG hV
                  refine ⟨⟨fun _ => hF.cells.2.1, fun _ => hF.cells.2.2⟩, ?_⟩
                  simp only [put_lit, put_non, List.set_cons_zero, List.set_cons_succ]
                  refine lw_free (i := 8) (some 42) (.pointer (some ⟨g, 1, none⟩)) (by kernel_rfl) (by kernel_rfl) (by kernel_rfl) (by kernel_rfl) (by kernel_rfl) (by kernel_rfl) (fun w => by kernel_rfl) (by decide) (by decide) (by kernel_rfl) (fun _ _ d _ _ h => by cases d <;> exact h) ⟨fun _ => hF.cells.2.1, fun _ => hF.cells.2.2⟩ ?_
                  simp only [put_lit, put_non, List.set_cons_zero, List.set_cons_succ]
                  refine lw_one (i := 7) (by kernel_rfl) ?_
                  refine op_app (some 41) (.tmp 39) (.tmp 40) (by kernel_rfl) (by kernel_rfl) (by kernel_rfl) (by kernel_rfl) (by kernel_rfl) (by kernel_rfl) hP.swap.ox (hP.swap.op _ rfl).1 (by omega) hB.size ?_
                  intro V2 y4 hO hG hV
                  have hF := hF.of_block (hG.block _ hP.lt (fun e => hP.swap.gx e.symm))
                  have hB := hB.grown hG hB.size (fun k e => (hP.swap.ox.inside e).1)
                  have hP := (hP.swap.grow hO hG hV).swap
                  obtain ⟨A3, n3, c3, rfl⟩ := hO.shape
                  clear hO hG hV
                  refine ⟨⟨fun _ => hF.cells.2.1, fun _ => hF.cells.2.2⟩, ?_⟩
                  simp only [put_lit, put_non, List.set_cons_zero, List.set_cons_succ]
                  refine lw_one (i := 9) (by kernel_rfl) ?_
                  refine op_skip none (y4.setCell ⟨g, 1, none⟩ (.slice A2 n2 c2)) (by kernel_rfl) (by kernel_rfl) (by kernel_rfl) (exec_storeNat 42 37 (by kernel_rfl) (by kernel_rfl) (by kernel_rfl) hF.frozen.2.1 hF.cells.2.1) ?_
                  have hF := hF.part1 (.slice A2 n2 c2)
                  have hP := hP.store 1 (.slice A2 n2 c2)
                  have hB := hB.setCell (p := ⟨g, 1, none⟩) hg (.slice A2 n2 c2)
                  generalize y4.setCell ⟨g, 1, none⟩ (.slice A2 n2 c2) = y5 at *
                  refine ⟨⟨fun h => absurd h (by decide), fun h => hF.cells.2.2⟩, ?_⟩
                  simp only [put_lit, put_non, List.set_cons_zero, List.set_cons_succ]
                  refine lw_free (i := 10) (some 43) (.pointer (some ⟨g, 2, none⟩)) (by kernel_rfl) (by kernel_rfl) (by kernel_rfl) (by kernel_rfl) (by kernel_rfl) (by kernel_rfl) (fun w => by kernel_rfl) (by decide) (by decide) (by kernel_rfl) (fun _ _ d _ _ h => by cases d <;> exact h) ⟨fun h => absurd h (by decide), fun _ => hF.cells.2.2⟩ ?_
                  simp only [put_lit, put_non, List.set_cons_zero, List.set_cons_succ]
                  refine lw_one (i := 11) (by kernel_rfl) ?_
                  refine op_skip none (y5.setCell ⟨g, 2, none⟩ (.slice A3 n3 c3)) (by kernel_rfl) (by kernel_rfl) (by kernel_rfl) (exec_storeNat 43 41 (by kernel_rfl) (by kernel_rfl) (by kernel_rfl) hF.frozen.2.2 hF.cells.2.2) ?_
                  have hF := hF.part2 (.slice A3 n3 c3)
                  have hP := hP.store 2 (.slice A3 n3 c3)
                  have hB := hB.setCell (p := ⟨g, 2, none⟩) hg (.slice A3 n3 c3)
                  generalize y5.setCell ⟨g, 2, none⟩ (.slice A3 n3 c3) = y6 at *
                  refine ⟨⟨fun h => absurd h (by decide), fun h => absurd h (by decide)⟩, ?_⟩
                  simp only [put_lit, put_non, List.set_cons_zero, List.set_cons_succ]
                  refine lw_done (by kernel_rfl) ?_
                  go_wp2_with fail
                  go_meet
                  case rel => exact PF.put hF hP hlx hly hq hB hg
              · skip
                refine op_do (some 40) (.slice (some ⟨y0.heap.size, 0, none⟩) 1 1) (y0.alloc (.cells #[.int .u32 0] 53)) (by kernel_rfl) (by kernel_rfl) (by kernel_rfl) (exec_zero1 (by kernel_rfl) rfl) ?_
                have hF := hF.alloc (.cells #[.int .u32 0] 53)
                have hP := hP.swap.build.swap
                have hB := hB.alloc hB.size (.cells #[.int .u32 0] 53)
                obtain ⟨hy, ehy⟩ : ∃ n, y0.heap.size = n := ⟨_, rfl⟩
                rw [ehy] at hP ⊢
                clear ehy
                generalize y0.alloc (.cells #[.int .u32 0] 53) = y1 at *
                refine ⟨⟨fun _ => hF.cells.2.1, fun _ => hF.cells.2.2⟩, ?_⟩
                simp only [put_lit, put_non, List.set_cons_zero, List.set_cons_succ]
                refine lw_one (i := 2) (by kernel_rfl) ?_
                refine op_do (some 36) (.slice (some ⟨y1.heap.size, 0, none⟩) 1 1) (y1.alloc (.cells #[.int .u32 0] 53)) (by kernel_rfl) (by kernel_rfl) (by kernel_rfl) (exec_zero1 (by kernel_rfl) rfl) ?_
                have hF := hF.alloc (.cells #[.int .u32 0] 53)
                have hP := hP.build
                have hB := hB.alloc hB.size (.cells #[.int .u32 0] 53)
                obtain ⟨hx, ehx⟩ : ∃ n, y1.heap.size = n := ⟨_, rfl⟩
                rw [ehx] at hP ⊢
                clear ehx
                generalize y1.alloc (.cells #[.int .u32 0] 53) = y2 at *
                refine ⟨⟨fun _ => hF.cells.2.1, fun _ => hF.cells.2.2⟩, ?_⟩
                simp only [put_lit, put_non, List.set_cons_zero, List.set_cons_succ]
                refine lw_one (i := 3) (by kernel_rfl) ?_
                refine op_app (some 37) (.tmp 35) (.tmp 36) (by kernel_rfl) (by kernel_rfl) (by kernel_rfl) (by kernel_rfl) (by kernel_rfl) (by kernel_rfl) hP.ox (hP.op _ rfl).1 (by omega) hB.size ?_
                intro V2 y3 hO hG hV
                have hF := hF.of_block (hG.block _ hP.lt (fun e => hP.gx e.symm))
                have hB := hB.grown hG hB.size (fun k e => (hP.ox.inside e).1)
                have hP := hP.grow hO hG hV
                obtain ⟨A2, n2, c2, rfl⟩ := hO.shape
                clear hO hG hV
                refine ⟨⟨fun _ => hF.cells.2.1, fun _ => hF.cells.2.2⟩, ?_⟩
                simp only [put_lit, put_non, List.set_cons_zero, List.set_cons_succ]
                refine lw_free (i := 8) (some 42) (.pointer (some ⟨g, 1, none⟩)) (by kernel_rfl) (by kernel_rfl) (by kernel_rfl) (by kernel_rfl) (by kernel_rfl) (by kernel_rfl) (fun w => by kernel_rfl) (by decide) (by decide) (by kernel_rfl) (fun _ _ d _ _ h => by cases d <;> exact h) ⟨fun _ => hF.cells.2.1, fun _ => hF.cells.2.2⟩ ?_
                simp only [put_lit, put_non, List.set_cons_zero, List.set_cons_succ]
                refine lw_one (i := 7) (by kernel_rfl) ?_
                refine op_app (some 41) (.tmp 39) (.tmp 40) (by kernel_rfl) (by kernel_rfl) (by kernel_rfl) (by kernel_rfl) (by kernel_rfl) (by kernel_rfl) hP.swap.ox (hP.swap.op _ rfl).1 (by omega) hB.size ?_
                intro V2 y4 hO hG hV
                have hF := hF.of_block (hG.block _ hP.lt (fun e => hP.swap.gx e.symm))
                have hB := hB.grown hG hB.size (fun k e => (hP.swap.ox.inside e).1)
                have hP := (hP.swap.grow hO hG hV).swap
                obtain ⟨A3, n3, c3, rfl⟩ := hO.shape
                clear hO hG hV
                refine ⟨⟨fun _ => hF.cells.2.1, fun _ => hF.cells.2.2⟩, ?_⟩
                simp only [put_lit, put_non, List.set_cons_zero, List.set_cons_succ]
                refine lw_one (i := 9) (by kernel_rfl) ?_
                refine op_skip none (y4.setCell ⟨g, 1, none⟩ (.slice A2 n2 c2)) (by kernel_rfl) (by kernel_rfl) (by kernel_rfl) (exec_storeNat 42 37 (by kernel_rfl) (by kernel_rfl) (by kernel_rfl) hF.frozen.2.1 hF.cells.2.1) ?_
                have hF := hF.part1 (.slice A2 n2 c2)
                have hP := hP.store 1 (.slice A2 n2 c2)
                have hB := hB.setCell (p := ⟨g, 1, none⟩) hg (.slice A2 n2 c2)
                generalize y4.setCell ⟨g, 1, none⟩ (.slice A2 n2 c2) = y5 at *
                refine ⟨⟨fun h => absurd h (by decide), fun h => hF.cells.2.2⟩, ?_⟩
                simp only [put_lit, put_non, List.set_cons_zero, List.set_cons_succ]
                refine lw_free (i := 10) (some 43) (.pointer (some ⟨g, 2, none⟩)) (by kernel_rfl) (by kernel_rfl) (by kernel_rfl) (by kernel_rfl) (by kernel_rfl) (by kernel_rfl) (fun w => by kernel_rfl) (by decide) (by decide) (by kernel_rfl) (fun _ _ d _ _ h => by cases d <;> exact h) ⟨fun h => absurd h (by decide), fun _ => hF.cells.2.2⟩ ?_
                simp only [put_lit, put_non, List.set_cons_zero, List.set_cons_succ]
                refine lw_one (i := 11) (by kernel_rfl) ?_
                refine op_skip none (y5.setCell ⟨g, 2, none⟩ (.slice A3 n3 c3)) (by kernel_rfl) (by kernel_rfl) (by kernel_rfl) (exec_storeNat 43 41 (by kernel_rfl) (by kernel_rfl) (by kernel_rfl) hF.frozen.2.2 hF.cells.2.2) ?_
                have hF := hF.part2 (.slice A3 n3 c3)
                have hP := hP.store 2 (.slice A3 n3 c3)
                have hB := hB.setCell (p := ⟨g, 2, none⟩) hg (.slice A3 n3 c3)
                generalize y5.setCell ⟨g, 2, none⟩ (.slice A3 n3 c3) = y6 at *
                refine ⟨⟨fun h => absurd h (by decide), fun h => absurd h (by decide)⟩, ?_⟩
                simp only [put_lit, put_non, List.set_cons_zero, List.set_cons_succ]
                refine lw_done (by kernel_rfl) ?_
                go_wp2_with fail
                go_meet
                case rel => exact PF.put hF hP hlx hly hq hB hg
            · have hb12 : (bits .and .i64 z 12 == 12) = false := by rw [beq_eq_false_iff_ne]; exact h12
              have HQ := Lib.hid (HP.out.le (show 2 ≤ 3 by omega))
              clear h12
              go_wp2_with fail
              go_meet
              case rel => exact HQ.out
          case rest =>
            clear hF hP hlx hly hq hB hg HP hc
            obtain ⟨b, A2, m, c2, A2', m', c2', hF, hv, hB, hg⟩ := hcut.open
            obtain ⟨k0, k1, k2⟩ := hF.cells
            have hBk : FBlk (wc.alloc (.cells (tcells [⟨b, (A2, m, c2), (A2', m', c2')⟩]).toArray 29)) wc.heap.size [⟨b, (A2, m, c2), (A2', m', c2')⟩] := FBlk.new wc _
            have hAl : Below wc.heap.size wc (wc.alloc (.cells (tcells [⟨b, (A2, m, c2), (A2', m', c2')⟩]).toArray 29)) := (Below.refl _ _).alloc (Nat.le_refl _) _
            have hv := FracV.below hv hAl
            have hL : Fls (FV 3) (wc.alloc (.cells (tcells [⟨b, (A2, m, c2), (A2', m', c2')⟩]).toArray 29)) (.slice (some ⟨wc.heap.size, 0, none⟩) 1 1) [ofq z] := Fls.of_blk hBk rfl (by simp) (fun i hi => by
              match i, hi with
              | 0, _ => exact hv
              | i + 1, hi => simp at hi)
            have hb2 := below_then hB hAl
            have HO2 := Lib.hid (HO.out.below (keeps_FV 3) hb2)
            have HB2 := Lib.hid (below_then HB.out hb2)
            have HL := Lib.hid hL
            have hsz : w.heap.size ≤ wc.heap.size + 1 := by have := HB.out.size; have := hB.size; omega
            have hl7 : ((zs.take j).map ofq).length ≤ 7 := by rw [List.length_map, List.length_take]; omega
            clear hF hv hB hg hBk hAl hL hb2
            go_wp2_with (at_builtin; refine wp_append_f (keeps_FV 3) 24 (by kernel_rfl) rfl _ _ rfl w.heap.size u3 ((zs.take j).map ofq) rfl HO2.out (.slice (some ⟨wc.heap.size, 0, none⟩) 1 1) [ofq z] rfl HL.out (by simp) (by simp at hl7 ⊢; omega) (by simp; omega) ?_; intro v' w' hG)
            obtain ⟨hG1, hG2, hG3, A9, n9, c9, rfl⟩ := hG
            go_roundw
            case rel => exact ⟨j + 1, by omega, by omega, by go_num, by rw [HSN.out]; exact hG1, HB2.out.grown hG2 HB2.out.size (fun k e => HO2.out.inside e)⟩
            case measure => simp [intOf]; omega
      · have : j = 7 := by omega
        subst this
        have h8l : (7 : Int) < zs.length := by omega
        clear hlt
        go_wp2_with fail
        go_ret
        exact ⟨_, rfl, hO, hB⟩
    · have : j = zs.length := by omega
      subst this
      have e : (zs.take zs.length).map ofq = ofl zs := by unfold ofl; rw [List.take_of_length_le (Nat.le_refl _), List.take_of_length_le hj7]
      rw [e] at hO
      have HO := Lib.hid hO
      clear e hO
      go_wp2_with fail
      go_ret
      exact ⟨_, rfl, HO.out, hB⟩
end Go.Proofs.Ytjemnankgjjgcaa

/- The law ValueRound of stage 8. -/
import Derived.Deep.DeepCutAuto
import Derived.Test.YtpbkmkcfhkdjjaaDoorVvk
import Derived.Test.YtpbkmkcfhkdjjaaDoorVlr
namespace Go.Proofs.YtpbkmkcfhkdjjaaDoor
set_option linter.unusedSimpArgs false
open Go.RowKit Dig
set_option linter.unusedVariables false

theorem newV (w : World) : ∃ w' g, w.alloc (.cells (Value.agg #[.int .i64 0, .int .i64 0, .string ⟨#[]⟩]).cells 26) = w' ∧ w.heap.size = g ∧ Below w.heap.size w w' ∧ VarV w' g (0, 0, []) :=
  ⟨_, _, rfl, rfl, one_below w _, heap_alloc_new w _⟩
theorem storeV {w : World} {g : Nat} {y : Vl} (h : VarV w g y) (x : Vl) : ∃ w', (∀ (ev : Operand → Value) (o : Oper) (t s : Tmp), o.op = .store 26 (.tmp t) (.tmp s) → ev (.tmp t) = .pointer (some ⟨g, 0, none⟩) → ev (.tmp s) = vV x → (execOp ev o).run Tryd.prog w = .ok .skip w') ∧ VarV w' g x ∧ w.grownBy w' (some g) :=
  exec_storeX (cs := vC x) size_val h rfl fun v hv => by
    simp only [vC, List.mem_cons, List.not_mem_nil, or_false] at hv
    rcases hv with rfl | rfl | rfl <;> rfl
section
variable {ev : Operand → Value} {o : Oper} {w : World}
theorem exec_eqS (t s : Tmp) {x y : List UInt8} (ho : o.op = .binOp .eql 9 (.tmp t) (.tmp s) 9) (hx : ev (.tmp t) = .string ⟨x.toArray⟩) (hy : ev (.tmp s) = .string ⟨y.toArray⟩) : (execOp ev o).run Tryd.prog w = .ok (.value (.bool (decide (x = y)))) w := by
  rw [← beq_bytes]
  unfold execOp
  simp only [ho, hx, hy]
  rfl
theorem exec_eqBB (t s : Tmp) {b : Bool} (ho : o.op = .binOp .eql 4 (.tmp t) (.tmp s) 4) (hx : ev (.tmp t) = .bool b) (hy : ev (.tmp s) = .bool b) : (execOp ev o).run Tryd.prog w = .ok (.value (.bool true)) w := by
  unfold execOp
  simp only [ho, hx, hy]
  cases b <;> kernel_rfl
end
/-- What Parse makes of a text that Format wrote. -/
theorem parseF_c {w : World} (hS : Std w) {x : Vl} (h : okV x) (hl : (fmtV x).length ≤ 1000000) : Calls Tryd.prog 30 #[.string ⟨(fmtV x).toArray⟩] w (RVal w (.tuple #[vV x, .int .i64 0])) := by
  refine (parse_c hS (fmtV x) hl).mono ?_
  rintro e w' ⟨hB, ⟨v, hv, rfl⟩ | ⟨hn, _⟩⟩
  · rw [isTxt_uniq hv (w := x) ⟨h, rfl⟩]
    exact ⟨rfl, hB⟩
  · exact absurd ⟨h, rfl⟩ (hn x)
theorem intT_length (n : Int) (h1 : -9223372036854775808 ≤ n) (h2 : n ≤ 9223372036854775807) : (intT n).length ≤ 1000 := by
  have hd : (dtext n.natAbs).length ≤ 100 := by
    obtain ⟨d1, d2, d3⟩ := dtext_spec n.natAbs
    rcases Nat.lt_or_ge 100 (dtext n.natAbs).length with h | h
    · exfalso
      obtain ⟨c, t, e, hc⟩ := dtext_ne n.natAbs
      rw [e] at d1 d2 d3 h
      by_cases h48 : c = 48
      · subst h48
        cases t with
        | nil => simp at h
        | cons d t => simp [lead] at d3
      · have hg := dec_lead_ge c t hc h48
        rw [d2] at hg
        have h3 : 10 ^ 99 ≤ 10 ^ t.length := Nat.pow_le_pow_right (by decide) (by simp at h; omega)
        have h4 : n.natAbs < 10 ^ 99 := Nat.lt_of_le_of_lt (show n.natAbs ≤ 9223372036854775808 by omega) (by decide)
        omega
    · exact h
  unfold intT
  split
  · simp only [List.length_append, List.length_singleton]
    omega
  · simp only [List.nil_append]
    omega
theorem fmtV_length {x : Vl} (h : okV x) : (fmtV x).length ≤ 1000 := by
  obtain ⟨t, n, s⟩ := x
  rcases h.1 with ⟨e1, e2⟩ | ⟨e1, e2, e3, e4⟩
  · obtain rfl : t = 1 := e1
    exact intT_length n h.2.1 h.2.2
  · obtain rfl : t = 2 := e1
    show (39 :: (qs s ++ [39])).length ≤ 1000
    have := (qs_length s).2
    have : s.length ≤ 64 := e3
    simp only [List.length_cons, List.length_append, List.length_nil]
    omega
theorem formatF_c {w : World} (hS : Std w) {x : Vl} (h : okV x) (hl : x.2.2.length ≤ 1000000) : Calls Tryd.prog 32 #[vV x] w (RVal w (.string ⟨(fmtV x).toArray⟩)) := by
  have hc := format_c hS x h.2.1 h.2.2 hl
  rwa [(vldB_iff x).2 h.1, if_pos rfl] at hc
set_option maxRecDepth 20000 in
set_option maxHeartbeats 8000000 in
theorem round_walk (w : World) (a b : Vl) (o0 : OkVl a) (o1 : OkVl b) (hS : Std w) : Calls Tryd.prog 9 #[vV a, vV b] w (RVal w (.bool true)) := by
  have HS := Lib.hid hS
  by_cases hla : a.2.2.length ≤ 80
  · by_cases hlb : b.2.2.length ≤ 80
    · have ha := Lib.hid (show a.2.2.length ≤ 1000000 by omega)
      have hb := Lib.hid (show b.2.2.length ≤ 1000000 by omega)
      have OA := Lib.hid (mkV_ok o0)
      have OB := Lib.hid (mkV_ok o1)
      have k1 : ¬ (a.2.2.length : Int) > 80 := by omega
      have k2 : ¬ (b.2.2.length : Int) > 80 := by omega
      clear hS o0 o1 hla hlb
      go_enter Tryd.func9, Tryd.ntmps9
      go_upto_region 3 with (first | ((with_reducible refine wp_boxV 2 rfl rfl 0 rfl a ?hx ?_); (case hx => rfl); intro w1 hv hb; have V2 := Lib.hid hv; have B2 := Lib.hid hb; clear hv hb) | ((with_reducible refine wp_boxV 3 rfl rfl 1 rfl b ?hx ?_); (case hx => rfl); intro w2 hv hb; have V3 := Lib.hid hv; have B3 := Lib.hid hb; clear hv hb; have V2 := Lib.hid (V2.out.below B3.out); have BW := Lib.hid (below_then B2.out B3.out); have c2 := V2.out.cells.2.2; have c3 := V3.out.cells.2.2))
      go_cut [5, 6] from 19 to 22 (fun s5 s6 wx => ∃ g5 g6, s5 = .pointer (some ⟨g5, 0, none⟩) ∧ s6 = .pointer (some ⟨g6, 0, none⟩) ∧ Below w.heap.size w wx ∧ VarV wx g5 (mkV a) ∧ VarV wx g6 (mkV b))
      case first =>
        refine hk_begin (S := fun W => Below w.heap.size w W ∧ VarV W w.heap.size a ∧ VarV W w1.heap.size b) 8 (by kernel_rfl) (by kernel_rfl) ?_
        have BW : Below w.heap.size w w2.drew := BW.out.drew
        have V2 : VarV w2.drew w.heap.size a := V2.out
        have V3 : VarV w2.drew w1.heap.size b := V3.out
        refine hk_take (i := 0) (some 19) (vV a) (by kernel_rfl) (by kernel_rfl) (by kernel_rfl) (by kernel_rfl) (by kernel_rfl) (by kernel_rfl) (fun w hS => exec_loadV 2 hS.2.1.range (by kernel_rfl) (by kernel_rfl)) (fun _ _ d _ _ h => by cases d <;> exact h) ⟨BW, V2, V3⟩ ?_
        simp only [put_lit, put_non, List.set_cons_zero, List.set_cons_succ]
        refine hk_take (i := 2) (some 21) (vV b) (by kernel_rfl) (by kernel_rfl) (by kernel_rfl) (by kernel_rfl) (by kernel_rfl) (by kernel_rfl) (fun w hS => exec_loadV 3 hS.2.2.range (by kernel_rfl) (by kernel_rfl)) (fun _ _ d _ _ h => by cases d <;> exact h) ⟨BW, V2, V3⟩ ?_
        simp only [put_lit, put_non, List.set_cons_zero, List.set_cons_succ]
        refine hk_three (i := 1) (j := 4) (k := 5) (by kernel_rfl) ?_ ?_ ?_
        · skip
          refine op_call (some 20) 13 #[vV a] (by kernel_rfl) (by kernel_rfl) (by kernel_rfl) (fun w => (by kernel_rfl)) ?_
          refine (mkv_c _ a ha.out).mono ?_
          rintro e y1 ⟨rfl, hB⟩
          have V2 := V2.below hB
          have V3 := V3.below hB
          have BW := below_then BW hB
          refine ⟨_, rfl, ⟨BW, V2, V3⟩, ?_⟩
          clear hB
          simp only [put_lit, put_non, List.set_cons_zero, List.set_cons_succ]
          refine hk_three (i := 3) (j := 4) (k := 5) (by kernel_rfl) ?_ ?_ ?_
          · skip
            refine op_call (some 22) 13 #[vV b] (by kernel_rfl) (by kernel_rfl) (by kernel_rfl) (fun w => (by kernel_rfl)) ?_
            refine (mkv_c _ b hb.out).mono ?_
            rintro e y2 ⟨rfl, hB⟩
            have V2 := V2.below hB
            have V3 := V3.below hB
            have BW := below_then BW hB
            refine ⟨_, rfl, ⟨BW, V2, V3⟩, ?_⟩
            clear hB
            simp only [put_lit, put_non, List.set_cons_zero, List.set_cons_succ]
            refine hk_two (i := 4) (j := 5) (by kernel_rfl) ?_ ?_
            · skip
              obtain ⟨y3, g5, ewg5, egg5, hB, P5⟩ := newV y2
              have q2g5 : w.heap.size < g5 := by have := V2.lt; omega
              have q3g5 : w1.heap.size < g5 := by have := V3.lt; omega
              have V2 := V2.below hB
              have V3 := V3.below hB
              have BW := below_then BW hB
              refine op_do (some 5) (.pointer (some ⟨g5, 0, none⟩)) y3 (by kernel_rfl) (by kernel_rfl) (by kernel_rfl) (by rw [← ewg5, ← egg5]; exact exec_allocC info_val (by kernel_rfl)) ⟨⟨BW, V2, V3⟩, ?_⟩
              clear hB
              simp only [put_lit, put_non, List.set_cons_zero, List.set_cons_succ]
              refine hk_one (i := 5) (by kernel_rfl) ?_
              obtain ⟨y4, g6, ewg6, egg6, hB, P6⟩ := newV y3
              have ne56 : g5 < g6 := by have := P5.lt; omega
              have q2g6 : w.heap.size < g6 := by have := V2.lt; omega
              have q3g6 : w1.heap.size < g6 := by have := V3.lt; omega
              have V2 := V2.below hB
              have V3 := V3.below hB
              have P5 := P5.below hB
              have BW := below_then BW hB
              refine op_do (some 6) (.pointer (some ⟨g6, 0, none⟩)) y4 (by kernel_rfl) (by kernel_rfl) (by kernel_rfl) (by rw [← ewg6, ← egg6]; exact exec_allocC info_val (by kernel_rfl)) ⟨⟨BW, V2, V3⟩, ?_⟩
              clear hB
              simp only [put_lit, put_non, List.set_cons_zero, List.set_cons_succ]
              obtain ⟨u1, hr1, hv1, hg1⟩ := storeV P5 (mkV a)
              have n2 := V2.lt
              have n3 := V3.lt
              have X2 := V2.keepB (hg1.block w.heap.size n2 (fun e => by injection e with e; omega))
              have X3 := V3.keepB (hg1.block w1.heap.size n3 (fun e => by injection e with e; omega))
              have X6 := P6.keepB (hg1.block g6 P6.lt (fun e => by injection e with e; omega))
              have XB := below_store BW hg1 (by omega) BW.size
              refine hk_one (i := 6) (by kernel_rfl) ?_
              refine op_skip none u1 (by kernel_rfl) (by kernel_rfl) (by kernel_rfl) (hr1 _ _ 5 20 (by kernel_rfl) (by kernel_rfl) (by kernel_rfl)) ⟨⟨XB, X2, X3⟩, ?_⟩
              simp only [put_lit, put_non, List.set_cons_zero, List.set_cons_succ]
              obtain ⟨u2, hr2, hv2, hg2⟩ := storeV X6 (mkV b)
              have Y2 := X2.keepB (hg2.block w.heap.size X2.lt (fun e => by injection e with e; omega))
              have Y3 := X3.keepB (hg2.block w1.heap.size X3.lt (fun e => by injection e with e; omega))
              have Y5 := hv1.keepB (hg2.block g5 hv1.lt (fun e => by injection e with e; omega))
              have YB := below_store XB hg2 (by omega) XB.size
              refine hk_one (i := 7) (by kernel_rfl) ?_
              refine op_skip none u2 (by kernel_rfl) (by kernel_rfl) (by kernel_rfl) (hr2 _ _ 6 22 (by kernel_rfl) (by kernel_rfl) (by kernel_rfl)) ⟨⟨YB, Y2, Y3⟩, ?_⟩
              simp only [put_lit, put_non, List.set_cons_zero, List.set_cons_succ]
              refine hk_done (by kernel_rfl) ?_
              go_wp2_with fail
              go_meet
              case rel => exact ⟨g5, g6, rfl, rfl, YB, Y5, hv2⟩
            · skip
              obtain ⟨y5, g6, ewg6, egg6, hB, P6⟩ := newV y2
              have q2g6 : w.heap.size < g6 := by have := V2.lt; omega
              have q3g6 : w1.heap.size < g6 := by have := V3.lt; omega
              have V2 := V2.below hB
              have V3 := V3.below hB
              have BW := below_then BW hB
              refine op_do (some 6) (.pointer (some ⟨g6, 0, none⟩)) y5 (by kernel_rfl) (by kernel_rfl) (by kernel_rfl) (by rw [← ewg6, ← egg6]; exact exec_allocC info_val (by kernel_rfl)) ⟨⟨BW, V2, V3⟩, ?_⟩
              clear hB
              simp only [put_lit, put_non, List.set_cons_zero, List.set_cons_succ]
              refine hk_one (i := 4) (by kernel_rfl) ?_
              obtain ⟨y6, g5, ewg5, egg5, hB, P5⟩ := newV y5
              have ne56 : g6 < g5 := by have := P6.lt; omega
              have q2g5 : w.heap.size < g5 := by have := V2.lt; omega
              have q3g5 : w1.heap.size < g5 := by have := V3.lt; omega
              have V2 := V2.below hB
              have V3 := V3.below hB
              have P6 := P6.below hB
              have BW := below_then BW hB
              refine op_do (some 5) (.pointer (some ⟨g5, 0, none⟩)) y6 (by kernel_rfl) (by kernel_rfl) (by kernel_rfl) (by rw [← ewg5, ← egg5]; exact exec_allocC info_val (by kernel_rfl)) ⟨⟨BW, V2, V3⟩, ?_⟩
              clear hB
              simp only [put_lit, put_non, List.set_cons_zero, List.set_cons_succ]
              obtain ⟨u1, hr1, hv1, hg1⟩ := storeV P5 (mkV a)
              have n2 := V2.lt
              have n3 := V3.lt
              have X2 := V2.keepB (hg1.block w.heap.size n2 (fun e => by injection e with e; omega))
              have X3 := V3.keepB (hg1.block w1.heap.size n3 (fun e => by injection e with e; omega))
              have X6 := P6.keepB (hg1.block g6 P6.lt (fun e => by injection e with e; omega))
              have XB := below_store BW hg1 (by omega) BW.size
              refine hk_one (i := 6) (by kernel_rfl) ?_
              refine op_skip none u1 (by kernel_rfl) (by kernel_rfl) (by kernel_rfl) (hr1 _ _ 5 20 (by kernel_rfl) (by kernel_rfl) (by kernel_rfl)) ⟨⟨XB, X2, X3⟩, ?_⟩
              simp only [put_lit, put_non, List.set_cons_zero, List.set_cons_succ]
              obtain ⟨u2, hr2, hv2, hg2⟩ := storeV X6 (mkV b)
              have Y2 := X2.keepB (hg2.block w.heap.size X2.lt (fun e => by injection e with e; omega))
              have Y3 := X3.keepB (hg2.block w1.heap.size X3.lt (fun e => by injection e with e; omega))
              have Y5 := hv1.keepB (hg2.block g5 hv1.lt (fun e => by injection e with e; omega))
              have YB := below_store XB hg2 (by omega) XB.size
              refine hk_one (i := 7) (by kernel_rfl) ?_
              refine op_skip none u2 (by kernel_rfl) (by kernel_rfl) (by kernel_rfl) (hr2 _ _ 6 22 (by kernel_rfl) (by kernel_rfl) (by kernel_rfl)) ⟨⟨YB, Y2, Y3⟩, ?_⟩
              simp only [put_lit, put_non, List.set_cons_zero, List.set_cons_succ]
              refine hk_done (by kernel_rfl) ?_
              go_wp2_with fail
              go_meet
              case rel => exact ⟨g5, g6, rfl, rfl, YB, Y5, hv2⟩
          · skip
            obtain ⟨y7, g5, ewg5, egg5, hB, P5⟩ := newV y1
            have q2g5 : w.heap.size < g5 := by have := V2.lt; omega
            have q3g5 : w1.heap.size < g5 := by have := V3.lt; omega
            have V2 := V2.below hB
            have V3 := V3.below hB
            have BW := below_then BW hB
            refine op_do (some 5) (.pointer (some ⟨g5, 0, none⟩)) y7 (by kernel_rfl) (by kernel_rfl) (by kernel_rfl) (by rw [← ewg5, ← egg5]; exact exec_allocC info_val (by kernel_rfl)) ⟨⟨BW, V2, V3⟩, ?_⟩
            clear hB
            simp only [put_lit, put_non, List.set_cons_zero, List.set_cons_succ]
            refine hk_two (i := 3) (j := 5) (by kernel_rfl) ?_ ?_
            · skip
              refine op_call (some 22) 13 #[vV b] (by kernel_rfl) (by kernel_rfl) (by kernel_rfl) (fun w => (by kernel_rfl)) ?_
              refine (mkv_c _ b hb.out).mono ?_
              rintro e y8 ⟨rfl, hB⟩
              have V2 := V2.below hB
              have V3 := V3.below hB
              have P5 := P5.below hB
              have BW := below_then BW hB
              refine ⟨_, rfl, ⟨BW, V2, V3⟩, ?_⟩
              clear hB
              simp only [put_lit, put_non, List.set_cons_zero, List.set_cons_succ]
              refine hk_one (i := 5) (by kernel_rfl) ?_
              obtain ⟨y9, g6, ewg6, egg6, hB, P6⟩ := newV y8
              have ne56 : g5 < g6 := by have := P5.lt; omega
              have q2g6 : w.heap.size < g6 := by have := V2.lt; omega
              have q3g6 : w1.heap.size < g6 := by have := V3.lt; omega
              have V2 := V2.below hB
              have V3 := V3.below hB
              have P5 := P5.below hB
              have BW := below_then BW hB
              refine op_do (some 6) (.pointer (some ⟨g6, 0, none⟩)) y9 (by kernel_rfl) (by kernel_rfl) (by kernel_rfl) (by rw [← ewg6, ← egg6]; exact exec_allocC info_val (by kernel_rfl)) ⟨⟨BW, V2, V3⟩, ?_⟩
              clear hB
              simp only [put_lit, put_non, List.set_cons_zero, List.set_cons_succ]
              obtain ⟨u1, hr1, hv1, hg1⟩ := storeV P5 (mkV a)
              have n2 := V2.lt
              have n3 := V3.lt
              have X2 := V2.keepB (hg1.block w.heap.size n2 (fun e => by injection e with e; omega))
              have X3 := V3.keepB (hg1.block w1.heap.size n3 (fun e => by injection e with e; omega))
              have X6 := P6.keepB (hg1.block g6 P6.lt (fun e => by injection e with e; omega))
              have XB := below_store BW hg1 (by omega) BW.size
              refine hk_one (i := 6) (by kernel_rfl) ?_
              refine op_skip none u1 (by kernel_rfl) (by kernel_rfl) (by kernel_rfl) (hr1 _ _ 5 20 (by kernel_rfl) (by kernel_rfl) (by kernel_rfl)) ⟨⟨XB, X2, X3⟩, ?_⟩
              simp only [put_lit, put_non, List.set_cons_zero, List.set_cons_succ]
              obtain ⟨u2, hr2, hv2, hg2⟩ := storeV X6 (mkV b)
              have Y2 := X2.keepB (hg2.block w.heap.size X2.lt (fun e => by injection e with e; omega))
              have Y3 := X3.keepB (hg2.block w1.heap.size X3.lt (fun e => by injection e with e; omega))
              have Y5 := hv1.keepB (hg2.block g5 hv1.lt (fun e => by injection e with e; omega))
              have YB := below_store XB hg2 (by omega) XB.size
              refine hk_one (i := 7) (by kernel_rfl) ?_
              refine op_skip none u2 (by kernel_rfl) (by kernel_rfl) (by kernel_rfl) (hr2 _ _ 6 22 (by kernel_rfl) (by kernel_rfl) (by kernel_rfl)) ⟨⟨YB, Y2, Y3⟩, ?_⟩
              simp only [put_lit, put_non, List.set_cons_zero, List.set_cons_succ]
              refine hk_done (by kernel_rfl) ?_
              go_wp2_with fail
              go_meet
              case rel => exact ⟨g5, g6, rfl, rfl, YB, Y5, hv2⟩
            · skip
              obtain ⟨y10, g6, ewg6, egg6, hB, P6⟩ := newV y7
              have ne56 : g5 < g6 := by have := P5.lt; omega
              have q2g6 : w.heap.size < g6 := by have := V2.lt; omega
              have q3g6 : w1.heap.size < g6 := by have := V3.lt; omega
              have V2 := V2.below hB
              have V3 := V3.below hB
              have P5 := P5.below hB
              have BW := below_then BW hB
              refine op_do (some 6) (.pointer (some ⟨g6, 0, none⟩)) y10 (by kernel_rfl) (by kernel_rfl) (by kernel_rfl) (by rw [← ewg6, ← egg6]; exact exec_allocC info_val (by kernel_rfl)) ⟨⟨BW, V2, V3⟩, ?_⟩
              clear hB
              simp only [put_lit, put_non, List.set_cons_zero, List.set_cons_succ]
              refine hk_one (i := 3) (by kernel_rfl) ?_
              refine op_call (some 22) 13 #[vV b] (by kernel_rfl) (by kernel_rfl) (by kernel_rfl) (fun w => (by kernel_rfl)) ?_
              refine (mkv_c _ b hb.out).mono ?_
              rintro e y11 ⟨rfl, hB⟩
              have V2 := V2.below hB
              have V3 := V3.below hB
              have P5 := P5.below hB
              have P6 := P6.below hB
              have BW := below_then BW hB
              refine ⟨_, rfl, ⟨BW, V2, V3⟩, ?_⟩
              clear hB
              simp only [put_lit, put_non, List.set_cons_zero, List.set_cons_succ]
              obtain ⟨u1, hr1, hv1, hg1⟩ := storeV P5 (mkV a)
              have n2 := V2.lt
              have n3 := V3.lt
              have X2 := V2.keepB (hg1.block w.heap.size n2 (fun e => by injection e with e; omega))
              have X3 := V3.keepB (hg1.block w1.heap.size n3 (fun e => by injection e with e; omega))
              have X6 := P6.keepB (hg1.block g6 P6.lt (fun e => by injection e with e; omega))
              have XB := below_store BW hg1 (by omega) BW.size
              refine hk_one (i := 6) (by kernel_rfl) ?_
              refine op_skip none u1 (by kernel_rfl) (by kernel_rfl) (by kernel_rfl) (hr1 _ _ 5 20 (by kernel_rfl) (by kernel_rfl) (by kernel_rfl)) ⟨⟨XB, X2, X3⟩, ?_⟩
              simp only [put_lit, put_non, List.set_cons_zero, List.set_cons_succ]
              obtain ⟨u2, hr2, hv2, hg2⟩ := storeV X6 (mkV b)
              have Y2 := X2.keepB (hg2.block w.heap.size X2.lt (fun e => by injection e with e; omega))
              have Y3 := X3.keepB (hg2.block w1.heap.size X3.lt (fun e => by injection e with e; omega))
              have Y5 := hv1.keepB (hg2.block g5 hv1.lt (fun e => by injection e with e; omega))
              have YB := below_store XB hg2 (by omega) XB.size
              refine hk_one (i := 7) (by kernel_rfl) ?_
              refine op_skip none u2 (by kernel_rfl) (by kernel_rfl) (by kernel_rfl) (hr2 _ _ 6 22 (by kernel_rfl) (by kernel_rfl) (by kernel_rfl)) ⟨⟨YB, Y2, Y3⟩, ?_⟩
              simp only [put_lit, put_non, List.set_cons_zero, List.set_cons_succ]
              refine hk_done (by kernel_rfl) ?_
              go_wp2_with fail
              go_meet
              case rel => exact ⟨g5, g6, rfl, rfl, YB, Y5, hv2⟩
          · skip
            obtain ⟨y12, g6, ewg6, egg6, hB, P6⟩ := newV y1
            have q2g6 : w.heap.size < g6 := by have := V2.lt; omega
            have q3g6 : w1.heap.size < g6 := by have := V3.lt; omega
            have V2 := V2.below hB
            have V3 := V3.below hB
            have BW := below_then BW hB
            refine op_do (some 6) (.pointer (some ⟨g6, 0, none⟩)) y12 (by kernel_rfl) (by kernel_rfl) (by kernel_rfl) (by rw [← ewg6, ← egg6]; exact exec_allocC info_val (by kernel_rfl)) ⟨⟨BW, V2, V3⟩, ?_⟩
            clear hB
            simp only [put_lit, put_non, List.set_cons_zero, List.set_cons_succ]
            refine hk_two (i := 3) (j := 4) (by kernel_rfl) ?_ ?_
            · skip
              refine op_call (some 22) 13 #[vV b] (by kernel_rfl) (by kernel_rfl) (by kernel_rfl) (fun w => (by kernel_rfl)) ?_
              refine (mkv_c _ b hb.out).mono ?_
              rintro e y13 ⟨rfl, hB⟩
              have V2 := V2.below hB
              have V3 := V3.below hB
              have P6 := P6.below hB
              have BW := below_then BW hB
              refine ⟨_, rfl, ⟨BW, V2, V3⟩, ?_⟩
              clear hB
              simp only [put_lit, put_non, List.set_cons_zero, List.set_cons_succ]
              refine hk_one (i := 4) (by kernel_rfl) ?_
              obtain ⟨y14, g5, ewg5, egg5, hB, P5⟩ := newV y13
              have ne56 : g6 < g5 := by have := P6.lt; omega
              have q2g5 : w.heap.size < g5 := by have := V2.lt; omega
              have q3g5 : w1.heap.size < g5 := by have := V3.lt; omega
              have V2 := V2.below hB
              have V3 := V3.below hB
              have P6 := P6.below hB
              have BW := below_then BW hB
              refine op_do (some 5) (.pointer (some ⟨g5, 0, none⟩)) y14 (by kernel_rfl) (by kernel_rfl) (by kernel_rfl) (by rw [← ewg5, ← egg5]; exact exec_allocC info_val (by kernel_rfl)) ⟨⟨BW, V2, V3⟩, ?_⟩
              clear hB
              simp only [put_lit, put_non, List.set_cons_zero, List.set_cons_succ]
              obtain ⟨u1, hr1, hv1, hg1⟩ := storeV P5 (mkV a)
              have n2 := V2.lt
              have n3 := V3.lt
              have X2 := V2.keepB (hg1.block w.heap.size n2 (fun e => by injection e with e; omega))
              have X3 := V3.keepB (hg1.block w1.heap.size n3 (fun e => by injection e with e; omega))
              have X6 := P6.keepB (hg1.block g6 P6.lt (fun e => by injection e with e; omega))
              have XB := below_store BW hg1 (by omega) BW.size
              refine hk_one (i := 6) (by kernel_rfl) ?_
              refine op_skip none u1 (by kernel_rfl) (by kernel_rfl) (by kernel_rfl) (hr1 _ _ 5 20 (by kernel_rfl) (by kernel_rfl) (by kernel_rfl)) ⟨⟨XB, X2, X3⟩, ?_⟩
              simp only [put_lit, put_non, List.set_cons_zero, List.set_cons_succ]
              obtain ⟨u2, hr2, hv2, hg2⟩ := storeV X6 (mkV b)
              have Y2 := X2.keepB (hg2.block w.heap.size X2.lt (fun e => by injection e with e; omega))
              have Y3 := X3.keepB (hg2.block w1.heap.size X3.lt (fun e => by injection e with e; omega))
              have Y5 := hv1.keepB (hg2.block g5 hv1.lt (fun e => by injection e with e; omega))
              have YB := below_store XB hg2 (by omega) XB.size
              refine hk_one (i := 7) (by kernel_rfl) ?_
              refine op_skip none u2 (by kernel_rfl) (by kernel_rfl) (by kernel_rfl) (hr2 _ _ 6 22 (by kernel_rfl) (by kernel_rfl) (by kernel_rfl)) ⟨⟨YB, Y2, Y3⟩, ?_⟩
              simp only [put_lit, put_non, List.set_cons_zero, List.set_cons_succ]
              refine hk_done (by kernel_rfl) ?_
              go_wp2_with fail
              go_meet
              case rel => exact ⟨g5, g6, rfl, rfl, YB, Y5, hv2⟩
            · skip
              obtain ⟨y15, g5, ewg5, egg5, hB, P5⟩ := newV y12
              have ne56 : g6 < g5 := by have := P6.lt; omega
              have q2g5 : w.heap.size < g5 := by have := V2.lt; omega
              have q3g5 : w1.heap.size < g5 := by have := V3.lt; omega
              have V2 := V2.below hB
              have V3 := V3.below hB
              have P6 := P6.below hB
              have BW := below_then BW hB
              refine op_do (some 5) (.pointer (some ⟨g5, 0, none⟩)) y15 (by kernel_rfl) (by kernel_rfl) (by kernel_rfl) (by rw [← ewg5, ← egg5]; exact exec_allocC info_val (by kernel_rfl)) ⟨⟨BW, V2, V3⟩, ?_⟩
              clear hB
              simp only [put_lit, put_non, List.set_cons_zero, List.set_cons_succ]
              refine hk_one (i := 3) (by kernel_rfl) ?_
              refine op_call (some 22) 13 #[vV b] (by kernel_rfl) (by kernel_rfl) (by kernel_rfl) (fun w => (by kernel_rfl)) ?_
              refine (mkv_c _ b hb.out).mono ?_
              rintro e y16 ⟨rfl, hB⟩
              have V2 := V2.below hB
              have V3 := V3.below hB
              have P6 := P6.below hB
              have P5 := P5.below hB
              have BW := below_then BW hB
              refine ⟨_, rfl, ⟨BW, V2, V3⟩, ?_⟩
              clear hB
              simp only [put_lit, put_non, List.set_cons_zero, List.set_cons_succ]
              obtain ⟨u1, hr1, hv1, hg1⟩ := storeV P5 (mkV a)
              have n2 := V2.lt
              have n3 := V3.lt
              have X2 := V2.keepB (hg1.block w.heap.size n2 (fun e => by injection e with e; omega))
              have X3 := V3.keepB (hg1.block w1.heap.size n3 (fun e => by injection e with e; omega))
              have X6 := P6.keepB (hg1.block g6 P6.lt (fun e => by injection e with e; omega))
              have XB := below_store BW hg1 (by omega) BW.size
              refine hk_one (i := 6) (by kernel_rfl) ?_
              refine op_skip none u1 (by kernel_rfl) (by kernel_rfl) (by kernel_rfl) (hr1 _ _ 5 20 (by kernel_rfl) (by kernel_rfl) (by kernel_rfl)) ⟨⟨XB, X2, X3⟩, ?_⟩
              simp only [put_lit, put_non, List.set_cons_zero, List.set_cons_succ]
              obtain ⟨u2, hr2, hv2, hg2⟩ := storeV X6 (mkV b)
              have Y2 := X2.keepB (hg2.block w.heap.size X2.lt (fun e => by injection e with e; omega))
              have Y3 := X3.keepB (hg2.block w1.heap.size X3.lt (fun e => by injection e with e; omega))
              have Y5 := hv1.keepB (hg2.block g5 hv1.lt (fun e => by injection e with e; omega))
              have YB := below_store XB hg2 (by omega) XB.size
              refine hk_one (i := 7) (by kernel_rfl) ?_
              refine op_skip none u2 (by kernel_rfl) (by kernel_rfl) (by kernel_rfl) (hr2 _ _ 6 22 (by kernel_rfl) (by kernel_rfl) (by kernel_rfl)) ⟨⟨YB, Y2, Y3⟩, ?_⟩
              simp only [put_lit, put_non, List.set_cons_zero, List.set_cons_succ]
              refine hk_done (by kernel_rfl) ?_
              go_wp2_with fail
              go_meet
              case rel => exact ⟨g5, g6, rfl, rfl, YB, Y5, hv2⟩
        · skip
          obtain ⟨y17, g5, ewg5, egg5, hB, P5⟩ := newV w2.drew
          have q2g5 : w.heap.size < g5 := by have := V2.lt; omega
          have q3g5 : w1.heap.size < g5 := by have := V3.lt; omega
          have V2 := V2.below hB
          have V3 := V3.below hB
          have BW := below_then BW hB
          refine op_do (some 5) (.pointer (some ⟨g5, 0, none⟩)) y17 (by kernel_rfl) (by kernel_rfl) (by kernel_rfl) (by rw [← ewg5, ← egg5]; exact exec_allocC info_val (by kernel_rfl)) ⟨⟨BW, V2, V3⟩, ?_⟩
          clear hB
          simp only [put_lit, put_non, List.set_cons_zero, List.set_cons_succ]
          refine hk_two (i := 1) (j := 5) (by kernel_rfl) ?_ ?_
          · skip
            refine op_call (some 20) 13 #[vV a] (by kernel_rfl) (by kernel_rfl) (by kernel_rfl) (fun w => (by kernel_rfl)) ?_
            refine (mkv_c _ a ha.out).mono ?_
            rintro e y18 ⟨rfl, hB⟩
            have V2 := V2.below hB
            have V3 := V3.below hB
            have P5 := P5.below hB
            have BW := below_then BW hB
            refine ⟨_, rfl, ⟨BW, V2, V3⟩, ?_⟩
            clear hB
            simp only [put_lit, put_non, List.set_cons_zero, List.set_cons_succ]
            refine hk_two (i := 3) (j := 5) (by kernel_rfl) ?_ ?_
            · skip
              refine op_call (some 22) 13 #[vV b] (by kernel_rfl) (by kernel_rfl) (by kernel_rfl) (fun w => (by kernel_rfl)) ?_
              refine (mkv_c _ b hb.out).mono ?_
              rintro e y19 ⟨rfl, hB⟩
              have V2 := V2.below hB
              have V3 := V3.below hB
              have P5 := P5.below hB
              have BW := below_then BW hB
              refine ⟨_, rfl, ⟨BW, V2, V3⟩, ?_⟩
              clear hB
              simp only [put_lit, put_non, List.set_cons_zero, List.set_cons_succ]
              refine hk_one (i := 5) (by kernel_rfl) ?_
              obtain ⟨y20, g6, ewg6, egg6, hB, P6⟩ := newV y19
              have ne56 : g5 < g6 := by have := P5.lt; omega
              have q2g6 : w.heap.size < g6 := by have := V2.lt; omega
              have q3g6 : w1.heap.size < g6 := by have := V3.lt; omega
              have V2 := V2.below hB
              have V3 := V3.below hB
              have P5 := P5.below hB
              have BW := below_then BW hB
              refine op_do (some 6) (.pointer (some ⟨g6, 0, none⟩)) y20 (by kernel_rfl) (by kernel_rfl) (by kernel_rfl) (by rw [← ewg6, ← egg6]; exact exec_allocC info_val (by kernel_rfl)) ⟨⟨BW, V2, V3⟩, ?_⟩
              clear hB
              simp only [put_lit, put_non, List.set_cons_zero, List.set_cons_succ]
              obtain ⟨u1, hr1, hv1, hg1⟩ := storeV P5 (mkV a)
              have n2 := V2.lt
              have n3 := V3.lt
              have X2 := V2.keepB (hg1.block w.heap.size n2 (fun e => by injection e with e; omega))
              have X3 := V3.keepB (hg1.block w1.heap.size n3 (fun e => by injection e with e; omega))
              have X6 := P6.keepB (hg1.block g6 P6.lt (fun e => by injection e with e; omega))
              have XB := below_store BW hg1 (by omega) BW.size
              refine hk_one (i := 6) (by kernel_rfl) ?_
              refine op_skip none u1 (by kernel_rfl) (by kernel_rfl) (by kernel_rfl) (hr1 _ _ 5 20 (by kernel_rfl) (by kernel_rfl) (by kernel_rfl)) ⟨⟨XB, X2, X3⟩, ?_⟩
              simp only [put_lit, put_non, List.set_cons_zero, List.set_cons_succ]
              obtain ⟨u2, hr2, hv2, hg2⟩ := storeV X6 (mkV b)
              have Y2 := X2.keepB (hg2.block w.heap.size X2.lt (fun e => by injection e with e; omega))
              have Y3 := X3.keepB (hg2.block w1.heap.size X3.lt (fun e => by injection e with e; omega))
              have Y5 := hv1.keepB (hg2.block g5 hv1.lt (fun e => by injection e with e; omega))
              have YB := below_store XB hg2 (by omega) XB.size
              refine hk_one (i := 7) (by kernel_rfl) ?_
              refine op_skip none u2 (by kernel_rfl) (by kernel_rfl) (by kernel_rfl) (hr2 _ _ 6 22 (by kernel_rfl) (by kernel_rfl) (by kernel_rfl)) ⟨⟨YB, Y2, Y3⟩, ?_⟩
              simp only [put_lit, put_non, List.set_cons_zero, List.set_cons_succ]
              refine hk_done (by kernel_rfl) ?_
              go_wp2_with fail
              go_meet
              case rel => exact ⟨g5, g6, rfl, rfl, YB, Y5, hv2⟩
            · skip
              obtain ⟨y21, g6, ewg6, egg6, hB, P6⟩ := newV y18
              have ne56 : g5 < g6 := by have := P5.lt; omega
              have q2g6 : w.heap.size < g6 := by have := V2.lt; omega
              have q3g6 : w1.heap.size < g6 := by have := V3.lt; omega
              have V2 := V2.below hB
              have V3 := V3.below hB
              have P5 := P5.below hB
              have BW := below_then BW hB
              refine op_do (some 6) (.pointer (some ⟨g6, 0, none⟩)) y21 (by kernel_rfl) (by kernel_rfl) (by kernel_rfl) (by rw [← ewg6, ← egg6]; exact exec_allocC info_val (by kernel_rfl)) ⟨⟨BW, V2, V3⟩, ?_⟩
              clear hB
              simp only [put_lit, put_non, List.set_cons_zero, List.set_cons_succ]
              refine hk_one (i := 3) (by kernel_rfl) ?_
              refine op_call (some 22) 13 #[vV b] (by kernel_rfl) (by kernel_rfl) (by kernel_rfl) (fun w => (by kernel_rfl)) ?_
              refine (mkv_c _ b hb.out).mono ?_
              rintro e y22 ⟨rfl, hB⟩
              have V2 := V2.below hB
              have V3 := V3.below hB
              have P5 := P5.below hB
              have P6 := P6.below hB
              have BW := below_then BW hB
              refine ⟨_, rfl, ⟨BW, V2, V3⟩, ?_⟩
              clear hB
              simp only [put_lit, put_non, List.set_cons_zero, List.set_cons_succ]
              obtain ⟨u1, hr1, hv1, hg1⟩ := storeV P5 (mkV a)
              have n2 := V2.lt
              have n3 := V3.lt
              have X2 := V2.keepB (hg1.block w.heap.size n2 (fun e => by injection e with e; omega))
              have X3 := V3.keepB (hg1.block w1.heap.size n3 (fun e => by injection e with e; omega))
              have X6 := P6.keepB (hg1.block g6 P6.lt (fun e => by injection e with e; omega))
              have XB := below_store BW hg1 (by omega) BW.size
              refine hk_one (i := 6) (by kernel_rfl) ?_
              refine op_skip none u1 (by kernel_rfl) (by kernel_rfl) (by kernel_rfl) (hr1 _ _ 5 20 (by kernel_rfl) (by kernel_rfl) (by kernel_rfl)) ⟨⟨XB, X2, X3⟩, ?_⟩
              simp only [put_lit, put_non, List.set_cons_zero, List.set_cons_succ]
              obtain ⟨u2, hr2, hv2, hg2⟩ := storeV X6 (mkV b)
              have Y2 := X2.keepB (hg2.block w.heap.size X2.lt (fun e => by injection e with e; omega))
              have Y3 := X3.keepB (hg2.block w1.heap.size X3.lt (fun e => by injection e with e; omega))
              have Y5 := hv1.keepB (hg2.block g5 hv1.lt (fun e => by injection e with e; omega))
              have YB := below_store XB hg2 (by omega) XB.size
              refine hk_one (i := 7) (by kernel_rfl) ?_
              refine op_skip none u2 (by kernel_rfl) (by kernel_rfl) (by kernel_rfl) (hr2 _ _ 6 22 (by kernel_rfl) (by kernel_rfl) (by kernel_rfl)) ⟨⟨YB, Y2, Y3⟩, ?_⟩
              simp only [put_lit, put_non, List.set_cons_zero, List.set_cons_succ]
              refine hk_done (by kernel_rfl) ?_
              go_wp2_with fail
              go_meet
              case rel => exact ⟨g5, g6, rfl, rfl, YB, Y5, hv2⟩
          · skip
            obtain ⟨y23, g6, ewg6, egg6, hB, P6⟩ := newV y17
            have ne56 : g5 < g6 := by have := P5.lt; omega
            have q2g6 : w.heap.size < g6 := by have := V2.lt; omega
            have q3g6 : w1.heap.size < g6 := by have := V3.lt; omega
            have V2 := V2.below hB
            have V3 := V3.below hB
            have P5 := P5.below hB
            have BW := below_then BW hB
            refine op_do (some 6) (.pointer (some ⟨g6, 0, none⟩)) y23 (by kernel_rfl) (by kernel_rfl) (by kernel_rfl) (by rw [← ewg6, ← egg6]; exact exec_allocC info_val (by kernel_rfl)) ⟨⟨BW, V2, V3⟩, ?_⟩
            clear hB
            simp only [put_lit, put_non, List.set_cons_zero, List.set_cons_succ]
            refine hk_one (i := 1) (by kernel_rfl) ?_
            refine op_call (some 20) 13 #[vV a] (by kernel_rfl) (by kernel_rfl) (by kernel_rfl) (fun w => (by kernel_rfl)) ?_
            refine (mkv_c _ a ha.out).mono ?_
            rintro e y24 ⟨rfl, hB⟩
            have V2 := V2.below hB
            have V3 := V3.below hB
            have P5 := P5.below hB
            have P6 := P6.below hB
            have BW := below_then BW hB
            refine ⟨_, rfl, ⟨BW, V2, V3⟩, ?_⟩
            clear hB
            simp only [put_lit, put_non, List.set_cons_zero, List.set_cons_succ]
            refine hk_one (i := 3) (by kernel_rfl) ?_
            refine op_call (some 22) 13 #[vV b] (by kernel_rfl) (by kernel_rfl) (by kernel_rfl) (fun w => (by kernel_rfl)) ?_
            refine (mkv_c _ b hb.out).mono ?_
            rintro e y25 ⟨rfl, hB⟩
            have V2 := V2.below hB
            have V3 := V3.below hB
            have P5 := P5.below hB
            have P6 := P6.below hB
            have BW := below_then BW hB
            refine ⟨_, rfl, ⟨BW, V2, V3⟩, ?_⟩
            clear hB
            simp only [put_lit, put_non, List.set_cons_zero, List.set_cons_succ]
            obtain ⟨u1, hr1, hv1, hg1⟩ := storeV P5 (mkV a)
            have n2 := V2.lt
            have n3 := V3.lt
            have X2 := V2.keepB (hg1.block w.heap.size n2 (fun e => by injection e with e; omega))
            have X3 := V3.keepB (hg1.block w1.heap.size n3 (fun e => by injection e with e; omega))
            have X6 := P6.keepB (hg1.block g6 P6.lt (fun e => by injection e with e; omega))
            have XB := below_store BW hg1 (by omega) BW.size
            refine hk_one (i := 6) (by kernel_rfl) ?_
            refine op_skip none u1 (by kernel_rfl) (by kernel_rfl) (by kernel_rfl) (hr1 _ _ 5 20 (by kernel_rfl) (by kernel_rfl) (by kernel_rfl)) ⟨⟨XB, X2, X3⟩, ?_⟩
            simp only [put_lit, put_non, List.set_cons_zero, List.set_cons_succ]
            obtain ⟨u2, hr2, hv2, hg2⟩ := storeV X6 (mkV b)
            have Y2 := X2.keepB (hg2.block w.heap.size X2.lt (fun e => by injection e with e; omega))
            have Y3 := X3.keepB (hg2.block w1.heap.size X3.lt (fun e => by injection e with e; omega))
            have Y5 := hv1.keepB (hg2.block g5 hv1.lt (fun e => by injection e with e; omega))
            have YB := below_store XB hg2 (by omega) XB.size
            refine hk_one (i := 7) (by kernel_rfl) ?_
            refine op_skip none u2 (by kernel_rfl) (by kernel_rfl) (by kernel_rfl) (hr2 _ _ 6 22 (by kernel_rfl) (by kernel_rfl) (by kernel_rfl)) ⟨⟨YB, Y2, Y3⟩, ?_⟩
            simp only [put_lit, put_non, List.set_cons_zero, List.set_cons_succ]
            refine hk_done (by kernel_rfl) ?_
            go_wp2_with fail
            go_meet
            case rel => exact ⟨g5, g6, rfl, rfl, YB, Y5, hv2⟩
        · skip
          obtain ⟨y26, g6, ewg6, egg6, hB, P6⟩ := newV w2.drew
          have q2g6 : w.heap.size < g6 := by have := V2.lt; omega
          have q3g6 : w1.heap.size < g6 := by have := V3.lt; omega
          have V2 := V2.below hB
          have V3 := V3.below hB
          have BW := below_then BW hB
          refine op_do (some 6) (.pointer (some ⟨g6, 0, none⟩)) y26 (by kernel_rfl) (by kernel_rfl) (by kernel_rfl) (by rw [← ewg6, ← egg6]; exact exec_allocC info_val (by kernel_rfl)) ⟨⟨BW, V2, V3⟩, ?_⟩
          clear hB
          simp only [put_lit, put_non, List.set_cons_zero, List.set_cons_succ]
          refine hk_two (i := 1) (j := 4) (by kernel_rfl) ?_ ?_
          · skip
            refine op_call (some 20) 13 #[vV a] (by kernel_rfl) (by kernel_rfl) (by kernel_rfl) (fun w => (by kernel_rfl)) ?_
            refine (mkv_c _ a ha.out).mono ?_
            rintro e y27 ⟨rfl, hB⟩
            have V2 := V2.below hB
            have V3 := V3.below hB
            have P6 := P6.below hB
            have BW := below_then BW hB
            refine ⟨_, rfl, ⟨BW, V2, V3⟩, ?_⟩
            clear hB
            simp only [put_lit, put_non, List.set_cons_zero, List.set_cons_succ]
            refine hk_two (i := 3) (j := 4) (by kernel_rfl) ?_ ?_
            · skip
              refine op_call (some 22) 13 #[vV b] (by kernel_rfl) (by kernel_rfl) (by kernel_rfl) (fun w => (by kernel_rfl)) ?_
              refine (mkv_c _ b hb.out).mono ?_
              rintro e y28 ⟨rfl, hB⟩
              have V2 := V2.below hB
              have V3 := V3.below hB
              have P6 := P6.below hB
              have BW := below_then BW hB
              refine ⟨_, rfl, ⟨BW, V2, V3⟩, ?_⟩
              clear hB
              simp only [put_lit, put_non, List.set_cons_zero, List.set_cons_succ]
              refine hk_one (i := 4) (by kernel_rfl) ?_
              obtain ⟨y29, g5, ewg5, egg5, hB, P5⟩ := newV y28
              have ne56 : g6 < g5 := by have := P6.lt; omega
              have q2g5 : w.heap.size < g5 := by have := V2.lt; omega
              have q3g5 : w1.heap.size < g5 := by have := V3.lt; omega
              have V2 := V2.below hB
              have V3 := V3.below hB
              have P6 := P6.below hB
              have BW := below_then BW hB
              refine op_do (some 5) (.pointer (some ⟨g5, 0, none⟩)) y29 (by kernel_rfl) (by kernel_rfl) (by kernel_rfl) (by rw [← ewg5, ← egg5]; exact exec_allocC info_val (by kernel_rfl)) ⟨⟨BW, V2, V3⟩, ?_⟩
              clear hB
              simp only [put_lit, put_non, List.set_cons_zero, List.set_cons_succ]
              obtain ⟨u1, hr1, hv1, hg1⟩ := storeV P5 (mkV a)
              have n2 := V2.lt
              have n3 := V3.lt
              have X2 := V2.keepB (hg1.block w.heap.size n2 (fun e => by injection e with e; omega))
              have X3 := V3.keepB (hg1.block w1.heap.size n3 (fun e => by injection e with e; omega))
              have X6 := P6.keepB (hg1.block g6 P6.lt (fun e => by injection e with e; omega))
              have XB := below_store BW hg1 (by omega) BW.size
              refine hk_one (i := 6) (by kernel_rfl) ?_
              refine op_skip none u1 (by kernel_rfl) (by kernel_rfl) (by kernel_rfl) (hr1 _ _ 5 20 (by kernel_rfl) (by kernel_rfl) (by kernel_rfl)) ⟨⟨XB, X2, X3⟩, ?_⟩
              simp only [put_lit, put_non, List.set_cons_zero, List.set_cons_succ]
              obtain ⟨u2, hr2, hv2, hg2⟩ := storeV X6 (mkV b)
              have Y2 := X2.keepB (hg2.block w.heap.size X2.lt (fun e => by injection e with e; omega))
              have Y3 := X3.keepB (hg2.block w1.heap.size X3.lt (fun e => by injection e with e; omega))
              have Y5 := hv1.keepB (hg2.block g5 hv1.lt (fun e => by injection e with e; omega))
              have YB := below_store XB hg2 (by omega) XB.size
              refine hk_one (i := 7) (by kernel_rfl) ?_
              refine op_skip none u2 (by kernel_rfl) (by kernel_rfl) (by kernel_rfl) (hr2 _ _ 6 22 (by kernel_rfl) (by kernel_rfl) (by kernel_rfl)) ⟨⟨YB, Y2, Y3⟩, ?_⟩
              simp only [put_lit, put_non, List.set_cons_zero, List.set_cons_succ]
              refine hk_done (by kernel_rfl) ?_
              go_wp2_with fail
              go_meet
              case rel => exact ⟨g5, g6, rfl, rfl, YB, Y5, hv2⟩
            · skip
              obtain ⟨y30, g5, ewg5, egg5, hB, P5⟩ := newV y27
              have ne56 : g6 < g5 := by have := P6.lt; omega
              have q2g5 : w.heap.size < g5 := by have := V2.lt; omega
              have q3g5 : w1.heap.size < g5 := by have := V3.lt; omega
              have V2 := V2.below hB
              have V3 := V3.below hB
              have P6 := P6.below hB
              have BW := below_then BW hB
              refine op_do (some 5) (.pointer (some ⟨g5, 0, none⟩)) y30 (by kernel_rfl) (by kernel_rfl) (by kernel_rfl) (by rw [← ewg5, ← egg5]; exact exec_allocC info_val (by kernel_rfl)) ⟨⟨BW, V2, V3⟩, ?_⟩
              clear hB
              simp only [put_lit, put_non, List.set_cons_zero, List.set_cons_succ]
              refine hk_one (i := 3) (by kernel_rfl) ?_
              refine op_call (some 22) 13 #[vV b] (by kernel_rfl) (by kernel_rfl) (by kernel_rfl) (fun w => (by kernel_rfl)) ?_
              refine (mkv_c _ b hb.out).mono ?_
              rintro e y31 ⟨rfl, hB⟩
              have V2 := V2.below hB
              have V3 := V3.below hB
              have P6 := P6.below hB
              have P5 := P5.below hB
              have BW := below_then BW hB
              refine ⟨_, rfl, ⟨BW, V2, V3⟩, ?_⟩
              clear hB
              simp only [put_lit, put_non, List.set_cons_zero, List.set_cons_succ]
              obtain ⟨u1, hr1, hv1, hg1⟩ := storeV P5 (mkV a)
              have n2 := V2.lt
              have n3 := V3.lt
              have X2 := V2.keepB (hg1.block w.heap.size n2 (fun e => by injection e with e; omega))
              have X3 := V3.keepB (hg1.block w1.heap.size n3 (fun e => by injection e with e; omega))
              have X6 := P6.keepB (hg1.block g6 P6.lt (fun e => by injection e with e; omega))
              have XB := below_store BW hg1 (by omega) BW.size
              refine hk_one (i := 6) (by kernel_rfl) ?_
              refine op_skip none u1 (by kernel_rfl) (by kernel_rfl) (by kernel_rfl) (hr1 _ _ 5 20 (by kernel_rfl) (by kernel_rfl) (by kernel_rfl)) ⟨⟨XB, X2, X3⟩, ?_⟩
              simp only [put_lit, put_non, List.set_cons_zero, List.set_cons_succ]
              obtain ⟨u2, hr2, hv2, hg2⟩ := storeV X6 (mkV b)
              have Y2 := X2.keepB (hg2.block w.heap.size X2.lt (fun e => by injection e with e; omega))
              have Y3 := X3.keepB (hg2.block w1.heap.size X3.lt (fun e => by injection e with e; omega))
              have Y5 := hv1.keepB (hg2.block g5 hv1.lt (fun e => by injection e with e; omega))
              have YB := below_store XB hg2 (by omega) XB.size
              refine hk_one (i := 7) (by kernel_rfl) ?_
              refine op_skip none u2 (by kernel_rfl) (by kernel_rfl) (by kernel_rfl) (hr2 _ _ 6 22 (by kernel_rfl) (by kernel_rfl) (by kernel_rfl)) ⟨⟨YB, Y2, Y3⟩, ?_⟩
              simp only [put_lit, put_non, List.set_cons_zero, List.set_cons_succ]
              refine hk_done (by kernel_rfl) ?_
              go_wp2_with fail
              go_meet
              case rel => exact ⟨g5, g6, rfl, rfl, YB, Y5, hv2⟩
          · skip
            obtain ⟨y32, g5, ewg5, egg5, hB, P5⟩ := newV y26
            have ne56 : g6 < g5 := by have := P6.lt; omega
            have q2g5 : w.heap.size < g5 := by have := V2.lt; omega
            have q3g5 : w1.heap.size < g5 := by have := V3.lt; omega
            have V2 := V2.below hB
            have V3 := V3.below hB
            have P6 := P6.below hB
            have BW := below_then BW hB
            refine op_do (some 5) (.pointer (some ⟨g5, 0, none⟩)) y32 (by kernel_rfl) (by kernel_rfl) (by kernel_rfl) (by rw [← ewg5, ← egg5]; exact exec_allocC info_val (by kernel_rfl)) ⟨⟨BW, V2, V3⟩, ?_⟩
            clear hB
            simp only [put_lit, put_non, List.set_cons_zero, List.set_cons_succ]
            refine hk_one (i := 1) (by kernel_rfl) ?_
            refine op_call (some 20) 13 #[vV a] (by kernel_rfl) (by kernel_rfl) (by kernel_rfl) (fun w => (by kernel_rfl)) ?_
            refine (mkv_c _ a ha.out).mono ?_
            rintro e y33 ⟨rfl, hB⟩
            have V2 := V2.below hB
            have V3 := V3.below hB
            have P6 := P6.below hB
            have P5 := P5.below hB
            have BW := below_then BW hB
            refine ⟨_, rfl, ⟨BW, V2, V3⟩, ?_⟩
            clear hB
            simp only [put_lit, put_non, List.set_cons_zero, List.set_cons_succ]
            refine hk_one (i := 3) (by kernel_rfl) ?_
            refine op_call (some 22) 13 #[vV b] (by kernel_rfl) (by kernel_rfl) (by kernel_rfl) (fun w => (by kernel_rfl)) ?_
            refine (mkv_c _ b hb.out).mono ?_
            rintro e y34 ⟨rfl, hB⟩
            have V2 := V2.below hB
            have V3 := V3.below hB
            have P6 := P6.below hB
            have P5 := P5.below hB
            have BW := below_then BW hB
            refine ⟨_, rfl, ⟨BW, V2, V3⟩, ?_⟩
            clear hB
            simp only [put_lit, put_non, List.set_cons_zero, List.set_cons_succ]
            obtain ⟨u1, hr1, hv1, hg1⟩ := storeV P5 (mkV a)
            have n2 := V2.lt
            have n3 := V3.lt
            have X2 := V2.keepB (hg1.block w.heap.size n2 (fun e => by injection e with e; omega))
            have X3 := V3.keepB (hg1.block w1.heap.size n3 (fun e => by injection e with e; omega))
            have X6 := P6.keepB (hg1.block g6 P6.lt (fun e => by injection e with e; omega))
            have XB := below_store BW hg1 (by omega) BW.size
            refine hk_one (i := 6) (by kernel_rfl) ?_
            refine op_skip none u1 (by kernel_rfl) (by kernel_rfl) (by kernel_rfl) (hr1 _ _ 5 20 (by kernel_rfl) (by kernel_rfl) (by kernel_rfl)) ⟨⟨XB, X2, X3⟩, ?_⟩
            simp only [put_lit, put_non, List.set_cons_zero, List.set_cons_succ]
            obtain ⟨u2, hr2, hv2, hg2⟩ := storeV X6 (mkV b)
            have Y2 := X2.keepB (hg2.block w.heap.size X2.lt (fun e => by injection e with e; omega))
            have Y3 := X3.keepB (hg2.block w1.heap.size X3.lt (fun e => by injection e with e; omega))
            have Y5 := hv1.keepB (hg2.block g5 hv1.lt (fun e => by injection e with e; omega))
            have YB := below_store XB hg2 (by omega) XB.size
            refine hk_one (i := 7) (by kernel_rfl) ?_
            refine op_skip none u2 (by kernel_rfl) (by kernel_rfl) (by kernel_rfl) (hr2 _ _ 6 22 (by kernel_rfl) (by kernel_rfl) (by kernel_rfl)) ⟨⟨YB, Y2, Y3⟩, ?_⟩
            simp only [put_lit, put_non, List.set_cons_zero, List.set_cons_succ]
            refine hk_done (by kernel_rfl) ?_
            go_wp2_with fail
            go_meet
            case rel => exact ⟨g5, g6, rfl, rfl, YB, Y5, hv2⟩
      case rest =>
        obtain ⟨g5, g6, rfl, rfl, hB, h5, h6⟩ := hcut
        have BW := Lib.hid hB
        have V5 := Lib.hid h5
        have V6 := Lib.hid h6
        clear hB h5 h6 V2 V3 c2 c3 B2 B3 ha hb
        generalize mkV a = p at *
        generalize mkV b = q at *
        have FP := fun w (h : Std w) => formatF_c h OA.out.1 (by have := OA.out.2.2; omega)
        have FQ := fun w (h : Std w) => formatF_c h OB.out.1 (by have := OB.out.2.2; omega)
        have PP := fun w (h : Std w) => parseF_c h OA.out.1 (by have := fmtV_length OA.out.1; omega)
        have VP := fun w => valid_c w p (by have := OA.out.2.2; omega)
        rw [(vldB_iff p).2 OA.out.1.1] at VP
        have DD := Lib.hid (show decide (fmtV p = fmtV q) = decide (p = q) from by
          by_cases h : p = q
          · rw [decide_eq_true h, decide_eq_true (by rw [h])]
          · rw [decide_eq_false h, decide_eq_false fun e => h (fmtV_inj OA.out.1.1 OB.out.1.1 e)])
        go_wp2_with (((with_reducible refine wp_loadV rfl 5 rfl g5 (0) p ?hx V5.out.range ?_); (case hx => rfl)))
        refine (FP _ (HS.out.below BW.out)).mono ?_
        rintro e w3 ⟨rfl, hB⟩
        have BW := Lib.hid (below_then BW.out hB)
        have V5 := Lib.hid (V5.out.below hB)
        have V6 := Lib.hid (V6.out.below hB)
        clear hB
        go_wp2_with fail
        refine (PP _ (HS.out.below BW.out)).mono ?_
        rintro e w4 ⟨rfl, hB⟩
        have BW := Lib.hid (below_then BW.out hB)
        have V5 := Lib.hid (V5.out.below hB)
        have V6 := Lib.hid (V6.out.below hB)
        clear hB
        go_upto_region 5 with (first | ((with_reducible refine wp_allocV 7 rfl rfl rfl ?_); intro w5 hv hb; have V7 := Lib.hid hv; have B7 := Lib.hid hb; clear hv hb) | ((with_reducible refine wp_storeV rfl 7 27 rfl w4.heap.size p (0, 0, []) ?hx ?hy V7.out ?_); (case hx => rfl); (case hy => rfl); intro w6 hv hb; have V7 := Lib.hid hv; have G7 := Lib.hid hb; clear hv hb))
        have BZ := Lib.hid (below_store (B := w4.heap.size) B7.out G7.out (Nat.le_refl _) B7.out.size)
        have V5 := Lib.hid (V5.out.below BZ.out)
        have V6 := Lib.hid (V6.out.below BZ.out)
        have BW := Lib.hid (below_then BW.out BZ.out)
        have step : ∀ W W' : World, (Below w.heap.size w W ∧ VarV W g5 p ∧ VarV W g6 q ∧ VarV W w4.heap.size p) → Below W.heap.size W W' → (Below w.heap.size w W' ∧ VarV W' g5 p ∧ VarV W' g6 q ∧ VarV W' w4.heap.size p) := fun W W' h h2 => ⟨below_then h.1 h2, h.2.1.below h2, h.2.2.1.below h2, h.2.2.2.below h2⟩
        have SB := Lib.hid (show Below w.heap.size w w6.drew ∧ VarV w6.drew g5 p ∧ VarV w6.drew g6 q ∧ VarV w6.drew w4.heap.size p from ⟨BW.out.drew, V5.out, V6.out, V7.out⟩)
        clear BW V5 V6 V7 BZ G7 B7 PP
        refine wp_region_plan (S := fun W => Below w.heap.size w W ∧ VarV W g5 p ∧ VarV W g6 q ∧ VarV W w4.heap.size p) [(0, true), (1, true), (2, true), (3, true), (4, true), (5, true), (6, true), (7, true), (8, true), (9, false), (10, true), (11, true), (12, true), (14, true), (17, true), (18, true), (19, true), (13, false), (15, false), (16, true), (20, true), (21, true), (22, true), (23, false), (24, true), (25, true)] (by kernel_rfl) (by kernel_rfl) (by kernel_rfl) (by kernel_rfl) (fun _ _ d _ _ h => by cases d <;> exact h) SB.out ?_
        refine wkS_take (some 29) (.int .i64 0) (by kernel_rfl) (by kernel_rfl) (by kernel_rfl) (fun W hS => by kernel_rfl) ?_
        simp only [put_lit, put_non, List.set_cons_zero, List.set_cons_succ]
        refine wkS_take (some 30) (.bool true) (by kernel_rfl) (by kernel_rfl) (by kernel_rfl) (fun W hS => by kernel_rfl) ?_
        simp only [put_lit, put_non, List.set_cons_zero, List.set_cons_succ]
        refine wkS_take (some 31) (.bool true) (by kernel_rfl) (by kernel_rfl) (by kernel_rfl) (fun W hS => by kernel_rfl) ?_
        simp only [put_lit, put_non, List.set_cons_zero, List.set_cons_succ]
        refine wkS_take (some 32) (vV p) (by kernel_rfl) (by kernel_rfl) (by kernel_rfl) (fun W hS => exec_loadV 7 hS.2.2.2.range (by kernel_rfl) (by kernel_rfl)) ?_
        simp only [put_lit, put_non, List.set_cons_zero, List.set_cons_succ]
        refine wkS_take (some 33) (vV p) (by kernel_rfl) (by kernel_rfl) (by kernel_rfl) (fun W hS => exec_loadV 5 hS.2.1.range (by kernel_rfl) (by kernel_rfl)) ?_
        simp only [put_lit, put_non, List.set_cons_zero, List.set_cons_succ]
        refine wkS_take (some 34) (.bool true) (by kernel_rfl) (by kernel_rfl) (by kernel_rfl) (fun W hS => (exec_eqV (a := p) (b := p) 32 33 (by kernel_rfl) (by kernel_rfl) (by kernel_rfl)).trans (by rw [decide_eq_true rfl])) ?_
        simp only [put_lit, put_non, List.set_cons_zero, List.set_cons_succ]
        refine wkS_take (some 35) (.bool true) (by kernel_rfl) (by kernel_rfl) (by kernel_rfl) (fun W hS => by kernel_rfl) ?_
        simp only [put_lit, put_non, List.set_cons_zero, List.set_cons_succ]
        refine wkS_take (some 36) (.bool true) (by kernel_rfl) (by kernel_rfl) (by kernel_rfl) (fun W hS => by kernel_rfl) ?_
        simp only [put_lit, put_non, List.set_cons_zero, List.set_cons_succ]
        refine wkS_take (some 37) (vV p) (by kernel_rfl) (by kernel_rfl) (by kernel_rfl) (fun W hS => exec_loadV 5 hS.2.1.range (by kernel_rfl) (by kernel_rfl)) ?_
        simp only [put_lit, put_non, List.set_cons_zero, List.set_cons_succ]
        refine wkS_call (some 38) 11 #[vV p] (by kernel_rfl) (by kernel_rfl) (by kernel_rfl) (fun w => (by kernel_rfl)) ?_
        refine (VP _).mono ?_
        rintro e w7 ⟨rfl, hB⟩
        have S1 := Lib.hid (step _ w7 SB.out hB)
        clear hB
        refine ⟨_, rfl, S1.out, ?_⟩
        simp only [put_lit, put_non, List.set_cons_zero, List.set_cons_succ]
        refine wkS_take (some 39) (.bool true) (by kernel_rfl) (by kernel_rfl) (by kernel_rfl) (fun W hS => by kernel_rfl) ?_
        simp only [put_lit, put_non, List.set_cons_zero, List.set_cons_succ]
        refine wkS_take (some 40) (.bool true) (by kernel_rfl) (by kernel_rfl) (by kernel_rfl) (fun W hS => by kernel_rfl) ?_
        simp only [put_lit, put_non, List.set_cons_zero, List.set_cons_succ]
        refine wkS_take (some 41) (vV p) (by kernel_rfl) (by kernel_rfl) (by kernel_rfl) (fun W hS => exec_loadV 5 hS.2.1.range (by kernel_rfl) (by kernel_rfl)) ?_
        simp only [put_lit, put_non, List.set_cons_zero, List.set_cons_succ]
        refine wkS_take (some 43) (vV q) (by kernel_rfl) (by kernel_rfl) (by kernel_rfl) (fun W hS => exec_loadV 6 hS.2.2.1.range (by kernel_rfl) (by kernel_rfl)) ?_
        simp only [put_lit, put_non, List.set_cons_zero, List.set_cons_succ]
        refine wkS_take (some 46) (vV p) (by kernel_rfl) (by kernel_rfl) (by kernel_rfl) (fun W hS => exec_loadV 5 hS.2.1.range (by kernel_rfl) (by kernel_rfl)) ?_
        simp only [put_lit, put_non, List.set_cons_zero, List.set_cons_succ]
        refine wkS_take (some 47) (vV q) (by kernel_rfl) (by kernel_rfl) (by kernel_rfl) (fun W hS => exec_loadV 6 hS.2.2.1.range (by kernel_rfl) (by kernel_rfl)) ?_
        simp only [put_lit, put_non, List.set_cons_zero, List.set_cons_succ]
        refine wkS_take (some 48) (.bool (decide (p = q))) (by kernel_rfl) (by kernel_rfl) (by kernel_rfl) (fun W hS => exec_eqV (a := p) (b := q) 46 47 (by kernel_rfl) (by kernel_rfl) (by kernel_rfl)) ?_
        simp only [put_lit, put_non, List.set_cons_zero, List.set_cons_succ]
        refine wkS_call (some 42) 32 #[vV p] (by kernel_rfl) (by kernel_rfl) (by kernel_rfl) (fun w => (by kernel_rfl)) ?_
        refine (FP _ (HS.out.below S1.out.1)).mono ?_
        rintro e w8 ⟨rfl, hB⟩
        have S2 := Lib.hid (step _ w8 S1.out hB)
        clear hB
        refine ⟨_, rfl, S2.out, ?_⟩
        simp only [put_lit, put_non, List.set_cons_zero, List.set_cons_succ]
        refine wkS_call (some 44) 32 #[vV q] (by kernel_rfl) (by kernel_rfl) (by kernel_rfl) (fun w => (by kernel_rfl)) ?_
        refine (FQ _ (HS.out.below S2.out.1)).mono ?_
        rintro e w9 ⟨rfl, hB⟩
        have S3 := Lib.hid (step _ w9 S2.out hB)
        clear hB
        refine ⟨_, rfl, S3.out, ?_⟩
        simp only [put_lit, put_non, List.set_cons_zero, List.set_cons_succ]
        refine wkS_take (some 45) (.bool (decide (p = q))) (by kernel_rfl) (by kernel_rfl) (by kernel_rfl) (fun W hS => (exec_eqS 42 44 (by kernel_rfl) (by kernel_rfl) (by kernel_rfl)).trans (by rw [DD.out])) ?_
        simp only [put_lit, put_non, List.set_cons_zero, List.set_cons_succ]
        refine wkS_take (some 49) (.bool true) (by kernel_rfl) (by kernel_rfl) (by kernel_rfl) (fun W hS => exec_eqBB 45 48 (b := decide (p = q)) (by kernel_rfl) (by kernel_rfl) (by kernel_rfl)) ?_
        simp only [put_lit, put_non, List.set_cons_zero, List.set_cons_succ]
        refine wkS_take (some 50) (.bool true) (by kernel_rfl) (by kernel_rfl) (by kernel_rfl) (fun W hS => by kernel_rfl) ?_
        simp only [put_lit, put_non, List.set_cons_zero, List.set_cons_succ]
        refine wkS_take (some 51) (.bool true) (by kernel_rfl) (by kernel_rfl) (by kernel_rfl) (fun W hS => by kernel_rfl) ?_
        simp only [put_lit, put_non, List.set_cons_zero, List.set_cons_succ]
        refine wkS_call (some 52) 25 #[] (by kernel_rfl) (by kernel_rfl) (by kernel_rfl) (fun w => (by kernel_rfl)) ?_
        refine (known8_c (HS.out.below S3.out.1)).mono ?_
        rintro e w10 ⟨rfl, hB⟩
        have S9 := Lib.hid (step _ w10 S3.out hB)
        clear hB
        refine ⟨_, rfl, S9.out, ?_⟩
        simp only [put_lit, put_non, List.set_cons_zero, List.set_cons_succ]
        refine wkS_take (some 53) (.bool true) (by kernel_rfl) (by kernel_rfl) (by kernel_rfl) (fun W hS => by kernel_rfl) ?_
        simp only [put_lit, put_non, List.set_cons_zero, List.set_cons_succ]
        refine wkS_take (some 4) (.bool true) (by kernel_rfl) (by kernel_rfl) (by kernel_rfl) (fun W hS => by kernel_rfl) ?_
        simp only [put_lit, put_non, List.set_cons_zero, List.set_cons_succ]
        refine wkS_done ?_
        go_wp2_with fail
        go_ret
        exact ⟨rfl, S9.out.1⟩
    · have k1 : ¬ (a.2.2.length : Int) > 80 := by omega
      have k2 : (b.2.2.length : Int) > 80 := by omega
      clear hS o0 o1 hla hlb HS
      go_enter Tryd.func9, Tryd.ntmps9
      go_wp2_with (first | ((with_reducible refine wp_boxV 2 rfl rfl 0 rfl a ?hx ?_); (case hx => rfl); intro w1 hv hb; have V2 := Lib.hid hv; have B2 := Lib.hid hb; clear hv hb) | ((with_reducible refine wp_boxV 3 rfl rfl 1 rfl b ?hx ?_); (case hx => rfl); intro w2 hv hb; have V3 := Lib.hid hv; have B3 := Lib.hid hb; clear hv hb; have V2 := Lib.hid (V2.out.below B3.out); have BW := Lib.hid (below_then B2.out B3.out); have c2 := V2.out.cells.2.2; have c3 := V3.out.cells.2.2))
      go_ret
      exact ⟨rfl, BW.out⟩
  · have k1 : (a.2.2.length : Int) > 80 := by omega
    clear hS o0 o1 hla HS
    go_enter Tryd.func9, Tryd.ntmps9
    go_wp2_with (first | ((with_reducible refine wp_boxV 2 rfl rfl 0 rfl a ?hx ?_); (case hx => rfl); intro w1 hv hb; have V2 := Lib.hid hv; have B2 := Lib.hid hb; clear hv hb) | ((with_reducible refine wp_boxV 3 rfl rfl 1 rfl b ?hx ?_); (case hx => rfl); intro w2 hv hb; have V3 := Lib.hid hv; have B3 := Lib.hid hb; clear hv hb; have V2 := Lib.hid (V2.out.below B3.out); have BW := Lib.hid (below_then B2.out B3.out); have c2 := V2.out.cells.2.2; have c3 := V3.out.cells.2.2))
    go_ret
    exact ⟨rfl, BW.out⟩
end Go.Proofs.YtpbkmkcfhkdjjaaDoor

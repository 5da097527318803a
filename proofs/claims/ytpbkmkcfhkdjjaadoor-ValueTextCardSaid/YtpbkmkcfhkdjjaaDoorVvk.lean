/- Stage 8: known() returns true. -/
import Derived.Test.YtpbkmkcfhkdjjaaDoorVvj
import Derived.Test.YtpbkmkcfhkdjjaaDoorVvh
namespace Go.Proofs.YtpbkmkcfhkdjjaaDoor
set_option linter.unusedSimpArgs false
open Go.RowKit Dig
set_option linter.unusedVariables false

/-- The value of the fixed text. -/
def kV : Vl := (2, 0, [105, 116, 39, 115])
theorem kV_txt : IsTxt [39, 105, 116, 39, 39, 115, 39] kV := by
  refine ⟨⟨.inr ⟨rfl, rfl, by decide, fun c hc => ?_⟩, by decide, by decide⟩, rfl⟩
  have h : c = 105 ∨ c = 116 ∨ c = 39 ∨ c = 115 := by simpa [kV] using hc
  rcases h with rfl | rfl | rfl | rfl <;> exact ⟨by decide, by decide⟩
theorem kV_vld : vldB kV = true := by decide
section
variable {w : World}
theorem kParse_c (hS : Std w) : Calls Tryd.prog 30 #[.string ⟨#[39, 105, 116, 39, 39, 115, 39]⟩] w (RVal w (.tuple #[vV kV, .int .i64 0])) := by
  refine (parse_c hS [39, 105, 116, 39, 39, 115, 39] (by decide)).mono ?_
  rintro e w' ⟨hB, ⟨v, hv, rfl⟩ | ⟨hn, _⟩⟩
  · rw [isTxt_uniq hv kV_txt]
    exact ⟨rfl, hB⟩
  · exact absurd kV_txt (hn kV)
theorem kFormat_c (hS : Std w) : Calls Tryd.prog 32 #[vV kV] w (RVal w (.string ⟨#[39, 105, 116, 39, 39, 115, 39]⟩)) := by
  have h := format_c hS kV (by decide) (by decide) (by decide)
  rw [kV_vld, if_pos rfl] at h
  exact h
theorem kCompare_c (w : World) : Calls Tryd.prog 14 #[vV (1, 5, []), vV kV] w (RVal w (.int .i64 (-1))) := compare_c w (1, 5, []) kV
theorem kEncode_c (w : World) {v : Value} (h : Vls w v [(2, 0, [98])]) : Calls Tryd.prog 23 #[v] w fun e w' => ∃ u, e = .returned u ∧ OwB w.heap.size w' u [2, 98, 0] ∧ Below w.heap.size w w' :=
  encode_c h ⟨by decide, fun y hy => by
    obtain rfl : y = (2, 0, [98]) := by simpa using hy
    exact ⟨⟨⟨by decide, by decide⟩, ⟨by decide, by decide⟩, by decide⟩, by decide⟩⟩
theorem exec_strW {ev : Operand → Value} {o : Oper} (t : Tmp) {u : Value} {ts : List UInt8} (h : Byt w u ts) (ho : o.op = .convert 33 9 (.tmp t)) (hx : ev (.tmp t) = u) : (execOp ev o).run Tryd.prog w = .ok (.value (.string ⟨ts.toArray⟩)) w := exec_strB t h ho hx
set_option maxRecDepth 20000 in
set_option maxHeartbeats 4000000 in
theorem known8_c (hS : Std w) : Calls Tryd.prog 25 #[] w (RVal w (.bool true)) := by
  have HS := Lib.hid hS
  clear hS
  go_enter Tryd.func25, Tryd.ntmps25
  go_wp2_with fail
  refine (kParse_c HS.out).mono ?_
  rintro e w1 ⟨rfl, hB1⟩
  have B1 := Lib.hid hB1
  clear hB1
  go_wp2_with (first | ((with_reducible refine wp_allocV 1 rfl rfl rfl ?_); intro w2 hv hb; have V1 := Lib.hid hv; have BL1 := Lib.hid hb; clear hv hb) | ((with_reducible refine wp_storeV rfl 1 5 rfl w1.heap.size kV (0, 0, []) ?hx ?hy V1.out ?_); (case hx => rfl); (case hy => rfl); intro w3 hv hb; have V1 := Lib.hid hv; have G1 := Lib.hid hb; clear hv hb))
  have BW := Lib.hid (below_store (below_then B1.out BL1.out) G1.out B1.out.size (Nat.le_trans B1.out.size BL1.out.size))
  have step : ∀ W W' : World, (Below w.heap.size w W ∧ VarV W w1.heap.size kV) → Below W.heap.size W W' → (Below w.heap.size w W' ∧ VarV W' w1.heap.size kV) := fun W W' h h2 => ⟨below_then h.1 h2, h.2.below h2⟩
  have SB := Lib.hid (show Below w.heap.size w w3.drew ∧ VarV w3.drew w1.heap.size kV from ⟨BW.out.drew, V1.out⟩)
  clear V1 G1 BL1 BW
  refine wp_region_plan (S := fun W => Below w.heap.size w W ∧ VarV W w1.heap.size kV) [(0, true), (1, true), (2, true), (3, true), (4, true), (5, true), (6, true), (7, true), (8, true), (9, false), (10, true), (11, true), (12, true), (14, true), (13, false), (15, false), (16, true), (17, true), (18, true), (19, false), (20, false), (21, false), (22, false), (23, true), (24, true), (25, true)] (by kernel_rfl) (by kernel_rfl) (by kernel_rfl) (by kernel_rfl) (fun _ _ d _ _ h => by cases d <;> exact h) SB.out ?_
  refine wkS_take (some 7) (.int .i64 0) (by kernel_rfl) (by kernel_rfl) (by kernel_rfl) (fun W hS => by kernel_rfl) ?_
  simp only [put_lit, put_non, List.set_cons_zero, List.set_cons_succ]
  refine wkS_take (some 8) (.bool true) (by kernel_rfl) (by kernel_rfl) (by kernel_rfl) (fun W hS => by kernel_rfl) ?_
  simp only [put_lit, put_non, List.set_cons_zero, List.set_cons_succ]
  refine wkS_take (some 9) (.bool true) (by kernel_rfl) (by kernel_rfl) (by kernel_rfl) (fun W hS => by kernel_rfl) ?_
  simp only [put_lit, put_non, List.set_cons_zero, List.set_cons_succ]
  refine wkS_take (some 10) (.pointer (some ⟨w1.heap.size, 2, none⟩)) (by kernel_rfl) (by kernel_rfl) (by kernel_rfl) (fun W hS => by kernel_rfl) ?_
  simp only [put_lit, put_non, List.set_cons_zero, List.set_cons_succ]
  refine wkS_take (some 11) (.string ⟨#[105, 116, 39, 115]⟩) (by kernel_rfl) (by kernel_rfl) (by kernel_rfl) (fun W hS => exec_loadCell 9 (.tmp 10) ⟨w1.heap.size, 2, none⟩ _ _ (by kernel_rfl) (by kernel_rfl) hS.2.cells.2.2 Tryd.underlying9 rfl) ?_
  simp only [put_lit, put_non, List.set_cons_zero, List.set_cons_succ]
  refine wkS_take (some 12) (.bool true) (by kernel_rfl) (by kernel_rfl) (by kernel_rfl) (fun W hS => by kernel_rfl) ?_
  simp only [put_lit, put_non, List.set_cons_zero, List.set_cons_succ]
  refine wkS_take (some 13) (.bool true) (by kernel_rfl) (by kernel_rfl) (by kernel_rfl) (fun W hS => by kernel_rfl) ?_
  simp only [put_lit, put_non, List.set_cons_zero, List.set_cons_succ]
  refine wkS_take (some 14) (.bool true) (by kernel_rfl) (by kernel_rfl) (by kernel_rfl) (fun W hS => by kernel_rfl) ?_
  simp only [put_lit, put_non, List.set_cons_zero, List.set_cons_succ]
  refine wkS_take (some 15) (vV kV) (by kernel_rfl) (by kernel_rfl) (by kernel_rfl) (fun W hS => exec_loadV 1 hS.2.range (by kernel_rfl) (by kernel_rfl)) ?_
  simp only [put_lit, put_non, List.set_cons_zero, List.set_cons_succ]
  refine wkS_call (some 16) 32 #[vV kV] (by kernel_rfl) (by kernel_rfl) (by kernel_rfl) (fun w => (by kernel_rfl)) ?_
  refine (kFormat_c (HS.out.below SB.out.1)).mono ?_
  rintro e w4 ⟨rfl, hB⟩
  have S4 := Lib.hid (step _ w4 SB.out hB)
  clear hB
  refine ⟨_, rfl, S4.out, ?_⟩
  simp only [put_lit, put_non, List.set_cons_zero, List.set_cons_succ]
  refine wkS_take (some 17) (.bool true) (by kernel_rfl) (by kernel_rfl) (by kernel_rfl) (fun W hS => by kernel_rfl) ?_
  simp only [put_lit, put_non, List.set_cons_zero, List.set_cons_succ]
  refine wkS_take (some 18) (.bool true) (by kernel_rfl) (by kernel_rfl) (by kernel_rfl) (fun W hS => by kernel_rfl) ?_
  simp only [put_lit, put_non, List.set_cons_zero, List.set_cons_succ]
  refine wkS_take (some 19) (.bool true) (by kernel_rfl) (by kernel_rfl) (by kernel_rfl) (fun W hS => by kernel_rfl) ?_
  simp only [put_lit, put_non, List.set_cons_zero, List.set_cons_succ]
  refine wkS_take (some 21) (vV kV) (by kernel_rfl) (by kernel_rfl) (by kernel_rfl) (fun W hS => exec_loadV 1 hS.2.range (by kernel_rfl) (by kernel_rfl)) ?_
  simp only [put_lit, put_non, List.set_cons_zero, List.set_cons_succ]
  refine wkS_call (some 20) 17 #[.int .i64 5] (by kernel_rfl) (by kernel_rfl) (by kernel_rfl) (fun w => (by kernel_rfl)) ?_
  refine (newInt_c _ 5).mono ?_
  rintro e w5 ⟨rfl, hB⟩
  have S5 := Lib.hid (step _ w5 S4.out hB)
  clear hB
  refine ⟨_, rfl, S5.out, ?_⟩
  simp only [put_lit, put_non, List.set_cons_zero, List.set_cons_succ]
  refine wkS_call (some 22) 14 #[vV (1, 5, []), vV kV] (by kernel_rfl) (by kernel_rfl) (by kernel_rfl) (fun w => (by kernel_rfl)) ?_
  refine (kCompare_c _).mono ?_
  rintro e w6 ⟨rfl, hB⟩
  have S6 := Lib.hid (step _ w6 S5.out hB)
  clear hB
  refine ⟨_, rfl, S6.out, ?_⟩
  simp only [put_lit, put_non, List.set_cons_zero, List.set_cons_succ]
  refine wkS_take (some 23) (.bool true) (by kernel_rfl) (by kernel_rfl) (by kernel_rfl) (fun W hS => by kernel_rfl) ?_
  simp only [put_lit, put_non, List.set_cons_zero, List.set_cons_succ]
  refine wkS_take (some 24) (.bool true) (by kernel_rfl) (by kernel_rfl) (by kernel_rfl) (fun W hS => by kernel_rfl) ?_
  simp only [put_lit, put_non, List.set_cons_zero, List.set_cons_succ]
  refine wkS_take (some 25) (.bool true) (by kernel_rfl) (by kernel_rfl) (by kernel_rfl) (fun W hS => by kernel_rfl) ?_
  simp only [put_lit, put_non, List.set_cons_zero, List.set_cons_succ]
  refine wkS_call (some 26) 19 #[.string ⟨#[98]⟩] (by kernel_rfl) (by kernel_rfl) (by kernel_rfl) (fun w => (by kernel_rfl)) ?_
  refine (newString_c _ [98]).mono ?_
  rintro e w7 ⟨rfl, hB⟩
  have S7 := Lib.hid (step _ w7 S6.out hB)
  clear hB
  refine ⟨_, rfl, S7.out, ?_⟩
  simp only [put_lit, put_non, List.set_cons_zero, List.set_cons_succ]
  have S8 := Lib.hid (step _ _ S7.out (one_below w7 (.cells (vC (2, 0, [98])).toArray 26)))
  refine wkS_doW (some 27) (.slice (some ⟨w7.heap.size, 0, none⟩) 1 1) (by kernel_rfl) (by kernel_rfl) (by kernel_rfl) (exec_oneV (x := (2, 0, [98])) 26 (by kernel_rfl) (by kernel_rfl)) S8.out ?_
  simp only [put_lit, put_non, List.set_cons_zero, List.set_cons_succ]
  refine wkS_call (some 28) 23 #[.slice (some ⟨w7.heap.size, 0, none⟩) 1 1] (by kernel_rfl) (by kernel_rfl) (by kernel_rfl) (fun w => (by kernel_rfl)) ?_
  refine (kEncode_c _ (vls_one w7 (2, 0, [98]))).mono ?_
  rintro e w9 ⟨u, rfl, hO, hB⟩
  have S9 := Lib.hid (step _ w9 S8.out hB)
  have HO := Lib.hid hO.byt
  clear hB hO
  refine ⟨_, rfl, S9.out, ?_⟩
  simp only [put_lit, put_non, List.set_cons_zero, List.set_cons_succ]
  refine wkS_doW (some 29) (.string ⟨#[2, 98, 0]⟩) (by kernel_rfl) (by kernel_rfl) (by kernel_rfl) (exec_strW 28 HO.out (by kernel_rfl) (by kernel_rfl)) S9.out ?_
  simp only [put_lit, put_non, List.set_cons_zero, List.set_cons_succ]
  refine wkS_take (some 30) (.bool true) (by kernel_rfl) (by kernel_rfl) (by kernel_rfl) (fun W hS => by kernel_rfl) ?_
  simp only [put_lit, put_non, List.set_cons_zero, List.set_cons_succ]
  refine wkS_take (some 31) (.bool true) (by kernel_rfl) (by kernel_rfl) (by kernel_rfl) (fun W hS => by kernel_rfl) ?_
  simp only [put_lit, put_non, List.set_cons_zero, List.set_cons_succ]
  refine wkS_take (some 0) (.bool true) (by kernel_rfl) (by kernel_rfl) (by kernel_rfl) (fun W hS => by kernel_rfl) ?_
  simp only [put_lit, put_non, List.set_cons_zero, List.set_cons_succ]
  refine wkS_done ?_
  go_wp2_with fail
  go_ret
  exact ⟨rfl, S9.out.1⟩
end
end Go.Proofs.YtpbkmkcfhkdjjaaDoor

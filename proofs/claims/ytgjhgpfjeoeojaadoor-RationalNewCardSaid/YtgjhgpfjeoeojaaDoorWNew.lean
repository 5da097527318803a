/- The walk of the law RationalNew: it returns true and leaves what was there. -/
import Derived.Test.YtgjhgpfjeoeojaaDoorBown
import Derived.Test.YtgjhgpfjeoeojaaDoorKnow2
namespace Go.Proofs.YtgjhgpfjeoeojaaDoor
open Go.RowKit Dig
set_option linter.unusedVariables false

set_option maxHeartbeats 2000000 in
theorem new_walk0 (w : World) (x : Int) (hM : MaxL w) : Calls Tryd.prog 3 #[.int .i64 x, .int .i64 0] w (RVal w (.bool true)) := by
  have N1 := Lib.hid (fun w1 => new0_v w1 x)
  have N2 := Lib.hid (fun w1 => fracNew0_v w1 x)
  go_enter Tryd.func3, Tryd.ntmps3
  go_wp2_with fail
  refine (N1.out _).mono ?_
  rintro e w1 ⟨rfl, hB1⟩
  have hB2 : Below w.heap.size w (w1.alloc (.cells #[.bool false, .slice none 0 0, .slice none 0 0] 25)) := hB1.alloc hB1.size _
  have S1 := Fcl.new w1 false (.slice none 0 0) (.slice none 0 0)
  go_wp2_with fail
  refine (N2.out _).mono ?_
  rintro e w2 ⟨rfl, hB3⟩
  have S2 := S1.below hB3
  have hB3 := below_then hB2 hB3
  have hB4 : Below w.heap.size w (w2.alloc (.cells #[.bool false, .slice none 0 0, .slice none 0 0] 25)) := hB3.alloc hB3.size _
  have S3 := S2.alloc (.cells #[.bool false, .slice none 0 0, .slice none 0 0] 25)
  obtain ⟨c0, c1, c2⟩ := S3.cells
  have SM := Lib.hid (fun w1 => same_zero w1)
  have KN := Lib.hid (fun w1 hB => known2_v w1 (hM.below hB))
  go_wp2_with fail
  refine (SM.out _).mono ?_
  rintro e w3 ⟨rfl, hB5⟩
  have hB5 := below_then hB4 hB5
  go_wp2_with fail
  refine (KN.out _ hB5).mono ?_
  rintro e w4 ⟨rfl, hB6⟩
  go_wp2_with fail
  go_ret
  exact ⟨rfl, below_then hB5 hB6⟩
set_option maxHeartbeats 2000000 in
theorem new_walk1 (w : World) (x y : Int) (hx : Fits64 x) (hy : Fits64 y) (h0 : y ≠ 0) (hM : MaxL w) : Calls Tryd.prog 3 #[.int .i64 x, .int .i64 y] w (RVal w (.bool true)) := by
  have N1 := Lib.hid (fun w1 => new_v w1 x y hx hy h0)
  have N2 := Lib.hid (fun w1 => fracNew_v w1 x y hx hy h0)
  generalize frz x y = q at *
  clear h0 hx hy
  go_enter Tryd.func3, Tryd.ntmps3
  go_wp2_with fail
  refine (N1.out _).mono ?_
  rintro e w1 ⟨va, rfl, ha, hB1⟩
  obtain ⟨b0, A0, m0, c0, A0', m0', c0', rfl, _, _, _⟩ := ha.parts
  obtain ⟨W, g, ew, eg, hBW, hF⟩ := var1 w1 b0 (.slice A0 m0 c0) (.slice A0' m0' c0')
  have ha := ha.below hBW
  have hB2 := below_then hB1 hBW
  go_wp2_with fail
  refine (N2.out _).mono ?_
  rintro e w2 ⟨vb, rfl, hb, hB3⟩
  have ha := ha.below hB3
  have hF := hF.below hB3
  have hB3 := below_then hB2 hB3
  obtain ⟨b1, A1, m1, c1, A1', m1', c1', rfl, _, _, _⟩ := hb.parts
  obtain ⟨W2, g2, ew2, eg2, hBW2, hF2⟩ := var1 w2 b1 (.slice A1 m1 c1) (.slice A1' m1' c1')
  have ha := ha.below hBW2
  have hb := hb.below hBW2
  have hF := hF.below hBW2
  have hB4 := below_then hB3 hBW2
  obtain ⟨d0, d1, d2⟩ := hF.cells
  obtain ⟨e0, e1, e2⟩ := hF2.cells
  have SM := Lib.hid (same_ft ha hb rfl)
  have KN := Lib.hid (fun w1 hB => known2_v w1 (hM.below hB))
  go_wp2_with fail
  refine (SM.out).mono ?_
  rintro e w3 ⟨rfl, hB5⟩
  have hB5 := below_then hB4 hB5
  go_wp2_with fail
  refine (KN.out _ hB5).mono ?_
  rintro e w4 ⟨rfl, hB6⟩
  go_wp2_with fail
  go_ret
  exact ⟨rfl, below_then hB5 hB6⟩
theorem new_walk (w : World) {x y : Int} (hx : (Lit.int .i64 x).wf = true) (hy : (Lit.int .i64 y).wf = true) (hM : MaxL w) : Calls Tryd.prog 3 #[.int .i64 x, .int .i64 y] w (RVal w (.bool true)) := by
  have fits : ∀ z, (Lit.int .i64 z).wf = true → Fits64 z := by
    intro z h
    have e1 : IntKind.i64.min = -9223372036854775808 := by decide
    have e2 : IntKind.i64.max = 9223372036854775807 := by decide
    simp [Lit.wf] at h
    unfold Fits64
    omega
  by_cases h0 : y = 0
  · subst h0
    exact new_walk0 w x hM
  · exact new_walk1 w x y (fits x hx) (fits y hy) h0 hM
end Go.Proofs.YtgjhgpfjeoeojaaDoor

/- The contracts of size, FracNew, FracSign of the reference; of credencebase.Frac; of raw and same of the laws. -/
import Derived.Test.YtkdnmmbnljaahaaRefJ
namespace Go.Proofs.Ytkdnmmbnljaahaa
open Go.RowKit Dig
set_option linter.unusedVariables false

theorem size_v (w : World) (z : Int) (hz : Fits64 z) : Calls Try.prog 49 #[.int .i64 z] w (RCan w z.natAbs 2) := by
  unfold Fits64 at hz
  by_cases h : z < 0
  · have e : -(z + 1) + 1 = ((z.natAbs : Nat) : Int) := by omega
    have F := natOf_v (w := w) z.natAbs (by omega)
    rw [← e] at F
    have FF := Lib.hid F
    clear F e
    go_enter Try.func49, Try.ntmps49
    go_wp2_with fail
    refine (FF.out).mono ?_
    rintro e w1 ⟨x, rfl, hx⟩
    go_wp2_with fail
    go_ret
    exact ⟨_, rfl, hx⟩
  · have e : ((z.natAbs : Nat) : Int) = z := by omega
    have F := natOf_v (w := w) z.natAbs (by omega)
    rw [e] at F
    have FF := Lib.hid F
    clear F e
    go_enter Try.func49, Try.ntmps49
    go_wp2_with fail
    refine (FF.out).mono ?_
    rintro e w1 ⟨x, rfl, hx⟩
    go_wp2_with fail
    go_ret
    exact ⟨_, rfl, hx⟩
theorem fracNew0_v (w : World) (x : Int) : Calls Try.prog 35 #[.int .i64 x, .int .i64 0] w (RErr w 20) := by
  have R0 := Lib.hid (Fcl.new w false (.slice none 0 0) (.slice none 0 0))
  have hB0 : Below w.heap.size w (w.alloc (.cells #[.bool false, .slice none 0 0, .slice none 0 0] 28)) := (Below.refl _ _).alloc (Nat.le_refl _) _
  go_enter Try.func35, Try.ntmps35
  go_wp2_with fail
  refine bodyPost_ret (v := .tuple #[.agg #[.bool false, .slice none 0 0, .slice none 0 0], .int .i64 20]) (by rw [results_cell_tmp rfl]; go_simp) rfl ?_
  exact ⟨rfl, hB0⟩
theorem fracNew_v (w : World) (x y : Int) (hx : Fits64 x) (hy : Fits64 y) (h0 : y ≠ 0) : Calls Try.prog 35 #[.int .i64 x, .int .i64 y] w (RCanE w (frz x y) 2) := by
  have R0 := Lib.hid (Fcl.new w false (.slice none 0 0) (.slice none 0 0))
  have hB0 : Below w.heap.size w (w.alloc (.cells #[.bool false, .slice none 0 0, .slice none 0 0] 28)) := (Below.refl _ _).alloc (Nat.le_refl _) _
  have Mx := Lib.hid (fun w1 => size_v w1 x hx)
  have My := Lib.hid (fun w1 => size_v w1 y hy)
  have hy0 : ((y : Int) == 0) = false := by rw [beq_eq_false_iff_ne]; exact h0
  have RR := Lib.hid (fun w1 u v (hu : Can w1 u x.natAbs 2) (hv : Can w1 v y.natAbs 2) => frac_v (w := w1) (decide (x < 0) != decide (y < 0)) hu.numV hv.numV (by omega) (by omega))
  rw [show fr (decide (x < 0) != decide (y < 0)) x.natAbs y.natAbs = frz x y from rfl] at RR
  clear h0
  go_enter Try.func35, Try.ntmps35
  go_wp2_with fail
  refine (Mx.out _).mono ?_
  rintro e w1 ⟨u, rfl, hu, _, hB1⟩
  have R1 := R0.out.below hB1
  have hB1 := below_then hB0 hB1
  go_wp2_with fail
  refine (My.out _).mono ?_
  rintro e w2 ⟨v, rfl, hv, _, hB2⟩
  have R2 := R1.below hB2
  have hu := hu.below hB2
  have hB2 := below_then hB1 hB2
  go_wp2_with fail
  refine (RR.out _ _ _ hu hv).mono ?_
  rintro e w3 ⟨z, rfl, hz, hB3⟩
  have R3 := R2.below hB3
  have hB3 := below_then hB2 hB3
  obtain ⟨b, C, o, r, C', o', r', rfl, hb, hvx, hvy⟩ := hz.parts
  obtain ⟨k0, k1, k2⟩ := R3.cells
  obtain ⟨f0, f1, f2⟩ := R3.frozen
  go_wp2_with fail
  refine bodyPost_ret (v := .tuple #[.agg #[.bool b, .slice C o r, .slice C' o' r'], .int .i64 0]) (by rw [results_cell_tmp rfl]; go_simp) rfl ?_
  exact RCanE.stored hb hvx hvy R3 hB3 (Nat.le_refl _) (.bool b)

section
variable {w : World} {va vb : Value} {na nb : Bool} {xs ys us vs : List Nat} {p q : Rat} {k l : Nat}
end
end Go.Proofs.Ytkdnmmbnljaahaa

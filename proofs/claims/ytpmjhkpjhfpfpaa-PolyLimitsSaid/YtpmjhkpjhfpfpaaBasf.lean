/- The contract of credencebase.Frac. -/
import Derived.Test.YtpmjhkpjhfpfpaaRefL
namespace Go.Proofs.Ytpmjhkpjhfpfpaa
open Go.RowKit Dig
set_option linter.unusedVariables false

theorem and_low (z : Int) (m : Nat) (hm : m ≤ 31) : ∃ k : Nat, k < 2 ^ m ∧ bits .and .i64 z ((2 ^ m - 1 : Nat) : Int) = (k : Int) := by
  refine ⟨((BitVec.ofInt 64 z).toNat % 2 ^ m), Nat.mod_lt _ (Nat.pow_pos (by omega)), ?_⟩
  show IntKind.i64.wrap ((BitVec.ofInt 64 z &&& BitVec.ofInt 64 ((2 ^ m - 1 : Nat) : Int)).toNat : Int) = _
  have hp : 2 ^ m ≤ 2 ^ 31 := Nat.pow_le_pow_right (by omega) hm
  have hp0 : 0 < 2 ^ m := Nat.pow_pos (by omega)
  have e2 : (BitVec.ofInt 64 ((2 ^ m - 1 : Nat) : Int)).toNat = 2 ^ m - 1 := by
    rw [BitVec.ofInt_natCast, BitVec.toNat_ofNat]
    exact Nat.mod_eq_of_lt (by omega)
  have h := Nat.and_two_pow_sub_one_eq_mod (BitVec.ofInt 64 z).toNat m
  have hlt := Nat.mod_lt (BitVec.ofInt 64 z).toNat hp0
  rw [BitVec.toNat_and, e2, h, IntKind.wrap_i64]
  omega
/-- A variable of the call's own that holds a fraction. -/
theorem var1 (w : World) (b : Bool) (x y : Value) : ∃ W g, w.alloc (.cells #[.bool b, x, y] 29) = W ∧ w.heap.size = g ∧ Below w.heap.size w W ∧ Fcl W g b x y :=
  ⟨_, _, rfl, rfl, (Below.refl _ _).alloc (Nat.le_refl _) _, Fcl.new w b x y⟩
theorem var3 (w : World) (b0 b1 b2 : Bool) (x0 y0 x1 y1 x2 y2 : Value) :
    ∃ W, ((w.alloc (.cells #[.bool b0, x0, y0] 29)).alloc (.cells #[.bool b1, x1, y1] 29)).alloc (.cells #[.bool b2, x2, y2] 29) = W ∧
      Below w.heap.size w W ∧ Fcl W w.heap.size b0 x0 y0 ∧ Fcl W (w.heap.size + 1) b1 x1 y1 ∧ Fcl W (w.heap.size + 1 + 1) b2 x2 y2 :=
  ⟨_, rfl, below_alloc3 w _ _ _, ((Fcl.new w b0 x0 y0).alloc _).alloc _, (Fcl.new2 w _ b1 x1 y1).alloc _, Fcl.new3 w _ _ b2 x2 y2⟩
/-- The number that credencebase makes of an int. -/
def bq (z : Int) : Rat := frz (bits .and .i64 z 63 - 20) (bits .and .i64 (z / 64) 31 + 1)
set_option maxHeartbeats 1000000 in
theorem baseFrac_v (w : World) (z : Int) : Calls Try.prog 11 #[.int .i64 z] w (RCanF w (bq z) 2) := by
  obtain ⟨x, hx, ex⟩ := and_low z 6 (by omega)
  obtain ⟨y, hy, ey⟩ := and_low (z / 64) 5 (by omega)
  have ex : bits .and .i64 z 63 = (x : Int) := ex
  have ey : bits .and .i64 (z / 64) 31 = (y : Int) := ey
  unfold bq
  rw [ex, ey]
  have R0 := Lib.hid (Fcl.new w false (.slice none 0 0) (.slice none 0 0))
  have hB0 : Below w.heap.size w (w.alloc (.cells #[.bool false, .slice none 0 0, .slice none 0 0] 29)) := (Below.refl _ _).alloc (Nat.le_refl _) _
  have NW := Lib.hid (fun w1 => fracNew_v w1 ((x : Int) - 20) ((y : Int) + 1) (by unfold Fits64; omega) (by unfold Fits64; omega) (by omega))
  have hx2 : (x : Int) < 64 := by omega
  have hy2 : (y : Int) < 32 := by omega
  go_enter Try.func11, Try.ntmps11
  go_wp2_with fail
  refine (NW.out _).mono ?_
  rintro e w1 ⟨v, rfl, hv, hB1⟩
  have R1 := R0.out.below hB1
  have hB1 := below_then hB0 hB1
  obtain ⟨b, A, m, c, A', m', c', rfl, hb, hvx, hvy⟩ := hv.parts
  obtain ⟨W, g, ew, eg, hBW, hFW⟩ := var1 w1 b (.slice A m c) (.slice A' m' c')
  have R2 := R1.below hBW
  have hx2 := hvx.below hBW
  have hy2 := hvy.below hBW
  have hB2 := below_then hB1 hBW
  obtain ⟨k0, k1, k2⟩ := R2.cells
  obtain ⟨f0, f1, f2⟩ := R2.frozen
  obtain ⟨d0, d1, d2⟩ := hFW.cells
  go_wp2_with fail
  refine bodyPost_ret (v := .agg #[.bool b, .slice A m c, .slice A' m' c']) (by rw [results_one rfl]; go_simp) rfl ?_
  exact RCanF.stored hb hx2 hy2 R2 hB2 (Nat.le_refl _) (.bool b)
end Go.Proofs.Ytpmjhkpjhfpfpaa

/- The contract of credencebase.Frac. -/
import Derived.Test.YtkcgeffckofbiaaDoorRefL
namespace Go.Proofs.YtkcgeffckofbiaaDoor
open Go.RowKit Dig
set_option linter.unusedVariables false

theorem and_low (z : Int) (m : Nat) (hm : m ≤ 31) : ∃ k : Nat, k < 2 ^ m ∧ bits .and .i64 z ((2 ^ m - 1 : Nat) : Int) = (k : Int) := by
  refine ⟨((BitVec.ofInt 64 z).toNat % 2 ^ m), Nat.mod_lt _ (Nat.pow_pos (by omega)), ?_⟩
  show IntKind.i64.wrap ((BitVec.ofInt 64 z &&& BitVec.ofInt 64 ((2 ^ m - 1 : Nat) : Int)).toNat : Int) = _
  have hp : 2 ^ m ≤ 2 ^ 31 := Nat.pow_le_pow_right (by omega) hm
  have hp0 : 0 < 2 ^ m := Nat.pow_pos (by omega)
  have e2 : (BitVec.ofInt 64 ((2 ^ m - 1 : Nat) : Int)).toNat = 2 ^ m - 1 := by
    rw [BitVec.ofInt_natCast, BitVec.toNat_ofNat]
    exact Nat.mod_eq_of_lt (by omega)
  have h := Nat.and_two_pow_sub_one_eq_mod (BitVec.ofInt 64 z).toNat m
  have hlt := Nat.mod_lt (BitVec.ofInt 64 z).toNat hp0
  rw [BitVec.toNat_and, e2, h, IntKind.wrap_i64]
  omega
/-- A variable of the call's own that holds a fraction. -/
theorem var1 (w : World) (b : Bool) (x y : Value) : ∃ W g, w.alloc (.cells #[.bool b, x, y] 25) = W ∧ w.heap.size = g ∧ Below w.heap.size w W ∧ Fcl W g b x y :=
  ⟨_, _, rfl, rfl, (Below.refl _ _).alloc (Nat.le_refl _) _, Fcl.new w b x y⟩
theorem var3 (w : World) (b0 b1 b2 : Bool) (x0 y0 x1 y1 x2 y2 : Value) :
    ∃ W, ((w.alloc (.cells #[.bool b0, x0, y0] 25)).alloc (.cells #[.bool b1, x1, y1] 25)).alloc (.cells #[.bool b2, x2, y2] 25) = W ∧
      Below w.heap.size w W ∧ Fcl W w.heap.size b0 x0 y0 ∧ Fcl W (w.heap.size + 1) b1 x1 y1 ∧ Fcl W (w.heap.size + 1 + 1) b2 x2 y2 :=
  ⟨_, rfl, below_alloc3 w _ _ _, ((Fcl.new w b0 x0 y0).alloc _).alloc _, (Fcl.new2 w _ b1 x1 y1).alloc _, Fcl.new3 w _ _ b2 x2 y2⟩
/-- The number that credencebase makes of an int. -/
def bq (z : Int) : Rat := frz (bits .and .i64 z 63 - 20) (bits .and .i64 (z / 64) 31 + 1)
end Go.Proofs.YtkcgeffckofbiaaDoor

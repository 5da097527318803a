/- The contract of credencebase.Frac. -/
import Derived.Test.YtpmjhkpjhfpfpaaDoorRefL
namespace Go.Proofs.YtpmjhkpjhfpfpaaDoor
open Go.RowKit Dig
set_option linter.unusedVariables false

theorem and_low (z : Int) (m : Nat) (hm : m ≤ 31) : ∃ k : Nat, k < 2 ^ m ∧ bits .and .i64 z ((2 ^ m - 1 : Nat) : Int) = (k : Int) := by
  refine ⟨((BitVec.ofInt 64 z).toNat % 2 ^ m), Nat.mod_lt _ (Nat.pow_pos (by omega)), ?_⟩
  show IntKind.i64.wrap ((BitVec.ofInt 64 z &&& BitVec.ofInt 64 ((2 ^ m - 1 : Nat) : Int)).toNat : Int) = _
  have hp : 2 ^ m ≤ 2 ^ 31 := Nat.pow_le_pow_right (by omega) hm
  have hp0 : 0 < 2 ^ m := Nat.pow_pos (by omega)
  have e2 : (BitVec.ofInt 64 ((2 ^ m - 1 : Nat) : Int)).toNat = 2 ^ m - 1 := by
    rw [BitVec.ofInt_natCast, BitVec.toNat_ofNat]
    exact Nat.mod_eq_of_lt (by omega)
  have h := Nat.and_two_pow_sub_one_eq_mod (BitVec.ofInt 64 z).toNat m
  have hlt := Nat.mod_lt (BitVec.ofInt 64 z).toNat hp0
  rw [BitVec.toNat_and, e2, h, IntKind.wrap_i64]
  omega
/-- A variable of the call's own that holds a fraction. -/
theorem var1 (w : World) (b : Bool) (x y : Value) : ∃ W g, w.alloc (.cells #[.bool b, x, y] 29) = W ∧ w.heap.size = g ∧ Below w.heap.size w W ∧ Fcl W g b x y :=
  ⟨_, _, rfl, rfl, (Below.refl _ _).alloc (Nat.le_refl _) _, Fcl.new w b x y⟩
theorem var3 (w : World) (b0 b1 b2 : Bool) (x0 y0 x1 y1 x2 y2 : Value) :
    ∃ W, ((w.alloc (.cells #[.bool b0, x0, y0] 29)).alloc (.cells #[.bool b1, x1, y1] 29)).alloc (.cells #[.bool b2, x2, y2] 29) = W ∧
      Below w.heap.size w W ∧ Fcl W w.heap.size b0 x0 y0 ∧ Fcl W (w.heap.size + 1) b1 x1 y1 ∧ Fcl W (w.heap.size + 1 + 1) b2 x2 y2 :=
  ⟨_, rfl, below_alloc3 w _ _ _, ((Fcl.new w b0 x0 y0).alloc _).alloc _, (Fcl.new2 w _ b1 x1 y1).alloc _, Fcl.new3 w _ _ b2 x2 y2⟩
/-- The number that credencebase makes of an int. -/
def bq (z : Int) : Rat := frz (bits .and .i64 z 63 - 20) (bits .and .i64 (z / 64) 31 + 1)
end Go.Proofs.YtpmjhkpjhfpfpaaDoor

/- The contracts of frac, FracNew and credencebase.Frac that say whose memory the parts are. -/
namespace Go.Proofs.YtpmjhkpjhfpfpaaDoor
open Go.RowKit Dig
set_option linter.unusedVariables false

/-- The canonical form of q, both parts in blocks of their own. -/
def OF (base : Nat) (w : World) (v : Value) (q : Rat) (k : Nat) : Prop := ∃ b A m c A' m' c', v = .agg #[.bool b, .slice A m c, .slice A' m' c'] ∧ decide (q.num < 0) = b ∧ Can w (.slice A m c) q.num.natAbs k ∧ Can w (.slice A' m' c') q.den k ∧
  Own base w (.slice A m c) (dg q.num.natAbs) ∧ Own base w (.slice A' m' c') (dg q.den) ∧ ∀ g, (Value.slice A m c).ownBlock = some g → (Value.slice A' m' c').ownBlock ≠ some g
def ROF (w : World) (q : Rat) (k : Nat) (e : Ending) (w' : World) : Prop := ∃ v, e = .returned v ∧ OF w.heap.size w' v q k ∧ Below w.heap.size w w'
section
variable {w w' w2 : World} {v : Value} {q : Rat} {k base g : Nat} {xs : List Nat}
theorem Own.farB (h : Own base w v xs) (hg : g < base) (a b c : Value) : Own base (stor3 w g a b c) v xs := by
  obtain ⟨hs, h⟩ := h
  refine ⟨hs, ?_⟩
  rcases h with h | ⟨g', rest, e, hb, hm, hS⟩
  · exact .inl h
  · exact .inr ⟨g', rest, e, hb, hm, hS.of_block (put3_heap w g a b c g' (by omega))⟩
theorem Own.lt {n c : Nat} {A : Option Addr} (h : Own base w (.slice A n c) xs) : ∀ g, (Value.slice A n c).ownBlock = some g → base ≤ g ∧ g < w.heap.size := by
  intro g hg
  obtain ⟨hs, h⟩ := h
  rcases h with ⟨e, _⟩ | ⟨g', rest, e, hb, hm, hS⟩
  · rw [e] at hg; simp [Value.ownBlock] at hg
  · rw [e] at hg
    simp [Value.ownBlock] at hg
    subst hg
    exact ⟨hb, hS.lt⟩
theorem OF.canF (h : OF base w v q k) : CanF w v q k := by
  obtain ⟨b, A, m, c, A', m', c', rfl, hb, hx, hy, _⟩ := h
  exact CanF.ofParts hb hx hy
theorem OF.below (h : OF base w v q k) (hB : Below w.heap.size w w') : OF base w' v q k := by
  obtain ⟨b, A, m, c, A', m', c', rfl, hb, hx, hy, ox, oy, ha⟩ := h
  exact ⟨b, A, m, c, A', m', c', rfl, hb, hx.below hB, hy.below hB, ox.below hB (Nat.le_refl _), oy.below hB (Nat.le_refl _), ha⟩
theorem OF.mono {base' : Nat} (h : OF base w v q k) (hb : base' ≤ base) : OF base' w v q k := by
  obtain ⟨b, A, m, c, A', m', c', rfl, h1, hx, hy, ox, oy, ha⟩ := h
  exact ⟨b, A, m, c, A', m', c', rfl, h1, hx, hy, ox.mono hb, oy.mono hb, ha⟩
theorem OF.stored {A9 A8 : Option Addr} {m9 c9 m8 c8 : Nat} {p : Bool} (h : OF base w v q k) (hF : Fcl w g p (.slice A9 m9 c9) (.slice A8 m8 c8)) (hg : g < base) (a b c : Value) : OF base (stor3 w g a b c) v q k := by
  obtain ⟨b, A, m, c, A', m', c', rfl, h1, hx, hy, ox, oy, ha⟩ := h
  exact ⟨b, A, m, c, A', m', c', rfl, h1, hx.put3 hF _ _ _, hy.put3 hF _ _ _, ox.farB hg _ _ _, oy.farB hg _ _ _, ha⟩
end
section
variable {w : World} {vn vd : Value} {n d k : Nat}
end
end Go.Proofs.YtpmjhkpjhfpfpaaDoor

/- Fractions in memory, by the rational numbers that they denote. -/
import Derived.Test.YtgjhgpfjeoeojaaDoorRati
import Derived.Test.YtgjhgpfjeoeojaaDoorGcds
namespace Go.Proofs.YtgjhgpfjeoeojaaDoor
open Go.RowKit Dig
set_option linter.unusedVariables false

/-- v can be read as the number q, with at most k digits in each part. -/
def FracV (w : World) (v : Value) (q : Rat) (k : Nat) : Prop := ∃ neg vn vd n d, v = .agg #[.bool neg, vn, vd] ∧ NumV w vn n k ∧ NumV w vd d k ∧ fr neg n d = q
/-- v is the canonical form of q. -/
def CanF (w : World) (v : Value) (q : Rat) (k : Nat) : Prop := ∃ vn vd, v = .agg #[.bool (decide (q.num < 0)), vn, vd] ∧ Can w vn q.num.natAbs k ∧ Can w vd q.den k
/-- A call that hands back the canonical form of q, and leaves what was there. -/
def RCanF (w : World) (q : Rat) (k : Nat) (e : Ending) (w' : World) : Prop := ∃ v, e = .returned v ∧ CanF w' v q k ∧ Below w.heap.size w w'

section
variable {w w' : World} {v vn vd : Value} {q : Rat} {n d k l : Nat} {neg : Bool}
theorem NumV.le (h : NumV w v n k) (hl : k ≤ l) : NumV w v n l := by
  obtain ⟨L, h1, h2, h3⟩ := h
  exact ⟨L, h1, h2, by omega⟩
theorem FracV.of (hn : NumV w vn n k) (hd : NumV w vd d k) : FracV w (.agg #[.bool neg, vn, vd]) (fr neg n d) k := ⟨_, _, _, _, _, rfl, hn, hd, rfl⟩
theorem FracV.le (h : FracV w v q k) (hl : k ≤ l) : FracV w v q l := by
  obtain ⟨neg, vn, vd, n, d, e, hn, hd, hq⟩ := h
  exact ⟨neg, vn, vd, n, d, e, hn.le hl, hd.le hl, hq⟩
theorem FracV.below (h : FracV w v q k) (hb : Below w.heap.size w w') : FracV w' v q k := by
  obtain ⟨neg, vn, vd, n, d, e, hn, hd, hq⟩ := h
  exact ⟨neg, vn, vd, n, d, e, hn.below hb, hd.below hb, hq⟩
theorem CanF.below (h : CanF w v q k) (hb : Below w.heap.size w w') : CanF w' v q k := by
  obtain ⟨vn, vd, e, hn, hd⟩ := h
  exact ⟨vn, vd, e, hn.below hb, hd.below hb⟩
theorem CanF.le (h : CanF w v q k) (hl : k ≤ l) : CanF w v q l := by
  obtain ⟨vn, vd, e, hn, hd⟩ := h
  exact ⟨vn, vd, e, hn.le hl, hd.le hl⟩
theorem CanF.fracV (h : CanF w v q k) : FracV w v q k := by
  obtain ⟨vn, vd, e, hn, hd⟩ := h
  exact ⟨_, vn, vd, _, _, e, hn.numV, hd.numV, fr_self q⟩
theorem RCanF.le {e : Ending} (h : RCanF w q k e w') (hl : k ≤ l) : RCanF w q l e w' := by
  obtain ⟨v, h1, h2, h3⟩ := h
  exact ⟨v, h1, h2.le hl, h3⟩
/-- The canonical form of a fraction that is not 0. -/
theorem CanF.of_parts (hn : n ≠ 0) (hd : d ≠ 0) (h1 : Can w vn (n / Nat.gcd n d) k) (h2 : Can w vd (d / Nat.gcd n d) k) : CanF w (.agg #[.bool neg, vn, vd]) (fr neg n d) k := by
  obtain ⟨e1, e2, e3⟩ := fr_parts neg hn hd
  refine ⟨vn, vd, by rw [e1], ?_, ?_⟩
  · rw [e2]; exact h1
  · rw [e3]; exact h2
theorem CanF.zero (h1 : Can w vn 0 k) (h2 : Can w vd 1 k) : CanF w (.agg #[.bool false, vn, vd]) 0 k := ⟨vn, vd, rfl, h1, h2⟩
theorem Can.of_eq {m : Nat} (h : Can w v n k) (e : n = m) : Can w v m k := e ▸ h
end
end Go.Proofs.YtgjhgpfjeoeojaaDoor

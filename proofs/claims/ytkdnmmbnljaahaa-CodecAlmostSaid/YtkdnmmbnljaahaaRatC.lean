/- The contracts of defined and Add of package rational. -/
import Derived.Deep.Cut
import Derived.Test.YtkdnmmbnljaahaaRatB
namespace Go.Proofs.Ytkdnmmbnljaahaa
open Go.RowKit Dig
set_option linter.unusedVariables false

/-- v can be read as the number q, and its denominator is not 0. -/
def FracP (w : World) (v : Value) (q : Rat) (k : Nat) : Prop := ∃ neg A m c A' m' c' n d, v = .agg #[.bool neg, .slice A m c, .slice A' m' c'] ∧ NumV w (.slice A m c) n k ∧ NumV w (.slice A' m' c') d k ∧ d ≠ 0 ∧ fr neg n d = q
section
variable {w w' : World} {v : Value} {q : Rat} {k l : Nat}
theorem FracP.below (h : FracP w v q k) (hb : Below w.heap.size w w') : FracP w' v q k := by
  obtain ⟨neg, A, m, c, A', m', c', n, d, e, hn, hd, h0, hq⟩ := h
  exact ⟨neg, A, m, c, A', m', c', n, d, e, hn.below hb, hd.below hb, h0, hq⟩
theorem CanF.fracP (h : CanF w v q k) : FracP w v q k := by
  obtain ⟨b, A, m, c, A', m', c', e, hb, hx, hy⟩ := h.parts
  refine ⟨b, A, m, c, A', m', c', _, _, e, hx.numV, hy.numV, q.den_nz, ?_⟩
  rw [← hb]
  exact fr_self q

end

section
variable {w : World} {va vb : Value} {p q : Rat} {k l : Nat}
/-- Blocks g0 and g1 hold two fractions with denominators above 0, block g2 can take the result. -/
def Ready (w w' : World) (p q : Rat) (k l g0 g1 g2 : Nat) : Prop :=
  ∃ na A m c A' m' c' n d nb B i j B' i' j' s t, Fcl w' g0 na (.slice A m c) (.slice A' m' c') ∧ Fcl w' g1 nb (.slice B i j) (.slice B' i' j') ∧ Fcl w' g2 false (.slice none 0 0) (.slice none 0 0) ∧
    NumV w' (.slice A m c) n k ∧ NumV w' (.slice A' m' c') d k ∧ d ≠ 0 ∧ fr na n d = p ∧ NumV w' (.slice B i j) s l ∧ NumV w' (.slice B' i' j') t l ∧ t ≠ 0 ∧ fr nb s t = q ∧ Below w.heap.size w w'
theorem ready_of {w4 : World} {g0 g1 g2 : Nat} {na nb xa yb : Bool} {A A' B B' X X' Y Y' : Option Addr} {m c m' c' i j i' j' x1 x2 x1' x2' y1 y2 y1' y2' n d s t : Nat} (hB : Below w.heap.size w w4)
    (h0 : Fcl w4 g0 na (.slice A m c) (.slice A' m' c')) (h1 : Fcl w4 g1 nb (.slice B i j) (.slice B' i' j')) (h2 : Fcl w4 g2 false (.slice none 0 0) (.slice none 0 0))
    (e0 : w.heap.size = g0) (e1 : g0 + 1 = g1) (e2 : g1 + 1 = g2) (hn : NumV w4 (.slice X x1 x2) n k) (hd : NumV w4 (.slice X' x1' x2') d k) (hd0 : d ≠ 0) (hp : fr xa n d = p)
    (hs : NumV w4 (.slice Y y1 y2) s l) (ht : NumV w4 (.slice Y' y1' y2') t l) (ht0 : t ≠ 0) (hq : fr yb s t = q) :
    Ready w (stor3 (stor3 w4 g0 (.bool xa) (.slice X x1 x2) (.slice X' x1' x2')) g1 (.bool yb) (.slice Y y1 y2) (.slice Y' y1' y2')) p q k l g0 g1 g2 := by
  have k1 := h1.far (show g1 ≠ g0 by omega) (.bool xa) (.slice X x1 x2) (.slice X' x1' x2')
  exact ⟨xa, X, x1, x2, X', x1', x2', n, d, yb, Y, y1, y2, Y', y1', y2', s, t, (h0.put3 xa _ _).far (by omega) _ _ _, k1.put3 yb _ _, (h2.far (by omega) _ _ _).far (by omega) _ _ _,
    (hn.put3 h0 _ _ _).put3 k1 _ _ _, (hd.put3 h0 _ _ _).put3 k1 _ _ _, hd0, hp, (hs.put3 h0 _ _ _).put3 k1 _ _ _, (ht.put3 h0 _ _ _).put3 k1 _ _ _, ht0, hq,
    below_put3 (below_put3 hB (by omega) _ _ _) (by omega) _ _ _⟩
theorem RCan.fit {w' : World} {n k l : Nat} {e : Ending} (h : RCan w n k e w') (hn : n < 4294967296 ^ l) : RCan w n l e w' := by
  obtain ⟨r, a, b, c⟩ := h
  exact ⟨r, a, ⟨b.1, hn⟩, c⟩
end
end Go.Proofs.Ytkdnmmbnljaahaa

/- The contracts of trim, at and first of package poly. -/
import Derived.Test.YtgjhgpfjeoeojaaGreatDoorFlst
import Derived.Test.YtgjhgpfjeoeojaaGreatDoorRatD
import Derived.Test.YtgjhgpfjeoeojaaGreatDoorPpol
namespace Go.Proofs.YtgjhgpfjeoeojaaGreatDoor
open Go.RowKit Dig
set_option linter.unusedVariables false

/-- What can be read as fractions of at most k digits. -/
def Reads (E : World → Value → Rat → Prop) (k : Nat) : Prop := ∀ {w : World} {v : Value} {q : Rat}, E w v q → FracV w v q k
theorem reads_FV (k : Nat) : Reads (FV k) k := fun h => h
theorem reads_CV (k : Nat) : Reads (CV k) k := fun h => CanF.fracV h

section
variable {E : World → Value → Rat → Prop} {w w' : World} {v : Value} {qs : List Rat} {k n c : Nat} {A : Option Addr}
theorem Fls.lens (h : Fls E w (.slice A n c) qs) : n = qs.length ∧ n ≤ c ∧ c ≤ 9223372036854775807 := by
  obtain ⟨A', c', e, ⟨hc, hn⟩, hm, hr⟩ := h
  simp only [Value.slice.injEq] at e
  obtain ⟨rfl, rfl, rfl⟩ := e
  exact ⟨rfl, hc, by unfold maxLen at hm; omega⟩
theorem Fls.cells (h : Fls E w (.slice A n c) qs) (hp : 0 < n) : ∃ b off, A = some ⟨b, off, none⟩ ∧ b < w.heap.size ∧ ∀ j, j < n → ∃ tb X xm xc Y ym yc,
      w.cell? ⟨b, off + j * 3, none⟩ = some (.bool tb) ∧ w.cell? ⟨b, off + j * 3 + 1, none⟩ = some (.slice X xm xc) ∧ w.cell? ⟨b, off + j * 3 + 2, none⟩ = some (.slice Y ym yc) ∧
      E w (.agg #[.bool tb, .slice X xm xc, .slice Y ym yc]) (cf qs j) := by
  obtain ⟨A', c', e, ⟨hc, hn⟩, hm, hr⟩ := h
  simp only [Value.slice.injEq] at e
  obtain ⟨rfl, rfl, rfl⟩ := e
  obtain ⟨b, off, e, hb, hcell⟩ := hr hp
  refine ⟨b, off, e, hb, fun j hj => ?_⟩
  obtain ⟨⟨tb, ⟨X, xm, xc⟩, ⟨Y, ym, yc⟩⟩, c0, c1, c2, hE⟩ := hcell j hj
  exact ⟨tb, X, xm, xc, Y, ym, yc, c0, c1, c2, hE⟩
theorem Fls.cut (h : Fls E w (.slice A n c) qs) : Fls E w (.slice A (tr qs).length c) (tr qs) := by
  obtain ⟨rfl, _, _⟩ := h.lens
  have := h.take (tr_le qs)
  rwa [← tr_prefix] at this


theorem FracV.zero (w : World) (k : Nat) : FracV w (.agg #[.bool false, .slice none 0 0, .slice none 0 0]) 0 k :=
  ⟨false, _, _, 0, 0, rfl, ⟨[], Num.nil w, rfl, Nat.zero_le _⟩, ⟨[], Num.nil w, rfl, Nat.zero_le _⟩, fr_zero _ _⟩
def RFV (w : World) (q : Rat) (k : Nat) (e : Ending) (w' : World) : Prop := ∃ v, e = .returned v ∧ FracV w' v q k ∧ Below w.heap.size w w'


end
end Go.Proofs.YtgjhgpfjeoeojaaGreatDoor

/- The contract of Normalize of package poly. -/
namespace Go.Proofs.YtgjhgpfjeoeojaaGreatDoor
open Go.RowKit Dig
set_option linter.unusedVariables false

/-- A call that hands back a polynomial in memory of its own, its coefficients canonical, and leaves what was there. -/
def RPol (w : World) (qs : List Rat) (k : Nat) (e : Ending) (w' : World) : Prop := ∃ v, e = .returned v ∧ Ofl (CV k) w.heap.size w' v qs ∧ Below w.heap.size w w'
theorem below_stor3 {w w2 : World} (hB : Below w.heap.size w w2) {g : Nat} (hg : w.heap.size ≤ g) (o : Nat) (a b c : Value) : Below w.heap.size w (stor3o w2 g o a b c) := below_stor3o hB hg o a b c
/-- The list that a loop is writing: n places, the first i of them hold the first i values. -/
def Fill (base : Nat) (E : World → Value → Rat → Prop) (w : World) (g n i : Nat) (f : Nat → Rat) : Prop := ∃ ts, FBlk w g ts ∧ ts.length = n ∧ ∀ j, j < i → E w (ts.getD j .zero).val (f j)
section
variable {E : World → Value → Rat → Prop} {w w' : World} {g n i base : Nat} {f : Nat → Rat}
theorem Fill.start (h : FBlk w g (List.replicate n .zero)) : Fill base E w g n 0 f := ⟨_, h, by simp, fun j hj => absurd hj (by omega)⟩
theorem Fill.below (h : Fill base E w g n i f) (K : Keeps E) (hb : Below w.heap.size w w') : Fill base E w' g n i f := by
  obtain ⟨ts, hF, hl, hE⟩ := h
  exact ⟨ts, hF.below hb, hl, fun j hj => K.below (hE j hj) hb⟩
theorem Fill.lt (h : Fill base E w g n i f) : g < w.heap.size := by
  obtain ⟨ts, hF, _⟩ := h
  exact hF.lt
theorem Fill.frozen (h : Fill base E w g n i f) (j : Nat) : w.frozen? ⟨g, j, none⟩ = false := by
  obtain ⟨ts, hF, _⟩ := h
  exact hF.frozen j
theorem Fill.cells (h : Fill base E w g n i f) {j : Nat} (hj : j < n) : ∃ a b c, w.cell? ⟨g, j * 3, none⟩ = some a ∧ w.cell? ⟨g, j * 3 + 1, none⟩ = some b ∧ w.cell? ⟨g, j * 3 + 2, none⟩ = some c := by
  obtain ⟨ts, hF, hl, _⟩ := h
  obtain ⟨c0, c1, c2⟩ := hF.cells (j := j) (by omega)
  exact ⟨_, _, _, c0, c1, c2⟩
theorem Fill.set (h : Fill base E w g n i f) (K : Keeps E) (hi : i < n) {b : Bool} {X Y : Option Addr} {xm xc ym yc : Nat} (hE : E w (.agg #[.bool b, .slice X xm xc, .slice Y ym yc]) (f i)) :
    Fill base E (stor3o w g (i * 3) (.bool b) (.slice X xm xc) (.slice Y ym yc)) g n (i + 1) f := by
  obtain ⟨ts, hF, hl, h⟩ := h
  have hS : FBlk (stor3o w g (i * 3) (.bool b) (.slice X xm xc) (.slice Y ym yc)) g (ts.set i ⟨b, (X, xm, xc), (Y, ym, yc)⟩) := hF.set (by omega) (⟨b, (X, xm, xc), (Y, ym, yc)⟩ : Tri)
  have hs : w.heap.size ≤ (stor3o w g (i * 3) (.bool b) (.slice X xm xc) (.slice Y ym yc)).heap.size := Nat.le_of_eq (stor3o_size _ _ _ _ _ _).symm
  have hk := stor3o_heap w g (i * 3) (.bool b) (.slice X xm xc) (.slice Y ym yc)
  generalize stor3o w g (i * 3) (.bool b) (.slice X xm xc) (.slice Y ym yc) = w3 at *
  refine ⟨_, hS, by simpa using hl, fun j hj => ?_⟩
  rcases Nat.lt_or_ge j i with h1 | h1
  · rw [List.getD_eq_getElem?_getD, List.getElem?_set_ne (by omega), ← List.getD_eq_getElem?_getD]
    exact K.apart (h j h1) hF hs hk
  · obtain rfl : j = i := by omega
    rw [List.getD_eq_getElem?_getD, List.getElem?_set_self (by omega)]
    exact K.apart (v := .agg #[.bool b, .slice X xm xc, .slice Y ym yc]) hE hF hs hk
theorem Fill.done (h : Fill base E w g n n f) (hg : base ≤ g) (hm : n ≤ 1000000000000) : Ofl E base w (.slice (some ⟨g, 0, none⟩) n n) (mk n f) := by
  obtain ⟨ts, hF, hl, hE⟩ := h
  refine .inr ⟨g, ts, by rw [mk_length, hl], hg, hF, by rw [mk_length]; omega, by unfold maxLen; omega, fun j hj => ?_⟩
  rw [mk_length] at hj
  have : (mk n f).getD j 0 = f j := by have := cf_mk n f j; rw [if_pos hj] at this; exact this
  rw [this]
  exact hE j hj
theorem Ofl.cast {v : Value} {ps qs : List Rat} (h : Ofl E base w v ps) (e : ps = qs) : Ofl E base w v qs := e ▸ h
end

section
variable {w : World} {v : Value} {qs : List Rat} {k : Nat}
end
end Go.Proofs.YtgjhgpfjeoeojaaGreatDoor

/- The contracts of Add and Scale of package poly. -/
namespace Go.Proofs.YtgjhgpfjeoeojaaGreatDoor
open Go.RowKit Dig
set_option linter.unusedVariables false

theorem Ofl.cut {E : World → Value → Rat → Prop} {base : Nat} {w : World} {A : Option Addr} {n c : Nat} {qs : List Rat} (h : Ofl E base w (.slice A n c) qs) : Ofl E base w (.slice A (tr qs).length c) (tr qs) := by
  rcases h with ⟨e, rfl⟩ | ⟨g, ts, e, hb, hF, hl, hm, hE⟩
  · simp only [Value.slice.injEq] at e
    obtain ⟨rfl, rfl, rfl⟩ := e
    exact .inl ⟨rfl, rfl⟩
  · simp only [Value.slice.injEq] at e
    obtain ⟨rfl, rfl, rfl⟩ := e
    have := tr_le qs
    refine .inr ⟨g, ts, rfl, hb, hF, by omega, hm, fun j hj => ?_⟩
    have h := hE j (by omega)
    have e : (tr qs).getD j 0 = qs.getD j 0 := cf_tr qs j
    rw [e]
    exact h
section
variable {w : World} {va vb : Value} {ps qs : List Rat} {k l : Nat}

end
end Go.Proofs.YtgjhgpfjeoeojaaGreatDoor

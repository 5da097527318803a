/- The contracts of New and IsCanonical of package rational. -/
import Derived.Test.YtjemnankgjjgcaaRatE
namespace Go.Proofs.Ytjemnankgjjgcaa
open Go.RowKit Dig
set_option linter.unusedVariables false

namespace Dig
/-- The number num/den of two integers. -/
def frz (x y : Int) : Rat := fr (decide (x < 0) != decide (y < 0)) x.natAbs y.natAbs
/-- The parts of a fraction are those of its canonical form. -/
def canon (neg : Bool) (xs ys : List Nat) : Bool :=
  decide (neg = decide ((fr neg (val xs) (val ys)).num < 0) ∧ xs = dg (fr neg (val xs) (val ys)).num.natAbs ∧ ys = dg (fr neg (val xs) (val ys)).den)
theorem dg_of_eq {xs : List Nat} {m : Nat} (h : xs = dg m) : dg (val xs) = xs := by rw [h, val_dg]
theorem canon_lead {neg : Bool} {xs ys : List Nat} (h : dg (val xs) ≠ xs ∨ dg (val ys) ≠ ys) : canon neg xs ys = false := by
  unfold canon
  rw [decide_eq_false_iff_not]
  rintro ⟨_, h2, h3⟩
  rcases h with h | h
  · exact h (dg_of_eq h2)
  · exact h (dg_of_eq h3)
theorem canon_noden {neg : Bool} {xs : List Nat} : canon neg xs [] = false := by
  unfold canon
  rw [decide_eq_false_iff_not]
  rintro ⟨_, _, h3⟩
  have := (dg_nil_iff _).1 h3.symm
  exact absurd this (fr neg (val xs) (val [])).den_nz
theorem canon_negzero {ys : List Nat} : canon true [] ys = false := by
  unfold canon
  rw [decide_eq_false_iff_not]
  rintro ⟨h1, _, _⟩
  rw [show val [] = 0 from rfl, fr_zero] at h1
  exact absurd h1 (by decide)
theorem canon_gcd {neg : Bool} {xs ys : List Nat} (hx : dg (val xs) = xs) (hy : dg (val ys) = ys) (hd : val ys ≠ 0) (hn : neg = true → val xs ≠ 0) : canon neg xs ys = decide (Nat.gcd (val xs) (val ys) = 1) := by
  unfold canon
  by_cases h0 : val xs = 0
  · have hneg : neg = false := by
      cases neg with
      | false => rfl
      | true => exact absurd h0 (hn rfl)
    subst hneg
    have h1 : xs = [] := by rw [← hx, h0]; rfl
    apply decide_eq_decide.2
    rw [h0, fr_zero, Nat.gcd_zero_left]
    constructor
    · rintro ⟨_, _, h3⟩
      rw [h3]
      exact val_dg _
    · intro h
      refine ⟨rfl, by rw [h1]; rfl, ?_⟩
      rw [← hy, h]
      rfl
  · obtain ⟨e1, e2, e3⟩ := fr_parts neg h0 hd
    rw [e1, e2, e3]
    have hg := gcd_div_pos h0 hd
    apply decide_eq_decide.2
    constructor
    · rintro ⟨_, h2, _⟩
      rw [← hx] at h2
      have h4 := dg_inj h2
      rw [val_dg] at h4
      have h5 := Nat.div_mul_cancel (Nat.gcd_dvd_left (val xs) (val ys))
      rw [← h4] at h5
      have h6 : val xs * Nat.gcd (val xs) (val ys) = val xs * 1 := by omega
      exact Nat.eq_of_mul_eq_mul_left (by omega) h6
    · intro h
      rw [h, Nat.div_one, Nat.div_one, hx, hy]
      exact ⟨rfl, rfl, rfl⟩
theorem canon_gcd' {neg : Bool} {xs ys : List Nat} {g : Nat} (hg : g = Nat.gcd (val xs) (val ys)) (hx : dg (val xs) = xs) (hy : dg (val ys) = ys) (hd : val ys ≠ 0) (hn : neg = true → val xs ≠ 0) : canon neg xs ys = decide (g = 1) := by
  subst hg
  exact canon_gcd hx hy hd hn
theorem dg_last {xs : List Nat} (hs : Small xs) (hp : 0 < xs.length) : (xs.getD (xs.length - 1) 0 = 0 ↔ dg (val xs) ≠ xs) := by
  have hl : xs.getLast? = some (xs.getD (xs.length - 1) 0) := by
    rw [List.getLast?_eq_getElem?, List.getD_eq_getElem?_getD, List.getElem?_eq_getElem (by omega)]
    rfl
  constructor
  · intro h e
    have := (canon_dg (val xs)).2
    rw [e, hl, h] at this
    exact this rfl
  · intro h
    by_cases h0 : xs.getD (xs.length - 1) 0 = 0
    · exact h0
    · exact absurd (dg_canon xs ⟨hs, by rw [hl]; simpa using h0⟩) h
end Dig


section
variable {w : World} {va vb : Value} {xs ys : List Nat} {k l : Nat}
end


def Fits64 (z : Int) : Prop := -9223372036854775808 ≤ z ∧ z ≤ 9223372036854775807
theorem magnitude_v (w : World) (z : Int) (hz : Fits64 z) : Calls Try.prog 86 #[.int .i64 z] w (RCan w z.natAbs 2) := by
  unfold Fits64 at hz
  by_cases h : z < 0
  · have e : IntKind.u64.wrap (-IntKind.u64.wrap z) = ((z.natAbs : Nat) : Int) := by simp only [IntKind.wrap_u64]; omega
    have F := from_v (w := w) z.natAbs (by omega)
    rw [← e] at F
    have FF := Lib.hid F
    clear F e
    go_enter Try.func86, Try.ntmps86
    go_wp2_with fail
    refine (FF.out).mono ?_
    rintro e w1 ⟨x, rfl, hx⟩
    go_wp2_with fail
    go_ret
    exact ⟨_, rfl, hx⟩
  · have e : ((z.natAbs : Nat) : Int) = z := by omega
    have F := from_v (w := w) z.natAbs (by omega)
    rw [e] at F
    have FF := Lib.hid F
    clear F e
    go_enter Try.func86, Try.ntmps86
    go_wp2_with fail
    refine (FF.out).mono ?_
    rintro e w1 ⟨x, rfl, hx⟩
    go_wp2_with fail
    go_ret
    exact ⟨_, rfl, hx⟩

/-- A call that hands back a canonical fraction and no error; one that hands back the zero value and the error of a division by 0. -/
def RCanE (w : World) (q : Rat) (k : Nat) (e : Ending) (w' : World) : Prop := ∃ v, e = .returned (.tuple #[v, .int .i64 0]) ∧ CanF w' v q k ∧ Below w.heap.size w w'
def RErr (w : World) (n : Int) (e : Ending) (w' : World) : Prop := e = .returned (.tuple #[.agg #[.bool false, .slice none 0 0, .slice none 0 0], .int .i64 n]) ∧ Below w.heap.size w w'
theorem RCanE.stored {w w2 : World} {q : Rat} {k g : Nat} {b : Bool} {x y : Value} {p : Bool} {A A' : Option Addr} {m m' e e' : Nat} (hb : decide (q.num < 0) = b) (h1 : Can w2 x q.num.natAbs k) (h2 : Can w2 y q.den k)
    (hF : Fcl w2 g p (.slice A m e) (.slice A' m' e')) (hB : Below w.heap.size w w2) (hg : w.heap.size ≤ g) (z : Value) : RCanE w q k (.returned (.tuple #[.agg #[.bool b, x, y], .int .i64 0])) (stor3 w2 g z x y) :=
  ⟨_, rfl, CanF.ofParts hb (h1.put3 hF _ _ _) (h2.put3 hF _ _ _), below_put3 hB hg _ _ _⟩
theorem new0_v (w : World) (x : Int) : Calls Try.prog 57 #[.int .i64 x, .int .i64 0] w (RErr w 20) := by
  have R0 := Lib.hid (Fcl.new w false (.slice none 0 0) (.slice none 0 0))
  have hB0 : Below w.heap.size w (w.alloc (.cells #[.bool false, .slice none 0 0, .slice none 0 0] 29)) := (Below.refl _ _).alloc (Nat.le_refl _) _
  go_enter Try.func57, Try.ntmps57
  go_wp2_with fail
  refine bodyPost_ret (v := .tuple #[.agg #[.bool false, .slice none 0 0, .slice none 0 0], .int .i64 20]) (by rw [results_cell_tmp rfl]; go_simp) rfl ?_
  exact ⟨rfl, hB0⟩
theorem new_v (w : World) (x y : Int) (hx : Fits64 x) (hy : Fits64 y) (h0 : y ≠ 0) : Calls Try.prog 57 #[.int .i64 x, .int .i64 y] w (RCanE w (frz x y) 2) := by
  have R0 := Lib.hid (Fcl.new w false (.slice none 0 0) (.slice none 0 0))
  have hB0 : Below w.heap.size w (w.alloc (.cells #[.bool false, .slice none 0 0, .slice none 0 0] 29)) := (Below.refl _ _).alloc (Nat.le_refl _) _
  have Mx := Lib.hid (fun w1 => magnitude_v w1 x hx)
  have My := Lib.hid (fun w1 => magnitude_v w1 y hy)
  have hy0 : ((y : Int) == 0) = false := by rw [beq_eq_false_iff_ne]; exact h0
  have RR := Lib.hid (fun w1 u v (hu : Can w1 u x.natAbs 2) (hv : Can w1 v y.natAbs 2) => reduce_v (w := w1) (decide (x < 0) != decide (y < 0)) hu.numV hv.numV (by omega) (by omega))
  rw [show fr (decide (x < 0) != decide (y < 0)) x.natAbs y.natAbs = frz x y from rfl] at RR
  clear h0
  go_enter Try.func57, Try.ntmps57
  go_wp2_with fail
  refine (Mx.out _).mono ?_
  rintro e w1 ⟨u, rfl, hu, _, hB1⟩
  have R1 := R0.out.below hB1
  have hB1 := below_then hB0 hB1
  go_wp2_with fail
  refine (My.out _).mono ?_
  rintro e w2 ⟨v, rfl, hv, _, hB2⟩
  have R2 := R1.below hB2
  have hu := hu.below hB2
  have hB2 := below_then hB1 hB2
  go_wp2_with fail
  refine (RR.out _ _ _ hu hv).mono ?_
  rintro e w3 ⟨z, rfl, hz, hB3⟩
  have R3 := R2.below hB3
  have hB3 := below_then hB2 hB3
  obtain ⟨b, C, o, r, C', o', r', rfl, hb, hvx, hvy⟩ := hz.parts
  obtain ⟨k0, k1, k2⟩ := R3.cells
  obtain ⟨f0, f1, f2⟩ := R3.frozen
  go_wp2_with fail
  refine bodyPost_ret (v := .tuple #[.agg #[.bool b, .slice C o r, .slice C' o' r'], .int .i64 0]) (by rw [results_cell_tmp rfl]; go_simp) rfl ?_
  exact RCanE.stored hb hvx hvy R3 hB3 (Nat.le_refl _) (.bool b)
end Go.Proofs.Ytjemnankgjjgcaa

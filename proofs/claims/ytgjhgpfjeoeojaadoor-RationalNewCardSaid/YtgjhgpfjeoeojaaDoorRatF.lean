/- The contracts of New and IsCanonical of package rational. -/
import Derived.Test.YtgjhgpfjeoeojaaDoorRatE
namespace Go.Proofs.YtgjhgpfjeoeojaaDoor
open Go.RowKit Dig
set_option linter.unusedVariables false

namespace Dig
/-- The number num/den of two integers. -/
def frz (x y : Int) : Rat := fr (decide (x < 0) != decide (y < 0)) x.natAbs y.natAbs
/-- The parts of a fraction are those of its canonical form. -/
def canon (neg : Bool) (xs ys : List Nat) : Bool :=
  decide (neg = decide ((fr neg (val xs) (val ys)).num < 0) ∧ xs = dg (fr neg (val xs) (val ys)).num.natAbs ∧ ys = dg (fr neg (val xs) (val ys)).den)
theorem dg_of_eq {xs : List Nat} {m : Nat} (h : xs = dg m) : dg (val xs) = xs := by rw [h, val_dg]
theorem canon_lead {neg : Bool} {xs ys : List Nat} (h : dg (val xs) ≠ xs ∨ dg (val ys) ≠ ys) : canon neg xs ys = false := by
  unfold canon
  rw [decide_eq_false_iff_not]
  rintro ⟨_, h2, h3⟩
  rcases h with h | h
  · exact h (dg_of_eq h2)
  · exact h (dg_of_eq h3)
theorem canon_noden {neg : Bool} {xs : List Nat} : canon neg xs [] = false := by
  unfold canon
  rw [decide_eq_false_iff_not]
  rintro ⟨_, _, h3⟩
  have := (dg_nil_iff _).1 h3.symm
  exact absurd this (fr neg (val xs) (val [])).den_nz
theorem canon_negzero {ys : List Nat} : canon true [] ys = false := by
  unfold canon
  rw [decide_eq_false_iff_not]
  rintro ⟨h1, _, _⟩
  rw [show val [] = 0 from rfl, fr_zero] at h1
  exact absurd h1 (by decide)
theorem canon_gcd {neg : Bool} {xs ys : List Nat} (hx : dg (val xs) = xs) (hy : dg (val ys) = ys) (hd : val ys ≠ 0) (hn : neg = true → val xs ≠ 0) : canon neg xs ys = decide (Nat.gcd (val xs) (val ys) = 1) := by
  unfold canon
  by_cases h0 : val xs = 0
  · have hneg : neg = false := by
      cases neg with
      | false => rfl
      | true => exact absurd h0 (hn rfl)
    subst hneg
    have h1 : xs = [] := by rw [← hx, h0]; rfl
    apply decide_eq_decide.2
    rw [h0, fr_zero, Nat.gcd_zero_left]
    constructor
    · rintro ⟨_, _, h3⟩
      rw [h3]
      exact val_dg _
    · intro h
      refine ⟨rfl, by rw [h1]; rfl, ?_⟩
      rw [← hy, h]
      rfl
  · obtain ⟨e1, e2, e3⟩ := fr_parts neg h0 hd
    rw [e1, e2, e3]
    have hg := gcd_div_pos h0 hd
    apply decide_eq_decide.2
    constructor
    · rintro ⟨_, h2, _⟩
      rw [← hx] at h2
      have h4 := dg_inj h2
      rw [val_dg] at h4
      have h5 := Nat.div_mul_cancel (Nat.gcd_dvd_left (val xs) (val ys))
      rw [← h4] at h5
      have h6 : val xs * Nat.gcd (val xs) (val ys) = val xs * 1 := by omega
      exact Nat.eq_of_mul_eq_mul_left (by omega) h6
    · intro h
      rw [h, Nat.div_one, Nat.div_one, hx, hy]
      exact ⟨rfl, rfl, rfl⟩
theorem canon_gcd' {neg : Bool} {xs ys : List Nat} {g : Nat} (hg : g = Nat.gcd (val xs) (val ys)) (hx : dg (val xs) = xs) (hy : dg (val ys) = ys) (hd : val ys ≠ 0) (hn : neg = true → val xs ≠ 0) : canon neg xs ys = decide (g = 1) := by
  subst hg
  exact canon_gcd hx hy hd hn
theorem dg_last {xs : List Nat} (hs : Small xs) (hp : 0 < xs.length) : (xs.getD (xs.length - 1) 0 = 0 ↔ dg (val xs) ≠ xs) := by
  have hl : xs.getLast? = some (xs.getD (xs.length - 1) 0) := by
    rw [List.getLast?_eq_getElem?, List.getD_eq_getElem?_getD, List.getElem?_eq_getElem (by omega)]
    rfl
  constructor
  · intro h e
    have := (canon_dg (val xs)).2
    rw [e, hl, h] at this
    exact this rfl
  · intro h
    by_cases h0 : xs.getD (xs.length - 1) 0 = 0
    · exact h0
    · exact absurd (dg_canon xs ⟨hs, by rw [hl]; simpa using h0⟩) h
end Dig

theorem lead_v (w : World) (va : Value) (xs : List Nat) (ha : Num w va xs) (hz : xs.length ≤ 1000000) : Calls Tryd.prog 42 #[va] w fun e w' => e = .returned (.bool (decide (dg (val xs) ≠ xs))) ∧ ∃ N, w' = w.drewN N := by
  obtain ⟨A, c, rfl⟩ := ha.form
  have hbd := ha.bounds.2
  rcases Nat.eq_zero_or_pos xs.length with h0 | h0
  · have : xs = [] := List.eq_nil_of_length_eq_zero h0
    subst this
    go_enter Tryd.func42, Tryd.ntmps42
    go_wp2_with fail
    go_ret
    exact ⟨rfl, 0, rfl⟩
  · have hla := dg_last ha.small h0
    obtain ⟨b, off, rfl, hbb, hall⟩ := ha.cells h0
    have hc := hall (xs.length - 1) (by omega)
    obtain ⟨n, hn⟩ : ∃ n, xs.length = n + 1 := ⟨xs.length - 1, by omega⟩
    rw [hn] at hc hla ⊢
    rw [Nat.add_sub_cancel] at hc hla
    have hE : ((((xs.getD n 0 : Nat) : Int) == 0) : Bool) = decide (dg (val xs) ≠ xs) := by
      by_cases h : xs.getD n 0 = 0
      · rw [show decide (dg (val xs) ≠ xs) = true from decide_eq_true (hla.1 h), h]; rfl
      · rw [show decide (dg (val xs) ≠ xs) = false from decide_eq_false (fun e => h (hla.2 e)), beq_eq_false_iff_ne]; omega
    have HE := Lib.hid hE
    have hni : (n : Int) ≤ 1000000 := by omega
    clear hla hall hE ha
    generalize xs.getD n 0 = x at *
    go_enter Tryd.func42, Tryd.ntmps42
    go_wp2_with fail
    go_ret
    exact ⟨ret_eq (show Value.bool ((x : Int) == 0) = _ by rw [HE.out]), 0, rfl⟩

section
variable {w : World} {va vb : Value} {xs ys : List Nat} {k l : Nat}
theorem lead_f (ha : Num w va xs) (hz : xs.length ≤ 1000000) (h : dg (val xs) = xs) : Calls Tryd.prog 42 #[va] w (RVal w (.bool false)) := by
  have := lead_v w va xs ha hz
  rw [show decide (dg (val xs) ≠ xs) = false by simpa using h] at this
  exact this.mono fun e w' ⟨h, N, h'⟩ => ⟨h, by rw [h']; exact below_drewN (Below.refl _ _) N⟩
theorem lead_t (ha : Num w va xs) (hz : xs.length ≤ 1000000) (h : dg (val xs) ≠ xs) : Calls Tryd.prog 42 #[va] w (RVal w (.bool true)) := by
  have := lead_v w va xs ha hz
  rw [show decide (dg (val xs) ≠ xs) = true by simpa using h] at this
  exact this.mono fun e w' ⟨h, N, h'⟩ => ⟨h, by rw [h']; exact below_drewN (Below.refl _ _) N⟩
end

set_option maxHeartbeats 2000000 in
theorem isCanon_v (w : World) (neg : Bool) (vn vd : Value) (xs ys : List Nat) (hx : Num w vn xs) (hy : Num w vd ys) (hzx : xs.length ≤ 400000) (hzy : ys.length ≤ 400000) :
    Calls Tryd.prog 18 #[.agg #[.bool neg, vn, vd]] w (RVal w (.bool (canon neg xs ys))) := by
  have Lx := fun w1 hB => lead_f (w := w1) (Num.below (w' := w1) hx hB) (by omega)
  have Lx' := fun w1 hB => lead_t (w := w1) (Num.below (w' := w1) hx hB) (by omega)
  have Ly := fun w1 hB => lead_f (w := w1) (Num.below (w' := w1) hy hB) (by omega)
  have Ly' := fun w1 hB => lead_t (w := w1) (Num.below (w' := w1) hy hB) (by omega)
  have GG := fun w1 (hB : Below w.heap.size w w1) => gcd_v (w := w1) (a := val xs) (b := val ys) (k := xs.length) (l := ys.length) ⟨xs, hx.below hB, rfl, Nat.le_refl _⟩ ⟨ys, hy.below hB, rfl, Nat.le_refl _⟩ (by omega) (by omega)
  obtain ⟨A, c, rfl⟩ := hx.form
  obtain ⟨A', c', rfl⟩ := hy.form
  have S0 := Lib.hid (Fcl.new w neg (.slice A xs.length c) (.slice A' ys.length c'))
  have hB0 : Below w.heap.size w (w.alloc (.cells #[.bool neg, .slice A xs.length c, .slice A' ys.length c'] 25)) := (Below.refl _ _).alloc (Nat.le_refl _) _
  by_cases h1 : dg (val xs) = xs
  · have HLx := Lib.hid (fun w1 hB => Lx w1 hB h1)
    by_cases h2 : dg (val ys) = ys
    · have HLy := Lib.hid (fun w1 hB => Ly w1 hB h2)
      rcases Nat.eq_zero_or_pos ys.length with h3 | h3
      · have e := List.eq_nil_of_length_eq_zero h3
        subst e
        rw [canon_noden]
        clear Lx Lx' Ly Ly' GG h1 h2
        generalize xs.length = m at *
        rw [show ([] : List Nat).length = 0 from rfl] at *
        go_enter Tryd.func18, Tryd.ntmps18
        go_wp2_with fail
        refine (HLx.out _ hB0).mono ?_
        rintro e w1 ⟨rfl, hB1⟩
        have S1 := S0.out.below hB1
        have hB1 := below_then hB0 hB1
        obtain ⟨c0, c1, c2⟩ := S1.cells
        go_wp2_with fail
        refine (HLy.out _ hB1).mono ?_
        rintro e w2 ⟨rfl, hB2⟩
        obtain ⟨d0, d1, d2⟩ := (S1.below hB2).cells
        have hB2 := below_then hB1 hB2
        clear c0 c1 c2
        go_wp2_with fail
        go_ret
        exact ⟨rfl, hB2⟩
      · have hd0 : val ys ≠ 0 := by
          intro e
          rw [e, dg_zero] at h2
          rw [← h2] at h3
          exact absurd h3 (by decide)
        have hyl : ((ys.length : Int) == 0) = false := by rw [beq_eq_false_iff_ne]; omega
        by_cases h4 : neg = true ∧ xs.length = 0
        · obtain ⟨rfl, h4⟩ := h4
          have e := List.eq_nil_of_length_eq_zero h4
          subst e
          rw [canon_negzero]
          clear Lx Lx' Ly Ly' GG h1 h2 h3
          generalize ys.length = n at *
          rw [show ([] : List Nat).length = 0 from rfl] at *
          go_enter Tryd.func18, Tryd.ntmps18
          go_wp2_with fail
          refine (HLx.out _ hB0).mono ?_
          rintro e w1 ⟨rfl, hB1⟩
          have S1 := S0.out.below hB1
          have hB1 := below_then hB0 hB1
          obtain ⟨c0, c1, c2⟩ := S1.cells
          go_wp2_with fail
          refine (HLy.out _ hB1).mono ?_
          rintro e w2 ⟨rfl, hB2⟩
          obtain ⟨d0, d1, d2⟩ := (S1.below hB2).cells
          have hB2 := below_then hB1 hB2
          clear c0 c1 c2
          go_wp2_with fail
          go_ret
          exact ⟨rfl, hB2⟩
        · have hn0 : neg = true → val xs ≠ 0 := by
            intro e e2
            rw [e2, dg_zero] at h1
            exact h4 ⟨e, by rw [← h1]; rfl⟩
          have hxl : neg = true → ((xs.length : Int) == 0) = false := by
            intro e
            rw [beq_eq_false_iff_ne]
            intro e2
            exact h4 ⟨e, by omega⟩
          obtain ⟨gg, hgg⟩ : ∃ g, g = Nat.gcd (val xs) (val ys) := ⟨_, rfl⟩
          rw [canon_gcd' hgg h1 h2 hd0 hn0]
          rw [← hgg] at GG
          have HG := Lib.hid GG
          have hzz : xs.length + ys.length ≤ 1000000 := by omega
          have I1 := Lib.hid (fun w1 x (hx : Can w1 x gg (xs.length + ys.length)) => isOne_v (w := w1) hx.numV hzz)
          clear Lx Lx' Ly Ly' GG h1 h2 h3 h4 hn0 hd0 hzz hzx hzy hx hy
          generalize xs.length = m at *
          generalize ys.length = n at *
          clear hgg
          cases neg with
          | true =>
            have hxl := hxl rfl
            go_enter Tryd.func18, Tryd.ntmps18
            go_wp2_with fail
            refine (HLx.out _ hB0).mono ?_
            rintro e w1 ⟨rfl, hB1⟩
            have S1 := S0.out.below hB1
            have hB1 := below_then hB0 hB1
            obtain ⟨c0, c1, c2⟩ := S1.cells
            go_wp2_with fail
            refine (HLy.out _ hB1).mono ?_
            rintro e w2 ⟨rfl, hB2⟩
            have S2 := S1.below hB2
            obtain ⟨d0, d1, d2⟩ := S2.cells
            have hB2 := below_then hB1 hB2
            clear c0 c1 c2
            go_wp2_with fail
            refine (HG.out _ hB2).mono ?_
            rintro e w3 ⟨x, rfl, hx, _, hB3⟩
            have hB3 := below_then hB2 hB3
            go_wp2_with fail
            refine (I1.out _ _ hx).mono ?_
            rintro e w4 ⟨rfl, hB4⟩
            have hB4 := below_then hB3 hB4
            go_wp2_with fail
            go_ret
            exact ⟨rfl, hB4⟩
          | false =>
            go_enter Tryd.func18, Tryd.ntmps18
            go_wp2_with fail
            refine (HLx.out _ hB0).mono ?_
            rintro e w1 ⟨rfl, hB1⟩
            have S1 := S0.out.below hB1
            have hB1 := below_then hB0 hB1
            obtain ⟨c0, c1, c2⟩ := S1.cells
            go_wp2_with fail
            refine (HLy.out _ hB1).mono ?_
            rintro e w2 ⟨rfl, hB2⟩
            have S2 := S1.below hB2
            obtain ⟨d0, d1, d2⟩ := S2.cells
            have hB2 := below_then hB1 hB2
            clear c0 c1 c2
            go_wp2_with fail
            refine (HG.out _ hB2).mono ?_
            rintro e w3 ⟨x, rfl, hx, _, hB3⟩
            have hB3 := below_then hB2 hB3
            go_wp2_with fail
            refine (I1.out _ _ hx).mono ?_
            rintro e w4 ⟨rfl, hB4⟩
            have hB4 := below_then hB3 hB4
            go_wp2_with fail
            go_ret
            exact ⟨rfl, hB4⟩
    · rw [canon_lead (.inr h2)]
      have HLy := Lib.hid (fun w1 hB => Ly' w1 hB h2)
      clear Lx Lx' Ly Ly' GG h1 h2
      generalize xs.length = m at *
      generalize ys.length = n at *
      go_enter Tryd.func18, Tryd.ntmps18
      go_wp2_with fail
      refine (HLx.out _ hB0).mono ?_
      rintro e w1 ⟨rfl, hB1⟩
      have S1 := S0.out.below hB1
      have hB1 := below_then hB0 hB1
      obtain ⟨c0, c1, c2⟩ := S1.cells
      go_wp2_with fail
      refine (HLy.out _ hB1).mono ?_
      rintro e w2 ⟨rfl, hB2⟩
      have hB2 := below_then hB1 hB2
      go_wp2_with fail
      go_ret
      exact ⟨rfl, hB2⟩
  · rw [canon_lead (.inl h1)]
    have HL := Lib.hid (fun w1 hB => Lx' w1 hB h1)
    clear Lx Lx' Ly Ly' GG h1
    go_enter Tryd.func18, Tryd.ntmps18
    go_wp2_with fail
    refine (HL.out _ hB0).mono ?_
    rintro e w1 ⟨rfl, hB1⟩
    have S1 := S0.out.below hB1
    have hB1 := below_then hB0 hB1
    go_wp2_with fail
    go_ret
    exact ⟨rfl, hB1⟩

def Fits64 (z : Int) : Prop := -9223372036854775808 ≤ z ∧ z ≤ 9223372036854775807
theorem magnitude_v (w : World) (z : Int) (hz : Fits64 z) : Calls Tryd.prog 23 #[.int .i64 z] w (RCan w z.natAbs 2) := by
  unfold Fits64 at hz
  by_cases h : z < 0
  · have e : IntKind.u64.wrap (-IntKind.u64.wrap z) = ((z.natAbs : Nat) : Int) := by simp only [IntKind.wrap_u64]; omega
    have F := from_v (w := w) z.natAbs (by omega)
    rw [← e] at F
    have FF := Lib.hid F
    clear F e
    go_enter Tryd.func23, Tryd.ntmps23
    go_wp2_with fail
    refine (FF.out).mono ?_
    rintro e w1 ⟨x, rfl, hx⟩
    go_wp2_with fail
    go_ret
    exact ⟨_, rfl, hx⟩
  · have e : ((z.natAbs : Nat) : Int) = z := by omega
    have F := from_v (w := w) z.natAbs (by omega)
    rw [e] at F
    have FF := Lib.hid F
    clear F e
    go_enter Tryd.func23, Tryd.ntmps23
    go_wp2_with fail
    refine (FF.out).mono ?_
    rintro e w1 ⟨x, rfl, hx⟩
    go_wp2_with fail
    go_ret
    exact ⟨_, rfl, hx⟩

/-- A call that hands back a canonical fraction and no error; one that hands back the zero value and the error of a division by 0. -/
def RCanE (w : World) (q : Rat) (k : Nat) (e : Ending) (w' : World) : Prop := ∃ v, e = .returned (.tuple #[v, .int .i64 0]) ∧ CanF w' v q k ∧ Below w.heap.size w w'
def RErr (w : World) (n : Int) (e : Ending) (w' : World) : Prop := e = .returned (.tuple #[.agg #[.bool false, .slice none 0 0, .slice none 0 0], .int .i64 n]) ∧ Below w.heap.size w w'
theorem RCanE.stored {w w2 : World} {q : Rat} {k g : Nat} {b : Bool} {x y : Value} {p : Bool} {A A' : Option Addr} {m m' e e' : Nat} (hb : decide (q.num < 0) = b) (h1 : Can w2 x q.num.natAbs k) (h2 : Can w2 y q.den k)
    (hF : Fcl w2 g p (.slice A m e) (.slice A' m' e')) (hB : Below w.heap.size w w2) (hg : w.heap.size ≤ g) (z : Value) : RCanE w q k (.returned (.tuple #[.agg #[.bool b, x, y], .int .i64 0])) (stor3 w2 g z x y) :=
  ⟨_, rfl, CanF.ofParts hb (h1.put3 hF _ _ _) (h2.put3 hF _ _ _), below_put3 hB hg _ _ _⟩
theorem new0_v (w : World) (x : Int) : Calls Tryd.prog 6 #[.int .i64 x, .int .i64 0] w (RErr w 20) := by
  have R0 := Lib.hid (Fcl.new w false (.slice none 0 0) (.slice none 0 0))
  have hB0 : Below w.heap.size w (w.alloc (.cells #[.bool false, .slice none 0 0, .slice none 0 0] 25)) := (Below.refl _ _).alloc (Nat.le_refl _) _
  go_enter Tryd.func6, Tryd.ntmps6
  go_wp2_with fail
  refine bodyPost_ret (v := .tuple #[.agg #[.bool false, .slice none 0 0, .slice none 0 0], .int .i64 20]) (by rw [results_cell_tmp rfl]; go_simp) rfl ?_
  exact ⟨rfl, hB0⟩
theorem new_v (w : World) (x y : Int) (hx : Fits64 x) (hy : Fits64 y) (h0 : y ≠ 0) : Calls Tryd.prog 6 #[.int .i64 x, .int .i64 y] w (RCanE w (frz x y) 2) := by
  have R0 := Lib.hid (Fcl.new w false (.slice none 0 0) (.slice none 0 0))
  have hB0 : Below w.heap.size w (w.alloc (.cells #[.bool false, .slice none 0 0, .slice none 0 0] 25)) := (Below.refl _ _).alloc (Nat.le_refl _) _
  have Mx := Lib.hid (fun w1 => magnitude_v w1 x hx)
  have My := Lib.hid (fun w1 => magnitude_v w1 y hy)
  have hy0 : ((y : Int) == 0) = false := by rw [beq_eq_false_iff_ne]; exact h0
  have RR := Lib.hid (fun w1 u v (hu : Can w1 u x.natAbs 2) (hv : Can w1 v y.natAbs 2) => reduce_v (w := w1) (decide (x < 0) != decide (y < 0)) hu.numV hv.numV (by omega) (by omega))
  rw [show fr (decide (x < 0) != decide (y < 0)) x.natAbs y.natAbs = frz x y from rfl] at RR
  clear h0
  go_enter Tryd.func6, Tryd.ntmps6
  go_wp2_with fail
  refine (Mx.out _).mono ?_
  rintro e w1 ⟨u, rfl, hu, _, hB1⟩
  have R1 := R0.out.below hB1
  have hB1 := below_then hB0 hB1
  go_wp2_with fail
  refine (My.out _).mono ?_
  rintro e w2 ⟨v, rfl, hv, _, hB2⟩
  have R2 := R1.below hB2
  have hu := hu.below hB2
  have hB2 := below_then hB1 hB2
  go_wp2_with fail
  refine (RR.out _ _ _ hu hv).mono ?_
  rintro e w3 ⟨z, rfl, hz, hB3⟩
  have R3 := R2.below hB3
  have hB3 := below_then hB2 hB3
  obtain ⟨b, C, o, r, C', o', r', rfl, hb, hvx, hvy⟩ := hz.parts
  obtain ⟨k0, k1, k2⟩ := R3.cells
  obtain ⟨f0, f1, f2⟩ := R3.frozen
  go_wp2_with fail
  refine bodyPost_ret (v := .tuple #[.agg #[.bool b, .slice C o r, .slice C' o' r'], .int .i64 0]) (by rw [results_cell_tmp rfl]; go_simp) rfl ?_
  exact RCanE.stored hb hvx hvy R3 hB3 (Nat.le_refl _) (.bool b)
end Go.Proofs.YtgjhgpfjeoeojaaDoor

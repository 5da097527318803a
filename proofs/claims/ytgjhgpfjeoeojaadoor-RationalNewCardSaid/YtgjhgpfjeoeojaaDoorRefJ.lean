/- The contracts of the reference functions frac, FracNorm, FracNeg. -/
import Derived.Test.YtgjhgpfjeoeojaaDoorRefI
import Derived.Test.YtgjhgpfjeoeojaaDoorRefhh
namespace Go.Proofs.YtgjhgpfjeoeojaaDoor
open Go.RowKit Dig
set_option linter.unusedVariables false

theorem Can.form0 {w : World} {v : Value} {k : Nat} (h : Can w v 0 k) : ∃ A c, v = .slice A 0 c := by
  obtain ⟨A, c, e⟩ := h.1.form
  exact ⟨A, c, e⟩
theorem Can.formP {w : World} {v : Value} {n k : Nat} (h : Can w v n k) (hn : n ≠ 0) : ∃ A l c, v = .slice A l c ∧ ((l : Int) == 0) = false := by
  obtain ⟨A, c, e⟩ := h.1.form
  refine ⟨A, _, c, e, ?_⟩
  rw [beq_eq_false_iff_ne]
  intro h0
  exact hn (dg_len0 (by omega))
theorem RCanF.zero {w w2 : World} {y : Value} {k g : Nat} {p : Bool} {A A' : Option Addr} {m m' e e' : Nat} (hy : Can w2 y 1 k) (hF : Fcl w2 g p (.slice A m e) (.slice A' m' e')) (hB : Below w.heap.size w w2) (hg : w.heap.size ≤ g) (z : Value) :
    RCanF w 0 k (.returned (.agg #[.bool false, .slice none 0 0, y])) (stor3 w2 g z (.slice none 0 0) y) :=
  RCanF.stored (q := 0) rfl (show Can w2 _ 0 k from ⟨Num.nil _, pow_pos' k⟩) (show Can w2 _ 1 k from hy) hF hB hg z
section
variable {w : World} {vn vd : Value} {n d k : Nat}
set_option maxHeartbeats 2000000 in
theorem frac_zero (neg : Bool) (hn : NumV w vn n k) (hd : NumV w vd d k) (hk : k ≤ 400000) (h1 : 2 ≤ k) (h0 : n = 0 ∨ d = 0) :
    Calls Tryd.prog 24 #[.bool neg, vn, vd] w (RCanF w (fr neg n d) k) := by
  have hq : fr neg n d = 0 := (fr_eq_zero neg n d).2 h0
  rw [hq]
  have R0 := Lib.hid (Fcl.new w false (.slice none 0 0) (.slice none 0 0))
  have hB0 : Below w.heap.size w (w.alloc (.cells #[.bool false, .slice none 0 0, .slice none 0 0] 25)) := (Below.refl _ _).alloc (Nat.le_refl _) _
  have G := fun w1 hB => natGCD_v (w := w1) (hn.below hB) (hd.below hB) (by omega) (by omega)
  have O1 := Lib.hid (fun w1 : World => natOf_v (w := w1) 1 (by omega))
  by_cases hb : n = 0 ∧ d = 0
  · obtain ⟨rfl, rfl⟩ := hb
    rw [Nat.gcd_zero_left] at G
    have GG := Lib.hid G
    have D1 := Lib.hid (fun w1 hB x (hx : Can w1 x 0 (k + k)) => natDiv0_v (w := w1) (hn.below hB) hx.numV (by omega) (by omega))
    have D2 := Lib.hid (fun w1 hB x (hx : Can w1 x 0 (k + k)) => natDiv0_v (w := w1) (hd.below hB) hx.numV (by omega) (by omega))
    clear G hn hd hq h0
    go_enter Tryd.func24, Tryd.ntmps24
    go_wp2_with fail
    refine (GG.out _ hB0).mono ?_
    rintro e w1 ⟨x, rfl, hx, _, hB1⟩
    have R1 := R0.out.below hB1
    have hB1 := below_then hB0 hB1
    go_wp2_with fail
    refine (D1.out _ hB1 _ hx).mono ?_
    rintro e w2 ⟨rfl, hB2⟩
    have R2 := R1.below hB2
    have hx := hx.below hB2
    have hB2 := below_then hB1 hB2
    go_wp2_with fail
    refine (D2.out _ hB2 _ hx).mono ?_
    rintro e w3 ⟨rfl, hB3⟩
    have R3 := R2.below hB3
    have hB3 := below_then hB2 hB3
    go_wp2_with fail
    refine (O1.out _).mono ?_
    rintro e w4 ⟨y, rfl, hy, _, hB4⟩
    have R4 := R3.below hB4
    have hB4 := below_then hB3 hB4
    obtain ⟨C', o', r', rfl⟩ := hy.form
    obtain ⟨k0, k1, k2⟩ := R4.cells
    obtain ⟨f0, f1, f2⟩ := R4.frozen
    go_wp2_with fail
    refine bodyPost_ret (v := .agg #[.bool false, .slice none 0 0, .slice C' o' r']) (by rw [results_one rfl]; go_simp) rfl ?_
    exact RCanF.zero (hy.le h1) R4 hB4 (Nat.le_refl _) _
  · have hg : 0 < Nat.gcd n d := by
      rcases Nat.eq_zero_or_pos n with h | h
      · exact Nat.gcd_pos_of_pos_right n (by omega)
      · exact Nat.gcd_pos_of_pos_left d h
    have GG := Lib.hid G
    by_cases hz : n = 0
    · subst hz
      have D1 := fun w1 hB x (hx : Can w1 x (Nat.gcd 0 d) (k + k)) => natDiv_v (w := w1) (hn.below hB) hx.numV (by omega) (by omega) hg
      have D2 := Lib.hid (fun w1 hB x (hx : Can w1 x (Nat.gcd 0 d) (k + k)) => natDiv_v (w := w1) (hd.below hB) hx.numV (by omega) (by omega) hg)
      rw [Nat.zero_div] at D1
      have D1 := Lib.hid D1
      clear G hn hd hq
      go_enter Tryd.func24, Tryd.ntmps24
      go_wp2_with fail
      refine (GG.out _ hB0).mono ?_
      rintro e w1 ⟨x, rfl, hx, _, hB1⟩
      have R1 := R0.out.below hB1
      have hB1 := below_then hB0 hB1
      go_wp2_with fail
      refine (D1.out _ hB1 _ hx).mono ?_
      rintro e w2 ⟨u, ur, rfl, hu, hur, _, _, hB2⟩
      have R2 := R1.below hB2
      have hx := hx.below hB2
      have hB2 := below_then hB1 hB2
      obtain ⟨ra, rb, rc, rfl⟩ := hur.form
      obtain ⟨ua, ub, rfl⟩ := hu.form0
      go_wp2_with fail
      refine (D2.out _ hB2 _ hx).mono ?_
      rintro e w3 ⟨v, vr, rfl, hv, hvr, _, _, hB3⟩
      have R3 := R2.below hB3
      have hu := hu.below hB3
      have hB3 := below_then hB2 hB3
      obtain ⟨sa, sb, sc, rfl⟩ := hvr.form
      obtain ⟨va, vb, vc, rfl⟩ := hv.form
      go_wp2_with fail
      refine (O1.out _).mono ?_
      rintro e w4 ⟨y, rfl, hy, _, hB4⟩
      have R4 := R3.below hB4
      have hB4 := below_then hB3 hB4
      obtain ⟨C', o', r', rfl⟩ := hy.form
      obtain ⟨k0, k1, k2⟩ := R4.cells
      obtain ⟨f0, f1, f2⟩ := R4.frozen
      go_wp2_with fail
      refine bodyPost_ret (v := .agg #[.bool false, .slice none 0 0, .slice C' o' r']) (by rw [results_one rfl]; go_simp) rfl ?_
      exact RCanF.zero (hy.le h1) R4 hB4 (Nat.le_refl _) _
    · have hdz : d = 0 := by omega
      subst hdz
      have hne : n / Nat.gcd n 0 ≠ 0 := by rw [Nat.gcd_zero_right, Nat.div_self (by omega)]; omega
      have D1 := Lib.hid (fun w1 hB x (hx : Can w1 x (Nat.gcd n 0) (k + k)) => natDiv_v (w := w1) (hn.below hB) hx.numV (by omega) (by omega) hg)
      have D2 := fun w1 hB x (hx : Can w1 x (Nat.gcd n 0) (k + k)) => natDiv_v (w := w1) (hd.below hB) hx.numV (by omega) (by omega) hg
      rw [Nat.zero_div] at D2
      have D2 := Lib.hid D2
      clear G hn hd hq
      go_enter Tryd.func24, Tryd.ntmps24
      go_wp2_with fail
      refine (GG.out _ hB0).mono ?_
      rintro e w1 ⟨x, rfl, hx, _, hB1⟩
      have R1 := R0.out.below hB1
      have hB1 := below_then hB0 hB1
      go_wp2_with fail
      refine (D1.out _ hB1 _ hx).mono ?_
      rintro e w2 ⟨u, ur, rfl, hu, hur, _, _, hB2⟩
      have R2 := R1.below hB2
      have hx := hx.below hB2
      have hB2 := below_then hB1 hB2
      obtain ⟨ra, rb, rc, rfl⟩ := hur.form
      obtain ⟨ua, ub, uc, rfl, hul⟩ := hu.formP hne
      go_wp2_with fail
      refine (D2.out _ hB2 _ hx).mono ?_
      rintro e w3 ⟨v, vr, rfl, hv, hvr, _, _, hB3⟩
      have R3 := R2.below hB3
      have hu := hu.below hB3
      have hB3 := below_then hB2 hB3
      obtain ⟨sa, sb, sc, rfl⟩ := hvr.form
      obtain ⟨va, vb, rfl⟩ := hv.form0
      go_wp2_with fail
      refine (O1.out _).mono ?_
      rintro e w4 ⟨y, rfl, hy, _, hB4⟩
      have R4 := R3.below hB4
      have hB4 := below_then hB3 hB4
      obtain ⟨C', o', r', rfl⟩ := hy.form
      obtain ⟨k0, k1, k2⟩ := R4.cells
      obtain ⟨f0, f1, f2⟩ := R4.frozen
      go_wp2_with fail
      refine bodyPost_ret (v := .agg #[.bool false, .slice none 0 0, .slice C' o' r']) (by rw [results_one rfl]; go_simp) rfl ?_
      exact RCanF.zero (hy.le h1) R4 hB4 (Nat.le_refl _) _

set_option maxHeartbeats 2000000 in
theorem frac_pos (neg : Bool) (hn : NumV w vn n k) (hd : NumV w vd d k) (hk : k ≤ 400000) (h0 : n ≠ 0) (h0' : d ≠ 0) :
    Calls Tryd.prog 24 #[.bool neg, vn, vd] w (RCanF w (fr neg n d) k) := by
  obtain ⟨e1, e2, e3⟩ := fr_parts neg h0 h0'
  have hg := gcd_div_pos h0 h0'
  have hn1 : n / Nat.gcd n d ≠ 0 := by
    have := Nat.div_pos (Nat.gcd_le_left d (by omega)) hg
    omega
  have hd1 : d / Nat.gcd n d ≠ 0 := by
    have := Nat.div_pos (Nat.gcd_le_right n (by omega)) hg
    omega
  have R0 := Lib.hid (Fcl.new w false (.slice none 0 0) (.slice none 0 0))
  have hB0 : Below w.heap.size w (w.alloc (.cells #[.bool false, .slice none 0 0, .slice none 0 0] 25)) := (Below.refl _ _).alloc (Nat.le_refl _) _
  have GG := Lib.hid (fun w1 hB => natGCD_v (w := w1) (hn.below hB) (hd.below hB) (by omega) (by omega))
  have D1 := fun w1 hB x (hx : Can w1 x (Nat.gcd n d) (k + k)) => natDiv_v (w := w1) (hn.below hB) hx.numV (by omega) (by omega) hg
  have D2 := fun w1 hB x (hx : Can w1 x (Nat.gcd n d) (k + k)) => natDiv_v (w := w1) (hd.below hB) hx.numV (by omega) (by omega) hg
  rw [← e2] at D1 hn1
  rw [← e3] at D2 hd1
  have D1 := Lib.hid D1
  have D2 := Lib.hid D2
  generalize fr neg n d = q at *
  have E1 := Lib.hid e1
  clear e1 e2 e3 hn hd hg
  generalize Nat.gcd n d = gg at *
  go_enter Tryd.func24, Tryd.ntmps24
  go_wp2_with fail
  refine (GG.out _ hB0).mono ?_
  rintro e w1 ⟨x, rfl, hx, _, hB1⟩
  have R1 := R0.out.below hB1
  have hB1 := below_then hB0 hB1
  go_wp2_with fail
  refine (D1.out _ hB1 _ hx).mono ?_
  rintro e w2 ⟨u, ur, rfl, hu, hur, _, _, hB2⟩
  have R2 := R1.below hB2
  have hx := hx.below hB2
  have hB2 := below_then hB1 hB2
  obtain ⟨ra, rb, rc, rfl⟩ := hur.form
  obtain ⟨ua, ub, uc, rfl, hul⟩ := hu.formP hn1
  go_wp2_with fail
  refine (D2.out _ hB2 _ hx).mono ?_
  rintro e w3 ⟨v, vr, rfl, hv, hvr, _, _, hB3⟩
  have R3 := R2.below hB3
  have hu := hu.below hB3
  have hB3 := below_then hB2 hB3
  obtain ⟨sa, sb, sc, rfl⟩ := hvr.form
  obtain ⟨va, vb, vc, rfl, hvl⟩ := hv.formP hd1
  obtain ⟨k0, k1, k2⟩ := R3.cells
  obtain ⟨f0, f1, f2⟩ := R3.frozen
  go_wp2_with fail
  refine bodyPost_ret (v := .agg #[.bool neg, .slice ua ub uc, .slice va vb vc]) (by rw [results_one rfl]; go_simp) rfl ?_
  exact RCanF.stored E1.out hu hv R3 hB3 (Nat.le_refl _) _
theorem frac_v (neg : Bool) (hn : NumV w vn n k) (hd : NumV w vd d k) (hk : k ≤ 400000) (h1 : 2 ≤ k) :
    Calls Tryd.prog 24 #[.bool neg, vn, vd] w (RCanF w (fr neg n d) k) := by
  by_cases h0 : n = 0 ∨ d = 0
  · exact frac_zero neg hn hd hk h1 h0
  · exact frac_pos neg hn hd hk (fun h => h0 (.inl h)) (fun h => h0 (.inr h))
end

section
variable {w w' : World} {v : Value} {q : Rat} {k : Nat}

end
end Go.Proofs.YtgjhgpfjeoeojaaDoor

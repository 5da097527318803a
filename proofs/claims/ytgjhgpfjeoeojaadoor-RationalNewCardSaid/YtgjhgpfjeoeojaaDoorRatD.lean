/- The contracts of Sub, Complement, Sign, Div of package rational. -/
import Derived.Test.YtgjhgpfjeoeojaaDoorRatC
namespace Go.Proofs.YtgjhgpfjeoeojaaDoor
open Go.RowKit Dig
set_option linter.unusedVariables false

section
variable {w : World} {va vb : Value} {p q : Rat} {k l : Nat}
set_option maxHeartbeats 2000000 in
theorem subf_v (ha : FracV w va p k) (hb : FracV w vb q l) (hk : k ≤ 100000) (hl : l ≤ 100000) (h1 : 2 ≤ k) (h2 : 2 ≤ l) : Calls Tryd.prog 20 #[va, vb] w (RCanF w (p - q) (k + l + 1)) := by
  obtain ⟨na, A, m, c, A', m', c', n, d, rfl, hn, hd, hp⟩ := ha.parts
  obtain ⟨nb, B, i, j, B', i', j', s, t, rfl, hs, ht, hq⟩ := hb.parts
  have hb2 : FracV w (.agg #[.bool (!nb), .slice B i j, .slice B' i' j']) (-q) l := ⟨_, _, _, _, _, rfl, hs, ht, by rw [← hq, fr_neg]⟩
  have AD := fun w1 hB => addf_v (w := w1) (ha.below hB) (hb2.below hB) hk hl h1 h2
  rw [show p + -q = p - q from (Rat.sub_eq_add_neg p q).symm] at AD
  have RR := Lib.hid AD
  have R0 := Lib.hid (Fcl.new3 w (.cells #[.bool na, .slice A m c, .slice A' m' c'] 25) (.cells #[.bool (!nb), .slice B i j, .slice B' i' j'] 25) false (.slice none 0 0) (.slice none 0 0))
  have hB0 := below_alloc3 w (.cells #[.bool na, .slice A m c, .slice A' m' c'] 25) (.cells #[.bool (!nb), .slice B i j, .slice B' i' j'] 25) (.cells #[.bool false, .slice none 0 0, .slice none 0 0] 25)
  clear AD hn hd hp hs ht hq ha hb hb2
  go_enter Tryd.func20, Tryd.ntmps20
  go_wp2_with fail
  refine (RR.out _ hB0).mono ?_
  rintro e w1 ⟨v, rfl, hv, hB1⟩
  have R1 := R0.out.below hB1
  have hB1 := below_then hB0 hB1
  obtain ⟨b, C, o, r, C', o', r', rfl, hb, hvx, hvy⟩ := hv.parts
  obtain ⟨k0, k1, k2⟩ := R1.cells
  obtain ⟨f0, f1, f2⟩ := R1.frozen
  go_wp2_with fail
  refine bodyPost_ret (v := .agg #[.bool b, .slice C o r, .slice C' o' r']) (by rw [results_one rfl]; go_simp) rfl ?_
  exact RCanF.stored hb hvx hvy R1 hB1 (by omega) _

/-- The boxes of an argument and of the result. -/
theorem two_boxes (w : World) (b0 : Bool) (x0 y0 : Value) :
    ∃ w2 g0 g2, (w.alloc (.cells #[.bool b0, x0, y0] 25)).alloc (.cells #[.bool false, .slice none 0 0, .slice none 0 0] 25) = w2 ∧
      w.heap.size = g0 ∧ g0 + 1 = g2 ∧ Below w.heap.size w w2 ∧ Fcl w2 g0 b0 x0 y0 ∧ Fcl w2 g2 false (.slice none 0 0) (.slice none 0 0) :=
  ⟨_, _, _, rfl, rfl, rfl, below_alloc2 w _ _, (Fcl.new w b0 x0 y0).alloc _, Fcl.new2 w _ false _ _⟩
theorem conj_r {w : World} {g0 : Nat} {b0 : Bool} {x0 y0 : Value} (h0 : Fcl w g0 b0 x0 y0) :
    w.cell? ⟨g0, 0, none⟩ = some (.bool b0) ∧ w.cell? ⟨g0, 1, none⟩ = some x0 ∧ w.cell? ⟨g0, 2, none⟩ = some y0 := h0.cells

set_option maxHeartbeats 2000000 in
theorem signf_v (ha : FracV w va p k) (hk : k ≤ 400000) : Calls Tryd.prog 21 #[va] w (RVal w (.int .i64 (rsgn p))) := by
  obtain ⟨na, A, m, c, A', m', c', n, d, rfl, hn, hd, hp⟩ := ha.parts
  have S0 := Lib.hid (Fcl.new w na (.slice A m c) (.slice A' m' c'))
  have hB0 : Below w.heap.size w (w.alloc (.cells #[.bool na, .slice A m c, .slice A' m' c'] 25)) := (Below.refl _ _).alloc (Nat.le_refl _) _
  by_cases h0 : n = 0
  · subst h0
    rw [fr_zero] at hp
    have Z := Lib.hid (fun w1 hB => isZero_t (w := w1) (hn.below hB) (by omega))
    have E := Lib.hid (show rsgn p = 0 by rw [← hp]; rfl)
    clear hn hd hp ha
    go_enter Tryd.func21, Tryd.ntmps21
    go_wp2_with fail
    refine (Z.out _ hB0).mono ?_
    rintro e w1 ⟨rfl, hB1⟩
    have hB1 := below_then hB0 hB1
    go_wp2_with fail
    go_ret
    exact ⟨ret_eq (show Value.int .i64 0 = _ by rw [E.out]), hB1⟩
  · have Z := Lib.hid (fun w1 hB => isZero_f (w := w1) (hn.below hB) (by omega) h0)
    by_cases h0' : d = 0
    · subst h0'
      rw [fr_den] at hp
      have Z2 := Lib.hid (fun w1 hB => isZero_t (w := w1) (hd.below hB) (by omega))
      have E := Lib.hid (show rsgn p = 0 by rw [← hp]; rfl)
      clear hn hd hp ha
      go_enter Tryd.func21, Tryd.ntmps21
      go_wp2_with fail
      refine (Z.out _ hB0).mono ?_
      rintro e w1 ⟨rfl, hB1⟩
      have S1 := S0.out.below hB1
      have hB1 := below_then hB0 hB1
      obtain ⟨c0, c1, c2⟩ := S1.cells
      go_wp2_with fail
      refine (Z2.out _ hB1).mono ?_
      rintro e w2 ⟨rfl, hB2⟩
      have hB2 := below_then hB1 hB2
      go_wp2_with fail
      go_ret
      exact ⟨ret_eq (show Value.int .i64 0 = _ by rw [E.out]), hB2⟩
    · have Z2 := Lib.hid (fun w1 hB => isZero_f (w := w1) (hd.below hB) (by omega) h0')
      have E0 := fr_rsgn na h0 h0'
      rw [hp] at E0
      have E := Lib.hid E0
      clear hn hd hp ha E0
      cases na with
      | true =>
        go_enter Tryd.func21, Tryd.ntmps21
        go_wp2_with fail
        refine (Z.out _ hB0).mono ?_
        rintro e w1 ⟨rfl, hB1⟩
        have S1 := S0.out.below hB1
        have hB1 := below_then hB0 hB1
        obtain ⟨c0, c1, c2⟩ := S1.cells
        go_wp2_with fail
        refine (Z2.out _ hB1).mono ?_
        rintro e w2 ⟨rfl, hB2⟩
        obtain ⟨d0, d1, d2⟩ := (S1.below hB2).cells
        have hB2 := below_then hB1 hB2
        clear c0 c1 c2
        go_wp2_with fail
        go_ret
        exact ⟨ret_eq (show Value.int .i64 (-1) = _ by rw [E.out]; rfl), hB2⟩
      | false =>
        go_enter Tryd.func21, Tryd.ntmps21
        go_wp2_with fail
        refine (Z.out _ hB0).mono ?_
        rintro e w1 ⟨rfl, hB1⟩
        have S1 := S0.out.below hB1
        have hB1 := below_then hB0 hB1
        obtain ⟨c0, c1, c2⟩ := S1.cells
        go_wp2_with fail
        refine (Z2.out _ hB1).mono ?_
        rintro e w2 ⟨rfl, hB2⟩
        obtain ⟨d0, d1, d2⟩ := (S1.below hB2).cells
        have hB2 := below_then hB1 hB2
        clear c0 c1 c2
        go_wp2_with fail
        go_ret
        exact ⟨ret_eq (show Value.int .i64 1 = _ by rw [E.out]; rfl), hB2⟩
end
end Go.Proofs.YtgjhgpfjeoeojaaDoor

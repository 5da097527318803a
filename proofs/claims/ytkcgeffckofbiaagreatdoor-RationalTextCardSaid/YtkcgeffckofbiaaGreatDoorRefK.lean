/- The contracts of the reference functions FracMul and FracAdd. -/
import Derived.Test.YtkcgeffckofbiaaGreatDoorRefJ
namespace Go.Proofs.YtkcgeffckofbiaaGreatDoor
open Go.RowKit Dig
set_option linter.unusedVariables false

section
variable {w : World} {va vb : Value} {p q : Rat} {k l : Nat}
set_option maxHeartbeats 4000000 in
theorem fracMul_v (ha : FracV w va p k) (hb : FracV w vb q l) (hk : k < 48) (hl : l < 48) (h1 : 2 ≤ k) : Calls Tryz.prog 25 #[va, vb] w (RCanF w (p * q) (k + l)) := by
  obtain ⟨na, A, m, c, A', m', c', n, d, rfl, hn, hd, hp⟩ := ha.parts
  obtain ⟨nb, B, i, j, B', i', j', s, t, rfl, hs, ht, hq⟩ := hb.parts
  obtain ⟨w2, g0, g1, g2, ew, eg0, eg1, eg2, hB0, hF0, hF1, hF2⟩ := three_boxes w na nb (.slice A m c) (.slice A' m' c') (.slice B i j) (.slice B' i' j')
  have M1 := Lib.hid (fun w1 hB => natMul_v (w := w1) (hn.below hB) (hs.below hB) (by omega) (by omega))
  have M2 := Lib.hid (fun w1 hB => natMul_v (w := w1) (hd.below hB) (ht.below hB) (by omega) (by omega))
  have RD := fun w1 x y (hx : Can w1 x (n * s) (k + l)) (hy : Can w1 y (d * t) (k + l)) => frac_v (w := w1) (na != nb) hx.numV hy.numV (by omega) (by omega)
  rw [← fr_mul, hp, hq] at RD
  have RR := Lib.hid RD
  have HG := Lib.hid (show w.heap.size ≤ g2 by omega)
  clear RD hn hd hs ht hp hq ha hb
  go_enter Tryz.func25, Tryz.ntmps25
  go_wp2_with fail

  have hK : Below w2.heap.size w2 w2 := Below.refl _ _
  have hS0 := conj_rr hF0 hF1
  have hne0 : g0 ≠ g2 := by omega
  have hne1 : g1 ≠ g2 := by omega
  go_region_held3 (fun w' => w'.cell? ⟨g0, 0, none⟩ = some (.bool na) ∧ w'.cell? ⟨g0, 1, none⟩ = some (.slice A m c) ∧ w'.cell? ⟨g0, 2, none⟩ = some (.slice A' m' c') ∧ w'.cell? ⟨g1, 0, none⟩ = some (.bool nb) ∧ w'.cell? ⟨g1, 1, none⟩ = some (.slice B i j) ∧ w'.cell? ⟨g1, 2, none⟩ = some (.slice B' i' j')) (first | with_reducible exact conj_rr hF0 hF1 | with_reducible exact conj_rr (hF0.below hK) (hF1.below hK) | exact hS0 | exact conj_rr ((hF0.below hK).far hne0 _ _ _) ((hF1.below hK).far hne1 _ _ _)) (first | (go_at_call_of 41 (Value.slice A m c); refine (M1.out _ hB0.drew).mono ?_; rintro e w3 ⟨x, rfl, hx, _, hB3⟩; have hK := below_undrew hB3) | (go_at_call_of 41 (Value.slice A' m' c'); refine (M2.out _ (below_then hB0 hK)).mono ?_; rintro e w4 ⟨y, rfl, hy, _, hB4⟩; have hK := below_then hK hB4) | (go_at_call 40; refine (RR.out _ _ _ (hx.below hB4) hy).mono ?_; rintro e w5 ⟨v, rfl, hv, hB5⟩; obtain ⟨b, C, u, r, C', u', r', rfl, hb, hvx, hvy⟩ := hv.parts; have hK := below_then hK hB5; obtain ⟨c0, c1, c2⟩ := (hF2.below hK).cells; obtain ⟨f0, f1, f2⟩ := (hF2.below hK).frozen))
  go_wp2_with fail
  refine bodyPost_ret (v := .agg #[.bool b, .slice C u r, .slice C' u' r']) (by rw [results_one rfl]; go_simp) rfl ?_
  exact RCanF.stored hb hvx hvy (hF2.below hK) (below_then hB0 hK) HG.out _

theorem natAdd_same {va vb : Value} {a b m : Nat} (ha : NumV w va a m) (hb : NumV w vb b m) (hm : m ≤ 1000000) : Calls Tryz.prog 54 #[va, vb] w (RCan w (a + b) (m + 1)) :=
  (natAdd_v ha hb hm hm).mono fun e w' h => h.fit (add_fit _ _ _ ha.lt hb.lt)
end
end Go.Proofs.YtkcgeffckofbiaaGreatDoor

/- The contracts of Div and Cmp of package rational. -/
import Derived.Test.YtgjhgpfjeoeojaaDoorRatD
namespace Go.Proofs.YtgjhgpfjeoeojaaDoor
open Go.RowKit Dig
set_option linter.unusedVariables false

namespace Dig
theorem fr_one (n : Nat) (h : n ≠ 0) : fr false n n = 1 := by
  unfold fr sg
  have h1 : (1 : Rat) = mkRat 1 1 := rfl
  rw [h1, Rat.mkRat_eq_iff h (by decide)]
  simp
theorem fr_inv (a : Bool) {n d : Nat} (hn : n ≠ 0) (hd : d ≠ 0) : fr a d n = (fr a n d)⁻¹ := by
  have h : fr a n d * fr a d n = 1 := by
    rw [fr_mul, Nat.mul_comm d n]
    have : (a != a) = false := by cases a <;> rfl
    rw [this, fr_one (n * d) (Nat.mul_ne_zero hn hd)]
  have h0 : fr a n d ≠ 0 := by
    intro h1
    rw [h1, Rat.zero_mul] at h
    exact absurd h (by decide)
  generalize fr a n d = x at *
  generalize fr a d n = y at *
  have := Rat.mul_inv_cancel x h0
  grind
/-- Comparing two fractions of one sign by their products across. -/
theorem rcmp_across (na nb : Bool) {n d s t : Nat} (h : rsgn (fr na n d) = rsgn (fr nb s t)) : rcmp (fr na n d) (fr nb s t) = rsgn (fr na n d) * cmpI (n * t) (s * d) := by
  by_cases h0 : n = 0 ∨ d = 0
  · have e1 := (fr_eq_zero na n d).2 h0
    rw [e1] at h ⊢
    have e2 := rsgn_eq_zero.1 (h.symm.trans rsgn_zero)
    rw [e2, rsgn_zero, Int.zero_mul]
    exact rcmp_eq.2 rfl
  · have hn : n ≠ 0 := fun e => h0 (.inl e)
    have hd : d ≠ 0 := fun e => h0 (.inr e)
    have h1 : ¬ (s = 0 ∨ t = 0) := by
      intro e
      have e2 := (fr_eq_zero nb s t).2 e
      rw [e2, rsgn_zero] at h
      exact h0 ((fr_eq_zero na n d).1 (rsgn_eq_zero.1 h))
    have hs : s ≠ 0 := fun e => h1 (.inl e)
    have ht : t ≠ 0 := fun e => h1 (.inr e)
    rw [fr_rsgn na hn hd, fr_rsgn nb hs ht] at h
    have hab : na = nb := by
      cases na <;> cases nb <;> first | rfl | (simp at h)
    subst hab
    unfold rcmp
    rw [Rat.sub_eq_add_neg, fr_neg, fr_rsgn na hn hd]
    have hne : na ≠ !na := by cases na <;> decide
    have hdt : d * t ≠ 0 := Nat.mul_ne_zero hd ht
    rcases Nat.lt_trichotomy (n * t) (s * d) with hlt | he | hgt
    · rw [fr_sub2 hd ht hne (Nat.le_of_lt hlt), fr_rsgn _ (by omega) hdt, cmpI_lt hlt]
      cases na <;> rfl
    · rw [fr_sub hd ht hne (by omega), he, Nat.sub_self, fr_zero, cmpI_eq, rsgn_zero, Int.mul_zero]
    · rw [fr_sub hd ht hne (Nat.le_of_lt hgt), fr_rsgn _ (by omega) hdt, cmpI_gt hgt]
      cases na <;> rfl
theorem rcmp_signs {p q : Rat} (h : rsgn p ≠ rsgn q) : rcmp p q = Lib.compareInt (rsgn p) (rsgn q) ∧ Lib.compareInt (rsgn p) (rsgn q) ≠ 0 := by
  unfold rcmp Lib.compareInt
  rcases rsgn_cases p with ⟨h1, e⟩ | ⟨h1, e⟩ | ⟨h1, e⟩ <;> rcases rsgn_cases q with ⟨h2, e'⟩ | ⟨h2, e'⟩ | ⟨h2, e'⟩ <;> rw [e, e'] at h ⊢ <;> first | exact absurd rfl h | (refine ⟨?_, by decide⟩)
  · exact rsgn_neg.2 (by grind)
  · exact rsgn_neg.2 (by grind)
  · exact rsgn_pos.2 (by grind)
  · exact rsgn_neg.2 (by grind)
  · exact rsgn_pos.2 (by grind)
  · exact rsgn_pos.2 (by grind)
theorem wrap_sign {s c : Int} (h : -1 ≤ s ∧ s ≤ 1) (k : -1 ≤ c ∧ c ≤ 1) : IntKind.i64.wrap (s * c) = s * c := by
  have h1 : s = -1 ∨ s = 0 ∨ s = 1 := by omega
  rcases h1 with rfl | rfl | rfl <;> simp only [IntKind.wrap_i64] <;> omega
theorem compare_same (x : Int) : Lib.compareInt x x = 0 := by
  unfold Lib.compareInt
  simp
end Dig

theorem Fcl.set {w : World} {g : Nat} {b : Bool} {x y : Value} (h : Fcl w g b x y) {a : Addr} (hne : g ≠ a.block) (u : Value) : Fcl (w.setCell a u) g b x y := h.of_block (Below.heap_setCell w a u g hne)
section
variable {w : World} {va vb : Value} {p q : Rat} {k l : Nat}

set_option maxHeartbeats 4000000 in
theorem cmpf_v (ha : FracV w va p k) (hb : FracV w vb q l) (hk : k ≤ 100000) (hl : l ≤ 100000) : Calls Tryd.prog 28 #[va, vb] w (RVal w (.int .i64 (rcmp p q))) := by
  have S1 := fun w1 hB => signf_v (w := w1) (ha.below hB) (by omega)
  have S2 := fun w1 hB => signf_v (w := w1) (hb.below hB) (by omega)
  obtain ⟨na, A, m, c, A', m', c', n, d, rfl, hn, hd, hp⟩ := ha.parts
  obtain ⟨nb, B, i, j, B', i', j', s, t, rfl, hs, ht, hq⟩ := hb.parts
  obtain ⟨w2, g0, g1, ew, eg0, eg1, hB0, hF0, hF1⟩ : ∃ w2 g0 g1, (w.alloc (.cells #[.bool na, .slice A m c, .slice A' m' c'] 25)).alloc (.cells #[.bool nb, .slice B i j, .slice B' i' j'] 25) = w2 ∧ w.heap.size = g0 ∧ g0 + 1 = g1 ∧ Below w.heap.size w w2 ∧ Fcl w2 g0 na (.slice A m c) (.slice A' m' c') ∧ Fcl w2 g1 nb (.slice B i j) (.slice B' i' j') :=
    ⟨_, _, _, rfl, rfl, rfl, below_alloc2 w _ _, (Fcl.new w _ _ _).alloc _, Fcl.new2 w _ _ _ _⟩
  have HS1 := Lib.hid S1
  have HS2 := Lib.hid S2
  obtain ⟨c0, c1, c2⟩ := hF0.cells
  obtain ⟨d0, d1, d2⟩ := hF1.cells
  clear S1 S2
  by_cases hsg : rsgn p = rsgn q
  · have CA := rcmp_across na nb (n := n) (d := d) (s := s) (t := t) (by rw [hp, hq]; exact hsg)
    rw [hp, hq] at CA
    have CS := compare_same (rsgn q)
    have HCA := Lib.hid CA
    have M1 := Lib.hid (fun w1 hB => mul_w (w := w1) (hn.below hB) (ht.below hB) (by omega) (by omega))
    have M2 := Lib.hid (fun w1 hB => mul_w (w := w1) (hs.below hB) (hd.below hB) (by omega) (by omega))
    have CM := Lib.hid (fun w1 x y (hx : Can w1 x (n * t) (k + l)) (hy : Can w1 y (s * d) (l + k)) => cmp_v (w := w1) hx.numV hy.numV)
    have hrb : -1 ≤ rsgn q ∧ rsgn q ≤ 1 := by
      rcases rsgn_cases q with ⟨_, e⟩ | ⟨_, e⟩ | ⟨_, e⟩ <;> rw [e] <;> omega
    have hcb := cmpI_bd (n * t) (s * d)
    rw [hsg] at HS1 HCA
    generalize rsgn q = sq at *
    clear hn hd hs ht hp hq ha hb CA hsg
    go_enter Tryd.func28, Tryd.ntmps28
    go_wp2_with fail
    refine (HS1.out _ hB0).mono ?_
    rintro e w3 ⟨rfl, hB3⟩
    have hF0 := hF0.below hB3
    have hF1 := hF1.below hB3
    have hB0 := below_then hB0 hB3
    clear c0 c1 c2 d0 d1 d2
    obtain ⟨d0, d1, d2⟩ := hF1.cells
    go_wp2_with fail
    refine (HS2.out _ hB0).mono ?_
    rintro e w4 ⟨rfl, hB4⟩
    have hF0 := hF0.below hB4
    have hF1 := hF1.below hB4
    have hB0 := below_then hB0 hB4
    go_wp2_with fail
    refine (Tryd.cmp_Compare_int sq sq w4).mono ?_
    rintro e w5 ⟨rfl, rfl⟩
    rw [CS]
    have hK : Below w5.heap.size w5 w5 := Below.refl _ _
    have hS0 := conj_rr hF0 hF1
    clear d0 d1 d2 CS
    go_wp2_with fail
    go_region_held3 (fun w' => w'.cell? ⟨g0, 0, none⟩ = some (.bool na) ∧ w'.cell? ⟨g0, 1, none⟩ = some (.slice A m c) ∧ w'.cell? ⟨g0, 2, none⟩ = some (.slice A' m' c') ∧ w'.cell? ⟨g1, 0, none⟩ = some (.bool nb) ∧ w'.cell? ⟨g1, 1, none⟩ = some (.slice B i j) ∧ w'.cell? ⟨g1, 2, none⟩ = some (.slice B' i' j')) (first | with_reducible exact conj_rr hF0 hF1 | with_reducible exact conj_rr (hF0.below hK) (hF1.below hK) | exact hS0) (first | (go_at_call_of 16 (Value.slice A m c); refine (M1.out _ hB0.drew).mono ?_; rintro e w6 ⟨x, rfl, hx, _, hB6⟩; have hK := below_undrew hB6) | (go_at_call_of 16 (Value.slice A' m' c'); refine (M2.out _ (below_then hB0 hK)).mono ?_; rintro e w7 ⟨y, rfl, hy, _, hB7⟩; have hK := below_then hK hB7) | (go_at_call 52; refine (CM.out _ _ _ (hx.below hB7) hy).mono ?_; rintro e w8 ⟨rfl, hB8⟩; have hK := below_then hK hB8))
    go_wp2_with fail
    go_ret
    exact ⟨ret_eq (show Value.int .i64 (IntKind.i64.wrap (sq * cmpI (n * t) (s * d))) = _ by rw [wrap_sign hrb hcb, HCA.out]), below_then hB0 hK⟩
  · obtain ⟨CS, CN⟩ := rcmp_signs hsg
    have hne : ((Lib.compareInt (rsgn p) (rsgn q) : Int) != 0) = true := by rw [bne_iff_ne]; exact CN
    rw [CS]
    have CC := Lib.hid (fun w1 => Tryd.cmp_Compare_int (rsgn p) (rsgn q) w1)
    generalize Lib.compareInt (rsgn p) (rsgn q) = z at *
    generalize rsgn p = sp at *
    generalize rsgn q = sq at *
    clear hn hd hs ht hp hq ha hb CS CN hsg
    go_enter Tryd.func28, Tryd.ntmps28
    go_wp2_with fail
    refine (HS1.out _ hB0).mono ?_
    rintro e w3 ⟨rfl, hB3⟩
    have hF1 := hF1.below hB3
    have hB0 := below_then hB0 hB3
    clear c0 c1 c2 d0 d1 d2
    obtain ⟨d0, d1, d2⟩ := hF1.cells
    go_wp2_with fail
    refine (HS2.out _ hB0).mono ?_
    rintro e w4 ⟨rfl, hB4⟩
    have hB0 := below_then hB0 hB4
    go_wp2_with fail
    refine (CC.out w4).mono ?_
    rintro e w5 ⟨rfl, rfl⟩
    go_wp2_with fail
    go_ret
    exact ⟨rfl, hB0⟩
end
end Go.Proofs.YtgjhgpfjeoeojaaDoor

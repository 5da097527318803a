/- The contracts of Div and Cmp of package rational. -/
import Derived.Test.YtgjhgpfjeoeojaaGreatDoorRatD
namespace Go.Proofs.YtgjhgpfjeoeojaaGreatDoor
open Go.RowKit Dig
set_option linter.unusedVariables false

namespace Dig
theorem fr_one (n : Nat) (h : n ≠ 0) : fr false n n = 1 := by
  unfold fr sg
  have h1 : (1 : Rat) = mkRat 1 1 := rfl
  rw [h1, Rat.mkRat_eq_iff h (by decide)]
  simp
theorem fr_inv (a : Bool) {n d : Nat} (hn : n ≠ 0) (hd : d ≠ 0) : fr a d n = (fr a n d)⁻¹ := by
  have h : fr a n d * fr a d n = 1 := by
    rw [fr_mul, Nat.mul_comm d n]
    have : (a != a) = false := by cases a <;> rfl
    rw [this, fr_one (n * d) (Nat.mul_ne_zero hn hd)]
  have h0 : fr a n d ≠ 0 := by
    intro h1
    rw [h1, Rat.zero_mul] at h
    exact absurd h (by decide)
  generalize fr a n d = x at *
  generalize fr a d n = y at *
  have := Rat.mul_inv_cancel x h0
  grind
/-- Comparing two fractions of one sign by their products across. -/
theorem rcmp_across (na nb : Bool) {n d s t : Nat} (h : rsgn (fr na n d) = rsgn (fr nb s t)) : rcmp (fr na n d) (fr nb s t) = rsgn (fr na n d) * cmpI (n * t) (s * d) := by
  by_cases h0 : n = 0 ∨ d = 0
  · have e1 := (fr_eq_zero na n d).2 h0
    rw [e1] at h ⊢
    have e2 := rsgn_eq_zero.1 (h.symm.trans rsgn_zero)
    rw [e2, rsgn_zero, Int.zero_mul]
    exact rcmp_eq.2 rfl
  · have hn : n ≠ 0 := fun e => h0 (.inl e)
    have hd : d ≠ 0 := fun e => h0 (.inr e)
    have h1 : ¬ (s = 0 ∨ t = 0) := by
      intro e
      have e2 := (fr_eq_zero nb s t).2 e
      rw [e2, rsgn_zero] at h
      exact h0 ((fr_eq_zero na n d).1 (rsgn_eq_zero.1 h))
    have hs : s ≠ 0 := fun e => h1 (.inl e)
    have ht : t ≠ 0 := fun e => h1 (.inr e)
    rw [fr_rsgn na hn hd, fr_rsgn nb hs ht] at h
    have hab : na = nb := by
      cases na <;> cases nb <;> first | rfl | (simp at h)
    subst hab
    unfold rcmp
    rw [Rat.sub_eq_add_neg, fr_neg, fr_rsgn na hn hd]
    have hne : na ≠ !na := by cases na <;> decide
    have hdt : d * t ≠ 0 := Nat.mul_ne_zero hd ht
    rcases Nat.lt_trichotomy (n * t) (s * d) with hlt | he | hgt
    · rw [fr_sub2 hd ht hne (Nat.le_of_lt hlt), fr_rsgn _ (by omega) hdt, cmpI_lt hlt]
      cases na <;> rfl
    · rw [fr_sub hd ht hne (by omega), he, Nat.sub_self, fr_zero, cmpI_eq, rsgn_zero, Int.mul_zero]
    · rw [fr_sub hd ht hne (Nat.le_of_lt hgt), fr_rsgn _ (by omega) hdt, cmpI_gt hgt]
      cases na <;> rfl
theorem rcmp_signs {p q : Rat} (h : rsgn p ≠ rsgn q) : rcmp p q = Lib.compareInt (rsgn p) (rsgn q) ∧ Lib.compareInt (rsgn p) (rsgn q) ≠ 0 := by
  unfold rcmp Lib.compareInt
  rcases rsgn_cases p with ⟨h1, e⟩ | ⟨h1, e⟩ | ⟨h1, e⟩ <;> rcases rsgn_cases q with ⟨h2, e'⟩ | ⟨h2, e'⟩ | ⟨h2, e'⟩ <;> rw [e, e'] at h ⊢ <;> first | exact absurd rfl h | (refine ⟨?_, by decide⟩)
  · exact rsgn_neg.2 (by grind)
  · exact rsgn_neg.2 (by grind)
  · exact rsgn_pos.2 (by grind)
  · exact rsgn_neg.2 (by grind)
  · exact rsgn_pos.2 (by grind)
  · exact rsgn_pos.2 (by grind)
theorem wrap_sign {s c : Int} (h : -1 ≤ s ∧ s ≤ 1) (k : -1 ≤ c ∧ c ≤ 1) : IntKind.i64.wrap (s * c) = s * c := by
  have h1 : s = -1 ∨ s = 0 ∨ s = 1 := by omega
  rcases h1 with rfl | rfl | rfl <;> simp only [IntKind.wrap_i64] <;> omega
theorem compare_same (x : Int) : Lib.compareInt x x = 0 := by
  unfold Lib.compareInt
  simp
end Dig

theorem Fcl.set {w : World} {g : Nat} {b : Bool} {x y : Value} (h : Fcl w g b x y) {a : Addr} (hne : g ≠ a.block) (u : Value) : Fcl (w.setCell a u) g b x y := h.of_block (Below.heap_setCell w a u g hne)
section
variable {w : World} {va vb : Value} {p q : Rat} {k l : Nat}
theorem div0_fv (ha : FracV w va p k) (hb : FracV w vb 0 l) (hl : l ≤ 400000) :
    Calls Tryz.prog 9 #[va, vb] w (RVal w (.tuple #[.agg #[.bool false, .slice none 0 0, .slice none 0 0], .int .i64 20])) := by
  obtain ⟨na, A, m, c, A', m', c', n, d, rfl, hn, hd, hp⟩ := ha.parts
  obtain ⟨nb, B, i, j, B', i', j', s, t, rfl, hs, ht, hq⟩ := hb.parts
  have SG := fun w1 hB => signf_v (w := w1) (hb.below hB) hl
  rw [rsgn_zero] at SG
  have RR := Lib.hid SG
  have R0 := Lib.hid (Fcl.new3 w (.cells #[.bool na, .slice A m c, .slice A' m' c'] 25) (.cells #[.bool nb, .slice B i j, .slice B' i' j'] 25) false (.slice none 0 0) (.slice none 0 0))
  have hB0 := below_alloc3 w (.cells #[.bool na, .slice A m c, .slice A' m' c'] 25) (.cells #[.bool nb, .slice B i j, .slice B' i' j'] 25) (.cells #[.bool false, .slice none 0 0, .slice none 0 0] 25)
  clear SG hn hd hp hs ht hq ha hb
  go_enter Tryz.func9, Tryz.ntmps9
  go_wp2_with fail
  refine (RR.out _ hB0).mono ?_
  rintro e w1 ⟨rfl, hB1⟩
  have R1 := R0.out.below hB1
  have hB1 := below_then hB0 hB1
  obtain ⟨k0, k1, k2⟩ := R1.cells
  obtain ⟨f0, f1, f2⟩ := R1.frozen
  go_wp2_with fail
  refine bodyPost_ret (v := .tuple #[.agg #[.bool false, .slice none 0 0, .slice none 0 0], .int .i64 20]) (by rw [results_cell_tmp rfl]; go_simp) rfl ?_
  exact ⟨rfl, below_put3 hB1 (by omega) _ _ _⟩
theorem divf_v (ha : FracV w va p k) (hb : FracV w vb q l) (hk : k ≤ 100000) (hl : l ≤ 100000) (h1 : 2 ≤ k) (h0 : q ≠ 0) :
    Calls Tryz.prog 9 #[va, vb] w fun e w' => ∃ v, e = .returned (.tuple #[v, .int .i64 0]) ∧ CanF w' v (p / q) (k + l) ∧ Below w.heap.size w w' := by
  obtain ⟨na, A, m, c, A', m', c', n, d, rfl, hn, hd, hp⟩ := ha.parts
  obtain ⟨nb, B, i, j, B', i', j', s, t, rfl, hs, ht, hq⟩ := hb.parts
  have hst : ¬ (s = 0 ∨ t = 0) := fun e => h0 (by rw [← hq]; exact (fr_eq_zero nb s t).2 e)
  have hb2 : FracV w (.agg #[.bool nb, .slice B' i' j', .slice B i j]) q⁻¹ l := ⟨_, _, _, _, _, rfl, ht, hs, by rw [fr_inv nb (fun e => hst (.inl e)) (fun e => hst (.inr e)), hq]⟩
  have SG := fun w1 hB => signf_v (w := w1) (hb.below hB) (by omega)
  have hsg : ((rsgn q : Int) == 0) = false := by rw [beq_eq_false_iff_ne]; exact fun e => h0 (rsgn_eq_zero.1 e)
  have RR := Lib.hid SG
  have MU := fun w1 hB => mulf_v (w := w1) (ha.below hB) (hb2.below hB) hk hl h1
  rw [show p * q⁻¹ = p / q from (Rat.div_def p q).symm] at MU
  have MM := Lib.hid MU
  have S0 := Lib.hid ((((Fcl.new w na (.slice A m c) (.slice A' m' c')).alloc (.cells #[.bool nb, .slice B i j, .slice B' i' j'] 25))).alloc (.cells #[.bool false, .slice none 0 0, .slice none 0 0] 25))
  have S1 := Lib.hid ((Fcl.new2 w (.cells #[.bool na, .slice A m c, .slice A' m' c'] 25) nb (.slice B i j) (.slice B' i' j')).alloc (.cells #[.bool false, .slice none 0 0, .slice none 0 0] 25))
  have S2 := Lib.hid (Fcl.new3 w (.cells #[.bool na, .slice A m c, .slice A' m' c'] 25) (.cells #[.bool nb, .slice B i j, .slice B' i' j'] 25) false (.slice none 0 0) (.slice none 0 0))
  have hB0 := below_alloc3 w (.cells #[.bool na, .slice A m c, .slice A' m' c'] 25) (.cells #[.bool nb, .slice B i j, .slice B' i' j'] 25) (.cells #[.bool false, .slice none 0 0, .slice none 0 0] 25)
  clear SG MU hn hd hp hs ht hq ha hb hb2 h0 hst
  generalize rsgn q = sq at *
  go_enter Tryz.func9, Tryz.ntmps9
  go_wp2_with fail
  refine (RR.out _ hB0).mono ?_
  rintro e w1 ⟨rfl, hB1⟩
  have R0 := S0.out.below hB1
  have R1 := S1.out.below hB1
  have R2 := S2.out.below hB1
  have hB1 := below_then hB0 hB1
  obtain ⟨c0, c1, c2⟩ := R0.cells
  obtain ⟨d0, d1, d2⟩ := R1.cells
  obtain ⟨e0, e1, e2⟩ := R1.frozen
  have hB2 := (hB1.setCell (p := ⟨w.heap.size + 1, 1, none⟩) (Nat.le_succ _) (.slice B' i' j')).setCell (p := ⟨w.heap.size + 1, 2, none⟩) (Nat.le_succ _) (.slice B i j)
  have R3 := Lib.hid ((R2.set (a := ⟨w.heap.size + 1, 1, none⟩) (by show w.heap.size + 1 + 1 ≠ w.heap.size + 1; omega) (.slice B' i' j')).set (a := ⟨w.heap.size + 1, 2, none⟩) (by show w.heap.size + 1 + 1 ≠ w.heap.size + 1; omega) (.slice B i j))
  go_wp2_with fail
  refine (MM.out _ hB2).mono ?_
  rintro e w2 ⟨v, rfl, hv, hB3⟩
  have R4 := R3.out.below hB3
  have hB3 := below_then hB2 hB3
  obtain ⟨b, C, o, r, C', o', r', rfl, hb, hvx, hvy⟩ := hv.parts
  obtain ⟨k0, k1, k2⟩ := R4.cells
  obtain ⟨f0, f1, f2⟩ := R4.frozen
  clear c0 c1 c2 d0 d1 d2 e0 e1 e2
  go_wp2_with fail
  refine bodyPost_ret (v := .tuple #[.agg #[.bool b, .slice C o r, .slice C' o' r'], .int .i64 0]) (by rw [results_cell_tmp rfl]; go_simp) rfl ?_
  obtain ⟨v, e1, h1', h2'⟩ := (RCanF.stored (w := w) hb hvx hvy R4 hB3 (by omega) (.bool b))
  cases e1
  exact ⟨_, rfl, h1', h2'⟩

set_option maxHeartbeats 4000000 in
theorem cmpf_v (ha : FracV w va p k) (hb : FracV w vb q l) (hk : k ≤ 100000) (hl : l ≤ 100000) : Calls Tryz.prog 16 #[va, vb] w (RVal w (.int .i64 (rcmp p q))) := by
  have S1 := fun w1 hB => signf_v (w := w1) (ha.below hB) (by omega)
  have S2 := fun w1 hB => signf_v (w := w1) (hb.below hB) (by omega)
  obtain ⟨na, A, m, c, A', m', c', n, d, rfl, hn, hd, hp⟩ := ha.parts
  obtain ⟨nb, B, i, j, B', i', j', s, t, rfl, hs, ht, hq⟩ := hb.parts
  obtain ⟨w2, g0, g1, ew, eg0, eg1, hB0, hF0, hF1⟩ : ∃ w2 g0 g1, (w.alloc (.cells #[.bool na, .slice A m c, .slice A' m' c'] 25)).alloc (.cells #[.bool nb, .slice B i j, .slice B' i' j'] 25) = w2 ∧ w.heap.size = g0 ∧ g0 + 1 = g1 ∧ Below w.heap.size w w2 ∧ Fcl w2 g0 na (.slice A m c) (.slice A' m' c') ∧ Fcl w2 g1 nb (.slice B i j) (.slice B' i' j') :=
    ⟨_, _, _, rfl, rfl, rfl, below_alloc2 w _ _, (Fcl.new w _ _ _).alloc _, Fcl.new2 w _ _ _ _⟩
  have HS1 := Lib.hid S1
  have HS2 := Lib.hid S2
  obtain ⟨c0, c1, c2⟩ := hF0.cells
  obtain ⟨d0, d1, d2⟩ := hF1.cells
  clear S1 S2
  by_cases hsg : rsgn p = rsgn q
  · have CA := rcmp_across na nb (n := n) (d := d) (s := s) (t := t) (by rw [hp, hq]; exact hsg)
    rw [hp, hq] at CA
    have CS := compare_same (rsgn q)
    have HCA := Lib.hid CA
    have M1 := Lib.hid (fun w1 hB => mul_w (w := w1) (hn.below hB) (ht.below hB) (by omega) (by omega))
    have M2 := Lib.hid (fun w1 hB => mul_w (w := w1) (hs.below hB) (hd.below hB) (by omega) (by omega))
    have CM := Lib.hid (fun w1 x y (hx : Can w1 x (n * t) (k + l)) (hy : Can w1 y (s * d) (l + k)) => cmp_v (w := w1) hx.numV hy.numV)
    have hrb : -1 ≤ rsgn q ∧ rsgn q ≤ 1 := by
      rcases rsgn_cases q with ⟨_, e⟩ | ⟨_, e⟩ | ⟨_, e⟩ <;> rw [e] <;> omega
    have hcb := cmpI_bd (n * t) (s * d)
    rw [hsg] at HS1 HCA
    generalize rsgn q = sq at *
    clear hn hd hs ht hp hq ha hb CA hsg
    go_enter Tryz.func16, Tryz.ntmps16
    go_wp2_with fail
    refine (HS1.out _ hB0).mono ?_
    rintro e w3 ⟨rfl, hB3⟩
    have hF0 := hF0.below hB3
    have hF1 := hF1.below hB3
    have hB0 := below_then hB0 hB3
    clear c0 c1 c2 d0 d1 d2
    obtain ⟨d0, d1, d2⟩ := hF1.cells
    go_wp2_with fail
    refine (HS2.out _ hB0).mono ?_
    rintro e w4 ⟨rfl, hB4⟩
    have hF0 := hF0.below hB4
    have hF1 := hF1.below hB4
    have hB0 := below_then hB0 hB4
    go_wp2_with fail
    refine (Tryz.cmp_Compare_int sq sq w4).mono ?_
    rintro e w5 ⟨rfl, rfl⟩
    rw [CS]
    have hK : Below w5.heap.size w5 w5 := Below.refl _ _
    have hS0 := conj_rr hF0 hF1
    clear d0 d1 d2 CS
    go_wp2_with fail
    go_region_held3 (fun w' => w'.cell? ⟨g0, 0, none⟩ = some (.bool na) ∧ w'.cell? ⟨g0, 1, none⟩ = some (.slice A m c) ∧ w'.cell? ⟨g0, 2, none⟩ = some (.slice A' m' c') ∧ w'.cell? ⟨g1, 0, none⟩ = some (.bool nb) ∧ w'.cell? ⟨g1, 1, none⟩ = some (.slice B i j) ∧ w'.cell? ⟨g1, 2, none⟩ = some (.slice B' i' j')) (first | with_reducible exact conj_rr hF0 hF1 | with_reducible exact conj_rr (hF0.below hK) (hF1.below hK) | exact hS0) (first | (go_at_call_of 49 (Value.slice A m c); refine (M1.out _ hB0.drew).mono ?_; rintro e w6 ⟨x, rfl, hx, _, hB6⟩; have hK := below_undrew hB6) | (go_at_call_of 49 (Value.slice A' m' c'); refine (M2.out _ (below_then hB0 hK)).mono ?_; rintro e w7 ⟨y, rfl, hy, _, hB7⟩; have hK := below_then hK hB7) | (go_at_call 48; refine (CM.out _ _ _ (hx.below hB7) hy).mono ?_; rintro e w8 ⟨rfl, hB8⟩; have hK := below_then hK hB8))
    go_wp2_with fail
    go_ret
    exact ⟨ret_eq (show Value.int .i64 (IntKind.i64.wrap (sq * cmpI (n * t) (s * d))) = _ by rw [wrap_sign hrb hcb, HCA.out]), below_then hB0 hK⟩
  · obtain ⟨CS, CN⟩ := rcmp_signs hsg
    have hne : ((Lib.compareInt (rsgn p) (rsgn q) : Int) != 0) = true := by rw [bne_iff_ne]; exact CN
    rw [CS]
    have CC := Lib.hid (fun w1 => Tryz.cmp_Compare_int (rsgn p) (rsgn q) w1)
    generalize Lib.compareInt (rsgn p) (rsgn q) = z at *
    generalize rsgn p = sp at *
    generalize rsgn q = sq at *
    clear hn hd hs ht hp hq ha hb CS CN hsg
    go_enter Tryz.func16, Tryz.ntmps16
    go_wp2_with fail
    refine (HS1.out _ hB0).mono ?_
    rintro e w3 ⟨rfl, hB3⟩
    have hF1 := hF1.below hB3
    have hB0 := below_then hB0 hB3
    clear c0 c1 c2 d0 d1 d2
    obtain ⟨d0, d1, d2⟩ := hF1.cells
    go_wp2_with fail
    refine (HS2.out _ hB0).mono ?_
    rintro e w4 ⟨rfl, hB4⟩
    have hB0 := below_then hB0 hB4
    go_wp2_with fail
    refine (CC.out w4).mono ?_
    rintro e w5 ⟨rfl, rfl⟩
    go_wp2_with fail
    go_ret
    exact ⟨rfl, hB0⟩
end
end Go.Proofs.YtgjhgpfjeoeojaaGreatDoor

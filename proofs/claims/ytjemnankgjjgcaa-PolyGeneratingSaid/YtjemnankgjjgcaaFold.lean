/- The contracts of fold, Sum and Product of package rational: lists by halves. -/
import Derived.Test.YtjemnankgjjgcaaPlyb
import Derived.Test.YtjemnankgjjgcaaRatD
namespace Go.Proofs.Ytjemnankgjjgcaa
open Go.RowKit Dig
set_option linter.unusedVariables false

/-- Digits of what a fold over n elements makes. -/
def fbd (k n : Nat) : Nat := if n = 0 then 2 else (k + 1) * n - 1
theorem fbd_zero (k : Nat) : fbd k 0 = 2 := rfl
theorem fbd_one (k : Nat) : fbd k 1 = k := by simp [fbd]
theorem fbd_split {k n h : Nat} (h0 : 0 < h) (h1 : h < n) : fbd k h + fbd k (n - h) + 1 = fbd k n := by
  unfold fbd
  rw [if_neg (by omega), if_neg (by omega), if_neg (by omega)]
  have e : (k + 1) * n = (k + 1) * h + (k + 1) * (n - h) := by rw [← Nat.mul_add]; congr 1; omega
  have h2 : 1 ≤ (k + 1) * h := Nat.mul_pos (by omega) h0
  have h3 : 1 ≤ (k + 1) * (n - h) := Nat.mul_pos (by omega) (by omega)
  omega
theorem fbd_le {k n : Nat} : fbd k n ≤ (k + 1) * n + 2 := by
  unfold fbd
  split <;> omega
theorem fbd_ge {k n : Nat} (hk : 2 ≤ k) : 2 ≤ fbd k n := by
  unfold fbd
  split
  · omega
  · rename_i h
    have : (k + 1) * 1 ≤ (k + 1) * n := Nat.mul_le_mul_left _ (by omega)
    omega
theorem fbd_mono {k m n : Nat} (h : m ≤ n) (hk : 2 ≤ k) : fbd k m ≤ fbd k n := by
  unfold fbd
  split
  · split
    · omega
    · have : (k + 1) * 1 ≤ (k + 1) * n := Nat.mul_le_mul_left _ (by omega)
      omega
  · rw [if_neg (by omega)]
    have := Nat.mul_le_mul_left (k + 1) h
    omega
namespace Dig
theorem list_zero {α : Type} {l : List α} (h : l.length = 0) : l = [] := List.eq_nil_of_length_eq_zero h
theorem cf_one {l : List Rat} (h : l.length = 1) : l = [cf l 0] := by
  match l, h with
  | [a], _ => rfl
end Dig
section
variable {k : Nat}
set_option maxHeartbeats 8000000 in
theorem fold_add (h2 : 2 ≤ k) : ∀ (n : Nat) (w : World) (v ve : Value) (qs : List Rat), qs.length = n → Fls (FV k) w v qs → CanF w ve 0 2 → fbd k n ≤ 50000 → n ≤ 1000000 →
    Calls Try.prog 73 #[v, ve, .func (.func 40) #[] #[]] w (RCanF w (lsum qs) (fbd k n)) := by
  intro n
  induction n using Nat.strongRecOn with
  | _ n ih =>
    intro w v ve qs hn hF he hb hn2
    obtain ⟨A, c, rfl⟩ := hF.form
    obtain ⟨_, hc, hm⟩ := hF.lens
    rw [hn] at hF hc ⊢
    obtain ⟨nb, B, i, x, B', i', x', rfl, hnb, hex, hey⟩ := he.parts
    obtain ⟨w0, g0, g1, ew, eg0, eg1, hB0, hF0, hF1⟩ := two_boxes w nb (.slice B i x) (.slice B' i' x')
    have hF := Fls.below hF (keeps_FV k) hB0
    have hG : w.heap.size ≤ g1 := by omega
    have hne : g0 ≠ g1 := by omega
    rcases Nat.eq_zero_or_pos n with h0 | h0
    · subst h0
      have E : lsum qs = 0 := by rw [list_zero hn]; rfl
      rw [E, fbd_zero]
      have HX := Lib.hid (hex.below hB0)
      have HY := Lib.hid (hey.below hB0)
      obtain ⟨c0, c1, c2⟩ := hF0.cells
      obtain ⟨f0, f1, f2⟩ := hF1.frozen
      obtain ⟨k0, k1, k2⟩ := hF1.cells
      clear hF he hex hey hn E ih
      go_enter Try.func73, Try.ntmps73
      go_wp2_with fail
      refine bodyPost_ret (v := .agg #[.bool nb, .slice B i x, .slice B' i' x']) (by rw [results_one rfl]; go_simp) rfl ?_
      exact RCanF.stored hnb HX.out HY.out hF1 hB0 hG _
    · rcases Nat.eq_or_lt_of_le (show 1 ≤ n from h0) with h1 | h1
      · subst h1
        have E : lsum qs = cf qs 0 := by
          have := cf_one hn
          generalize cf qs 0 = a at *
          rw [this]
          simp only [lsum]
          grind
        rw [E, fbd_one] at *
        obtain ⟨b, off, rfl, hbb, hcell⟩ := hF.cells (by omega)
        obtain ⟨tb, X, xm, xc, Y, ym, yc, c0, c1, c2, hv⟩ := hcell 0 (by omega)
        have NF := Lib.hid (fun w1 (hr : Below w0.heap.size w0 w1) => normf_v (w := w1) (FracV.below hv hr) (by omega) h2)
        rw [Nat.zero_mul, Nat.add_zero] at c0 c1 c2
        clear hF he hex hey hn E ih hcell hv
        go_enter Try.func73, Try.ntmps73
        go_wp2_with fail
        refine (NF.out _ (Below.refl _ _)).mono ?_
        rintro e w5 ⟨u, rfl, hu, hB5⟩
        obtain ⟨b', C, o, r, C', o', r', rfl, hb', hvx, hvy⟩ := hu.parts
        have hF1 := hF1.below hB5
        have hB5 := below_then hB0 hB5
        obtain ⟨f0, f1, f2⟩ := hF1.frozen
        obtain ⟨k0, k1, k2⟩ := hF1.cells
        clear c0 c1 c2
        go_wp2_with fail
        refine bodyPost_ret (v := .agg #[.bool b', .slice C o r, .slice C' o' r']) (by rw [results_one rfl]; go_simp) rfl ?_
        exact RCanF.stored hb' hvx hvy hF1 hB5 hG _
      · obtain ⟨b, off, rfl, hbb, _⟩ := hF.cells (by omega)
        obtain ⟨h, hh⟩ : ∃ h, n / 2 = h := ⟨_, rfl⟩
        have HQ := Lib.hid (show (n : Int) / 2 = (h : Int) by omega)
        have hh1 : 0 < h := by omega
        have hh2 : h < n := by omega
        have hs := fbd_split (k := k) hh1 hh2
        have he := CanF.below he hB0
        have hT := Fls.take (n := h) (by rw [hn]; exact hF) (by omega)
        have hD := Fls.drop (n := h) (by rw [hn]; exact hF) (by omega)
        rw [hn] at hD
        have e1 := fbd_ge (k := k) (n := h) h2
        have e2 := fbd_ge (k := k) (n := n - h) h2
        have L1 := Lib.hid (fun w1 (hr : Below w0.heap.size w0 w1) => ih h hh2 w1 _ _ (qs.take h) (by rw [List.length_take]; omega) (Fls.below hT (keeps_FV k) hr) (CanF.below he hr) (by omega) (by omega))
        have L2 := Lib.hid (fun w1 (hr : Below w0.heap.size w0 w1) => ih (n - h) (by omega) w1 _ _ (qs.drop h) (by rw [List.length_drop]; omega) (Fls.below hD (keeps_FV k) hr) (CanF.below he hr) (by omega) (by omega))
        have hsum : lsum (qs.take h) + lsum (qs.drop h) = lsum qs := by rw [← lsum_append, List.take_append_drop]
        have CO := fun w1 x y (hx : ∃ w2, CanF w2 x (lsum (qs.take h)) (fbd k h) ∧ Below w2.heap.size w2 w1) (hy : CanF w1 y (lsum (qs.drop h)) (fbd k (n - h))) => addf_v (w := w1) (hx.elim fun w2 h => (h.1.below h.2).fracV) hy.fracV (by omega) (by omega) (by omega) (by omega)
        rw [hsum] at CO
        have HC := Lib.hid (fun w1 x y hx hy => (CO w1 x y hx hy).mono fun e w' hr => hr.le (show fbd k h + fbd k (n - h) + 1 ≤ fbd k n by omega))
        have hK : Below w0.heap.size w0 w0 := Below.refl _ _
        have S0 := Lib.hid (fun w1 (hr : Below w0.heap.size w0 w1) => conj_r (hF0.below hr))
        have S1 := Lib.hid (fun w1 (hr : Below w0.heap.size w0 w1) a b c => conj_r ((hF0.below hr).far hne a b c))
        clear hF he hex hey hn ih hT hD hsum CO hh e1 e2 hs hb
        go_enter Try.func73, Try.ntmps73
        have i0 : ((n : Int) == 0) = false := by rw [beq_eq_false_iff_ne]; omega
        have i1 : ((n : Int) == 1) = false := by rw [beq_eq_false_iff_ne]; omega
        go_wp2_with fail
        rw [HQ.out]
        have q0 : (0 : Int) ≤ (h : Int) := by omega
        have q1 : (h : Int) ≤ (n : Int) := by omega
        have q2 : (h : Int) ≤ (c : Int) := by omega
        have q3 : (n : Int) ≤ (c : Int) := by omega
        clear i0 i1
        go_region_held3 (fun w' => w'.cell? ⟨g0, 0, none⟩ = some (.bool nb) ∧ w'.cell? ⟨g0, 1, none⟩ = some (.slice B i x) ∧ w'.cell? ⟨g0, 2, none⟩ = some (.slice B' i' x')) (first | with_reducible exact S0.out _ hK | exact S0.out _ hK.drew | exact S1.out _ hK _ _ _) (first | (go_at_call_of 73 (Value.slice (some (⟨b, off, none⟩ : Addr)) h c); refine (L1.out _ hK.drew).mono ?_; rintro e w3 ⟨z, rfl, hz, hB3⟩; have hK := below_undrew hB3) | (go_at_call 73; refine (L2.out _ hK).mono ?_; rintro e w4 ⟨z2, rfl, hz2, hB4⟩; have hK := below_then hK hB4) | (go_at_call 40; refine (HC.out _ _ _ ⟨_, hz, hB4⟩ hz2).mono ?_; rintro e w5 ⟨v, rfl, hv, hB5⟩; obtain ⟨b', D, o, f, D', o', f', rfl, hb, hvx, hvy⟩ := hv.parts; have hK := below_then hK hB5; obtain ⟨k0, k1, k2⟩ := (hF1.below hK).cells; obtain ⟨f0, f1, f2⟩ := (hF1.below hK).frozen))
        go_wp2_with fail
        refine bodyPost_ret (v := .agg #[.bool b', .slice D o f, .slice D' o' f']) (by rw [results_one rfl]; go_simp) rfl ?_
        exact RCanF.stored hb hvx hvy (hF1.below hK) (below_then hB0 hK) hG _
set_option maxHeartbeats 8000000 in
theorem fold_mul (h2 : 2 ≤ k) : ∀ (n : Nat) (w : World) (v ve : Value) (qs : List Rat), qs.length = n → Fls (FV k) w v qs → CanF w ve 1 2 → fbd k n ≤ 50000 → n ≤ 1000000 →
    Calls Try.prog 73 #[v, ve, .func (.func 39) #[] #[]] w (RCanF w (lprod qs) (fbd k n)) := by
  intro n
  induction n using Nat.strongRecOn with
  | _ n ih =>
    intro w v ve qs hn hF he hb hn2
    obtain ⟨A, c, rfl⟩ := hF.form
    obtain ⟨_, hc, hm⟩ := hF.lens
    rw [hn] at hF hc ⊢
    obtain ⟨nb, B, i, x, B', i', x', rfl, hnb, hex, hey⟩ := he.parts
    obtain ⟨w0, g0, g1, ew, eg0, eg1, hB0, hF0, hF1⟩ := two_boxes w nb (.slice B i x) (.slice B' i' x')
    have hF := Fls.below hF (keeps_FV k) hB0
    have hG : w.heap.size ≤ g1 := by omega
    have hne : g0 ≠ g1 := by omega
    rcases Nat.eq_zero_or_pos n with h0 | h0
    · subst h0
      have E : lprod qs = 1 := by rw [list_zero hn]; rfl
      rw [E, fbd_zero]
      have HX := Lib.hid (hex.below hB0)
      have HY := Lib.hid (hey.below hB0)
      obtain ⟨c0, c1, c2⟩ := hF0.cells
      obtain ⟨f0, f1, f2⟩ := hF1.frozen
      obtain ⟨k0, k1, k2⟩ := hF1.cells
      clear hF he hex hey hn E ih
      go_enter Try.func73, Try.ntmps73
      go_wp2_with fail
      refine bodyPost_ret (v := .agg #[.bool nb, .slice B i x, .slice B' i' x']) (by rw [results_one rfl]; go_simp) rfl ?_
      exact RCanF.stored hnb HX.out HY.out hF1 hB0 hG _
    · rcases Nat.eq_or_lt_of_le (show 1 ≤ n from h0) with h1 | h1
      · subst h1
        have E : lprod qs = cf qs 0 := by
          have := cf_one hn
          generalize cf qs 0 = a at *
          rw [this]
          simp only [lprod]
          grind
        rw [E, fbd_one] at *
        obtain ⟨b, off, rfl, hbb, hcell⟩ := hF.cells (by omega)
        obtain ⟨tb, X, xm, xc, Y, ym, yc, c0, c1, c2, hv⟩ := hcell 0 (by omega)
        have NF := Lib.hid (fun w1 (hr : Below w0.heap.size w0 w1) => normf_v (w := w1) (FracV.below hv hr) (by omega) h2)
        rw [Nat.zero_mul, Nat.add_zero] at c0 c1 c2
        clear hF he hex hey hn E ih hcell hv
        go_enter Try.func73, Try.ntmps73
        go_wp2_with fail
        refine (NF.out _ (Below.refl _ _)).mono ?_
        rintro e w5 ⟨u, rfl, hu, hB5⟩
        obtain ⟨b', C, o, r, C', o', r', rfl, hb', hvx, hvy⟩ := hu.parts
        have hF1 := hF1.below hB5
        have hB5 := below_then hB0 hB5
        obtain ⟨f0, f1, f2⟩ := hF1.frozen
        obtain ⟨k0, k1, k2⟩ := hF1.cells
        clear c0 c1 c2
        go_wp2_with fail
        refine bodyPost_ret (v := .agg #[.bool b', .slice C o r, .slice C' o' r']) (by rw [results_one rfl]; go_simp) rfl ?_
        exact RCanF.stored hb' hvx hvy hF1 hB5 hG _
      · obtain ⟨b, off, rfl, hbb, _⟩ := hF.cells (by omega)
        obtain ⟨h, hh⟩ : ∃ h, n / 2 = h := ⟨_, rfl⟩
        have HQ := Lib.hid (show (n : Int) / 2 = (h : Int) by omega)
        have hh1 : 0 < h := by omega
        have hh2 : h < n := by omega
        have hs := fbd_split (k := k) hh1 hh2
        have he := CanF.below he hB0
        have hT := Fls.take (n := h) (by rw [hn]; exact hF) (by omega)
        have hD := Fls.drop (n := h) (by rw [hn]; exact hF) (by omega)
        rw [hn] at hD
        have e1 := fbd_ge (k := k) (n := h) h2
        have e2 := fbd_ge (k := k) (n := n - h) h2
        have L1 := Lib.hid (fun w1 (hr : Below w0.heap.size w0 w1) => ih h hh2 w1 _ _ (qs.take h) (by rw [List.length_take]; omega) (Fls.below hT (keeps_FV k) hr) (CanF.below he hr) (by omega) (by omega))
        have L2 := Lib.hid (fun w1 (hr : Below w0.heap.size w0 w1) => ih (n - h) (by omega) w1 _ _ (qs.drop h) (by rw [List.length_drop]; omega) (Fls.below hD (keeps_FV k) hr) (CanF.below he hr) (by omega) (by omega))
        have hsum : lprod (qs.take h) * lprod (qs.drop h) = lprod qs := by rw [← lprod_append, List.take_append_drop]
        have CO := fun w1 x y (hx : ∃ w2, CanF w2 x (lprod (qs.take h)) (fbd k h) ∧ Below w2.heap.size w2 w1) (hy : CanF w1 y (lprod (qs.drop h)) (fbd k (n - h))) => mulf_v (w := w1) (hx.elim fun w2 h => (h.1.below h.2).fracV) hy.fracV (by omega) (by omega) (by omega)
        rw [hsum] at CO
        have HC := Lib.hid (fun w1 x y hx hy => (CO w1 x y hx hy).mono fun e w' hr => hr.le (show fbd k h + fbd k (n - h) ≤ fbd k n by omega))
        have hK : Below w0.heap.size w0 w0 := Below.refl _ _
        have S0 := Lib.hid (fun w1 (hr : Below w0.heap.size w0 w1) => conj_r (hF0.below hr))
        have S1 := Lib.hid (fun w1 (hr : Below w0.heap.size w0 w1) a b c => conj_r ((hF0.below hr).far hne a b c))
        clear hF he hex hey hn ih hT hD hsum CO hh e1 e2 hs hb
        go_enter Try.func73, Try.ntmps73
        have i0 : ((n : Int) == 0) = false := by rw [beq_eq_false_iff_ne]; omega
        have i1 : ((n : Int) == 1) = false := by rw [beq_eq_false_iff_ne]; omega
        go_wp2_with fail
        rw [HQ.out]
        have q0 : (0 : Int) ≤ (h : Int) := by omega
        have q1 : (h : Int) ≤ (n : Int) := by omega
        have q2 : (h : Int) ≤ (c : Int) := by omega
        have q3 : (n : Int) ≤ (c : Int) := by omega
        clear i0 i1
        go_region_held3 (fun w' => w'.cell? ⟨g0, 0, none⟩ = some (.bool nb) ∧ w'.cell? ⟨g0, 1, none⟩ = some (.slice B i x) ∧ w'.cell? ⟨g0, 2, none⟩ = some (.slice B' i' x')) (first | with_reducible exact S0.out _ hK | exact S0.out _ hK.drew | exact S1.out _ hK _ _ _) (first | (go_at_call_of 73 (Value.slice (some (⟨b, off, none⟩ : Addr)) h c); refine (L1.out _ hK.drew).mono ?_; rintro e w3 ⟨z, rfl, hz, hB3⟩; have hK := below_undrew hB3) | (go_at_call 73; refine (L2.out _ hK).mono ?_; rintro e w4 ⟨z2, rfl, hz2, hB4⟩; have hK := below_then hK hB4) | (go_at_call 39; refine (HC.out _ _ _ ⟨_, hz, hB4⟩ hz2).mono ?_; rintro e w5 ⟨v, rfl, hv, hB5⟩; obtain ⟨b', D, o, f, D', o', f', rfl, hb, hvx, hvy⟩ := hv.parts; have hK := below_then hK hB5; obtain ⟨k0, k1, k2⟩ := (hF1.below hK).cells; obtain ⟨f0, f1, f2⟩ := (hF1.below hK).frozen))
        go_wp2_with fail
        refine bodyPost_ret (v := .agg #[.bool b', .slice D o f, .slice D' o' f']) (by rw [results_one rfl]; go_simp) rfl ?_
        exact RCanF.stored hb hvx hvy (hF1.below hK) (below_then hB0 hK) hG _
set_option maxHeartbeats 2000000 in
theorem sum_r {w : World} {v : Value} {qs : List Rat} (h2 : 2 ≤ k) (hF : Fls (FV k) w v qs) (hb : fbd k qs.length ≤ 50000) (hn : qs.length ≤ 1000000) : Calls Try.prog 44 #[v] w (RCanF w (lsum qs) (fbd k qs.length)) := by
  obtain ⟨A, c, rfl⟩ := hF.form
  have R0 := Lib.hid (Fcl.new w false (.slice none 0 0) (.slice none 0 0))
  have hB0 : Below w.heap.size w (w.alloc (.cells #[.bool false, .slice none 0 0, .slice none 0 0] 29)) := (Below.refl _ _).alloc (Nat.le_refl _) _
  have I := fun w1 => integer_v w1 0 (by omega)
  rw [show ((0 : Nat) : Int) = 0 from rfl, show fr false 0 1 = (0 : Rat) from fr_zero _ _] at I
  have IN := Lib.hid I
  have FO := Lib.hid (fun w1 ve (hr : Below w.heap.size w w1) (he : CanF w1 ve 0 2) => fold_add h2 qs.length w1 _ ve qs rfl (Fls.below hF (keeps_FV k) hr) he hb hn)
  clear I hF
  generalize qs.length = n at *
  go_enter Try.func44, Try.ntmps44
  go_wp2_with fail
  refine (IN.out _).mono ?_
  rintro e w3 ⟨x, rfl, hx, hB3⟩
  have hB3' := below_then hB0 hB3
  go_wp2_with fail
  refine (FO.out _ _ hB3' hx).mono ?_
  rintro e w5 ⟨u, rfl, hu, hB5⟩
  obtain ⟨b', C, o, r, C', o', r', rfl, hb', hvx, hvy⟩ := hu.parts
  have hF1 := (R0.out.below hB3).below hB5
  have hB5 := below_then hB3' hB5
  obtain ⟨f0, f1, f2⟩ := hF1.frozen
  obtain ⟨k0, k1, k2⟩ := hF1.cells
  go_wp2_with fail
  refine bodyPost_ret (v := .agg #[.bool b', .slice C o r, .slice C' o' r']) (by rw [results_one rfl]; go_simp) rfl ?_
  exact RCanF.stored hb' hvx hvy hF1 hB5 (Nat.le_refl _) _
set_option maxHeartbeats 2000000 in
theorem product_r {w : World} {v : Value} {qs : List Rat} (h2 : 2 ≤ k) (hF : Fls (FV k) w v qs) (hb : fbd k qs.length ≤ 50000) (hn : qs.length ≤ 1000000) : Calls Try.prog 63 #[v] w (RCanF w (lprod qs) (fbd k qs.length)) := by
  obtain ⟨A, c, rfl⟩ := hF.form
  have R0 := Lib.hid (Fcl.new w false (.slice none 0 0) (.slice none 0 0))
  have hB0 : Below w.heap.size w (w.alloc (.cells #[.bool false, .slice none 0 0, .slice none 0 0] 29)) := (Below.refl _ _).alloc (Nat.le_refl _) _
  have I := fun w1 => integer_v w1 1 (by omega)
  rw [show ((1 : Nat) : Int) = 1 from rfl, show fr false 1 1 = (1 : Rat) from rfl] at I
  have IN := Lib.hid I
  have FO := Lib.hid (fun w1 ve (hr : Below w.heap.size w w1) (he : CanF w1 ve 1 2) => fold_mul h2 qs.length w1 _ ve qs rfl (Fls.below hF (keeps_FV k) hr) he hb hn)
  clear I hF
  generalize qs.length = n at *
  go_enter Try.func63, Try.ntmps63
  go_wp2_with fail
  refine (IN.out _).mono ?_
  rintro e w3 ⟨x, rfl, hx, hB3⟩
  have hB3' := below_then hB0 hB3
  go_wp2_with fail
  refine (FO.out _ _ hB3' hx).mono ?_
  rintro e w5 ⟨u, rfl, hu, hB5⟩
  obtain ⟨b', C, o, r, C', o', r', rfl, hb', hvx, hvy⟩ := hu.parts
  have hF1 := (R0.out.below hB3).below hB5
  have hB5 := below_then hB3' hB5
  obtain ⟨f0, f1, f2⟩ := hF1.frozen
  obtain ⟨k0, k1, k2⟩ := hF1.cells
  go_wp2_with fail
  refine bodyPost_ret (v := .agg #[.bool b', .slice C o r, .slice C' o' r']) (by rw [results_one rfl]; go_simp) rfl ?_
  exact RCanF.stored hb' hvx hvy hF1 hB5 (Nat.le_refl _) _
end
end Go.Proofs.Ytjemnankgjjgcaa

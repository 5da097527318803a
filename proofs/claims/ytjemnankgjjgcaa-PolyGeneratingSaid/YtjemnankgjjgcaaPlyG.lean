/- The contracts of Total, Mean, Prefix and Truncate of package poly. -/
import Derived.Test.YtjemnankgjjgcaaPlyd
import Derived.Test.YtjemnankgjjgcaaFold
namespace Go.Proofs.Ytjemnankgjjgcaa
open Go.RowKit Dig
set_option linter.unusedVariables false

theorem Ofl.readable {k base : Nat} {w : World} {v : Value} {qs : List Rat} (h : Ofl (CV k) base w v qs) : Fls (FV k) w v qs := h.fls.weaken fun v q _ h => CanF.fracV h
section
variable {w : World} {v : Value} {qs : List Rat} {k : Nat}
set_option maxHeartbeats 2000000 in
theorem total_p (h2 : 2 ≤ k) (hF : Fls (FV k) w v qs) (hb : fbd k qs.length ≤ 50000) (hn : qs.length ≤ 1000000) : Calls Try.prog 26 #[v] w (RCanF w (lsum qs) (fbd k qs.length)) := by
  have R0 := Lib.hid (Fcl.new w false (.slice none 0 0) (.slice none 0 0))
  have hB0 : Below w.heap.size w (w.alloc (.cells #[.bool false, .slice none 0 0, .slice none 0 0] 29)) := (Below.refl _ _).alloc (Nat.le_refl _) _
  have S := Lib.hid (sum_r h2 (Fls.below hF (keeps_FV k) hB0) hb hn)
  clear hF hb hn
  generalize fbd k qs.length = K at *
  go_enter Try.func26, Try.ntmps26
  go_wp2_with fail
  refine (S.out).mono ?_
  rintro e w5 ⟨u, rfl, hu, hB5⟩
  obtain ⟨b', C, o, r, C', o', r', rfl, hb', hvx, hvy⟩ := hu.parts
  have hF1 := R0.out.below hB5
  have hB5 := below_then hB0 hB5
  obtain ⟨f0, f1, f2⟩ := hF1.frozen
  obtain ⟨k0, k1, k2⟩ := hF1.cells
  go_wp2_with fail
  refine bodyPost_ret (v := .agg #[.bool b', .slice C o r, .slice C' o' r']) (by rw [results_one rfl]; go_simp) rfl ?_
  exact RCanF.stored hb' hvx hvy hF1 hB5 (Nat.le_refl _) _
set_option maxHeartbeats 2000000 in
theorem mean_p (h2 : 2 ≤ k) (hF : Fls (FV k) w v qs) (hk : k ≤ 100000) (hb : fbd (2 + k) (pder qs).length ≤ 50000) (hn : qs.length ≤ 1000000) : Calls Try.prog 28 #[v] w (RCanF w (lsum (pder qs)) (fbd (2 + k) (pder qs).length)) := by
  have R0 := Lib.hid (Fcl.new w false (.slice none 0 0) (.slice none 0 0))
  have hB0 : Below w.heap.size w (w.alloc (.cells #[.bool false, .slice none 0 0, .slice none 0 0] 29)) := (Below.refl _ _).alloc (Nat.le_refl _) _
  have D := Lib.hid (derivative_p (Fls.below hF (keeps_FV k) hB0) hk h2 (by omega))
  have hl : (pder qs).length ≤ 1000000 := by
    have := tr_le (mk (qs.length - 1) (der (cf qs)))
    rw [mk_length] at this
    unfold pder
    omega
  have S := Lib.hid (fun w1 v1 (h : Ofl (CV (2 + k)) (w.alloc (.cells #[.bool false, .slice none 0 0, .slice none 0 0] 29)).heap.size w1 v1 (pder qs)) => total_p (by omega) h.readable hb hl)
  clear hF hb hn hl
  generalize fbd (2 + k) (pder qs).length = K at *
  go_enter Try.func28, Try.ntmps28
  go_wp2_with fail
  refine (D.out).mono ?_
  rintro e w4 ⟨x, rfl, hx, hB4⟩
  go_wp2_with fail
  refine (S.out _ _ hx).mono ?_
  rintro e w5 ⟨u, rfl, hu, hB5⟩
  obtain ⟨b', C, o, r, C', o', r', rfl, hb', hvx, hvy⟩ := hu.parts
  have hF1 := (R0.out.below hB4).below hB5
  have hB5 := below_then (below_then hB0 hB4) hB5
  obtain ⟨f0, f1, f2⟩ := hF1.frozen
  obtain ⟨k0, k1, k2⟩ := hF1.cells
  go_wp2_with fail
  refine bodyPost_ret (v := .agg #[.bool b', .slice C o r, .slice C' o' r']) (by rw [results_one rfl]; go_simp) rfl ?_
  exact RCanF.stored hb' hvx hvy hF1 hB5 (Nat.le_refl _) _
set_option maxHeartbeats 2000000 in
theorem prefix_p (h2 : 2 ≤ k) (hF : Fls (FV k) w v qs) (i : Int) (hi : -9223372036854775808 ≤ i) (hi2 : i ≤ 9223372036854775807) (hb : fbd k (qs.take i.toNat).length ≤ 50000) (hn : qs.length ≤ 1000000) :
    Calls Try.prog 33 #[v, .int .i64 i] w (RCanF w (lsum (qs.take i.toNat)) (fbd k (qs.take i.toNat).length)) := by
  have R0 := Lib.hid (Fcl.new w false (.slice none 0 0) (.slice none 0 0))
  have hB0 : Below w.heap.size w (w.alloc (.cells #[.bool false, .slice none 0 0, .slice none 0 0] 29)) := (Below.refl _ _).alloc (Nat.le_refl _) _
  have D := Lib.hid (first_p (Fls.below hF (keeps_FV k) hB0) (keeps_FV k) i hi hi2)
  have S := Lib.hid (fun w1 v1 (h : Fls (FV k) w1 v1 (qs.take i.toNat)) => sum_r h2 h hb (by rw [List.length_take]; omega))
  clear hF hb hn
  generalize fbd k (qs.take i.toNat).length = K at *
  go_enter Try.func33, Try.ntmps33
  go_wp2_with fail
  refine (D.out).mono ?_
  rintro e w4 ⟨x, rfl, hx, hB4⟩
  go_wp2_with fail
  refine (S.out _ _ hx).mono ?_
  rintro e w5 ⟨u, rfl, hu, hB5⟩
  obtain ⟨b', C, o, r, C', o', r', rfl, hb', hvx, hvy⟩ := hu.parts
  have hF1 := (R0.out.below hB4).below hB5
  have hB5 := below_then (below_then hB0 hB4) hB5
  obtain ⟨f0, f1, f2⟩ := hF1.frozen
  obtain ⟨k0, k1, k2⟩ := hF1.cells
  go_wp2_with fail
  refine bodyPost_ret (v := .agg #[.bool b', .slice C o r, .slice C' o' r']) (by rw [results_one rfl]; go_simp) rfl ?_
  exact RCanF.stored hb' hvx hvy hF1 hB5 (Nat.le_refl _) _
set_option maxHeartbeats 2000000 in
theorem truncate_p (h2 : 2 ≤ k) (hk : k ≤ 400000) (hF : Fls (FV k) w v qs) (i : Int) (hi : -9223372036854775808 ≤ i) (hi2 : i ≤ 9223372036854775807) (hn : qs.length ≤ 1000000) :
    Calls Try.prog 32 #[v, .int .i64 i] w (RPol w (tr (qs.take i.toNat)) k) := by
  have D := Lib.hid (first_p hF (keeps_FV k) i hi hi2)
  have S := Lib.hid (fun w1 v1 (h : Fls (FV k) w1 v1 (qs.take i.toNat)) => normalize_p h hk h2 (by rw [List.length_take]; omega))
  clear hF hn
  go_enter Try.func32, Try.ntmps32
  go_wp2_with fail
  refine (D.out).mono ?_
  rintro e w4 ⟨x, rfl, hx, hB4⟩
  go_wp2_with fail
  refine (S.out _ _ hx).mono ?_
  rintro e w5 ⟨u, rfl, hu, hB5⟩
  have HU := Lib.hid (hu.mono hB4.size)
  have HB := Lib.hid (below_then hB4 hB5)
  clear hu
  go_wp2_with fail
  go_ret
  exact ⟨_, rfl, HU.out, HB.out⟩
end
end Go.Proofs.Ytjemnankgjjgcaa

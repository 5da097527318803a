/- The contracts of Add and Scale of package poly. -/
import Derived.Test.YtpmjhkpjhfpfpaaPlyB
namespace Go.Proofs.Ytpmjhkpjhfpfpaa
open Go.RowKit Dig
set_option linter.unusedVariables false

theorem Ofl.cut {E : World → Value → Rat → Prop} {base : Nat} {w : World} {A : Option Addr} {n c : Nat} {qs : List Rat} (h : Ofl E base w (.slice A n c) qs) : Ofl E base w (.slice A (tr qs).length c) (tr qs) := by
  rcases h with ⟨e, rfl⟩ | ⟨g, ts, e, hb, hF, hl, hm, hE⟩
  · simp only [Value.slice.injEq] at e
    obtain ⟨rfl, rfl, rfl⟩ := e
    exact .inl ⟨rfl, rfl⟩
  · simp only [Value.slice.injEq] at e
    obtain ⟨rfl, rfl, rfl⟩ := e
    have := tr_le qs
    refine .inr ⟨g, ts, rfl, hb, hF, by omega, hm, fun j hj => ?_⟩
    have h := hE j (by omega)
    have e : (tr qs).getD j 0 = qs.getD j 0 := cf_tr qs j
    rw [e]
    exact h
section
variable {w : World} {va vb : Value} {ps qs : List Rat} {k l : Nat}
set_option maxHeartbeats 4000000 in
theorem add_p (ha : Fls (FV k) w va ps) (hb : Fls (FV l) w vb qs) (hk : k ≤ 100000) (hl : l ≤ 100000) (h2 : 2 ≤ k) (h2' : 2 ≤ l) (hm : ps.length ≤ 1000000000) (hm' : qs.length ≤ 1000000000) :
    Calls Try.prog 15 #[va, vb] w (RPol w (padd ps qs) (k + l + 1)) := by
  obtain ⟨A, c, rfl⟩ := ha.form
  obtain ⟨B, d, rfl⟩ := hb.form
  have hN := Lib.hid (show max ps.length qs.length ≤ 1000000000 by omega)
  have AT1 := Lib.hid (fun w1 hB i (hi : i ≤ 9223372036854775807) => at_p (Fls.below (w' := w1) ha (keeps_FV k) hB) (reads_FV k) i hi)
  have AT2 := Lib.hid (fun w1 hB i (hi : i ≤ 9223372036854775807) => at_p (Fls.below (w' := w1) hb (keeps_FV l) hB) (reads_FV l) i hi)
  have TR := Lib.hid (fun w1 v (hv : Ofl (CV (k + l + 1)) w.heap.size w1 v (mk (max ps.length qs.length) fun i => cf ps i + cf qs i)) => trim_p hv.fls (keeps_CV (k + l + 1)) (reads_CV (k + l + 1)) (by omega))
  have ADD := Lib.hid (fun w1 x y p q (hx : FracV w1 x p k) (hy : FracV w1 y q l) => addf_v hx hy hk hl h2 h2')
  have HK := Lib.hid (keeps_CV (k + l + 1))
  have HM := Lib.hid (show max (ps.length : Int) (qs.length : Int) = ((max ps.length qs.length : Nat) : Int) by omega)
  clear ha hb hk hl h2 h2' hm hm'
  unfold padd
  generalize hF : (fun i => cf ps i + cf qs i) = F at *
  have HF := Lib.hid hF
  clear hF
  go_enter Try.func15, Try.ntmps15
  generalize max ps.length qs.length = n at *
  go_wp2_with (at_make; refine wp_make_f 24 (by kernel_rfl) rfl _ _ rfl _ _ n rfl rfl HM.out HM.out (by have := hN.out; omega) ?_; intro w2 hF2 hB2)
  have hI := Fill.start (base := w.heap.size) (E := CV (k + l + 1)) (f := F) hF2
  clear hF2
  generalize hg : w.heap.size = g at *
  have HG := Lib.hid hg
  go_loopw [15] (fun i wr => ∃ j : Nat, j ≤ n ∧ i = .int .i64 j ∧ Fill g (CV (k + l + 1)) wr g n j F ∧ Below g w wr) (fun i _ => n - (intOf i).toNat)
  case atStart => exact ⟨0, Nat.zero_le _, rfl, hI, hB2⟩
  case round =>
    obtain ⟨j, hj, rfl, hI, hB⟩ := hrel
    have FI := Lib.hid hI
    have hlt := hI.lt
    by_cases hjn : j < n
    · have HI : (j : Int) < n := by omega
      have hnn := hN.out
      clear hI
      go_wp2_with fail
      refine (AT1.out _ hB j (by have := hN.out; omega)).mono ?_
      rintro e w3 ⟨x, rfl, hx, hB3⟩
      have hBg : Below g w w3 := hB.trans (hB3.mono (Nat.le_of_lt hlt))
      go_wp2_with fail
      refine (AT2.out _ hBg j (by have := hN.out; omega)).mono ?_
      rintro e w4 ⟨y, rfl, hy, hB4⟩
      have hx := hx.below hB4
      have hB4 := below_then hB3 hB4
      go_wp2_with fail
      refine (ADD.out _ _ _ _ _ hx hy).mono ?_
      rintro e w5 ⟨u, rfl, hu, hB5⟩
      have hB5 := below_then hB4 hB5
      have hB := hB.trans (hB5.mono (Nat.le_of_lt hlt))
      obtain ⟨b', C, o, r, C', o', r', rfl, hb', hvx, hvy⟩ := hu.parts
      have hI := FI.out.below HK.out hB5
      obtain ⟨z0, z1, z2, e0, e1, e2⟩ := hI.cells hjn
      have f0 := hI.frozen (j * 3)
      have f1 := hI.frozen (j * 3 + 1)
      have f2 := hI.frozen (j * 3 + 2)
      have HS := Lib.hid (hI.set HK.out hjn (show CV (k + l + 1) w5 _ (F j) by rw [← HF.out]; exact CanF.ofParts hb' hvx hvy))
      clear hI hu hb' hvx hvy hx hy
      go_wp2_with fail
      go_roundw
      case rel => exact ⟨j + 1, by omega, by go_num, HS.out, below_stor3o hB (Nat.le_refl _) _ _ _ _⟩
      case measure => simp [intOf]; omega
    · have HI : ¬ (j : Int) < n := by omega
      obtain rfl : j = n := by omega
      have HD := Lib.hid (hI.done (Nat.le_refl _) (by have := hN.out; omega))
      clear hI
      go_wp2_with fail
      refine (TR.out _ _ HD.out).mono ?_
      rintro e w5 ⟨A', c', hA, rfl, hf, hB5⟩
      injection hA with hA1 hA2 hA3
      subst hA1
      subst hA3
      clear hA2
      have HB := Lib.hid (hB.trans (hB5.mono (Nat.le_of_lt hlt)))
      have HO := Lib.hid (HD.out.below HK.out hB5).cut
      clear hf
      go_wp2_with fail
      go_ret
      exact ⟨_, rfl, by rw [HG.out]; exact HO.out, by rw [HG.out]; exact HB.out⟩

set_option maxHeartbeats 4000000 in
theorem scale_p {q : Rat} (ha : Fls (FV k) w va ps) (hb : FracV w vb q l) (hk : k ≤ 100000) (hl : l ≤ 100000) (h2 : 2 ≤ l) (hm : ps.length ≤ 1000000000) :
    Calls Try.prog 19 #[va, vb] w (RPol w (pscale ps q) (l + k)) := by
  obtain ⟨A, c, rfl⟩ := ha.form
  obtain ⟨nb, B, i, x, B', i', x', s, t, rfl, hs, ht, hq⟩ := hb.parts
  have hB0 : Below w.heap.size w (w.alloc (.cells #[.bool nb, .slice B i x, .slice B' i' x'] 29)) := (Below.refl _ _).alloc (Nat.le_refl _) _
  have R0 := Fcl.new w nb (.slice B i x) (.slice B' i' x')
  have ha := Fls.below ha (keeps_FV k) hB0
  have hb := FracV.below hb hB0
  have HW0 := Lib.hid hB0
  have hg0 : w.heap.size ≤ (w.alloc (.cells #[.bool nb, .slice B i x, .slice B' i' x'] 29)).heap.size := hB0.size
  obtain ⟨w0, hw0⟩ : ∃ w0, w.alloc (.cells #[.bool nb, .slice B i x, .slice B' i' x'] 29) = w0 := ⟨_, rfl⟩
  rw [hw0] at hB0 R0 ha hb hg0
  have HE := Lib.hid hw0
  clear hw0
  have HA := Lib.hid (fun w1 hB => Fls.cells (w := w1) (n := ps.length) (Fls.below ha (keeps_FV k) hB))
  have RB := Lib.hid (fun w1 hB => Fcl.below (w' := w1) R0 hB)
  have MU := Lib.hid (fun w1 y p hB (hy : FracV w1 y p k) => mulf_v (w := w1) (hb.below hB) hy hl hk h2)
  have TR := Lib.hid (fun w1 v (hv : Ofl (CV (l + k)) w0.heap.size w1 v (mk ps.length fun i => q * cf ps i)) => trim_p hv.fls (keeps_CV (l + k)) (reads_CV (l + k)) (by omega))
  have HK := Lib.hid (keeps_CV (l + k))
  have hE : pscale ps q = tr (mk ps.length fun i => q * cf ps i) := by
    unfold pscale
    congr 1
    apply list_ext
    · rw [mk_length, List.length_map]
    · intro i hi
      rw [List.length_map] at hi
      rw [cf_map _ _ (by grind), cf_mk, if_pos hi]
  rw [hE]
  clear hE ha hb hs ht hq hk hl h2 hB0
  generalize hF : (fun i => q * cf ps i) = F at *
  have HF := Lib.hid hF
  clear hF
  generalize ps.length = n at *
  have HG0 := Lib.hid hg0
  have HM0 := Lib.hid hm
  clear R0 hg0 hm
  go_enter Try.func19, Try.ntmps19
  go_wp2_with (at_make; rw [HE.out]; refine wp_make_f 24 (by kernel_rfl) rfl _ _ rfl _ _ n rfl rfl rfl rfl (by have := HM0.out; omega) ?_; intro w2 hF2 hB2)
  have hI := Fill.start (base := w0.heap.size) (E := CV (l + k)) (f := F) hF2
  clear hF2
  generalize hg1 : w.heap.size = g0 at *
  generalize hg : w0.heap.size = g at *
  have HG := Lib.hid hg1
  clear hg hg1
  go_loopw [13] (fun i wr => ∃ j : Nat, j ≤ n ∧ i = .int .i64 j ∧ Fill g (CV (l + k)) wr g n j F ∧ Below g w0 wr) (fun i _ => n - (intOf i).toNat)
  case atStart => exact ⟨0, Nat.zero_le _, rfl, hI, hB2⟩
  case round =>
    obtain ⟨j, hj, rfl, hI, hB⟩ := hrel
    have FI := Lib.hid hI
    have hlt := hI.lt
    by_cases hjn : j < n
    · have HI : (j : Int) < n := by omega
      have hnn := HM0.out
      obtain ⟨b, off, rfl, hb, hcell⟩ := HA.out _ hB (by omega)
      obtain ⟨tb, X, xm, xc, Y, ym, yc, c0, c1, c2, hv⟩ := hcell j hjn
      have hA4 : Below wr.heap.size wr (wr.alloc (.cells #[.bool tb, .slice X xm xc, .slice Y ym yc] 29)) := (Below.refl _ _).alloc (Nat.le_refl _) _
      have R1 := Fcl.alloc (RB.out _ hB) (.cells #[.bool tb, .slice X xm xc, .slice Y ym yc] 29)
      obtain ⟨k0, k1, k2⟩ := R1.cells
      have M := Lib.hid (MU.out (wr.alloc (.cells #[.bool tb, .slice X xm xc, .slice Y ym yc] 29)) _ _ (hB.trans (hA4.mono (Nat.le_of_lt hlt))) (FracV.below hv hA4))
      clear hI hcell hv R1
      go_wp2_with fail
      refine (M.out).mono ?_
      rintro e w5 ⟨u, rfl, hu, hB5⟩
      have hB5 := below_new _ hB5
      have hB := hB.trans (hB5.mono (Nat.le_of_lt hlt))
      obtain ⟨b', C, o, r, C', o', r', rfl, hb', hvx, hvy⟩ := hu.parts
      have hI := FI.out.below HK.out hB5
      obtain ⟨z0, z1, z2, e0, e1, e2⟩ := hI.cells hjn
      have f0 := hI.frozen (j * 3)
      have f1 := hI.frozen (j * 3 + 1)
      have f2 := hI.frozen (j * 3 + 2)
      have HS := Lib.hid (hI.set HK.out hjn (show CV (l + k) w5 _ (F j) by rw [← HF.out]; exact CanF.ofParts hb' hvx hvy))
      clear hI hu hb' hvx hvy c0 c1 c2 k0 k1 k2
      go_wp2_with fail
      go_roundw
      case rel => exact ⟨j + 1, by omega, by go_num, HS.out, below_stor3o hB (Nat.le_refl _) _ _ _ _⟩
      case measure => simp [intOf]; omega
    · have HI : ¬ (j : Int) < n := by omega
      obtain rfl : j = n := by omega
      have HD := Lib.hid (hI.done (Nat.le_refl _) (by have := HM0.out; omega))
      clear hI
      go_wp2_with fail
      refine (TR.out _ _ HD.out).mono ?_
      rintro e w5 ⟨A', c', hA, rfl, hf, hB5⟩
      injection hA with hA1 hA2 hA3
      subst hA1
      subst hA3
      clear hA2
      have hB9 := hB.trans (hB5.mono (Nat.le_of_lt hlt))
      have HB := Lib.hid hB9
      have HO := Lib.hid ((HD.out.below HK.out hB5).cut.mono HG0.out)
      clear hf hB9
      go_wp2_with fail
      go_ret
      refine ⟨_, rfl, by rw [HG.out]; exact HO.out, ?_⟩
      rw [HG.out]
      exact HW0.out.trans (by rw [HE.out]; exact HB.out.mono HG0.out)
end
end Go.Proofs.Ytpmjhkpjhfpfpaa

/- The contracts of defined and Add of package rational. -/
import Derived.Deep.Cut
import Derived.Test.YtgjhgpfjeoeojaaDoorRatB
namespace Go.Proofs.YtgjhgpfjeoeojaaDoor
open Go.RowKit Dig
set_option linter.unusedVariables false

/-- v can be read as the number q, and its denominator is not 0. -/
def FracP (w : World) (v : Value) (q : Rat) (k : Nat) : Prop := ∃ neg A m c A' m' c' n d, v = .agg #[.bool neg, .slice A m c, .slice A' m' c'] ∧ NumV w (.slice A m c) n k ∧ NumV w (.slice A' m' c') d k ∧ d ≠ 0 ∧ fr neg n d = q
section
variable {w w' : World} {v : Value} {q : Rat} {k l : Nat}
theorem FracP.below (h : FracP w v q k) (hb : Below w.heap.size w w') : FracP w' v q k := by
  obtain ⟨neg, A, m, c, A', m', c', n, d, e, hn, hd, h0, hq⟩ := h
  exact ⟨neg, A, m, c, A', m', c', n, d, e, hn.below hb, hd.below hb, h0, hq⟩
theorem CanF.fracP (h : CanF w v q k) : FracP w v q k := by
  obtain ⟨b, A, m, c, A', m', c', e, hb, hx, hy⟩ := h.parts
  refine ⟨b, A, m, c, A', m', c', _, _, e, hx.numV, hy.numV, q.den_nz, ?_⟩
  rw [← hb]
  exact fr_self q

set_option maxHeartbeats 1000000 in
theorem defined_v (h : FracV w v q k) (hk : k ≤ 400000) (h1 : 2 ≤ k) : Calls Tryd.prog 35 #[v] w fun e w' => ∃ u, e = .returned u ∧ FracP w' u q k ∧ Below w.heap.size w w' := by
  obtain ⟨neg, A, m, c, A', m', c', n, d, rfl, hn, hd, hq⟩ := h.parts
  have R0 := Lib.hid (Fcl.new2 w (.cells #[.bool neg, .slice A m c, .slice A' m' c'] 25) false (.slice none 0 0) (.slice none 0 0))
  have S0 := Lib.hid ((Fcl.new w neg (.slice A m c) (.slice A' m' c')).alloc (.cells #[.bool false, .slice none 0 0, .slice none 0 0] 25))
  have hB0 := below_alloc2 w (.cells #[.bool neg, .slice A m c, .slice A' m' c'] 25) (.cells #[.bool false, .slice none 0 0, .slice none 0 0] 25)
  have HN := Lib.hid (fun w1 hB => NumV.below (w' := w1) hn hB)
  have HD := Lib.hid (fun w1 hB => NumV.below (w' := w1) hd hB)
  have HQ := Lib.hid hq
  rcases Nat.eq_zero_or_pos d with hz | hz
  · subst hz
    rw [fr_den] at hq
    have ZT := Lib.hid (fun w1 hB => isZero_t (w := w1) (hd.below hB) (by omega))
    have IN := Lib.hid (fun w1 => integer_v w1 0 (by omega))
    rw [fr_zero, hq] at IN
    clear hn hd hq h
    go_enter Tryd.func35, Tryd.ntmps35
    go_wp2_with fail
    refine (ZT.out _ hB0).mono ?_
    rintro e w1 ⟨rfl, hB1⟩
    have R1 := R0.out.below hB1
    have hB1 := below_then hB0 hB1
    go_wp2_with fail
    refine (IN.out _).mono ?_
    rintro e w2 ⟨v, rfl, hv, hB2⟩
    have R2 := R1.below hB2
    have hB2 := below_then hB1 hB2
    obtain ⟨b, B, i, j, B', i', j', rfl, hb, hx, hy⟩ := hv.parts
    obtain ⟨c0, c1, c2⟩ := R2.cells
    obtain ⟨f0, f1, f2⟩ := R2.frozen
    have HR := Lib.hid R2
    have HX := Lib.hid hx
    have HY := Lib.hid hy
    have HBB := Lib.hid hb
    clear R1 R2 hx hy hv hb
    go_wp2_with fail
    refine bodyPost_ret (v := .agg #[.bool b, .slice B i j, .slice B' i' j']) (by rw [results_one rfl]; go_simp) rfl ?_
    obtain ⟨v, e1, h1', h2'⟩ := (RCanF.stored (w := w) HBB.out HX.out HY.out HR.out hB2 (by omega) (.bool b)).le h1
    cases e1
    exact ⟨_, rfl, h1'.fracP, h2'⟩
  · have ZF := Lib.hid (fun w1 hB => isZero_f (w := w1) (hd.below hB) (by omega) (by omega))
    clear hn hd hq h
    go_enter Tryd.func35, Tryd.ntmps35
    go_wp2_with fail
    refine (ZF.out _ hB0).mono ?_
    rintro e w1 ⟨rfl, hB1⟩
    have R1 := R0.out.below hB1
    have S1 := S0.out.below hB1
    have hB1 := below_then hB0 hB1
    obtain ⟨c0, c1, c2⟩ := R1.cells
    obtain ⟨f0, f1, f2⟩ := R1.frozen
    obtain ⟨d0, d1, d2⟩ := S1.cells
    have HR := Lib.hid R1
    clear R1 S1
    go_wp2_with fail
    refine bodyPost_ret (v := .agg #[.bool neg, .slice A m c, .slice A' m' c']) (by rw [results_one rfl]; go_simp) rfl ?_
    exact ⟨_, rfl, ⟨neg, A, m, c, A', m', c', n, d, rfl, (HN.out _ hB1).put3 HR.out (.bool neg) _ _, (HD.out _ hB1).put3 HR.out (.bool neg) _ _, by omega, HQ.out⟩, below_put3 hB1 (by omega) _ _ _⟩
end

section
variable {w : World} {va vb : Value} {p q : Rat} {k l : Nat}
/-- Blocks g0 and g1 hold two fractions with denominators above 0, block g2 can take the result. -/
def Ready (w w' : World) (p q : Rat) (k l g0 g1 g2 : Nat) : Prop :=
  ∃ na A m c A' m' c' n d nb B i j B' i' j' s t, Fcl w' g0 na (.slice A m c) (.slice A' m' c') ∧ Fcl w' g1 nb (.slice B i j) (.slice B' i' j') ∧ Fcl w' g2 false (.slice none 0 0) (.slice none 0 0) ∧
    NumV w' (.slice A m c) n k ∧ NumV w' (.slice A' m' c') d k ∧ d ≠ 0 ∧ fr na n d = p ∧ NumV w' (.slice B i j) s l ∧ NumV w' (.slice B' i' j') t l ∧ t ≠ 0 ∧ fr nb s t = q ∧ Below w.heap.size w w'
theorem ready_of {w4 : World} {g0 g1 g2 : Nat} {na nb xa yb : Bool} {A A' B B' X X' Y Y' : Option Addr} {m c m' c' i j i' j' x1 x2 x1' x2' y1 y2 y1' y2' n d s t : Nat} (hB : Below w.heap.size w w4)
    (h0 : Fcl w4 g0 na (.slice A m c) (.slice A' m' c')) (h1 : Fcl w4 g1 nb (.slice B i j) (.slice B' i' j')) (h2 : Fcl w4 g2 false (.slice none 0 0) (.slice none 0 0))
    (e0 : w.heap.size = g0) (e1 : g0 + 1 = g1) (e2 : g1 + 1 = g2) (hn : NumV w4 (.slice X x1 x2) n k) (hd : NumV w4 (.slice X' x1' x2') d k) (hd0 : d ≠ 0) (hp : fr xa n d = p)
    (hs : NumV w4 (.slice Y y1 y2) s l) (ht : NumV w4 (.slice Y' y1' y2') t l) (ht0 : t ≠ 0) (hq : fr yb s t = q) :
    Ready w (stor3 (stor3 w4 g0 (.bool xa) (.slice X x1 x2) (.slice X' x1' x2')) g1 (.bool yb) (.slice Y y1 y2) (.slice Y' y1' y2')) p q k l g0 g1 g2 := by
  have k1 := h1.far (show g1 ≠ g0 by omega) (.bool xa) (.slice X x1 x2) (.slice X' x1' x2')
  exact ⟨xa, X, x1, x2, X', x1', x2', n, d, yb, Y, y1, y2, Y', y1', y2', s, t, (h0.put3 xa _ _).far (by omega) _ _ _, k1.put3 yb _ _, (h2.far (by omega) _ _ _).far (by omega) _ _ _,
    (hn.put3 h0 _ _ _).put3 k1 _ _ _, (hd.put3 h0 _ _ _).put3 k1 _ _ _, hd0, hp, (hs.put3 h0 _ _ _).put3 k1 _ _ _, (ht.put3 h0 _ _ _).put3 k1 _ _ _, ht0, hq,
    below_put3 (below_put3 hB (by omega) _ _ _) (by omega) _ _ _⟩
theorem RCan.fit {w' : World} {n k l : Nat} {e : Ending} (h : RCan w n k e w') (hn : n < 4294967296 ^ l) : RCan w n l e w' := by
  obtain ⟨r, a, b, c⟩ := h
  exact ⟨r, a, ⟨b.1, hn⟩, c⟩
theorem add_same {va vb : Value} {a b m : Nat} (ha : NumV w va a m) (hb : NumV w vb b m) (hm : m ≤ 1000000) : Calls Tryd.prog 36 #[va, vb] w (RCan w (a + b) (m + 1)) :=
  (add_v ha hb hm hm).mono fun e w' h => h.fit (add_fit _ _ _ ha.lt hb.lt)
set_option maxHeartbeats 16000000 in
theorem addf_v (ha : FracV w va p k) (hb : FracV w vb q l) (hk : k ≤ 100000) (hl : l ≤ 100000) (h1 : 2 ≤ k) (h2 : 2 ≤ l) : Calls Tryd.prog 13 #[va, vb] w (RCanF w (p + q) (k + l + 1)) := by
  have D1 := Lib.hid (fun w1 hB => defined_v (w := w1) (ha.below hB) (by omega) h1)
  have D2 := Lib.hid (fun w1 hB => defined_v (w := w1) (hb.below hB) (by omega) h2)
  obtain ⟨na, A, m, c, A', m', c', n, d, rfl, hn, hd, hp⟩ := ha.parts
  obtain ⟨nb, B, i, j, B', i', j', s, t, rfl, hs, ht, hq⟩ := hb.parts
  obtain ⟨w2, g0, g1, g2, ew, eg0, eg1, eg2, hB0, hF0, hF1, hF2⟩ := three_boxes w na nb (.slice A m c) (.slice A' m' c') (.slice B i j) (.slice B' i' j')
  have HG := Lib.hid (show w.heap.size ≤ g2 by omega)
  clear hn hd hs ht hp hq ha hb
  go_enter Tryd.func13, Tryd.ntmps13
  go_wp2_with fail
  go_cut [] from 12 (fun w' => Ready w w' p q k l g0 g1 g2)
  case first =>
    have hK : Below w2.heap.size w2 w2 := Below.refl _ _
    obtain ⟨c0, c1, c2⟩ := hF0.cells
    obtain ⟨d0, d1, d2⟩ := hF1.cells
    go_region_with (first | (go_at_call_of 35 (Value.agg #[Value.bool na, Value.slice A m c, Value.slice A' m' c']); refine (D1.out _ hB0.drew).mono ?_; rintro e w3 ⟨u, rfl, hu, hB3⟩; obtain ⟨xa, X, x1, x2, X', x1', x2', x3, x4, rfl, hx1, hx2, hx3, hx4⟩ := hu; have hK := below_undrew hB3; obtain ⟨d0, d1, d2⟩ := (hF1.below hK).cells) | (go_at_call_of 35 (Value.agg #[Value.bool nb, Value.slice B i j, Value.slice B' i' j']); refine (D2.out _ (below_then hB0 hK)).mono ?_; rintro e w4 ⟨u, rfl, hu, hB4⟩; obtain ⟨yb, Y, y1, y2, Y', y1', y2', y3, y4, rfl, hy1, hy2, hy3, hy4⟩ := hu; have hK := below_then hK hB4; obtain ⟨c0, c1, c2⟩ := (hF0.below hK).cells; obtain ⟨d0, d1, d2⟩ := (hF1.below hK).cells; obtain ⟨f0, f1, f2⟩ := (hF0.below hK).frozen; obtain ⟨e0, e1, e2⟩ := (hF1.below hK).frozen))
    all_goals
      go_wp2_with fail
      go_meet
      case rel => exact ready_of (below_then hB0 hK) (hF0.below hK) (hF1.below hK) (hF2.below hK) eg0 eg1 eg2 (hx1.below hB4) (hx2.below hB4) hx3 hx4 hy1 hy2 hy3 hy4
  case rest =>
    clear hF0 hF1 hF2 hB0 ew D1 D2
    obtain ⟨xa, X, x1, x2, X', x1', x2', n, d, yb, Y, y1, y2, Y', y1', y2', s, t, hF0, hF1, hF2, hn, hd, hd0, hp, hs, ht, ht0, hq, hB0⟩ := hcut
    have hne0 : g0 ≠ g2 := by omega
    have hne1 : g1 ≠ g2 := by omega
    have M1 := Lib.hid (fun w1 hB => mul_w (w := w1) (hn.below hB) (ht.below hB) (by omega) (by omega))
    have M2 := fun w1 hB => mul_w (w := w1) (hs.below hB) (hd.below hB) (by omega) (by omega)
    rw [Nat.add_comm l k] at M2
    have M2 := Lib.hid M2
    have M3 := fun w1 hB => mul_w (w := w1) (hd.below hB) (ht.below hB) (by omega) (by omega)
    have M3 := Lib.hid M3
    have hS0 := conj_rr hF0 hF1
    have hK : Below wc.heap.size wc wc := Below.refl _ _
    have HK := Lib.hid (show k + l + 1 ≤ 400000 ∧ 2 ≤ k + l + 1 by omega)
    have HP := Lib.hid hp
    have HQ := Lib.hid hq
    have HD := Lib.hid hd0
    have HT := Lib.hid ht0
    clear hn hd hs ht hp hq hd0 ht0 eg0 eg1 eg2 hk hl h1 h2
    go_wp2_with fail
    go_region_held3 (fun w' => w'.cell? ⟨g0, 0, none⟩ = some (.bool xa) ∧ w'.cell? ⟨g0, 1, none⟩ = some (.slice X x1 x2) ∧ w'.cell? ⟨g0, 2, none⟩ = some (.slice X' x1' x2') ∧ w'.cell? ⟨g1, 0, none⟩ = some (.bool yb) ∧ w'.cell? ⟨g1, 1, none⟩ = some (.slice Y y1 y2) ∧ w'.cell? ⟨g1, 2, none⟩ = some (.slice Y' y1' y2')) (first | with_reducible exact conj_rr hF0 hF1 | with_reducible exact conj_rr (hF0.below hK) (hF1.below hK) | exact hS0) (first | (go_at_call_of 16 (Value.slice X x1 x2); refine (M1.out _ (Below.refl _ _).drew).mono ?_; rintro e w3 ⟨x, rfl, hx, _, hB3⟩; have hK := below_undrew hB3) | (go_at_call_of 16 (Value.slice X' x1' x2'); refine (M2.out _ hK).mono ?_; rintro e w4 ⟨y, rfl, hy, _, hB4⟩; have hK := below_then hK hB4))
    obtain ⟨c0, c1, c2⟩ := (hF0.below hK).cells
    obtain ⟨d0, d1, d2⟩ := (hF1.below hK).cells
    have hx := hx.below hB4
    clear hS0
    go_wp2_with fail
    refine (M3.out _ hK).mono ?_
    rintro e w5 ⟨z, rfl, hz, _, hB5⟩
    have hx := hx.below hB5
    have hy := hy.below hB5
    have hF0 := hF0.below (below_then hK hB5)
    have hF1 := hF1.below (below_then hK hB5)
    have hF2 := hF2.below (below_then hK hB5)
    have hB0 := below_then hB0 (below_then hK hB5)
    clear M1 M2 M3 hB3 hB4 hB5 hK c0 c1 c2 d0 d1 d2
    obtain ⟨c0, c1, c2⟩ := hF0.cells
    obtain ⟨d0, d1, d2⟩ := hF1.cells
    by_cases hs : xa = yb
    · subst hs
      have AD := Lib.hid (fun w1 hB => add_same (w := w1) (hx.below hB).numV (hy.below hB).numV (by have := HK.out; omega))
      have RD := fun w1 x z (hx : Can w1 x (n * t + s * d) (k + l + 1)) (hz : Can w1 z (d * t) (k + l)) => reduce_v (w := w1) xa hx.numV (hz.numV.le (Nat.le_succ _)) HK.out.1 HK.out.2
      rw [← fr_add HD.out HT.out, HP.out, HQ.out] at RD
      have RR := Lib.hid RD
      have hK : Below w5.heap.size w5 w5 := Below.refl _ _
      clear RD c1 c2 d1 d2 hF1
      go_wp2_with fail
      go_region_held3 (fun w' => w'.cell? ⟨g0, 0, none⟩ = some (.bool xa)) (first | with_reducible exact c0 | with_reducible exact (hF0.below hK).cells.1 | exact c0 | exact ((hF0.below hK).far hne0 _ _ _).cells.1) (first | (go_at_call 36; refine (AD.out _ (Below.refl _ _).drew).mono ?_; rintro e w6 ⟨u, rfl, hu, _, hB6⟩; have hK := below_undrew hB6) | (go_at_call 22; refine (RR.out _ _ _ hu (hz.below hK)).mono ?_; rintro e w7 ⟨v, rfl, hv, hB7⟩; obtain ⟨b, C, o, r, C', o', r', rfl, hb, hvx, hvy⟩ := hv.parts; have hK := below_then hK hB7; obtain ⟨k0, k1, k2⟩ := (hF2.below hK).cells; obtain ⟨f0, f1, f2⟩ := (hF2.below hK).frozen))
      go_wp2_with fail
      refine bodyPost_ret (v := .agg #[.bool b, .slice C o r, .slice C' o' r']) (by rw [results_one rfl]; go_simp) rfl ?_
      exact RCanF.stored hb hvx hvy (hF2.below hK) (below_then hB0 hK) HG.out _
    · have hbeq : (xa == yb) = false := by simpa using hs
      rcases Nat.lt_or_ge (n * t) (s * d) with hlt | hge
      · have SL := Lib.hid (sublt_v hx.numV hy.numV hlt)
        have SU := Lib.hid (fun w1 hB => subge_v (w := w1) (hy.below hB).numV (hx.below hB).numV (by have := HK.out; omega) (Nat.le_of_lt hlt))
        have RD := fun w1 x z (hx : Can w1 x (s * d - n * t) (k + l)) (hz : Can w1 z (d * t) (k + l)) => reduce_v (w := w1) yb (hx.numV.le (Nat.le_succ _)) (hz.numV.le (Nat.le_succ _)) HK.out.1 HK.out.2
        rw [← fr_sub2 HD.out HT.out hs (Nat.le_of_lt hlt), HP.out, HQ.out] at RD
        have RR := Lib.hid RD
        clear RD
        go_wp2_with fail
        refine (SL.out).mono ?_
        rintro e w6 ⟨rfl, hB6⟩
        go_wp2_with fail
        refine (SU.out _ hB6).mono ?_
        rintro e w7 ⟨u, rfl, hu, hB7⟩
        have hB7 := below_then hB6 hB7
        have hz := hz.below hB7
        have hF1 := hF1.below hB7
        have hF2 := hF2.below hB7
        have hB0 := below_then hB0 hB7
        obtain ⟨d0, d1, d2⟩ := hF1.cells
        go_wp2_with fail
        refine (RR.out _ _ _ hu hz).mono ?_
        rintro e w8 ⟨v, rfl, hv, hB8⟩
        have hF2 := hF2.below hB8
        have hB0 := below_then hB0 hB8
        obtain ⟨b, C, o, r, C', o', r', rfl, hb, hvx, hvy⟩ := hv.parts
        obtain ⟨k0, k1, k2⟩ := hF2.cells
        obtain ⟨f0, f1, f2⟩ := hF2.frozen
        clear c0 c1 c2 d0 d1 d2
        go_wp2_with fail
        refine bodyPost_ret (v := .agg #[.bool b, .slice C o r, .slice C' o' r']) (by rw [results_one rfl]; go_simp) rfl ?_
        exact RCanF.stored hb hvx hvy hF2 hB0 HG.out _
      · have SU := Lib.hid (subge_v hx.numV hy.numV (by have := HK.out; omega) hge)
        have RD := fun w1 x z (hx : Can w1 x (n * t - s * d) (k + l)) (hz : Can w1 z (d * t) (k + l)) => reduce_v (w := w1) xa (hx.numV.le (Nat.le_succ _)) (hz.numV.le (Nat.le_succ _)) HK.out.1 HK.out.2
        rw [← fr_sub HD.out HT.out hs hge, HP.out, HQ.out] at RD
        have RR := Lib.hid RD
        clear RD
        go_wp2_with fail
        refine (SU.out).mono ?_
        rintro e w6 ⟨u, rfl, hu, hB6⟩
        have hz := hz.below hB6
        have hF0 := hF0.below hB6
        have hF2 := hF2.below hB6
        have hB0 := below_then hB0 hB6
        obtain ⟨c0, c1, c2⟩ := hF0.cells
        go_wp2_with fail
        refine (RR.out _ _ _ hu hz).mono ?_
        rintro e w7 ⟨v, rfl, hv, hB7⟩
        have hF2 := hF2.below hB7
        have hB0 := below_then hB0 hB7
        obtain ⟨b, C, o, r, C', o', r', rfl, hb, hvx, hvy⟩ := hv.parts
        obtain ⟨k0, k1, k2⟩ := hF2.cells
        obtain ⟨f0, f1, f2⟩ := hF2.frozen
        clear c0 c1 c2 d0 d1 d2
        go_wp2_with fail
        refine bodyPost_ret (v := .agg #[.bool b, .slice C o r, .slice C' o' r']) (by rw [results_one rfl]; go_simp) rfl ?_
        exact RCanF.stored hb hvx hvy hF2 hB0 HG.out _
end
end Go.Proofs.YtgjhgpfjeoeojaaDoor

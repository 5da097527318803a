/- The contracts of the reference functions on fractions: NatSame, FracSame, frac, FracNorm, FracNeg. -/
import Derived.Test.YtgjhgpfjeoeojaaDoorRatF
import Derived.Test.YtgjhgpfjeoeojaaDoorLawf
import Derived.Test.YtgjhgpfjeoeojaaDoorRefhh
namespace Go.Proofs.YtgjhgpfjeoeojaaDoor
open Go.RowKit Dig
set_option linter.unusedVariables false

set_option maxHeartbeats 1000000 in
theorem natSame_any (w : World) (va vb : Value) (xs ys : List Nat) (ha : Num w va xs) (hb : Num w vb ys) :
    Calls Tryd.prog 50 #[va, vb] w (RVal w (.bool (decide (xs = ys)))) := by
  by_cases hl : xs.length = ys.length
  · obtain ⟨A, c, rfl⟩ := ha.form
    obtain ⟨A', c', rfl⟩ := hb.form
    have hbd := ha.bounds.2
    have hlen : (xs.length : Int) ≤ 9223372036854775807 := by omega
    obtain ⟨n, hn⟩ : ∃ n, xs.length = n := ⟨_, rfl⟩
    rw [hn] at hl
    rw [← hl] at hb ⊢
    rw [hn] at ha hlen ⊢
    go_enter Tryd.func50, Tryd.ntmps50
    go_wp2_with fail
    go_loopw [5] (fun i wr => ∃ k N : Nat, k ≤ n ∧ i = .int .i64 k ∧ wr = w.drewN N ∧ ∀ j, j < k → xs.getD j 0 = ys.getD j 0) (fun i _ => n - (intOf i).toNat)
    case atStart => exact ⟨0, 0, Nat.zero_le _, rfl, rfl, fun j hj => absurd hj (by omega)⟩
    case round =>
      obtain ⟨k, N, hk, rfl, rfl, he⟩ := hrel
      by_cases hlt : k < n
      · obtain ⟨b, off, rfl, hb1, h1⟩ := ha.cells (by omega)
        obtain ⟨b', off', rfl, hb2, h2⟩ := hb.cells (by omega)
        have c1 := h1 k (by omega)
        have c2 := h2 k (by omega)
        generalize hx : xs.getD k 0 = x at c1
        generalize hy : ys.getD k 0 = y at c2
        have hki : (k : Int) < n := by omega
        have HE := Lib.hid he
        have HX := Lib.hid hx
        have HY := Lib.hid hy
        clear h1 h2 he hx hy
        by_cases hxy : x = y
        · subst hxy
          go_wp2_with fail
          go_quiet (fail)
          go_wp2_with fail
          go_roundw
          case rel =>
            refine ⟨k + 1, _, by omega, by go_num, rfl, fun j hj => ?_⟩
            by_cases hjk : j = k
            · rw [hjk, HX.out, HY.out]
            · exact HE.out j (by omega)
          case measure => simp [intOf]; omega
        · have hne : ((x : Int) != (y : Int)) = true := by rw [bne_iff_ne]; omega
          have hD : decide (xs = ys) = false := decide_eq_false (fun e => hxy (by rw [← HX.out, ← HY.out, e]))
          have HD := Lib.hid hD
          clear hD
          go_wp2_with fail
          go_quiet (fail)
          go_wp2_with fail
          go_ret
          exact ⟨ret_eq (show Value.bool false = _ by rw [HD.out]), below_drewN (below_drewN (Below.refl _ _) _) _⟩
      · have : k = n := by omega
        subst this
        have hD : decide (xs = ys) = true := decide_eq_true (ext_getD (by omega) (fun j hj => he j (by omega)))
        have HD := Lib.hid hD
        clear hD he
        go_wp2_with fail
        go_ret
        exact ⟨ret_eq (show Value.bool true = _ by rw [HD.out]), below_drewN (Below.refl _ _) _⟩
  · have hD : decide (xs = ys) = false := decide_eq_false (fun e => hl (by rw [e]))
    rw [hD]
    have hne : ((xs.length : Int) != (ys.length : Int)) = true := by rw [bne_iff_ne]; omega
    obtain ⟨A, c, rfl⟩ := ha.form
    obtain ⟨A', c', rfl⟩ := hb.form
    clear ha hb
    go_enter Tryd.func50, Tryd.ntmps50
    go_wp2_with fail
    go_ret
    exact ⟨rfl, Below.refl _ _⟩
/-- v is a fraction with this sign and these digits. -/
def Fx (w : World) (v : Value) (neg : Bool) (xs ys : List Nat) : Prop := ∃ vn vd, v = .agg #[.bool neg, vn, vd] ∧ Num w vn xs ∧ Num w vd ys
theorem CanF.fx {w : World} {v : Value} {q : Rat} {k : Nat} (h : CanF w v q k) : Fx w v (decide (q.num < 0)) (dg q.num.natAbs) (dg q.den) := by
  obtain ⟨vn, vd, e, h1, h2⟩ := h
  exact ⟨vn, vd, e, h1.1, h2.1⟩
theorem Fx.below {w w' : World} {v : Value} {neg : Bool} {xs ys : List Nat} (h : Fx w v neg xs ys) (hb : Below w.heap.size w w') : Fx w' v neg xs ys := by
  obtain ⟨vn, vd, e, h1, h2⟩ := h
  exact ⟨vn, vd, e, h1.below hb, h2.below hb⟩
theorem Fx.zero (w : World) : Fx w (.agg #[.bool false, .slice none 0 0, .slice none 0 0]) false [] [] := ⟨_, _, rfl, Num.nil w, Num.nil w⟩

set_option maxHeartbeats 2000000 in
theorem fracSame_v {w : World} {va vb : Value} {na nb : Bool} {xs ys us vs : List Nat} (ha : Fx w va na xs ys) (hb : Fx w vb nb us vs) :
    Calls Tryd.prog 26 #[va, vb] w (RVal w (.bool (decide (na = nb ∧ xs = us ∧ ys = vs)))) := by
  obtain ⟨vn, vd, rfl, hx, hy⟩ := ha
  obtain ⟨vn', vd', rfl, hu, hv⟩ := hb
  have S1 := fun w1 hB => natSame_any w1 vn vn' xs us (Num.below (w' := w1) hx hB) (hu.below hB)
  have S2 := fun w1 hB => natSame_any w1 vd vd' ys vs (Num.below (w' := w1) hy hB) (hv.below hB)
  obtain ⟨A, c, rfl⟩ := hx.form
  obtain ⟨A', c', rfl⟩ := hy.form
  obtain ⟨B, d, rfl⟩ := hu.form
  obtain ⟨B', d', rfl⟩ := hv.form
  obtain ⟨w2, g0, g1, ew, eg0, eg1, hB0, hF0, hF1⟩ : ∃ w2 g0 g1, (w.alloc (.cells #[.bool na, .slice A xs.length c, .slice A' ys.length c'] 25)).alloc (.cells #[.bool nb, .slice B us.length d, .slice B' vs.length d'] 25) = w2 ∧ w.heap.size = g0 ∧ g0 + 1 = g1 ∧ Below w.heap.size w w2 ∧ Fcl w2 g0 na (.slice A xs.length c) (.slice A' ys.length c') ∧ Fcl w2 g1 nb (.slice B us.length d) (.slice B' vs.length d') :=
    ⟨_, _, _, rfl, rfl, rfl, below_alloc2 w _ _, (Fcl.new w _ _ _).alloc _, Fcl.new2 w _ _ _ _⟩
  clear hx hy hu hv
  by_cases h1 : na = nb
  · subst h1
    by_cases h2 : xs = us
    · have T1 := fun w1 hB => S1 w1 hB
      rw [show decide (xs = us) = true from decide_eq_true h2] at T1
      have HT1 := Lib.hid T1
      have HS2 := Lib.hid S2
      have hD : decide (na = na ∧ xs = us ∧ ys = vs) = decide (ys = vs) := decide_eq_decide.2 ⟨fun h => h.2.2, fun h => ⟨rfl, h2, h⟩⟩
      rw [hD]
      obtain ⟨c0, c1, c2⟩ := hF0.cells
      obtain ⟨d0, d1, d2⟩ := hF1.cells
      clear S1 S2 T1 h2 hD
      generalize decide (ys = vs) = bb at *
      generalize xs.length = l1 at *
      generalize ys.length = l2 at *
      generalize us.length = l3 at *
      generalize vs.length = l4 at *
      go_enter Tryd.func26, Tryd.ntmps26
      go_wp2_with fail
      refine (HT1.out _ hB0).mono ?_
      rintro e w3 ⟨rfl, hB3⟩
      have hF0 := hF0.below hB3
      have hF1 := hF1.below hB3
      have hB0 := below_then hB0 hB3
      clear c0 c1 c2 d0 d1 d2
      obtain ⟨c0, c1, c2⟩ := hF0.cells
      obtain ⟨d0, d1, d2⟩ := hF1.cells
      go_wp2_with fail
      refine (HS2.out _ hB0).mono ?_
      rintro e w4 ⟨rfl, hB4⟩
      go_wp2_with fail
      go_ret
      exact ⟨rfl, below_then hB0 hB4⟩
    · have T1 := fun w1 hB => S1 w1 hB
      rw [show decide (xs = us) = false from decide_eq_false h2] at T1
      have HT1 := Lib.hid T1
      rw [show decide (na = na ∧ xs = us ∧ ys = vs) = false from decide_eq_false fun h => h2 h.2.1]
      obtain ⟨c0, c1, c2⟩ := hF0.cells
      obtain ⟨d0, d1, d2⟩ := hF1.cells
      clear S1 S2 T1 h2
      generalize xs.length = l1 at *
      generalize ys.length = l2 at *
      generalize us.length = l3 at *
      generalize vs.length = l4 at *
      go_enter Tryd.func26, Tryd.ntmps26
      go_wp2_with fail
      refine (HT1.out _ hB0).mono ?_
      rintro e w3 ⟨rfl, hB3⟩
      have hB0 := below_then hB0 hB3
      go_wp2_with fail
      go_ret
      exact ⟨rfl, hB0⟩
  · have hbeq : (na == nb) = false := by simpa using h1
    rw [show decide (na = nb ∧ xs = us ∧ ys = vs) = false from decide_eq_false fun h => h1 h.1]
    obtain ⟨c0, c1, c2⟩ := hF0.cells
    obtain ⟨d0, d1, d2⟩ := hF1.cells
    clear S1 S2 h1
    generalize xs.length = l1 at *
    generalize ys.length = l2 at *
    generalize us.length = l3 at *
    generalize vs.length = l4 at *
    go_enter Tryd.func26, Tryd.ntmps26
    go_wp2_with fail
    go_ret
    exact ⟨rfl, hB0⟩
end Go.Proofs.YtgjhgpfjeoeojaaDoor

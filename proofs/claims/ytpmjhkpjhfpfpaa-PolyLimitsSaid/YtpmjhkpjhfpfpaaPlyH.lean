/- The contract of coefficient of package poly. -/
import Derived.Test.YtpmjhkpjhfpfpaaZls
import Derived.Test.YtpmjhkpjhfpfpaaZsum
namespace Go.Proofs.Ytpmjhkpjhfpfpaa
open Go.RowKit Dig
set_option linter.unusedVariables false

namespace Dig
theorem zf_over {zs : List Int} {i : Nat} (h : zs.length ≤ i) : zf zs i = 0 := by
  simp [zf, List.getD_eq_getElem?_getD, List.getElem?_eq_none h]
/-- What the loop of coefficient keeps: the difference of its two sums is the sum of the terms so far. -/
def CoRel (zs ys : List Int) (kk B i P N : Nat) : Prop := (P : Int) - (N : Int) = sumZ i (fun t => zf zs t * zf ys (kk - t)) ∧ P ≤ i * B ∧ N ≤ i * B
theorem CoRel.start (zs ys : List Int) (kk B : Nat) : CoRel zs ys kk B (kk + 1 - ys.length) 0 0 := by
  refine ⟨?_, Nat.zero_le _, Nat.zero_le _⟩
  rw [sumZ_none]
  · rfl
  · intro i hi
    rw [zf_over (zs := ys) (by omega), Int.mul_zero]
theorem CoRel.stop {zs ys : List Int} {kk B P N : Nat} (h : CoRel zs ys kk B (min kk (zs.length - 1) + 1) P N) (h0 : 0 < zs.length) : (P : Int) - (N : Int) = sumZ (kk + 1) (fun t => zf zs t * zf ys (kk - t)) := by
  rw [h.1]
  symm
  apply sumZ_same (by omega)
  intro i h1 h2
  rw [zf_over (zs := zs) (by omega), Int.zero_mul]
theorem CoRel.none {zs ys : List Int} {kk B i P N : Nat} (h : CoRel zs ys kk B i P N) (hz : (zf zs i).natAbs * (zf ys (kk - i)).natAbs = 0) : CoRel zs ys kk B (i + 1) P N := by
  obtain ⟨h1, h2, h3⟩ := h
  refine ⟨?_, Nat.le_trans h2 (Nat.mul_le_mul_right _ (by omega)), Nat.le_trans h3 (Nat.mul_le_mul_right _ (by omega))⟩
  have : zf zs i * zf ys (kk - i) = 0 := by
    rw [← Int.natAbs_mul] at hz
    exact Int.natAbs_eq_zero.1 hz
  rw [sumZ, ← h1, this, Int.add_zero]
theorem mul_same {z y : Int} (h : decide (z < 0) = decide (y < 0)) : z * y = ((z.natAbs * y.natAbs : Nat) : Int) := by
  rw [← Int.natAbs_mul]
  have : 0 ≤ z * y := by
    by_cases hz : z < 0
    · have hy : y < 0 := by simpa [hz] using h
      exact Int.le_of_lt (Int.mul_pos_of_neg_of_neg hz hy)
    · have hy : ¬ y < 0 := by simpa [hz] using h
      exact Int.mul_nonneg (by omega) (by omega)
  omega
theorem mul_other {z y : Int} (h : decide (z < 0) ≠ decide (y < 0)) : z * y = -((z.natAbs * y.natAbs : Nat) : Int) := by
  rw [← Int.natAbs_mul]
  have : z * y ≤ 0 := by
    by_cases hz : z < 0
    · have hy : ¬ y < 0 := by simpa [hz] using h
      exact Int.mul_nonpos_of_nonpos_of_nonneg (by omega) (by omega)
    · have hy : y < 0 := by simpa [hz] using h
      exact Int.mul_nonpos_of_nonneg_of_nonpos (by omega) (by omega)
  omega
theorem CoRel.plus {zs ys : List Int} {kk B i P N : Nat} (h : CoRel zs ys kk B i P N) (hs : decide (zf zs i < 0) = decide (zf ys (kk - i) < 0)) (hB : (zf zs i).natAbs * (zf ys (kk - i)).natAbs ≤ B) :
    CoRel zs ys kk B (i + 1) (P + (zf zs i).natAbs * (zf ys (kk - i)).natAbs) N := by
  obtain ⟨h1, h2, h3⟩ := h
  refine ⟨?_, by rw [Nat.succ_mul]; omega, Nat.le_trans h3 (Nat.mul_le_mul_right _ (by omega))⟩
  rw [sumZ, ← h1, mul_same hs]
  omega
theorem CoRel.minus {zs ys : List Int} {kk B i P N : Nat} (h : CoRel zs ys kk B i P N) (hs : decide (zf zs i < 0) ≠ decide (zf ys (kk - i) < 0)) (hB : (zf zs i).natAbs * (zf ys (kk - i)).natAbs ≤ B) :
    CoRel zs ys kk B (i + 1) P (N + (zf zs i).natAbs * (zf ys (kk - i)).natAbs) := by
  obtain ⟨h1, h2, h3⟩ := h
  refine ⟨?_, Nat.le_trans h2 (Nat.mul_le_mul_right _ (by omega)), by rw [Nat.succ_mul]; omega⟩
  rw [sumZ, ← h1, mul_other hs]
  omega
end Dig
theorem Can.lenz {w : World} {A : Option Addr} {m c n k : Nat} (h : Can w (.slice A m c) n k) : ((m : Int) == 0) = decide (n = 0) := by
  obtain ⟨⟨A', c', e, _⟩, _⟩ := h
  simp only [Value.slice.injEq] at e
  obtain ⟨_, rfl, _⟩ := e
  by_cases h0 : n = 0
  · subst h0; rfl
  · rw [decide_eq_false h0, beq_eq_false_iff_ne]
    intro e
    have : (dg n).length = 0 := by omega
    have h1 := val_dg n
    rw [List.eq_nil_of_length_eq_zero this] at h1
    exact h0 h1.symm

theorem IntV.parts {k : Nat} {w : World} {z : Int} {tb : Bool} {U : Option Addr} {um uc : Nat} (h : IntV k w (.agg #[.bool tb, .slice U um uc]) z) : tb = decide (z < 0) ∧ Can w (.slice U um uc) z.natAbs k := by
  obtain ⟨nv, e, hc⟩ := h
  cases e
  exact ⟨rfl, hc⟩
theorem two_duos (w : World) (x y x' y' : Value) : ∃ w2, ((w.alloc (.cells #[x, y] 79)).alloc (.cells #[x', y'] 79)).drew = w2 ∧ Dcl w2 w.heap.size x y ∧ Dcl w2 (w.heap.size + 1) x' y' ∧ Below w.heap.size w w2 := by
  refine ⟨_, rfl, ?_, ?_, (below_alloc2 w _ _).drew⟩
  · exact (Dcl.new w x y).of_block (Below.heap_alloc _ _ _ (Dcl.new w x y).lt)
  · have := Dcl.new (w.alloc (.cells #[x, y] 79)) x' y'
    rwa [show (w.alloc (.cells #[x, y] 79)).heap.size = w.heap.size + 1 by show (Array.push _ _).size = _; simp] at this

section
variable {w : World} {va vb : Value} {zs ys : List Int} {k l : Nat}
set_option maxHeartbeats 8000000 in
theorem coefficient_z (ha : Zls k w va zs) (hb : Zls l w vb ys) (kk : Nat) (hk : k + l + 1 ≤ 1000000) (hn : zs.length ≤ 1000000000) (hm : ys.length ≤ 1000000000) (hkk : kk + 1 < zs.length + ys.length) (h0 : 0 < zs.length) (h0' : 0 < ys.length) :
    Calls Try.prog 82 #[va, vb, .int .i64 (kk : Int)] w (RInt2 w (sumZ (kk + 1) fun t => zf zs t * zf ys (kk - t)) (k + l + 1)) := by
  obtain ⟨A, c, rfl⟩ := ha.form
  obtain ⟨B, d, rfl⟩ := hb.form
  obtain ⟨_, hca, hcm⟩ := ha.lens
  obtain ⟨_, hda, hdm⟩ := hb.lens
  obtain ⟨b, off, rfl, hbb, hcell⟩ := ha.cells h0
  obtain ⟨b2, off2, rfl, hbb2, hcell2⟩ := hb.cells h0'
  have HC := Lib.hid hcell
  have HC2 := Lib.hid hcell2
  have R0 := Lib.hid (Dcl.new w (.bool false) (.slice none 0 0))
  have hB0 : Below w.heap.size w (w.alloc (.cells #[.bool false, .slice none 0 0] 79)) := (Below.refl _ _).alloc (Nat.le_refl _) _
  have HB0 := Lib.hid hB0
  have CS := Lib.hid (CoRel.start zs ys kk (4294967296 ^ (k + l)))
  have CE := Lib.hid (fun P N (h : CoRel zs ys kk (4294967296 ^ (k + l)) (min kk (zs.length - 1) + 1) P N) => CoRel.stop h h0)
  have MU := Lib.hid (fun w1 x y a b (hx : Can w1 x a k) (hy : Can w1 y b l) => mul_w (w := w1) hx.numV hy.numV (by omega) (by omega))
  have AD := Lib.hid (fun w1 x y a b (hx : Can w1 x a (k + l + 1)) (hy : Can w1 y b (k + l)) => add_same (w := w1) hx.numV (hy.numV.le (Nat.le_succ _)) (by omega))
  have DI := Lib.hid (fun w1 x y a b (hx : Can w1 x a (k + l + 1)) (hy : Can w1 y b (k + l + 1)) => difference_z (w := w1) hx hy hk)
  have H0 := Lib.hid (show max 0 ((kk : Int) - (ys.length : Int) + 1) = ((kk + 1 - ys.length : Nat) : Int) by omega)
  have HZ := Lib.hid (fun w1 => (⟨Num.nil w1, Nat.pow_pos (by omega)⟩ : Can w1 (.slice none 0 0) 0 (k + l + 1)))
  generalize sumZ (kk + 1) (fun t => zf zs t * zf ys (kk - t)) = Z at *
  clear ha hb hcell hcell2 hB0
  generalize hnn : zs.length = n at *
  generalize hmm : ys.length = m at *
  have HN := Lib.hid hnn
  have HM := Lib.hid hmm
  clear hnn hmm
  go_enter Try.func82, Try.ntmps82
  go_wp2_with fail
  rw [H0.out]
  go_loopw [7, 8, 9] (fun pv nv i wr => ∃ (i' P N : Nat), i = .int .i64 i' ∧ i' ≤ min kk (n - 1) + 1 ∧ kk + 1 - m ≤ i' ∧ CoRel zs ys kk (4294967296 ^ (k + l)) i' P N ∧ Can wr pv P (k + l + 1) ∧ Can wr nv N (k + l + 1) ∧ Dcl wr w.heap.size (.bool false) (.slice none 0 0) ∧ Below w.heap.size w wr) (fun _ _ i _ => min kk (n - 1) + 1 - (intOf i).toNat)
  case atStart => exact ⟨kk + 1 - m, 0, 0, rfl, by omega, Nat.le_refl _, CS.out, HZ.out _, HZ.out _, R0.out, HB0.out⟩
  case round =>
    obtain ⟨i, P, N, rfl, hi, hi2, hco, hp, hq, hR, hB⟩ := hrel
    obtain ⟨X, xm, xc, rfl⟩ := hp.form
    obtain ⟨Y, ym, yc, rfl⟩ := hq.form
    by_cases hlt : i ≤ min kk (n - 1)
    · have hI : (i : Int) ≤ min (kk : Int) ((n : Int) - 1) := by omega
      obtain ⟨tb, U, um, uc, c0, c1, hz⟩ := HC.out i (by omega)
      obtain ⟨tb2, V, vm, vc, d0, d1, hy⟩ := HC2.out (kk - i) (by omega)
      have hw1 : Below wr.heap.size wr wr := Below.refl _ _
      have c0 := (hB.cell (p := ⟨b, _, none⟩) hbb).trans c0
      have c1 := (hB.cell (p := ⟨b, _, none⟩) hbb).trans c1
      have d0 := (hB.cell (p := ⟨b2, _, none⟩) hbb2).trans d0
      have d1 := (hB.cell (p := ⟨b2, _, none⟩) hbb2).trans d1
      have hki : (kk : Int) - (i : Int) = ((kk - i : Nat) : Int) := by omega
      have q0 : (0 : Int) ≤ ((kk - i : Nat) : Int) := by omega
      have q1 : ((kk - i : Nat) : Int) < (m : Int) := by omega
      have q2 : (i : Int) < (n : Int) := by omega
      have q3 : IntKind.i64.wrap ((kk : Int) - (i : Int)) = ((kk - i : Nat) : Int) := by rw [IntWalk.i64_in _ (by omega)]; exact hki
      have q4 : (0 : Int) ≤ (kk : Int) - (i : Int) := by omega
      have q5 : (kk : Int) - (i : Int) < (m : Int) := by omega
      have hBW : Below wr.heap.size wr ((wr.alloc (.cells #[.bool false, .slice none 0 0] 79)).alloc (.cells #[.bool false, .slice none 0 0] 79)).drew := (below_alloc2 wr _ _).drew
      have hlb : b < wr.heap.size := Nat.lt_of_lt_of_le hbb hB.size
      have hlb2 : b2 < wr.heap.size := Nat.lt_of_lt_of_le hbb2 hB.size
      have e0 := (hBW.cell (p := ⟨b, _, none⟩) hlb).trans c0
      have e1 := (hBW.cell (p := ⟨b, _, none⟩) hlb).trans c1
      have e2 := (hBW.cell (p := ⟨b2, _, none⟩) hlb2).trans d0
      have e3 := (hBW.cell (p := ⟨b2, _, none⟩) hlb2).trans d1
      obtain ⟨ht1, hz'⟩ := hz.parts
      obtain ⟨ht2, hy'⟩ := hy.parts
      have HTB := Lib.hid ht1
      have HTC := Lib.hid ht2
      have hZA := Lib.hid (hz'.below hB)
      have hYA := Lib.hid (hy'.below hB)
      have HBD := Lib.hid (show (zf zs i).natAbs * (zf ys (kk - i)).natAbs ≤ 4294967296 ^ (k + l) from by rw [Nat.pow_add]; exact Nat.mul_le_mul (Nat.le_of_lt hz'.2) (Nat.le_of_lt hy'.2))
      have HLT := Lib.hid (fun (x : Nat) (hx : x ≤ (i + 1) * 4294967296 ^ (k + l)) => (show x < 4294967296 ^ (k + l + 1) from by
        refine Nat.lt_of_le_of_lt hx ?_
        rw [Nat.pow_succ, Nat.mul_comm]
        exact Nat.mul_lt_mul_of_pos_left (by omega) (Nat.pow_pos (by omega))))
      have hCO := Lib.hid hco
      have hP := Lib.hid hp
      have hQ := Lib.hid hq
      have hR0 := Lib.hid hR
      have hB1 := Lib.hid hB
      clear ht1 ht2 hz' hy' hz hy hco hp hq hR hB
      go_wp2_with fail
      go_region
      · obtain ⟨w2, ew2, hFa, hFb, hB2⟩ := two_duos wr (.bool tb) (.slice U um uc) (.bool tb2) (.slice V vm vc)
        rw [ew2]
        clear ew2
        have hz := hZA.out.below hB2
        have hy := hYA.out.below hB2
        have hp := hP.out.below hB2
        have hq := hQ.out.below hB2
        have hR := hR0.out.below hB2
        have hB := below_then hB1.out hB2
        obtain ⟨k0, k1⟩ := hFa.cells
        obtain ⟨k2, k3⟩ := hFb.cells
        go_wp2_with fail
        refine (MU.out _ _ _ _ _ hz hy).mono ?_
        rintro e w5 ⟨pr, rfl, hpr, _, hB5⟩
        obtain ⟨D, pm, pc, rfl⟩ := hpr.form
        have hL := hpr.lenz
        have hp := hp.below hB5
        have hq := hq.below hB5
        have hR := hR.below hB5
        have hB := below_then hB hB5
        have hFa := hFa.below hB5
        have hFb := hFb.below hB5
        clear k0 k1 k2 k3 hz hy
        obtain ⟨k0, k1⟩ := hFa.cells
        obtain ⟨k2, k3⟩ := hFb.cells
        by_cases hz0 : (zf zs i).natAbs * (zf ys (kk - i)).natAbs = 0
        · rw [hz0, decide_eq_true rfl] at hL
          have HS := Lib.hid (hCO.out.none hz0)
          have HPP := Lib.hid hp
          have HQQ := Lib.hid hq
          have HRR := Lib.hid hR
          have HBB := Lib.hid hB
          clear hp hq hR hB hFa hFb hpr hz0
          go_wp2_with fail
          go_roundw
          case rel => exact ⟨i + 1, P, N, by go_num, by omega, by omega, HS.out, HPP.out, HQQ.out, HRR.out, HBB.out⟩
          case measure => simp [intOf]; omega
        · rw [decide_eq_false hz0] at hL
          by_cases hs : tb = tb2
          · have hbeq : (tb == tb2) = true := by rw [beq_iff_eq]; exact hs
            have HS := Lib.hid (hCO.out.plus (by rw [← HTB.out, ← HTC.out]; exact hs) HBD.out)
            have ADD := AD.out _ _ _ _ _ hp hpr
            clear hs hz0 hpr hp
            go_wp2_with fail
            refine ADD.mono ?_
            rintro e w6 ⟨r, rfl, hr, _, hB6⟩
            have HPP := Lib.hid (show Can w6 r (P + (zf zs i).natAbs * (zf ys (kk - i)).natAbs) (k + l + 1) from ⟨hr.1, HLT.out _ HS.out.2.1⟩)
            have HQQ := Lib.hid (hq.below hB6)
            have HRR := Lib.hid (hR.below hB6)
            have HBB := Lib.hid (below_then hB hB6)
            clear hq hR hB hFa hFb hr hB6 hB5 k0 k1 k2 k3
            go_wp2_with fail
            go_roundw
            case rel => exact ⟨i + 1, _, N, by go_num, by omega, by omega, HS.out, HPP.out, HQQ.out, HRR.out, HBB.out⟩
            case measure => simp [intOf]; omega
          · have hbeq : (tb == tb2) = false := by rw [beq_eq_false_iff_ne]; exact hs
            have HS := Lib.hid (hCO.out.minus (by rw [← HTB.out, ← HTC.out]; exact hs) HBD.out)
            have ADD := AD.out _ _ _ _ _ hq hpr
            clear hs hz0 hpr hq
            go_wp2_with fail
            refine ADD.mono ?_
            rintro e w6 ⟨r, rfl, hr, _, hB6⟩
            have HQQ := Lib.hid (show Can w6 r (N + (zf zs i).natAbs * (zf ys (kk - i)).natAbs) (k + l + 1) from ⟨hr.1, HLT.out _ HS.out.2.2⟩)
            have HPP := Lib.hid (hp.below hB6)
            have HRR := Lib.hid (hR.below hB6)
            have HBB := Lib.hid (below_then hB hB6)
            clear hp hR hB hFa hFb hr hB6 hB5 k0 k1 k2 k3
            go_wp2_with fail
            go_roundw
            case rel => exact ⟨i + 1, P, _, by go_num, by omega, by omega, HS.out, HPP.out, HQQ.out, HRR.out, HBB.out⟩
            case measure => simp [intOf]; omega
      · obtain ⟨w2, ew2, hFb, hFa, hB2⟩ := two_duos wr (.bool tb2) (.slice V vm vc) (.bool tb) (.slice U um uc)
        rw [ew2]
        clear ew2
        have hz := hZA.out.below hB2
        have hy := hYA.out.below hB2
        have hp := hP.out.below hB2
        have hq := hQ.out.below hB2
        have hR := hR0.out.below hB2
        have hB := below_then hB1.out hB2
        obtain ⟨k0, k1⟩ := hFa.cells
        obtain ⟨k2, k3⟩ := hFb.cells
        go_wp2_with fail
        refine (MU.out _ _ _ _ _ hz hy).mono ?_
        rintro e w5 ⟨pr, rfl, hpr, _, hB5⟩
        obtain ⟨D, pm, pc, rfl⟩ := hpr.form
        have hL := hpr.lenz
        have hp := hp.below hB5
        have hq := hq.below hB5
        have hR := hR.below hB5
        have hB := below_then hB hB5
        have hFa := hFa.below hB5
        have hFb := hFb.below hB5
        clear k0 k1 k2 k3 hz hy
        obtain ⟨k0, k1⟩ := hFa.cells
        obtain ⟨k2, k3⟩ := hFb.cells
        by_cases hz0 : (zf zs i).natAbs * (zf ys (kk - i)).natAbs = 0
        · rw [hz0, decide_eq_true rfl] at hL
          have HS := Lib.hid (hCO.out.none hz0)
          have HPP := Lib.hid hp
          have HQQ := Lib.hid hq
          have HRR := Lib.hid hR
          have HBB := Lib.hid hB
          clear hp hq hR hB hFa hFb hpr hz0
          go_wp2_with fail
          go_roundw
          case rel => exact ⟨i + 1, P, N, by go_num, by omega, by omega, HS.out, HPP.out, HQQ.out, HRR.out, HBB.out⟩
          case measure => simp [intOf]; omega
        · rw [decide_eq_false hz0] at hL
          by_cases hs : tb = tb2
          · have hbeq : (tb == tb2) = true := by rw [beq_iff_eq]; exact hs
            have HS := Lib.hid (hCO.out.plus (by rw [← HTB.out, ← HTC.out]; exact hs) HBD.out)
            have ADD := AD.out _ _ _ _ _ hp hpr
            clear hs hz0 hpr hp
            go_wp2_with fail
            refine ADD.mono ?_
            rintro e w6 ⟨r, rfl, hr, _, hB6⟩
            have HPP := Lib.hid (show Can w6 r (P + (zf zs i).natAbs * (zf ys (kk - i)).natAbs) (k + l + 1) from ⟨hr.1, HLT.out _ HS.out.2.1⟩)
            have HQQ := Lib.hid (hq.below hB6)
            have HRR := Lib.hid (hR.below hB6)
            have HBB := Lib.hid (below_then hB hB6)
            clear hq hR hB hFa hFb hr hB6 hB5 k0 k1 k2 k3
            go_wp2_with fail
            go_roundw
            case rel => exact ⟨i + 1, _, N, by go_num, by omega, by omega, HS.out, HPP.out, HQQ.out, HRR.out, HBB.out⟩
            case measure => simp [intOf]; omega
          · have hbeq : (tb == tb2) = false := by rw [beq_eq_false_iff_ne]; exact hs
            have HS := Lib.hid (hCO.out.minus (by rw [← HTB.out, ← HTC.out]; exact hs) HBD.out)
            have ADD := AD.out _ _ _ _ _ hq hpr
            clear hs hz0 hpr hq
            go_wp2_with fail
            refine ADD.mono ?_
            rintro e w6 ⟨r, rfl, hr, _, hB6⟩
            have HQQ := Lib.hid (show Can w6 r (N + (zf zs i).natAbs * (zf ys (kk - i)).natAbs) (k + l + 1) from ⟨hr.1, HLT.out _ HS.out.2.2⟩)
            have HPP := Lib.hid (hp.below hB6)
            have HRR := Lib.hid (hR.below hB6)
            have HBB := Lib.hid (below_then hB hB6)
            clear hp hR hB hFa hFb hr hB6 hB5 k0 k1 k2 k3
            go_wp2_with fail
            go_roundw
            case rel => exact ⟨i + 1, P, _, by go_num, by omega, by omega, HS.out, HPP.out, HQQ.out, HRR.out, HBB.out⟩
            case measure => simp [intOf]; omega
    · have hI : ¬ (i : Int) ≤ min (kk : Int) ((n : Int) - 1) := by omega
      obtain rfl : i = min kk (n - 1) + 1 := by omega
      have E := CE.out _ _ hco
      have D := DI.out wr _ _ _ _ hp hq
      rw [E] at D
      have DD := Lib.hid D
      have HR := Lib.hid hR
      have HBB := Lib.hid hB
      clear E D hco hp hq hR hB
      go_wp2_with fail
      refine (DD.out).mono ?_
      rintro e w5 ⟨u, rfl, hu, hB5⟩
      obtain ⟨X', xm', xc', rfl, hu'⟩ := hu.form
      have R5 := HR.out.below hB5
      have hB5 := below_then HBB.out hB5
      obtain ⟨k0, k1⟩ := R5.cells
      obtain ⟨f0, f1⟩ := R5.frozen
      have HU := Lib.hid hu
      have H5 := Lib.hid R5
      have HB5 := Lib.hid hB5
      clear hu hu' R5 hB5
      go_wp2_with fail
      refine bodyPost_ret (v := .agg #[.bool (decide (Z < 0)), .slice X' xm' xc']) (by rw [results_one rfl]; go_simp) rfl ?_
      exact ⟨_, rfl, HU.out.plain H5.out.plain (Nat.le_of_eq (stor2o_size _ _ _ _ _).symm) (stor2o_heap w5 w.heap.size 0 _ _), below_stor2o HB5.out (Nat.le_refl _) _ _ _⟩
end
end Go.Proofs.Ytpmjhkpjhfpfpaa

/- Sizes for the generating polynomial of independent trials. Plain mathematics. -/
import Derived.Test.YtjemnankgjjgcaaPrfm
import Derived.Test.YtjemnankgjjgcaaSiz
import Derived.Test.YtjemnankgjjgcaaBown
import Derived.Test.YtjemnankgjjgcaaGrw
import Derived.Test.YtjemnankgjjgcaaPlyz
import Derived.Test.YtjemnankgjjgcaaPrfe
namespace Go.Proofs.Ytjemnankgjjgcaa
open Go.RowKit Dig
set_option linter.unusedVariables false

namespace Dig
/-- The probabilities that the laws build. -/
def pq (z : Int) : Rat := frz ([1, 1, 2, 1, 1, 0, 3, 1].getD (bits .and .i64 z 7).toNat 0) ([2, 3, 3, 4, 1, 1, 5, 7].getD (bits .and .i64 z 7).toNat 1)
/-- Above D, between 0 and 1. -/
def Unit1 (q : Rat) (D : Nat) : Prop := ∃ z : Int, q = (z : Rat) / (D : Rat) ∧ 0 ≤ z ∧ z ≤ (D : Int)
theorem pq_unit (z : Int) : Unit1 (pq z) 420 := by
  obtain ⟨x, hx, ex⟩ := and_low z 3 (by omega)
  have ex : bits .and .i64 z 7 = (x : Int) := ex
  have hx : x < 8 := hx
  unfold pq
  rw [ex, Int.toNat_natCast]
  rcases (by omega : x = 0 ∨ x = 1 ∨ x = 2 ∨ x = 3 ∨ x = 4 ∨ x = 5 ∨ x = 6 ∨ x = 7) with h | h | h | h | h | h | h | h <;> subst h
  · exact ⟨210, by decide +kernel, by omega, by omega⟩
  · exact ⟨140, by decide +kernel, by omega, by omega⟩
  · exact ⟨280, by decide +kernel, by omega, by omega⟩
  · exact ⟨105, by decide +kernel, by omega, by omega⟩
  · exact ⟨420, by decide +kernel, by omega, by omega⟩
  · exact ⟨0, by decide +kernel, by omega, by omega⟩
  · exact ⟨252, by decide +kernel, by omega, by omega⟩
  · exact ⟨60, by decide +kernel, by omega, by omega⟩
theorem Unit1.compl {q : Rat} {D : Nat} (h : Unit1 q D) (h0 : 0 < D) : Unit1 (1 - q) D := by
  obtain ⟨z, e, h1, h2⟩ := h
  have hD : (D : Rat) ≠ 0 := by exact_mod_cast (by omega : D ≠ 0)
  refine ⟨(D : Int) - z, ?_, by omega, by omega⟩
  rw [e]
  push_cast
  grind
theorem Unit1.mul {p q : Rat} {D E : Nat} (h : Unit1 p D) (h' : Unit1 q E) (h0 : 0 < D) (h0' : 0 < E) : Unit1 (p * q) (D * E) := by
  obtain ⟨z, e, h1, h2⟩ := h
  obtain ⟨y, e', g1, g2⟩ := h'
  have hD : (D : Rat) ≠ 0 := by exact_mod_cast (by omega : D ≠ 0)
  have hE : (E : Rat) ≠ 0 := by exact_mod_cast (by omega : E ≠ 0)
  refine ⟨z * y, ?_, Int.mul_nonneg h1 g1, ?_⟩
  · rw [e, e']
    push_cast
    grind
  · have a := Int.mul_le_mul h2 g2 g1 (by omega : (0 : Int) ≤ (D : Int))
    push_cast
    exact a
theorem Unit1.fits {q : Rat} {D k : Nat} (h : Unit1 q D) (h0 : 0 < D) (hk : D < 4294967296 ^ k) : q.num.natAbs < 4294967296 ^ k ∧ q.den < 4294967296 ^ k := by
  obtain ⟨z, e, h1, h2⟩ := h
  obtain ⟨a, b⟩ := over_parts h0 e
  exact ⟨by omega, Nat.lt_of_le_of_lt (Nat.le_of_dvd h0 a) hk⟩
theorem prb_unit {P : Nat → Rat} (h : ∀ i, Unit1 (P i) 420) (t : Nat) : ∀ m, Unit1 (prb P t m) (420 ^ m)
  | 0 => ⟨1, by rw [prb]; simp; decide +kernel, by omega, by simp⟩
  | m + 1 => by
    rw [prb, Nat.pow_succ]
    refine Unit1.mul (prb_unit h t m) ?_ (Nat.pow_pos (by omega)) (by omega)
    split
    · exact h m
    · exact (h m).compl (by omega)
theorem outc_over {P : Nat → Rat} (h : ∀ i, Unit1 (P i) 420) (m j : Nat) : ∀ N, ∃ z : Int, outc P m N j = (z : Rat) / ((420 ^ m : Nat) : Rat) ∧ 0 ≤ z ∧ z ≤ ((N * 420 ^ m : Nat) : Int)
  | 0 => ⟨0, by simp [outc, sumQ, Rat.div_def], by omega, by simp⟩
  | N + 1 => by
    obtain ⟨z, e, h1, h2⟩ := outc_over h m j N
    obtain ⟨y, e', g1, g2⟩ := prb_unit h N m
    have hD : ((420 ^ m : Nat) : Rat) ≠ 0 := by
      have : 420 ^ m ≠ 0 := Nat.pos_iff_ne_zero.1 (Nat.pow_pos (by omega))
      exact_mod_cast this
    have hN : (N + 1) * 420 ^ m = N * 420 ^ m + 420 ^ m := Nat.succ_mul _ _
    rw [outc_step]
    split
    · refine ⟨z + y, ?_, by omega, by rw [hN]; omega⟩
      rw [e, e']
      push_cast
      grind
    · refine ⟨z, ?_, h1, by rw [hN]; omega⟩
      rw [e]; grind
theorem outc_fits {P : Nat → Rat} (h : ∀ i, Unit1 (P i) 420) {m N : Nat} (j : Nat) (hm : m ≤ 6) (hN : N ≤ 64) : (outc P m N j).num.natAbs < 4294967296 ^ 2 ∧ (outc P m N j).den < 4294967296 ^ 2 := by
  obtain ⟨z, e, h1, h2⟩ := outc_over h m j N
  have hp : 0 < 420 ^ m := Nat.pow_pos (by omega)
  have h6 : 420 ^ m ≤ 420 ^ 6 := Nat.pow_le_pow_right (by omega) hm
  have h7 := Nat.mul_le_mul hN h6
  obtain ⟨a, b⟩ := over_parts hp e
  have c := Nat.le_of_dvd hp a
  have e6 : 420 ^ 6 = 5489031744000000 := by decide
  rw [e6] at h6 h7
  generalize 420 ^ m = D at *
  generalize N * D = ND at *
  omega
theorem prb_fits {P : Nat → Rat} (h : ∀ i, Unit1 (P i) 420) {t m : Nat} (hm : m ≤ 6) : (prb P t m).num.natAbs < 4294967296 ^ 2 ∧ (prb P t m).den < 4294967296 ^ 2 := by
  have hp : 0 < 420 ^ m := Nat.pow_pos (by omega)
  have h6 : 420 ^ m ≤ 420 ^ 6 := Nat.pow_le_pow_right (by omega) hm
  have e6 : 420 ^ 6 = 5489031744000000 := by decide
  exact (prb_unit h t m).fits hp (by omega)
theorem unit_fits {q : Rat} (h : Unit1 q 420) : q.num.natAbs < 4294967296 ^ 1 ∧ q.den < 4294967296 ^ 1 := h.fits (by omega) (by omega)
/-- The polynomial after i of the trials. -/
theorem gpoly_szd {P : Nat → Rat} (h : ∀ i, Unit1 (P i) 420) {i : Nat} (hi : i ≤ 6) : Szd (gpoly P i) (420 ^ i) 2 4 ∧ ∀ t, (cf (gpoly P i) t).num.natAbs < 4294967296 ^ 3 ∧ (cf (gpoly P i) t).den < 4294967296 ^ 3 := by
  have hd := gpoly_dby h i hi
  have hp : 0 < 420 ^ i := Nat.pow_pos (by omega)
  have h6 : 420 ^ i ≤ 420 ^ 6 := Nat.pow_le_pow_right (by omega) hi
  have h13 : 13 ^ i ≤ 13 ^ 6 := Nat.pow_le_pow_right (by omega) hi
  have e6 : 420 ^ 6 = 5489031744000000 := by decide
  have e13 : 13 ^ 6 = 4826809 := by decide
  rw [e6] at h6
  rw [e13] at h13
  have hH : 13 ^ i * 420 ^ i ≤ 4826809 * 5489031744000000 := Nat.mul_le_mul h13 h6
  have hHD : 13 ^ i * 420 ^ i * 420 ^ i ≤ 4826809 * 5489031744000000 * 5489031744000000 := Nat.mul_le_mul hH h6
  generalize 420 ^ i = D at *
  generalize 13 ^ i * D = H at *
  refine ⟨hd.szd (by omega) (by omega), fun t => ?_⟩
  obtain ⟨z, e, hz⟩ := hd.2 t
  obtain ⟨a, b⟩ := over_parts hp e
  have c := Nat.le_of_dvd hp a
  omega
theorem pair_szd {q : Rat} (h : Unit1 q 420) : Szd (tr [1 - q, q]) 420 1 1 := by
  have hb : Dby [1 - q, q] 420 420 := ⟨by omega, fun t => by
    obtain ⟨z, e, h1, h2⟩ := h
    match t with
    | 0 => exact ⟨420 - z, by rw [cf_zero, e]; push_cast; grind, by omega⟩
    | 1 => exact ⟨z, by rw [cf_succ, cf_zero, e], by omega⟩
    | t + 2 => exact ⟨0, by rw [cf_over (by simp)]; simp [Rat.div_def], by simp⟩⟩
  exact hb.tr.szd (by omega) (by omega)
theorem shift_bit (t i : Nat) : t >>> i % 2 = bitAt t i := by rw [Nat.shiftRight_eq_div_pow]; rfl
end Dig
end Go.Proofs.Ytjemnankgjjgcaa

/- A row of fractions each of which may be replaced: what stays. -/
namespace Go.Proofs.Ytjemnankgjjgcaa
open Go.RowKit Dig
set_option linter.unusedVariables false

/-- A row of N fractions with the values F. -/
def SRow (w : World) (g N : Nat) (F : Nat → Rat) : Prop := ∃ ts, FBlk w g ts ∧ ts.length = N ∧ ∀ j, j < N → FracV w (ts.getD j .zero).val (F j) 2
section
variable {w w' : World} {g N n : Nat} {F G : Nat → Rat}
theorem SRow.start (h : FBlk w g (List.replicate N .zero)) : SRow w g N (fun _ => 0) := ⟨_, h, by simp, fun j hj => by
  rw [List.getD_eq_getElem?_getD, List.getElem?_eq_getElem (by simpa using hj)]
  simp only [List.getElem_replicate, Option.getD_some]
  exact FracV.zero _ _⟩
theorem SRow.congr (h : SRow w g N F) (he : ∀ j, j < N → F j = G j) : SRow w g N G := by
  obtain ⟨ts, hF, hl, hE⟩ := h
  exact ⟨ts, hF, hl, fun j hj => he j hj ▸ hE j hj⟩
theorem SRow.below (h : SRow w g N F) (hb : Below w.heap.size w w') : SRow w' g N F := by
  obtain ⟨ts, hF, hl, hE⟩ := h
  exact ⟨ts, hF.below hb, hl, fun j hj => FracV.below (hE j hj) hb⟩
theorem SRow.lt (h : SRow w g N F) : g < w.heap.size := by
  obtain ⟨ts, hF, _⟩ := h
  exact hF.lt
theorem SRow.frozen (h : SRow w g N F) (j : Nat) : w.frozen? ⟨g, j, none⟩ = false := by
  obtain ⟨ts, hF, _⟩ := h
  exact hF.frozen j
theorem SRow.cells (h : SRow w g N F) (hn : n < N) : ∃ tb X xm xc Y ym yc, w.cell? ⟨g, n * 3, none⟩ = some (.bool tb) ∧ w.cell? ⟨g, n * 3 + 1, none⟩ = some (.slice X xm xc) ∧ w.cell? ⟨g, n * 3 + 2, none⟩ = some (.slice Y ym yc) ∧
      FracV w (.agg #[.bool tb, .slice X xm xc, .slice Y ym yc]) (F n) 2 := by
  obtain ⟨ts, hF, hl, hE⟩ := h
  obtain ⟨c0, c1, c2⟩ := hF.cells (j := n) (by omega)
  have hv := hE n hn
  generalize ts.getD n .zero = t at c0 c1 c2 hv
  obtain ⟨tb, ⟨X, xm, xc⟩, ⟨Y, ym, yc⟩⟩ := t
  exact ⟨tb, X, xm, xc, Y, ym, yc, c0, c1, c2, hv⟩
theorem SRow.set (h : SRow w g N F) (hn : n < N) {b : Bool} {X Y : Option Addr} {xm xc ym yc : Nat} (hE : FracV w (.agg #[.bool b, .slice X xm xc, .slice Y ym yc]) (G n) 2) (hG : ∀ j, j < N → j ≠ n → F j = G j) :
    SRow (stor3o w g (n * 3) (.bool b) (.slice X xm xc) (.slice Y ym yc)) g N G := by
  obtain ⟨ts, hF, hl, h⟩ := h
  have hS : FBlk (stor3o w g (n * 3) (.bool b) (.slice X xm xc) (.slice Y ym yc)) g (ts.set n ⟨b, (X, xm, xc), (Y, ym, yc)⟩) := hF.set (by omega) (⟨b, (X, xm, xc), (Y, ym, yc)⟩ : Tri)
  have hs : w.heap.size ≤ (stor3o w g (n * 3) (.bool b) (.slice X xm xc) (.slice Y ym yc)).heap.size := Nat.le_of_eq (stor3o_size _ _ _ _ _ _).symm
  have hk := stor3o_heap w g (n * 3) (.bool b) (.slice X xm xc) (.slice Y ym yc)
  generalize stor3o w g (n * 3) (.bool b) (.slice X xm xc) (.slice Y ym yc) = w3 at *
  refine ⟨_, hS, by simpa using hl, fun j hj => ?_⟩
  by_cases h1 : j = n
  · subst h1
    rw [List.getD_eq_getElem?_getD, List.getElem?_set_self (by omega)]
    exact (keeps_FV 2).apart (v := .agg #[.bool b, .slice X xm xc, .slice Y ym yc]) hE hF hs hk
  · rw [List.getD_eq_getElem?_getD, List.getElem?_set_ne (by omega), ← List.getD_eq_getElem?_getD, ← hG j hj h1]
    exact (keeps_FV 2).apart (h j hj) hF hs hk
theorem SRow.done (h : SRow w g N F) (hN : N ≤ 1000000) : Fls (FV 2) w (.slice (some ⟨g, 0, none⟩) N N) (mk N F) := by
  obtain ⟨ts, hF, hl, hE⟩ := h
  have : Ofl (FV 2) 0 w (.slice (some ⟨g, 0, none⟩) (mk N F).length ts.length) (mk N F) := .inr ⟨g, ts, rfl, Nat.zero_le _, hF, by rw [mk_length]; omega, by unfold maxLen; omega, fun j hj => by
    rw [mk_length] at hj
    have h1 := hE j hj
    have h2 := cf_mk N F j
    rw [if_pos hj] at h2
    unfold cf at h2
    rw [h2]
    exact h1⟩
  have h3 := this.fls
  rwa [mk_length, hl] at h3
end
end Go.Proofs.Ytjemnankgjjgcaa

/- The contract of credencebase.Prob. -/
namespace Go.Proofs.Ytjemnankgjjgcaa
open Go.RowKit Dig
set_option linter.unusedVariables false

set_option maxHeartbeats 8000000 in
theorem baseProb_v (w : World) (z : Int) : Calls Try.prog 42 #[.int .i64 z] w (RCanF w (pq z) 2) := by
  obtain ⟨x, hx, ex⟩ := and_low z 3 (by omega)
  have ex : bits .and .i64 z 7 = (x : Int) := ex
  have hx : x < 8 := hx
  unfold pq
  rw [ex, Int.toNat_natCast]
  have R0 := Lib.hid (Fcl.new w false (.slice none 0 0) (.slice none 0 0))
  have hB0 : Below w.heap.size w (w.alloc (.cells #[.bool false, .slice none 0 0, .slice none 0 0] 29)) := (Below.refl _ _).alloc (Nat.le_refl _) _
  have NW := Lib.hid (fun (i : Nat) (hi : i < 8) w1 => fracNew_v w1 ([1, 1, 2, 1, 1, 0, 3, 1].getD i 0) ([2, 3, 3, 4, 1, 1, 5, 7].getD i 1) (by unfold Fits64; rcases (by omega : i = 0 ∨ i = 1 ∨ i = 2 ∨ i = 3 ∨ i = 4 ∨ i = 5 ∨ i = 6 ∨ i = 7) with h | h | h | h | h | h | h | h <;> subst h <;> decide) (by unfold Fits64; rcases (by omega : i = 0 ∨ i = 1 ∨ i = 2 ∨ i = 3 ∨ i = 4 ∨ i = 5 ∨ i = 6 ∨ i = 7) with h | h | h | h | h | h | h | h <;> subst h <;> decide) (by rcases (by omega : i = 0 ∨ i = 1 ∨ i = 2 ∨ i = 3 ∨ i = 4 ∨ i = 5 ∨ i = 6 ∨ i = 7) with h | h | h | h | h | h | h | h <;> subst h <;> decide))
  have NX := Lib.hid (NW.out x hx)
  clear NW
  rcases (by omega : x = 0 ∨ x = 1 ∨ x = 2 ∨ x = 3 ∨ x = 4 ∨ x = 5 ∨ x = 6 ∨ x = 7) with h | h | h | h | h | h | h | h <;> subst h
  all_goals
    go_enter Try.func42, Try.ntmps42
    go_wp2_with fail
    refine (NX.out _).mono ?_
    rintro e w1 ⟨v, rfl, hv, hB1⟩
    have R1 := ((R0.out.alloc _).alloc _).below hB1
    have hB1 := below_then (below_alloc3 w _ _ _) hB1
    obtain ⟨b, A, m, c, A', m', c', rfl, hb, hvx, hvy⟩ := hv.parts
    obtain ⟨W, g, ew, eg, hBW, hFW⟩ := var1 w1 b (.slice A m c) (.slice A' m' c')
    have R2 := R1.below hBW
    have hx2 := hvx.below hBW
    have hy2 := hvy.below hBW
    have hB2 := below_then hB1 hBW
    obtain ⟨k0, k1, k2⟩ := R2.cells
    obtain ⟨f0, f1, f2⟩ := R2.frozen
    obtain ⟨d0, d1, d2⟩ := hFW.cells
    go_wp2_with fail
    refine bodyPost_ret (v := .agg #[.bool b, .slice A m c, .slice A' m' c']) (by rw [results_one rfl]; go_simp) rfl ?_
    exact RCanF.stored hb hx2 hy2 R2 hB2 (Nat.le_refl _) (.bool b)
end Go.Proofs.Ytjemnankgjjgcaa

/- What the law PolyGenerating uses: lists that stay while another one grows, and the calls with small values. -/
namespace Go.Proofs.Ytjemnankgjjgcaa
open Go.RowKit Dig
set_option linter.unusedVariables false

section
variable {w w' : World} {g base : Nat} {ts : List Tri} {qs : List Rat}
theorem and_one64 (x : Nat) (hx : x < 2 ^ 64) : bits .and .i64 (x : Int) 1 = ((x % 2 : Nat) : Int) := by
  show IntKind.i64.wrap ((BitVec.ofInt 64 (x : Int) &&& BitVec.ofInt 64 1).toNat : Int) = _
  have e1 : (BitVec.ofInt 64 (x : Int)).toNat = x := by
    rw [BitVec.ofInt_natCast, BitVec.toNat_ofNat]
    exact Nat.mod_eq_of_lt hx
  have e2 : (BitVec.ofInt 64 1).toNat = 2 ^ 1 - 1 := by decide
  rw [BitVec.toNat_and, e1, e2, Nat.and_two_pow_sub_one_eq_mod, IntKind.wrap_i64]
  omega
theorem bit_word (t i : Nat) (ht : t < 2 ^ 63) : bits .and .i64 ((t : Int) / 2 ^ i) 1 = ((bitAt t i : Nat) : Int) := by
  have e : (t : Int) / 2 ^ i = ((t / 2 ^ i : Nat) : Int) := by push_cast; rfl
  have h := Nat.div_le_self t (2 ^ i)
  rw [e, and_one64 _ (by omega)]
  rfl
theorem one_p (w : World) : Calls Try.prog 41 #[.agg #[.bool false, .slice none 0 0, .slice none 0 0]] w (RCanF w 1 2) := by
  refine (compl_v (FracV.zero w 2) (by omega) (by omega)).mono ?_
  rintro e w1 ⟨u, rfl, hu, hB⟩
  rw [show (1 : Rat) - 0 = 1 by grind] at hu
  exact ⟨u, rfl, CanF.fit hu (by decide +kernel) (by decide +kernel), hB⟩
theorem cpl_p {v : Value} {q : Rat} (h : CanF w v q 2) (hq : Unit1 q 420) : Calls Try.prog 41 #[v] w (RCanF w (1 - q) 2) := by
  refine (compl_v h.fracV (by omega) (by omega)).mono ?_
  rintro e w1 ⟨u, rfl, hu, hB⟩
  have hf := (hq.compl (by omega)).fits (k := 2) (by omega) (by omega)
  exact ⟨u, rfl, CanF.fit hu hf.1 hf.2, hB⟩
theorem prb_p {va vb : Value} {P : Nat → Rat} (hP : ∀ i, Unit1 (P i) 420) {t m : Nat} {x : Rat} (hm : m < 6) (ha : CanF w va (prb P t m) 2) (hb : CanF w vb x 2) (hx : (if bitAt t m = 1 then P m else 1 - P m) = x) :
    Calls Try.prog 39 #[va, vb] w (RCanF w (prb P t (m + 1)) 2) := by
  refine (mulf_v ha.fracV hb.fracV (by omega) (by omega) (by omega)).mono ?_
  rintro e w1 ⟨u, rfl, hu, hB⟩
  have hf := prb_fits hP (t := t) (m := m + 1) (by omega)
  have e : prb P t m * x = prb P t (m + 1) := by rw [prb, hx]
  rw [e] at hu
  exact ⟨u, rfl, CanF.fit hu hf.1 hf.2, hB⟩
theorem outc_p {va vb : Value} {P : Nat → Rat} (hP : ∀ i, Unit1 (P i) 420) {t m : Nat} (hm : m ≤ 6) (ht : t < 2 ^ m) (ha : FracV w va (outc P m t (cnt t m)) 2) (hb : CanF w vb (prb P t m) 2) :
    Calls Try.prog 40 #[va, vb] w (RCanF w (outc P m (t + 1) (cnt t m)) 2) := by
  refine (addf_v ha hb.fracV (by omega) (by omega) (by omega) (by omega)).mono ?_
  rintro e w1 ⟨u, rfl, hu, hB⟩
  have h64 : 2 ^ m ≤ 2 ^ 6 := Nat.pow_le_pow_right (by omega) hm
  have hf := outc_fits hP (m := m) (N := t + 1) (cnt t m) hm (by omega)
  have e : outc P m t (cnt t m) + prb P t m = outc P m (t + 1) (cnt t m) := by rw [outc_step, if_pos rfl]
  rw [e] at hu
  exact ⟨u, rfl, CanF.fit hu hf.1 hf.2, hB⟩
theorem gmul_p {va vb : Value} {P : Nat → Rat} (hP : ∀ i, Unit1 (P i) 420) {j : Nat} (hj : j < 6) (ha : Fls (CV 3) w va (gpoly P j)) (hb : Fls (FV 2) w vb [1 - P j, P j]) :
    Calls Try.prog 17 #[va, vb] w (RPol w (gpoly P (j + 1)) 3) := by
  have hl := gpoly_len P j
  refine (mul_p (K := 2) (M := 4) (D := 420 ^ j) (L := 1) (N := 1) (E := 420) ha.fv hb (by omega) (by omega) (by omega) (by omega) (by omega) (by omega) (by rw [tr_gpoly]; exact (gpoly_szd hP (by omega)).1) (pair_szd (hP j)) (by omega) (by omega) (by omega) (by omega) (by simp)).mono ?_
  rintro e w1 ⟨u, rfl, hu, hB⟩
  exact ⟨u, rfl, Ofl.fitC hu (gpoly_szd hP (show j + 1 ≤ 6 by omega)).2, hB⟩
end
section
variable {ev : Operand → Value} {o : Oper} {w : World}
/-- The address of an element of a row of fractions. -/
theorem exec_indexS (x i : Tmp) {b off n c j : Nat} {z : Int} (ho : o.op = .indexAddr 23 (.tmp x) (.tmp i)) (hx : ev (.tmp x) = .slice (some ⟨b, off, none⟩) n c) (hi : ev (.tmp i) = .int .i64 z) (hz : z = (j : Int)) (hj : j < n) :
    (execOp ev o).run Try.prog w = .ok (.value (.pointer (some ⟨b, off + j * 3, none⟩))) w := by
  subst hz
  have hu : Try.prog.underlying 23 = some (.slice 29) := by kernel_rfl
  obtain ⟨i0, hi0, hz0, hz1, hz2⟩ := info_parts info_frac
  have hr : (Instr.indexAt 23 (.slice (some ⟨b, off, none⟩) n c) (.int .i64 (j : Int))).run Try.prog w = .ok (.pointer (some ⟨b, off + j * 3, none⟩)) w := by
    simp [Instr.indexAt, run_underlying hu, asIntOf, hj, sizeOf, typeInfo, hi0, hz1, Sem.run_bind, Addr.add]
  unfold execOp
  simp only [ho, hx, hi, Sem.run_bind, hr, Result.andThen_ok, Sem.run_pure]
/-- A row of two fractions. -/
theorem exec_buildF2 (t s : Tmp) {b b2 : Bool} {A A' B B' : Option Addr} {m c m' c' n d n' d' : Nat} (ho : o.op = .buildSlice 24 2 #[(0, .tmp t), (1, .tmp s)]) (hv : ev (.tmp t) = .agg #[.bool b, .slice A m c, .slice A' m' c']) (hv2 : ev (.tmp s) = .agg #[.bool b2, .slice B n d, .slice B' n' d']) :
    (execOp ev o).run Try.prog w = .ok (.value (.slice (some ⟨w.heap.size, 0, none⟩) 2 2)) (w.alloc (.cells #[.bool b, .slice A m c, .slice A' m' c', .bool b2, .slice B n d, .slice B' n' d'] 29)) := by
  cases o
  simp only at ho
  subst ho
  unfold execOp
  go_simp
end
/-- Two fractions in a block that was just laid. -/
theorem FracV.pair {w : World} {b b2 : Bool} {A A' B B' : Option Addr} {m c m' c' n d n' d' k : Nat} {p q : Rat} (h : FracV w (.agg #[.bool b, .slice A m c, .slice A' m' c']) p k) (h2 : FracV w (.agg #[.bool b2, .slice B n d, .slice B' n' d']) q k) :
    Fls (FV k) (w.alloc (.cells #[.bool b, .slice A m c, .slice A' m' c', .bool b2, .slice B n d, .slice B' n' d'] 29)) (.slice (some ⟨w.heap.size, 0, none⟩) 2 2) [p, q] := by
  have hB : FBlk (w.alloc (.cells (tcells [⟨b, (A, m, c), (A', m', c')⟩, ⟨b2, (B, n, d), (B', n', d')⟩]).toArray 29)) w.heap.size [⟨b, (A, m, c), (A', m', c')⟩, ⟨b2, (B, n, d), (B', n', d')⟩] := FBlk.new w _
  have hA : Below w.heap.size w (w.alloc (.cells (tcells [⟨b, (A, m, c), (A', m', c')⟩, ⟨b2, (B, n, d), (B', n', d')⟩]).toArray 29)) := (Below.refl _ _).alloc (Nat.le_refl _) _
  have hv := FracV.below h hA
  have hv2 := FracV.below h2 hA
  exact Fls.of_blk hB rfl (by simp) (fun i hi => by
    match i, hi with
    | 0, _ => exact hv
    | 1, _ => exact hv2
    | i + 2, hi => simp at hi; omega)
end Go.Proofs.Ytjemnankgjjgcaa

/- Products of polynomials as rows of products that are added; the generating polynomial of independent trials. Plain mathematics. -/
import Derived.Test.YtjemnankgjjgcaaSiz
import Derived.Test.YtjemnankgjjgcaaPlyG
import Derived.Test.YtjemnankgjjgcaaPlyd
import Derived.Test.YtjemnankgjjgcaaPsam
import Derived.Test.YtjemnankgjjgcaaRefkn
import Derived.Test.YtjemnankgjjgcaaKnow3
import Derived.Test.YtjemnankgjjgcaaOf
namespace Go.Proofs.Ytjemnankgjjgcaa
open Go.RowKit Dig
set_option linter.unusedVariables false

namespace Dig
theorem sumQ_same {F : Nat → Rat} : ∀ {a b : Nat}, a ≤ b → (∀ i, a ≤ i → i < b → F i = 0) → sumQ b F = sumQ a F
  | a, 0, h, _ => by rw [Nat.le_zero.1 h]
  | a, b + 1, h, hz => by
    rcases Nat.eq_or_lt_of_le h with h1 | h1
    · rw [h1]
    · rw [sumQ, sumQ_same (a := a) (b := b) (by omega) (fun i h2 h3 => hz i h2 (by omega)), hz b (by omega) (by omega)]
      grind
theorem sumQ_congr {F G : Nat → Rat} : ∀ {n : Nat}, (∀ i, i < n → F i = G i) → sumQ n F = sumQ n G
  | 0, _ => rfl
  | n + 1, h => by rw [sumQ, sumQ, sumQ_congr (fun i hi => h i (by omega)), h n (by omega)]
/-- The coefficient of x^(j-t). -/
def gat (q : List Rat) (j t : Nat) : Rat := if t ≤ j then cf q (j - t) else 0
/-- What the first i rows of products add to the coefficient of x^j. -/
def acc (p q : List Rat) (i j : Nat) : Rat := sumQ i fun t => cf p t * gat q j t
theorem acc_step (p q : List Rat) (i j : Nat) : acc p q (i + 1) j = acc p q i j + cf p i * gat q j i := rfl
theorem acc_done (p q : List Rat) (j : Nat) : acc p q p.length j = conv (cf p) (cf q) j := by
  rw [conv_sumQ]
  unfold acc
  rw [← sumQ_same (a := p.length) (b := max p.length (j + 1)) (by omega) (fun i h1 h2 => by rw [cf_over h1]; grind)]
  rw [sumQ_same (a := j + 1) (b := max p.length (j + 1)) (by omega) (fun i h1 h2 => by unfold gat; rw [if_neg (by omega)]; grind)]
  exact sumQ_congr fun i hi => by unfold gat; rw [if_pos (by omega)]
theorem acc_mid (p q : List Rat) (i k : Nat) : acc p q (i + 1) (i + k) = acc p q i (i + k) + cf p i * cf q k := by
  rw [acc_step]
  unfold gat
  rw [if_pos (by omega), show i + k - i = k by omega]
theorem acc_out (p q : List Rat) {i j : Nat} (h : j < i ∨ i + q.length ≤ j) : acc p q (i + 1) j = acc p q i j := by
  rw [acc_step]
  unfold gat
  split
  · rw [cf_over (p := q) (by omega)]; grind
  · grind
theorem acc_mul (p q : List Rat) : tr (mk (p.length + q.length - 1) (acc p q p.length)) = pmul p q := by
  unfold pmul
  refine tr_ext fun i => ?_
  rw [cf_mk, cf_mk, acc_done]
  by_cases h : i < p.length + q.length
  · rw [if_pos h]
    split
    · rfl
    · exact (conv_over _ _ p.length q.length i (fun _ h => cf_over h) (fun _ h => cf_over h) (by omega)).symm
  · rw [if_neg h, if_neg (by omega)]

/-- The polynomial of the number of successes of the first i trials. -/
def gpoly (P : Nat → Rat) : Nat → List Rat
  | 0 => [1]
  | i + 1 => pmul (gpoly P i) [1 - P i, P i]
theorem tr_gpoly (P : Nat → Rat) : ∀ i, tr (gpoly P i) = gpoly P i
  | 0 => by simp [gpoly, tr]
  | i + 1 => tr_tr _
theorem gpoly_len (P : Nat → Rat) : ∀ i, (gpoly P i).length ≤ 2 * i + 1
  | 0 => by simp [gpoly]
  | i + 1 => by
    unfold gpoly pmul
    refine Nat.le_trans (tr_le _) ?_
    rw [mk_length]
    have := gpoly_len P i
    simp only [List.length_cons, List.length_nil]
    omega
theorem conv_two0 (f : Nat → Rat) (a b : Rat) : conv f (cf [a, b]) 0 = f 0 * a := rfl
theorem conv_two (f : Nat → Rat) (a b : Rat) (k : Nat) : conv f (cf [a, b]) (k + 1) = f (k + 1) * a + f k * b := by
  rw [conv_comm, conv]
  have h : conv (fun i => cf [a, b] (i + 1)) f k = b * f k := by
    cases k with
    | zero => rfl
    | succ k =>
      rw [conv, conv_zero_l (fun i => cf [a, b] (i + 1 + 1)) f k (fun i => by rw [cf_over]; simp)]
      rw [show cf [a, b] (0 + 1) = b from rfl]
      grind
  rw [h, show cf [a, b] 0 = a from rfl]
  grind
theorem ev_gpoly (P : Nat → Rat) : ∀ i, ev (gpoly P i) 1 = 1
  | 0 => by simp only [gpoly, ev]; grind
  | i + 1 => by
    rw [gpoly, ev_pmul, ev_gpoly P i]
    simp only [ev]
    grind
theorem lsum_gpoly (P : Nat → Rat) (i : Nat) : lsum (gpoly P i) = 1 := by rw [← ev_one, ev_gpoly]
theorem mean_gpoly (P : Nat → Rat) : ∀ i, lsum (pder (gpoly P i)) = lsum (mk i P)
  | 0 => by
    rw [← ev_one]
    simp only [gpoly, mk, List.range_zero, List.map_nil, lsum]
    exact ev_zero 1 fun i => by rw [cf_pder, der, cf_over (by simp)]; grind
  | i + 1 => by
    have h := mean_gpoly P i
    rw [← ev_one] at h
    rw [← ev_one, gpoly, pder_pmul, ev_padd, ev_pmul, ev_pmul, h, ev_gpoly, mk_succ, lsum_append]
    have e1 : ev [1 - P i, P i] 1 = 1 := by simp only [ev]; grind
    have e2 : ev (pder [1 - P i, P i]) 1 = P i := by
      have : ev (pder [1 - P i, P i]) 1 = ev [P i] 1 := ev_ext 1 fun t => by
        rw [cf_pder, der]
        cases t with
        | zero => rw [cf_succ, cf_zero]; simp; grind
        | succ t => rw [cf_over (by simp), cf_over (by simp)]; grind
      rw [this]
      simp only [ev]
      grind
    rw [e1, e2]
    simp only [lsum]
    grind
def bitAt (t i : Nat) : Nat := t / 2 ^ i % 2
/-- How many of the first m bits are set. -/
def cnt (t : Nat) : Nat → Nat
  | 0 => 0
  | m + 1 => cnt t m + bitAt t m
def prb (P : Nat → Rat) (t : Nat) : Nat → Rat
  | 0 => 1
  | m + 1 => prb P t m * (if bitAt t m = 1 then P m else 1 - P m)
theorem bitAt_lt (t i : Nat) : bitAt t i < 2 := Nat.mod_lt _ (by omega)
theorem cnt_le (t : Nat) : ∀ m, cnt t m ≤ m
  | 0 => Nat.le_refl _
  | m + 1 => by have := cnt_le t m; have := bitAt_lt t m; rw [cnt]; omega
theorem bitAt_high {t m i : Nat} (h : i < m) : bitAt (2 ^ m + t) i = bitAt t i := by
  unfold bitAt
  have e : 2 ^ m = 2 ^ i * (2 * 2 ^ (m - i - 1)) := by
    rw [← Nat.mul_assoc, ← Nat.pow_succ, ← Nat.pow_add]; congr 1; omega
  rw [e, Nat.mul_add_div (Nat.pow_pos (by omega))]
  omega
theorem bitAt_top {t m : Nat} (h : t < 2 ^ m) : bitAt (2 ^ m + t) m = 1 := by
  unfold bitAt
  rw [Nat.add_div_left _ (Nat.pow_pos (by omega)), Nat.div_eq_of_lt h]
theorem bitAt_none {t m : Nat} (h : t < 2 ^ m) : bitAt t m = 0 := by
  unfold bitAt
  rw [Nat.div_eq_of_lt h]
theorem cnt_high {t m : Nat} : ∀ {i : Nat}, i ≤ m → cnt (2 ^ m + t) i = cnt t i
  | 0, _ => rfl
  | i + 1, h => by rw [cnt, cnt, cnt_high (by omega), bitAt_high (by omega)]
theorem prb_high (P : Nat → Rat) {t m : Nat} : ∀ {i : Nat}, i ≤ m → prb P (2 ^ m + t) i = prb P t i
  | 0, _ => rfl
  | i + 1, h => by rw [prb, prb, prb_high P (by omega), bitAt_high (by omega)]
/-- The sum over the first N sets of those with j members. -/
def outc (P : Nat → Rat) (m N j : Nat) : Rat := sumQ N fun t => if cnt t m = j then prb P t m else 0
theorem outc_step (P : Nat → Rat) (m N j : Nat) : outc P m (N + 1) j = outc P m N j + if cnt N m = j then prb P N m else 0 := rfl
theorem sumQ_add (F : Nat → Rat) (a : Nat) : ∀ b, sumQ (a + b) F = sumQ a F + sumQ b fun t => F (a + t)
  | 0 => by simp only [Nat.add_zero, sumQ]; grind
  | b + 1 => by rw [← Nat.add_assoc, sumQ, sumQ_add F a b, sumQ]; grind
theorem sumQ_scale (c : Rat) (F : Nat → Rat) : ∀ n, sumQ n (fun t => F t * c) = sumQ n F * c
  | 0 => by simp only [sumQ]; grind
  | n + 1 => by rw [sumQ, sumQ_scale c F n, sumQ]; grind
theorem outc_gpoly (P : Nat → Rat) : ∀ m j, outc P m (2 ^ m) j = cf (gpoly P m) j
  | 0, j => by
    simp only [outc, Nat.pow_zero, sumQ, cnt, prb, gpoly]
    cases j with
    | zero => rw [cf_zero]; simp; grind
    | succ j => rw [cf_over (by simp)]; simp; grind
  | m + 1, j => by
    unfold outc
    rw [Nat.pow_succ, Nat.mul_two, sumQ_add]
    have h1 : sumQ (2 ^ m) (fun t => if cnt t (m + 1) = j then prb P t (m + 1) else 0) = outc P m (2 ^ m) j * (1 - P m) := by
      unfold outc
      rw [← sumQ_scale]
      refine sumQ_congr fun t ht => ?_
      rw [cnt, prb, bitAt_none ht, if_neg (show ¬ (0 = 1) by omega), Nat.add_zero]
      split
      · rfl
      · grind
    have h2 : sumQ (2 ^ m) (fun t => if cnt (2 ^ m + t) (m + 1) = j then prb P (2 ^ m + t) (m + 1) else 0) = (if j = 0 then 0 else outc P m (2 ^ m) (j - 1) * P m) := by
      cases j with
      | zero =>
        rw [if_pos rfl, sumQ_same (a := 0) (b := 2 ^ m) (Nat.zero_le _) (fun t _ ht => by rw [cnt, bitAt_top ht, if_neg (by omega)])]
        rfl
      | succ j =>
        rw [if_neg (by omega)]
        unfold outc
        rw [← sumQ_scale]
        refine sumQ_congr fun t ht => ?_
        rw [cnt, prb, bitAt_top ht, if_pos rfl, cnt_high (Nat.le_refl _), prb_high P (Nat.le_refl _), Nat.add_sub_cancel]
        by_cases h : cnt t m = j
        · rw [if_pos (by omega), if_pos h]
        · rw [if_neg (by omega), if_neg h]; grind
    rw [h1, h2, outc_gpoly P m, gpoly, cf_pmul]
    cases j with
    | zero => rw [if_pos rfl, conv_two0]; grind
    | succ j => rw [if_neg (by omega), conv_two, Nat.add_sub_cancel, outc_gpoly P m]
theorem gpoly_sums (P : Nat → Rat) (m : Nat) : gpoly P m = tr (mk (m + 1) (outc P m (2 ^ m))) := by
  rw [← tr_gpoly]
  refine tr_ext fun i => ?_
  rw [cf_mk]
  split
  · rw [outc_gpoly]
  · rw [← outc_gpoly]
    unfold outc
    rw [sumQ_same (a := 0) (b := 2 ^ m) (Nat.zero_le _) (fun t _ _ => by
      have := cnt_le t m
      rw [if_neg (by omega)])]
    rfl
/-- Sizes. -/
theorem gpoly_dby {P : Nat → Rat} (h : ∀ i, ∃ z : Int, P i = (z : Rat) / ((420 : Nat) : Rat) ∧ 0 ≤ z ∧ z ≤ 420) : ∀ i, i ≤ 6 → Dby (gpoly P i) (420 ^ i) (13 ^ i * 420 ^ i)
  | 0, _ => ⟨by omega, fun t => by
    cases t with
    | zero => exact ⟨1, by simp [gpoly, cf]; grind, by simp⟩
    | succ t => exact ⟨0, by rw [gpoly, cf_over (by simp)]; simp [Rat.div_def], by simp⟩⟩
  | i + 1, hi => by
    have ih := gpoly_dby h i (by omega)
    obtain ⟨z, e, h0, h1⟩ := h i
    have hb : Dby [1 - P i, P i] 420 420 := ⟨by omega, fun t => by
      match t with
      | 0 => exact ⟨420 - z, by rw [cf_zero, e]; push_cast; grind, by omega⟩
      | 1 => exact ⟨z, by rw [cf_succ, cf_zero, e], by omega⟩
      | t + 2 => exact ⟨0, by rw [cf_over (by simp)]; simp [Rat.div_def], by simp⟩⟩
    have hm := Dby.mul ih hb (n := 13) (by have := gpoly_len P i; omega)
    rw [gpoly, Nat.pow_succ]
    refine hm.le ?_
    rw [Nat.pow_succ]
    exact Nat.le_of_eq (by ac_rfl)
end Dig
end Go.Proofs.Ytjemnankgjjgcaa

/- The contracts of the reference functions FracInt and PolyNorm. -/
namespace Go.Proofs.Ytjemnankgjjgcaa
open Go.RowKit Dig
set_option linter.unusedVariables false

/-- A list of canonical fractions comes back. -/
def RPF (w : World) (qs : List Rat) (k : Nat) (e : Ending) (w' : World) : Prop := ∃ v, e = .returned v ∧ Fls (CV k) w' v qs ∧ Below w.heap.size w w'
namespace Dig
theorem take_cf {qs : List Rat} {j : Nat} (h : j < qs.length) : qs.take (j + 1) = qs.take j ++ [cf qs j] := by
  rw [List.take_succ_eq_append_getElem h, cf, List.getD_eq_getElem?_getD, List.getElem?_eq_getElem h]
  rfl
theorem fr_nat (i : Nat) : fr false i 1 = (i : Rat) := by
  unfold fr
  rw [show sg false i = (i : Int) from rfl, Rat.mkRat_one]
  rfl
theorem num_zero_iff {q : Rat} : q.num.natAbs = 0 ↔ q = 0 := by
  rw [Int.natAbs_eq_zero]
  exact Rat.num_eq_zero
end Dig
/-- One fraction in a block that was just laid. -/
theorem CanF.elem {w : World} {b : Bool} {A A' : Option Addr} {m c m' c' k : Nat} {q : Rat} (h : CanF w (.agg #[.bool b, .slice A m c, .slice A' m' c']) q k) :
    Fls (CV k) (w.alloc (.cells #[.bool b, .slice A m c, .slice A' m' c'] 29)) (.slice (some ⟨w.heap.size, 0, none⟩) 1 1) [q] := by
  have hB : FBlk (w.alloc (.cells (tcells [⟨b, (A, m, c), (A', m', c')⟩]).toArray 29)) w.heap.size [⟨b, (A, m, c), (A', m', c')⟩] := FBlk.new w _
  have hA : Below w.heap.size w (w.alloc (.cells (tcells [⟨b, (A, m, c), (A', m', c')⟩]).toArray 29)) := (Below.refl _ _).alloc (Nat.le_refl _) _
  have hv := CanF.below h hA
  exact Fls.of_blk hB rfl (by simp) (fun i hi => by
    match i, hi with
    | 0, _ => exact hv
    | i + 1, hi => simp at hi)
theorem FracV.elem {w : World} {b : Bool} {A A' : Option Addr} {m c m' c' k : Nat} {q : Rat} (h : FracV w (.agg #[.bool b, .slice A m c, .slice A' m' c']) q k) :
    Fls (FV k) (w.alloc (.cells #[.bool b, .slice A m c, .slice A' m' c'] 29)) (.slice (some ⟨w.heap.size, 0, none⟩) 1 1) [q] := by
  have hB : FBlk (w.alloc (.cells (tcells [⟨b, (A, m, c), (A', m', c')⟩]).toArray 29)) w.heap.size [⟨b, (A, m, c), (A', m', c')⟩] := FBlk.new w _
  have hA : Below w.heap.size w (w.alloc (.cells (tcells [⟨b, (A, m, c), (A', m', c')⟩]).toArray 29)) := (Below.refl _ _).alloc (Nat.le_refl _) _
  have hv := FracV.below h hA
  exact Fls.of_blk hB rfl (by simp) (fun i hi => by
    match i, hi with
    | 0, _ => exact hv
    | i + 1, hi => simp at hi)
/-- A list with its room cut off. -/
theorem Fls.full {E : World → Value → Rat → Prop} {w : World} {A : Option Addr} {n c : Nat} {qs : List Rat} (h : Fls E w (.slice A n c) qs) (hA : A = none → c = 0) : Fls E w (.slice A n n) qs := by
  obtain ⟨A', c', e, ⟨h1, h2⟩, h3, h5⟩ := h
  simp only [Value.slice.injEq] at e
  obtain ⟨rfl, rfl, rfl⟩ := e
  exact ⟨A, _, rfl, ⟨Nat.le_refl _, fun e => by have := h2 e; omega⟩, by omega, h5⟩
theorem Fls.fullcut {E : World → Value → Rat → Prop} {w : World} {A : Option Addr} {n c : Nat} {qs : List Rat} (h : Fls E w (.slice A n c) qs) : Fls E w (.slice A (tr qs).length (tr qs).length) (tr qs) := by
  have h2 := h.cut
  obtain ⟨A', c', e, ⟨h3, h4⟩, _⟩ := h2
  simp only [Value.slice.injEq] at e
  obtain ⟨rfl, _, rfl⟩ := e
  exact h.cut.full h4
theorem RPF.cast {w : World} {ps qs : List Rat} {k : Nat} {e : Ending} {w' : World} (h : RPF w ps k e w') (he : ps = qs) : RPF w qs k e w' := he ▸ h
section
variable {w : World} {v va vb : Value} {qs ps : List Rat} {p q : Rat} {k l : Nat}
set_option maxHeartbeats 4000000 in
theorem fracInt_v (w : World) (i : Nat) (hi : i < 9223372036854775808) : Calls Try.prog 51 #[.int .i64 (i : Int)] w (RCanF w (i : Rat) 2) := by
  have N1 := Lib.hid (fun w1 => natOf_v (w := w1) i (by omega))
  have N2 := Lib.hid (fun w1 => natOf_v (w := w1) 1 (by omega))
  have RD := fun w1 x y (hx : Can w1 x i 2) (hy : Can w1 y 1 2) => frac_v (w := w1) false hx.numV hy.numV (by omega) (by omega)
  rw [fr_nat] at RD
  have RR := Lib.hid RD
  have R0 := Lib.hid (Fcl.new w false (.slice none 0 0) (.slice none 0 0))
  have hB0 : Below w.heap.size w (w.alloc (.cells #[.bool false, .slice none 0 0, .slice none 0 0] 29)) := (Below.refl _ _).alloc (Nat.le_refl _) _
  clear RD
  generalize (i : Rat) = q at *
  have h0 : ¬ ((i : Int) < 0) := by omega
  go_enter Try.func51, Try.ntmps51
  go_wp2_with fail
  refine (N1.out _).mono ?_
  rintro e w1 ⟨u, rfl, hu, _, hB1⟩
  go_wp2_with fail
  refine (N2.out _).mono ?_
  rintro e w2 ⟨v, rfl, hv, _, hB2⟩
  have hu := hu.below hB2
  go_wp2_with fail
  refine (RR.out _ _ _ hu hv).mono ?_
  rintro e w3 ⟨z, rfl, hz, hB3⟩
  have hB := below_then (below_then (below_then hB0 hB1) hB2) hB3
  have R3 := ((R0.out.below hB1).below hB2).below hB3
  obtain ⟨b, C, o, r, C', o', r', rfl, hb, hvx, hvy⟩ := hz.parts
  obtain ⟨k0, k1, k2⟩ := R3.cells
  obtain ⟨f0, f1, f2⟩ := R3.frozen
  have H1 := Lib.hid R3
  clear R3
  go_wp2_with fail
  refine bodyPost_ret (v := .agg #[.bool b, .slice C o r, .slice C' o' r']) (by rw [results_one rfl]; go_simp) rfl ?_
  exact RCanF.stored hb hvx hvy H1.out hB (Nat.le_refl _) (.bool b)
theorem fracInt0_v (w : World) : Calls Try.prog 51 #[.int .i64 0] w (RCanF w 0 2) := fracInt_v w 0 (by omega)
theorem fracOne_v (w : World) : Calls Try.prog 51 #[.int .i64 1] w (RCanF w 1 2) := fracInt_v w 1 (by omega)
set_option maxHeartbeats 8000000 in
theorem polyNorm_r (h : Fls (FV k) w v qs) (hk : k ≤ 400000) (h2 : 2 ≤ k) (hl : qs.length ≤ 1000000000) : Calls Try.prog 14 #[v] w (RPF w (tr qs) k) := by
  obtain ⟨A, c, rfl⟩ := h.form
  have HA := Lib.hid (fun w1 (hr : Below w.heap.size w w1) => (Fls.below h (keeps_FV k) hr).cells (n := qs.length))
  have HT := Lib.hid (fun j (hj : j < qs.length) => take_cf hj)
  have HTA := Lib.hid (List.take_length (l := qs))
  have hm := h.lens.2
  have HTR := Lib.hid (fun (m : Nat) (hm : m ≤ qs.length) (hz : ∀ i, m ≤ i → i < qs.length → cf qs i = 0) (h1 : m = 0 ∨ cf qs (m - 1) ≠ 0) => congrArg List.length (tr_take hm hz h1))
  have HLT := Lib.hid (fun (m : Nat) (hm : m ≤ qs.length) => (show (qs.take m).length = m by rw [List.length_take]; omega))
  clear h
  obtain ⟨n, hn⟩ : ∃ n, qs.length = n := ⟨_, rfl⟩
  rw [hn] at HA HT HTA hm HTR HLT hl ⊢
  have HN := Lib.hid hn
  have HK := Lib.hid (keeps_CV k)
  clear hn
  go_enter Try.func14, Try.ntmps14
  go_wp2_with fail
  go_loopw [3, 4] (fun p i wr => ∃ j : Nat, j ≤ n ∧ i = .int .i64 j ∧ Ofl (CV k) w.heap.size wr p (qs.take j) ∧ Below w.heap.size w wr) (fun _ i _ => n - (intOf i).toNat)
  case atStart => exact ⟨0, Nat.zero_le _, rfl, Ofl.nil _ _ _, Below.refl _ _⟩
  case round =>
    obtain ⟨j, hj, rfl, hO, hB⟩ := hrel
    by_cases hjn : j < n
    · have HI : (j : Int) < n := by omega
      obtain ⟨b, off, rfl, hb, hcell⟩ := HA.out _ hB (by omega)
      obtain ⟨tb, X, xm, xc, Y, ym, yc, c0, c1, c2, hv⟩ := hcell j hjn
      have NF := Lib.hid (fracNorm_v hv hk h2)
      have HO := Lib.hid hO
      have HB := Lib.hid hB
      clear hcell hv hO hB
      go_wp2_with fail
      refine (NF.out).mono ?_
      rintro e w1 ⟨u, rfl, hu, hB1⟩
      obtain ⟨b', C, o, r, C', o', r', rfl, hb', hvx, hvy⟩ := hu.parts
      have HE := Lib.hid (CanF.elem hu)
      have hAl : Below w1.heap.size w1 (w1.alloc (.cells #[.bool b', .slice C o r, .slice C' o' r'] 29)) := (Below.refl _ _).alloc (Nat.le_refl _) _
      have hB2 := below_then hB1 hAl
      have HO2 := Lib.hid (HO.out.below HK.out hB2)
      have HB2 := Lib.hid (below_then HB.out hB2)
      have hsz : w.heap.size ≤ w1.heap.size + 1 := by have := HB.out.size; have := hB1.size; omega
      have HL := Lib.hid (HLT.out j (by omega))
      clear hu hb' hvx hvy hB1 hAl hB2 c0 c1 c2
      go_wp2_with (at_builtin; refine wp_append_f HK.out 24 (by kernel_rfl) rfl _ _ rfl w.heap.size u3 (qs.take j) rfl HO2.out (.slice (some ⟨w1.heap.size, 0, none⟩) 1 1) [cf qs j] rfl HE.out (by simp) (by rw [HL.out]; simp; omega) (by simp; omega) ?_; intro v' w' hG)
      obtain ⟨hG1, hG2, hG3, A9, n9, c9, rfl⟩ := hG
      go_roundw
      case rel => exact ⟨j + 1, by omega, by go_num, by rw [HT.out j hjn]; exact hG1, HB2.out.grown hG2 HB2.out.size (fun k e => HO2.out.inside e)⟩
      case measure => simp [intOf]; omega
    · have HI : ¬ (j : Int) < n := by omega
      obtain rfl : j = n := by omega
      rw [HTA.out] at hO
      have HF := Lib.hid hO.fls
      obtain ⟨B, c2, eB⟩ := HF.out.form
      rw [HN.out] at eB
      subst eB
      have HC := Lib.hid (fun hp => Fls.cells HF.out hp)
      have hc2 := HF.out.lens.2
      have HB := Lib.hid hB
      clear hO hB
      go_wp2_with fail
      go_loopw [5] (fun i wx => ∃ m : Nat, m ≤ j ∧ i = .int .i64 m ∧ (∀ i, m ≤ i → i < j → cf qs i = 0) ∧ wr = wx) (fun i _ => (intOf i).toNat)
      case atStart => exact ⟨j, Nat.le_refl _, rfl, fun i h1 h2 => by omega, rfl⟩
      case round =>
        obtain ⟨m, hm2, rfl, hz, rfl⟩ := hrel
        by_cases h0 : m = 0
        · subst h0
          have HT := Lib.hid (HTR.out 0 (Nat.zero_le _) hz (.inl rfl))
          clear hz
          go_wp2_with fail
          go_ret
          have e0 : (tr qs).length = 0 := by rw [HT.out]; rfl
          exact ⟨_, rfl, by have := HF.out.fullcut; rw [e0] at this; exact this, HB.out⟩
        · obtain ⟨b, off, rfl, hb, hcell⟩ := HC.out (by omega)
          obtain ⟨tb, X, xm, xc, Y, ym, yc, c0, c1, c2, hv⟩ := hcell (m - 1) (by omega)
          have hL := hv.open.2.1.lenz
          have HM : (0 : Int) < m := by omega
          by_cases hq : cf qs (m - 1) = 0
          · have hb0 : ((xm : Int) == 0) = true := by rw [hL, decide_eq_true (num_zero_iff.2 hq)]
            have hz' : ∀ i, m - 1 ≤ i → i < j → cf qs i = 0 := fun i h1 h2 => by
              rcases Nat.eq_or_lt_of_le h1 with h3 | h3
              · rw [← h3]; exact hq
              · exact hz i (by omega) h2
            clear hq hz hL hv hcell
            go_wp2_with fail
            go_roundw
            case rel => exact ⟨m - 1, by omega, by go_num, hz', by first | rfl | trivial⟩
            case measure => simp [intOf]; omega
          · have hb0 : ((xm : Int) == 0) = false := by rw [hL, decide_eq_false (fun e => hq (num_zero_iff.1 e))]
            have HT := Lib.hid (HTR.out m hm2 hz (.inr hq))
            have HL := Lib.hid (HLT.out m hm2)
            clear hz hq hL hv hcell
            go_wp2_with fail
            go_ret
            have e0 : (tr qs).length = m := by rw [HT.out, HL.out]
            exact ⟨_, rfl, by have := HF.out.fullcut; rw [e0] at this; exact this, HB.out⟩
end
end Go.Proofs.Ytjemnankgjjgcaa

/- The row of coefficients that the reference function PolyMul writes. -/
namespace Go.Proofs.Ytjemnankgjjgcaa
open Go.RowKit Dig
set_option linter.unusedVariables false

/-- The coefficients after i rows of products and k products of the next row; s: digits that a product adds. -/
def MulRow (s : Nat) (p q : List Rat) (w : World) (g N i k : Nat) : Prop := ∃ ts, FBlk w g ts ∧ ts.length = N ∧ ∀ j, j < N → (i ≤ j ∧ j < i + k → FracV w (ts.getD j .zero).val (acc p q (i + 1) j) (2 + (i + 1) * s)) ∧ (¬ (i ≤ j ∧ j < i + k) → FracV w (ts.getD j .zero).val (acc p q i j) (2 + i * s))
section
variable {s : Nat} {p q : List Rat} {w w' : World} {g N i k : Nat}
theorem MulRow.start (h : FBlk w g (List.replicate N .zero)) : MulRow s p q w g N 0 0 := ⟨_, h, by simp, fun j hj => ⟨fun h => by omega, fun _ => by
  rw [List.getD_eq_getElem?_getD, List.getElem?_eq_getElem (by simpa using hj)]
  simp only [List.getElem_replicate, Option.getD_some]
  exact FracV.zero _ _⟩⟩
theorem MulRow.below (h : MulRow s p q w g N i k) (hb : Below w.heap.size w w') : MulRow s p q w' g N i k := by
  obtain ⟨ts, hF, hl, hE⟩ := h
  exact ⟨ts, hF.below hb, hl, fun j hj => ⟨fun h => FracV.below ((hE j hj).1 h) hb, fun h => FracV.below ((hE j hj).2 h) hb⟩⟩
theorem MulRow.lt (h : MulRow s p q w g N i k) : g < w.heap.size := by
  obtain ⟨ts, hF, _⟩ := h
  exact hF.lt
theorem MulRow.frozen (h : MulRow s p q w g N i k) (j : Nat) : w.frozen? ⟨g, j, none⟩ = false := by
  obtain ⟨ts, hF, _⟩ := h
  exact hF.frozen j
theorem MulRow.row (h : MulRow s p q w g N i q.length) : MulRow s p q w g N (i + 1) 0 := by
  obtain ⟨ts, hF, hl, hE⟩ := h
  refine ⟨ts, hF, hl, fun j hj => ⟨fun h => by omega, fun _ => ?_⟩⟩
  by_cases hc : i ≤ j ∧ j < i + q.length
  · exact (hE j hj).1 hc
  · rw [acc_out p q (by omega)]
    exact ((hE j hj).2 hc).le (by rw [Nat.succ_mul]; omega)
theorem MulRow.cells (h : MulRow s p q w g N i k) (hj : i + k < N) : ∃ tb X xm xc Y ym yc, w.cell? ⟨g, (i + k) * 3, none⟩ = some (.bool tb) ∧ w.cell? ⟨g, (i + k) * 3 + 1, none⟩ = some (.slice X xm xc) ∧ w.cell? ⟨g, (i + k) * 3 + 2, none⟩ = some (.slice Y ym yc) ∧
      FracV w (.agg #[.bool tb, .slice X xm xc, .slice Y ym yc]) (acc p q i (i + k)) (2 + i * s) := by
  obtain ⟨ts, hF, hl, hE⟩ := h
  obtain ⟨c0, c1, c2⟩ := hF.cells (j := i + k) (by omega)
  have hv := (hE (i + k) hj).2 (by omega)
  generalize ts.getD (i + k) .zero = t at c0 c1 c2 hv
  obtain ⟨tb, ⟨X, xm, xc⟩, ⟨Y, ym, yc⟩⟩ := t
  exact ⟨tb, X, xm, xc, Y, ym, yc, c0, c1, c2, hv⟩
theorem MulRow.set (h : MulRow s p q w g N i k) (hj : i + k < N) {b : Bool} {X Y : Option Addr} {xm xc ym yc : Nat} (hE : CanF w (.agg #[.bool b, .slice X xm xc, .slice Y ym yc]) (acc p q i (i + k) + cf p i * cf q k) (2 + (i + 1) * s)) :
    MulRow s p q (stor3o w g ((i + k) * 3) (.bool b) (.slice X xm xc) (.slice Y ym yc)) g N i (k + 1) := by
  obtain ⟨ts, hF, hl, h⟩ := h
  rw [← acc_mid] at hE
  have hS : FBlk (stor3o w g ((i + k) * 3) (.bool b) (.slice X xm xc) (.slice Y ym yc)) g (ts.set (i + k) ⟨b, (X, xm, xc), (Y, ym, yc)⟩) := hF.set (by omega) (⟨b, (X, xm, xc), (Y, ym, yc)⟩ : Tri)
  have hs : w.heap.size ≤ (stor3o w g ((i + k) * 3) (.bool b) (.slice X xm xc) (.slice Y ym yc)).heap.size := Nat.le_of_eq (stor3o_size _ _ _ _ _ _).symm
  have hk := stor3o_heap w g ((i + k) * 3) (.bool b) (.slice X xm xc) (.slice Y ym yc)
  generalize stor3o w g ((i + k) * 3) (.bool b) (.slice X xm xc) (.slice Y ym yc) = w3 at *
  have K := keeps_FV
  refine ⟨_, hS, by simpa using hl, fun j hj => ?_⟩
  by_cases h1 : j = i + k
  · subst h1
    refine ⟨fun _ => ?_, fun h => by omega⟩
    rw [List.getD_eq_getElem?_getD, List.getElem?_set_self (by omega)]
    exact (K (2 + (i + 1) * s)).apart (v := .agg #[.bool b, .slice X xm xc, .slice Y ym yc]) (CanF.fracV hE) hF hs hk
  · rw [List.getD_eq_getElem?_getD, List.getElem?_set_ne (by omega), ← List.getD_eq_getElem?_getD]
    exact ⟨fun hc => (K _).apart ((h j hj).1 (by omega)) hF hs hk, fun hc => (K _).apart ((h j hj).2 (by omega)) hF hs hk⟩
theorem MulRow.done (h : MulRow s p q w g N i 0) (hN : N ≤ 1000000) : Fls (FV (2 + i * s)) w (.slice (some ⟨g, 0, none⟩) N N) (mk N (acc p q i)) := by
  obtain ⟨ts, hF, hl, hE⟩ := h
  have : Ofl (FV (2 + i * s)) 0 w (.slice (some ⟨g, 0, none⟩) (mk N (acc p q i)).length ts.length) (mk N (acc p q i)) := .inr ⟨g, ts, rfl, Nat.zero_le _, hF, by rw [mk_length]; omega, by unfold maxLen; omega, fun j hj => by
    rw [mk_length] at hj
    have h1 := (hE j hj).2 (by omega)
    have h2 := cf_mk N (acc p q i) j
    rw [if_pos hj] at h2
    unfold cf at h2
    rw [h2]
    exact h1⟩
  have h3 := this.fls
  rwa [mk_length, hl] at h3
end
end Go.Proofs.Ytjemnankgjjgcaa

/- The contract of known of the laws on polynomials. -/
import Derived.Test.YtjemnankgjjgcaaPlyz
import Derived.Test.YtjemnankgjjgcaaPlyG
import Derived.Test.YtjemnankgjjgcaaFmt
import Derived.Test.YtjemnankgjjgcaaBown
namespace Go.Proofs.Ytjemnankgjjgcaa
open Go.RowKit Dig
set_option linter.unusedVariables false

namespace Dig
theorem kp_a : bq 21 = 1 := by decide +kernel
theorem kp_b : bq 22 = 2 := by decide +kernel
theorem kp_c : bq 23 = 3 := by decide +kernel
theorem kp_d : tr [(1 : Rat), 2, 0] = [1, 2] := by decide +kernel
theorem kp_e : ppow [(1 : Rat), 2] 2 = [1, 4, 4] := by decide +kernel
theorem kp_f : ev [(1 : Rat), 4, 4] 3 = 49 := by decide +kernel
theorem kp_g : lsum (pder [(1 : Rat), 4, 4]) = 12 := by decide +kernel
theorem kp_h : (pder [(1 : Rat), 4, 4]).length = 2 := by decide +kernel
theorem kp_i : tr [(1 : Rat), 4, 4] = [1, 4, 4] := by decide +kernel
theorem kp_j : ftext 49 = [52, 57] := by decide +kernel
theorem kp_k : ftext 12 = [49, 50] := by decide +kernel
theorem kp_l : rem3 3 = 1 := by rw [rem3_step (by omega), rem3_small (by omega)]
theorem cf3 (a b : Rat) (i : Nat) : cf [a, b] i = if i = 0 then a else if i = 1 then b else 0 := by
  match i with
  | 0 => rfl
  | 1 => rfl
  | i + 2 => rw [cf_over (by simp)]; simp
theorem kp_s : Szd [(1 : Rat), 2] 1 1 1 := by
  refine ⟨by omega, by omega, fun i => ?_, fun i => ?_⟩
  · rw [cf3]
    split
    · decide +kernel
    · split <;> decide +kernel
  · rw [cf3]
    split
    · decide +kernel
    · split <;> decide +kernel
end Dig
/-- A list in a block that was just laid. -/
theorem Fls.of_blk {E : World → Value → Rat → Prop} {w : World} {g : Nat} {ts : List Tri} {qs : List Rat} (hF : FBlk w g ts) (hl : qs.length = ts.length) (hm : ts.length ≤ 1000000) (hE : ∀ j, j < ts.length → E w (ts.getD j .zero).val (qs.getD j 0)) : Fls E w (.slice (some ⟨g, 0, none⟩) ts.length ts.length) qs := by
  have : Ofl E 0 w (.slice (some ⟨g, 0, none⟩) qs.length ts.length) qs := .inr ⟨g, ts, rfl, Nat.zero_le _, hF, by omega, by unfold maxLen; omega, fun j hj => hE j (by omega)⟩
  rw [← hl]
  have := this.fls
  rwa [← hl] at this
theorem FBlk.new (w : World) (ts : List Tri) : FBlk (w.alloc (.cells (tcells ts).toArray 29)) w.heap.size ts := by
  unfold FBlk
  rw [heap_alloc_new]
theorem CanF.tri {w : World} {v : Value} {q : Rat} {k : Nat} (h : CanF w v q k) : ∃ t : Tri, v = .agg #[.bool t.b, .slice t.x.1 t.x.2.1 t.x.2.2, .slice t.y.1 t.y.2.1 t.y.2.2] ∧ CanF w t.val q k := by
  obtain ⟨b, A, m, c, A', m', c', rfl, hb, hx, hy⟩ := h.parts
  exact ⟨⟨b, (A, m, c), (A', m', c')⟩, rfl, CanF.ofParts hb hx hy⟩
set_option maxHeartbeats 4000000 in
theorem known3_v (w : World) : Calls Try.prog 30 #[] w (RVal w (.bool true)) := by
  have B1 := fun w1 => baseFrac_v w1 21
  have B2 := fun w1 => baseFrac_v w1 22
  have B3 := fun w1 => baseFrac_v w1 23
  rw [kp_a] at B1
  rw [kp_b] at B2
  rw [kp_c] at B3
  have H1 := Lib.hid B1
  have H2 := Lib.hid B2
  have H3 := Lib.hid B3
  clear B1 B2 B3
  have PW := fun w1 v1 (h : Fls (FV 2) w1 v1 [1, 2, 0]) => pow_p (w := w1) (n := 2) (K := 1) (M := 1) (D := 1) h (by omega) (by omega) (by omega) (by omega) (by omega) (by omega) (by omega) (by omega) (by simp) (by rw [kp_d]; exact kp_s) (by rw [kp_d]; decide)
  rw [kp_d, kp_e] at PW
  rw [show ((2 : Nat) : Int) = 2 from rfl] at PW
  have HP := Lib.hid PW
  have NO := fun w1 v1 (h : Fls (FV 2) w1 v1 [1, 2, 0]) => normalize_p (w := w1) h (by omega) (by omega) (by simp)
  rw [kp_d] at NO
  have HN := Lib.hid NO
  have EV := fun w1 v1 x1 (h : Fls (FV 4) w1 v1 [1, 4, 4]) (hx : FracV w1 x1 3 2) => eval_p (w := w1) (M := 21) h hx (by omega) (by omega) (by rw [kp_i, show ([(1 : Rat), 4, 4]).length = 3 from rfl, kp_l]; omega) (by omega) (by simp)
  rw [kp_f] at EV
  have HEV := Lib.hid EV
  have ME := fun w1 v1 (h : Fls (FV 4) w1 v1 [1, 4, 4]) => mean_p (w := w1) (by omega) h (by omega) (by rw [kp_h]; decide) (by simp)
  rw [kp_g, kp_h] at ME
  have HME := Lib.hid ME
  have F1 := fun w1 v1 (h : FracV w1 v1 49 2) => formatf_v (w := w1) h (by omega) (by omega)
  have F2 := fun w1 v1 (h : FracV w1 v1 12 2) => formatf_v (w := w1) h (by omega) (by omega)
  rw [kp_j] at F1
  rw [kp_k] at F2
  have HF1 := Lib.hid F1
  have HF2 := Lib.hid F2
  clear PW NO EV ME F1 F2
  go_enter Try.func30, Try.ntmps30
  go_wp2_with fail
  refine (H1.out _).mono ?_
  rintro e w1 ⟨u, rfl, hu, hB1⟩
  obtain ⟨t1, rfl, hu⟩ := hu.tri
  go_wp2_with fail
  refine (H2.out _).mono ?_
  rintro e w2 ⟨u2, rfl, hu2, hB2⟩
  obtain ⟨t2, rfl, hu2⟩ := hu2.tri
  have hu := hu.below hB2
  have hB2 := below_then hB1 hB2
  go_wp2_with fail
  have hBk : FBlk (w2.alloc (.cells (tcells [t1, t2, .zero]).toArray 29)) w2.heap.size [t1, t2, .zero] := FBlk.new w2 _
  have hAl : Below w2.heap.size w2 (w2.alloc (.cells (tcells [t1, t2, .zero]).toArray 29)) := (Below.refl _ _).alloc (Nat.le_refl _) _
  have hu := hu.below hAl
  have hu2 := hu2.below hAl
  have hL : Fls (FV 2) (w2.alloc (.cells (tcells [t1, t2, .zero]).toArray 29)) (.slice (some ⟨w2.heap.size, 0, none⟩) 3 3) [1, 2, 0] := Fls.of_blk hBk rfl (by simp) (fun j hj => by
    match j, hj with
    | 0, _ => exact hu.fracV
    | 1, _ => exact hu2.fracV
    | 2, _ => exact FracV.zero _ _
    | j + 3, hj => simp at hj; omega)
  have hB3 := below_then hB2 hAl
  have HL := Lib.hid hL
  have HB3 := Lib.hid hB3
  have HPW := Lib.hid (HP.out _ _ hL)
  clear hu hu2 hL hB2 hB1 hBk hAl hB3
  generalize hw3 : w2.alloc (.cells (tcells [t1, t2, .zero]).toArray 29) = w3 at *
  have hw3' : w2.alloc (.cells #[.bool t1.b, .slice t1.x.1 t1.x.2.1 t1.x.2.2, .slice t1.y.1 t1.y.2.1 t1.y.2.2, .bool t2.b, .slice t2.x.1 t2.x.2.1 t2.x.2.2, .slice t2.y.1 t2.y.2.1 t2.y.2.2, .bool false, .slice none 0 0, .slice none 0 0] 29) = w3 := hw3
  rw [hw3']
  clear hw3 hw3'
  refine (HPW.out).mono ?_
  rintro e w4 ⟨v, rfl, hv, hB4⟩
  have hL4 := HL.out.below (keeps_FV 2) hB4
  have hB4 := below_then HB3.out hB4
  have hV := hv.readable
  obtain ⟨A, c, rfl⟩ := hV.form
  have hV : Fls (FV 4) w4 (.slice A 3 c) [1, 4, 4] := hV
  have HNO := Lib.hid (HN.out _ _ hL4)
  have HV4 := Lib.hid hV
  clear hv hV hL4
  go_wp2_with fail
  refine (HNO.out).mono ?_
  rintro e w5 ⟨v2, rfl, hv2, hB5⟩
  obtain ⟨A2, c2, rfl⟩ := hv2.fls.form
  have hV5 := HV4.out.below (keeps_FV 4) hB5
  have hB5 := below_then hB4 hB5
  clear hv2
  have hl2 : ([1, 2] : List Rat).length = 2 := rfl
  rw [hl2]
  go_wp2_with fail
  refine (H3.out _).mono ?_
  rintro e w6 ⟨x, rfl, hx, hB6⟩
  have hV6 := hV5.below (keeps_FV 4) hB6
  have hB6 := below_then hB5 hB6
  have HE1 := Lib.hid (HEV.out _ _ _ hV6 hx.fracV)
  have HV6 := Lib.hid hV6
  clear hV6 hV5 hx
  go_wp2_with fail
  refine (HE1.out).mono ?_
  rintro e w7 ⟨y, rfl, hy, hB7⟩
  have hV7 := HV6.out.below (keeps_FV 4) hB7
  have hB7 := below_then hB6 hB7
  have HY := Lib.hid (HF1.out _ _ (hy.fit (l := 2) (by decide +kernel) (by decide +kernel)).fracV)
  clear hy
  go_wp2_with fail
  refine (HY.out).mono ?_
  rintro e w8 ⟨rfl, hB8⟩
  have hV8 := hV7.below (keeps_FV 4) hB8
  have hB8 := below_then hB7 hB8
  have HM1 := Lib.hid (HME.out _ _ hV8)
  clear hV8 hV7
  go_wp2_with fail
  refine (HM1.out).mono ?_
  rintro e w9 ⟨z, rfl, hz, hB9⟩
  have hB9 := below_then hB8 hB9
  have HZ := Lib.hid (HF2.out _ _ (hz.fit (l := 2) (by decide +kernel) (by decide +kernel)).fracV)
  clear hz
  go_wp2_with fail
  refine (HZ.out).mono ?_
  rintro e w10 ⟨rfl, hB10⟩
  have hB10 := below_then hB9 hB10
  go_wp2_with fail
  go_ret
  exact ⟨rfl, hB10⟩
end Go.Proofs.Ytjemnankgjjgcaa

/- The law ValueOrder of stage 8. -/
import Derived.Test.YtpbkmkcfhkdjjaaDoorVvk
import Derived.Test.YtpbkmkcfhkdjjaaDoorVlh
namespace Go.Proofs.YtpbkmkcfhkdjjaaDoor
open Go.RowKit Dig
set_option linter.unusedVariables false

theorem cmpB_range : ∀ a b : List UInt8, cmpB a b = -1 ∨ cmpB a b = 0 ∨ cmpB a b = 1 := fun a b => by
  rcases cmpB_cases a b with ⟨h, _⟩ | ⟨h, _⟩ | ⟨h, _⟩ <;> simp [h]
theorem cmpV_range (a b : Vl) : cmpV a b = -1 ∨ cmpV a b = 0 ∨ cmpV a b = 1 := by
  unfold cmpV
  rcases cmpI_cases a.1 b.1 with ⟨_, h⟩ | ⟨_, h⟩ | ⟨_, h⟩
  · rw [if_pos (by rw [h]; simp), h]
    simp
  · rw [if_neg (by rw [h]; simp)]
    rcases cmpI_cases a.2.1 b.2.1 with ⟨_, h⟩ | ⟨_, h⟩ | ⟨_, h⟩
    · rw [if_pos (by rw [h]; simp), h]
      simp
    · rw [if_neg (by rw [h]; simp)]
      exact cmpB_range _ _
    · rw [if_pos (by rw [h]; simp), h]
      simp
  · rw [if_pos (by rw [h]; simp), h]
    simp
set_option maxRecDepth 20000 in
set_option maxHeartbeats 8000000 in
theorem order_walk (w : World) (a b c : Vl) (o0 : OkVl a) (o1 : OkVl b) (o2 : OkVl c) (hS : Std w) : Calls Tryd.prog 6 #[vV a, vV b, vV c] w (RVal w (.bool true)) := by
  have HS := Lib.hid hS
  clear hS o0 o1 o2
  have CAB := fun w => compare_c w a b
  have CBA := fun w => compare_c w b a
  have CAA := fun w => compare_c w a a
  have CBC := fun w => compare_c w b c
  have CAC := fun w => compare_c w a c
  have h1 := cmpV_neg b a
  have h3 := cmpV_range a b
  have HL : Hid (cmpV a b ≤ 0 → cmpV b c ≤ 0 → cmpV a c ≤ 0) := Lib.hid fun h h2 => cmpV_le h h2
  rw [cmpV_self] at CAA
  obtain ⟨D, hD⟩ : ∃ D, decide (a = b) = D := ⟨_, rfl⟩
  have HZ : Hid ((cmpV a b = 0 → D = true) ∧ (cmpV a b ≠ 0 → D = false)) := Lib.hid ⟨fun h => by rw [← hD, decide_eq_true (cmpV_zero h)], fun h => by rw [← hD, decide_eq_false (fun e => h (by rw [e]; exact cmpV_self b))]⟩
  have HD := Lib.hid hD
  rw [h1] at CBA
  clear h1 hD
  generalize cmpV a b = p at *
  generalize cmpV b c = r at *
  generalize cmpV a c = u at *
  rcases h3 with rfl | rfl | rfl
  · obtain rfl : D = false := HZ.out.2 (by decide)
    by_cases hr : r > 0
    · clear HL HZ
      go_enter Tryd.func6, Tryd.ntmps6
      go_wp2_with (first | ((with_reducible refine wp_boxV 3 rfl rfl 0 rfl a ?hx ?_); (case hx => rfl); intro w1 hv hb; have V3 := Lib.hid hv; have B3 := Lib.hid hb; clear hv hb) | ((with_reducible refine wp_boxV 4 rfl rfl 1 rfl b ?hx ?_); (case hx => rfl); intro w2 hv hb; have V4 := Lib.hid hv; have B4 := Lib.hid hb; clear hv hb; have V3 := Lib.hid (V3.out.below B4.out); have BW := Lib.hid (below_then B3.out B4.out)) | ((with_reducible refine wp_boxV 5 rfl rfl 2 rfl c ?hx ?_); (case hx => rfl); intro w3 hv hb; have V5 := Lib.hid hv; have B5 := Lib.hid hb; clear hv hb; have V3 := Lib.hid (V3.out.below B5.out); have V4 := Lib.hid (V4.out.below B5.out); have BW := Lib.hid (below_then BW.out B5.out)) | ((with_reducible refine wp_loadG ?hw 3 rfl w.heap.size (0) a ?hx V3.out.range ?_); (case hw => rfl); (case hx => rfl)) | ((with_reducible refine wp_loadG ?hw 4 rfl w1.heap.size (0) b ?hx V4.out.range ?_); (case hw => rfl); (case hx => rfl)) | ((with_reducible refine wp_loadG ?hw 5 rfl w2.heap.size (0) c ?hx V5.out.range ?_); (case hw => rfl); (case hx => rfl)) | ((with_reducible refine wp_eqG ?hw 20 21 rfl a b false ?hx ?hy HD.out ?_); (case hw => rfl); (case hx => rfl); (case hy => rfl)))
      refine (CAB _).mono ?_
      rintro e w4 ⟨rfl, h4⟩
      have V3 := Lib.hid (V3.out.below h4)
      have V4 := Lib.hid (V4.out.below h4)
      have V5 := Lib.hid (V5.out.below h4)
      have BW := Lib.hid (below_then BW.out h4)
      clear h4
      go_wp2_with (first | ((with_reducible refine wp_loadG ?hw 3 rfl w.heap.size (0) a ?hx V3.out.range ?_); (case hw => rfl); (case hx => rfl)) | ((with_reducible refine wp_loadG ?hw 4 rfl w1.heap.size (0) b ?hx V4.out.range ?_); (case hw => rfl); (case hx => rfl)) | ((with_reducible refine wp_loadG ?hw 5 rfl w2.heap.size (0) c ?hx V5.out.range ?_); (case hw => rfl); (case hx => rfl)) | ((with_reducible refine wp_eqG ?hw 20 21 rfl a b false ?hx ?hy HD.out ?_); (case hw => rfl); (case hx => rfl); (case hy => rfl)))
      refine (CBA _).mono ?_
      rintro e w5 ⟨rfl, h5⟩
      have V3 := Lib.hid (V3.out.below h5)
      have V4 := Lib.hid (V4.out.below h5)
      have V5 := Lib.hid (V5.out.below h5)
      have BW := Lib.hid (below_then BW.out h5)
      clear h5
      go_wp2_with (first | ((with_reducible refine wp_loadG ?hw 3 rfl w.heap.size (0) a ?hx V3.out.range ?_); (case hw => rfl); (case hx => rfl)) | ((with_reducible refine wp_loadG ?hw 4 rfl w1.heap.size (0) b ?hx V4.out.range ?_); (case hw => rfl); (case hx => rfl)) | ((with_reducible refine wp_loadG ?hw 5 rfl w2.heap.size (0) c ?hx V5.out.range ?_); (case hw => rfl); (case hx => rfl)) | ((with_reducible refine wp_eqG ?hw 20 21 rfl a b false ?hx ?hy HD.out ?_); (case hw => rfl); (case hx => rfl); (case hy => rfl)))
      refine (CAA _).mono ?_
      rintro e w6 ⟨rfl, h6⟩
      have V3 := Lib.hid (V3.out.below h6)
      have V4 := Lib.hid (V4.out.below h6)
      have V5 := Lib.hid (V5.out.below h6)
      have BW := Lib.hid (below_then BW.out h6)
      clear h6
      go_wp2_with (first | ((with_reducible refine wp_loadG ?hw 3 rfl w.heap.size (0) a ?hx V3.out.range ?_); (case hw => rfl); (case hx => rfl)) | ((with_reducible refine wp_loadG ?hw 4 rfl w1.heap.size (0) b ?hx V4.out.range ?_); (case hw => rfl); (case hx => rfl)) | ((with_reducible refine wp_loadG ?hw 5 rfl w2.heap.size (0) c ?hx V5.out.range ?_); (case hw => rfl); (case hx => rfl)) | ((with_reducible refine wp_eqG ?hw 20 21 rfl a b false ?hx ?hy HD.out ?_); (case hw => rfl); (case hx => rfl); (case hy => rfl)))
      refine (CBC _).mono ?_
      rintro e w7 ⟨rfl, h7⟩
      have V3 := Lib.hid (V3.out.below h7)
      have V4 := Lib.hid (V4.out.below h7)
      have V5 := Lib.hid (V5.out.below h7)
      have BW := Lib.hid (below_then BW.out h7)
      clear h7
      go_wp2_with (first | ((with_reducible refine wp_loadG ?hw 3 rfl w.heap.size (0) a ?hx V3.out.range ?_); (case hw => rfl); (case hx => rfl)) | ((with_reducible refine wp_loadG ?hw 4 rfl w1.heap.size (0) b ?hx V4.out.range ?_); (case hw => rfl); (case hx => rfl)) | ((with_reducible refine wp_loadG ?hw 5 rfl w2.heap.size (0) c ?hx V5.out.range ?_); (case hw => rfl); (case hx => rfl)) | ((with_reducible refine wp_eqG ?hw 20 21 rfl a b false ?hx ?hy HD.out ?_); (case hw => rfl); (case hx => rfl); (case hy => rfl)))
      refine (known8_c (HS.out.below BW.out)).mono ?_
      rintro e w9 ⟨rfl, h9⟩
      have V3 := Lib.hid (V3.out.below h9)
      have V4 := Lib.hid (V4.out.below h9)
      have V5 := Lib.hid (V5.out.below h9)
      have BW := Lib.hid (below_then BW.out h9)
      clear h9
      go_wp2_with fail
      go_ret
      exact ⟨rfl, BW.out⟩
    · have hu : u ≤ 0 := HL.out (by decide) (by omega)
      have hr2 : decide (0 < r) = false := decide_eq_false (by omega)
      have hr3 : ¬ 0 < r := by omega
      have hu2 : decide (u ≤ 0) = true := decide_eq_true hu
      clear HL HZ
      go_enter Tryd.func6, Tryd.ntmps6
      go_wp2_with (first | ((with_reducible refine wp_boxV 3 rfl rfl 0 rfl a ?hx ?_); (case hx => rfl); intro w1 hv hb; have V3 := Lib.hid hv; have B3 := Lib.hid hb; clear hv hb) | ((with_reducible refine wp_boxV 4 rfl rfl 1 rfl b ?hx ?_); (case hx => rfl); intro w2 hv hb; have V4 := Lib.hid hv; have B4 := Lib.hid hb; clear hv hb; have V3 := Lib.hid (V3.out.below B4.out); have BW := Lib.hid (below_then B3.out B4.out)) | ((with_reducible refine wp_boxV 5 rfl rfl 2 rfl c ?hx ?_); (case hx => rfl); intro w3 hv hb; have V5 := Lib.hid hv; have B5 := Lib.hid hb; clear hv hb; have V3 := Lib.hid (V3.out.below B5.out); have V4 := Lib.hid (V4.out.below B5.out); have BW := Lib.hid (below_then BW.out B5.out)) | ((with_reducible refine wp_loadG ?hw 3 rfl w.heap.size (0) a ?hx V3.out.range ?_); (case hw => rfl); (case hx => rfl)) | ((with_reducible refine wp_loadG ?hw 4 rfl w1.heap.size (0) b ?hx V4.out.range ?_); (case hw => rfl); (case hx => rfl)) | ((with_reducible refine wp_loadG ?hw 5 rfl w2.heap.size (0) c ?hx V5.out.range ?_); (case hw => rfl); (case hx => rfl)) | ((with_reducible refine wp_eqG ?hw 20 21 rfl a b false ?hx ?hy HD.out ?_); (case hw => rfl); (case hx => rfl); (case hy => rfl)))
      refine (CAB _).mono ?_
      rintro e w4 ⟨rfl, h4⟩
      have V3 := Lib.hid (V3.out.below h4)
      have V4 := Lib.hid (V4.out.below h4)
      have V5 := Lib.hid (V5.out.below h4)
      have BW := Lib.hid (below_then BW.out h4)
      clear h4
      go_wp2_with (first | ((with_reducible refine wp_loadG ?hw 3 rfl w.heap.size (0) a ?hx V3.out.range ?_); (case hw => rfl); (case hx => rfl)) | ((with_reducible refine wp_loadG ?hw 4 rfl w1.heap.size (0) b ?hx V4.out.range ?_); (case hw => rfl); (case hx => rfl)) | ((with_reducible refine wp_loadG ?hw 5 rfl w2.heap.size (0) c ?hx V5.out.range ?_); (case hw => rfl); (case hx => rfl)) | ((with_reducible refine wp_eqG ?hw 20 21 rfl a b false ?hx ?hy HD.out ?_); (case hw => rfl); (case hx => rfl); (case hy => rfl)))
      refine (CBA _).mono ?_
      rintro e w5 ⟨rfl, h5⟩
      have V3 := Lib.hid (V3.out.below h5)
      have V4 := Lib.hid (V4.out.below h5)
      have V5 := Lib.hid (V5.out.below h5)
      have BW := Lib.hid (below_then BW.out h5)
      clear h5
      go_wp2_with (first | ((with_reducible refine wp_loadG ?hw 3 rfl w.heap.size (0) a ?hx V3.out.range ?_); (case hw => rfl); (case hx => rfl)) | ((with_reducible refine wp_loadG ?hw 4 rfl w1.heap.size (0) b ?hx V4.out.range ?_); (case hw => rfl); (case hx => rfl)) | ((with_reducible refine wp_loadG ?hw 5 rfl w2.heap.size (0) c ?hx V5.out.range ?_); (case hw => rfl); (case hx => rfl)) | ((with_reducible refine wp_eqG ?hw 20 21 rfl a b false ?hx ?hy HD.out ?_); (case hw => rfl); (case hx => rfl); (case hy => rfl)))
      refine (CAA _).mono ?_
      rintro e w6 ⟨rfl, h6⟩
      have V3 := Lib.hid (V3.out.below h6)
      have V4 := Lib.hid (V4.out.below h6)
      have V5 := Lib.hid (V5.out.below h6)
      have BW := Lib.hid (below_then BW.out h6)
      clear h6
      go_wp2_with (first | ((with_reducible refine wp_loadG ?hw 3 rfl w.heap.size (0) a ?hx V3.out.range ?_); (case hw => rfl); (case hx => rfl)) | ((with_reducible refine wp_loadG ?hw 4 rfl w1.heap.size (0) b ?hx V4.out.range ?_); (case hw => rfl); (case hx => rfl)) | ((with_reducible refine wp_loadG ?hw 5 rfl w2.heap.size (0) c ?hx V5.out.range ?_); (case hw => rfl); (case hx => rfl)) | ((with_reducible refine wp_eqG ?hw 20 21 rfl a b false ?hx ?hy HD.out ?_); (case hw => rfl); (case hx => rfl); (case hy => rfl)))
      refine (CBC _).mono ?_
      rintro e w7 ⟨rfl, h7⟩
      have V3 := Lib.hid (V3.out.below h7)
      have V4 := Lib.hid (V4.out.below h7)
      have V5 := Lib.hid (V5.out.below h7)
      have BW := Lib.hid (below_then BW.out h7)
      clear h7
      go_wp2_with (first | ((with_reducible refine wp_loadG ?hw 3 rfl w.heap.size (0) a ?hx V3.out.range ?_); (case hw => rfl); (case hx => rfl)) | ((with_reducible refine wp_loadG ?hw 4 rfl w1.heap.size (0) b ?hx V4.out.range ?_); (case hw => rfl); (case hx => rfl)) | ((with_reducible refine wp_loadG ?hw 5 rfl w2.heap.size (0) c ?hx V5.out.range ?_); (case hw => rfl); (case hx => rfl)) | ((with_reducible refine wp_eqG ?hw 20 21 rfl a b false ?hx ?hy HD.out ?_); (case hw => rfl); (case hx => rfl); (case hy => rfl)))
      refine (CAC _).mono ?_
      rintro e w8 ⟨rfl, h8⟩
      have V3 := Lib.hid (V3.out.below h8)
      have V4 := Lib.hid (V4.out.below h8)
      have V5 := Lib.hid (V5.out.below h8)
      have BW := Lib.hid (below_then BW.out h8)
      clear h8
      go_wp2_with (first | ((with_reducible refine wp_loadG ?hw 3 rfl w.heap.size (0) a ?hx V3.out.range ?_); (case hw => rfl); (case hx => rfl)) | ((with_reducible refine wp_loadG ?hw 4 rfl w1.heap.size (0) b ?hx V4.out.range ?_); (case hw => rfl); (case hx => rfl)) | ((with_reducible refine wp_loadG ?hw 5 rfl w2.heap.size (0) c ?hx V5.out.range ?_); (case hw => rfl); (case hx => rfl)) | ((with_reducible refine wp_eqG ?hw 20 21 rfl a b false ?hx ?hy HD.out ?_); (case hw => rfl); (case hx => rfl); (case hy => rfl)))
      refine (known8_c (HS.out.below BW.out)).mono ?_
      rintro e w9 ⟨rfl, h9⟩
      have V3 := Lib.hid (V3.out.below h9)
      have V4 := Lib.hid (V4.out.below h9)
      have V5 := Lib.hid (V5.out.below h9)
      have BW := Lib.hid (below_then BW.out h9)
      clear h9
      go_wp2_with fail
      go_ret
      exact ⟨rfl, BW.out⟩
  · obtain rfl : D = true := HZ.out.1 rfl
    by_cases hr : r > 0
    · clear HL HZ
      go_enter Tryd.func6, Tryd.ntmps6
      go_wp2_with (first | ((with_reducible refine wp_boxV 3 rfl rfl 0 rfl a ?hx ?_); (case hx => rfl); intro w1 hv hb; have V3 := Lib.hid hv; have B3 := Lib.hid hb; clear hv hb) | ((with_reducible refine wp_boxV 4 rfl rfl 1 rfl b ?hx ?_); (case hx => rfl); intro w2 hv hb; have V4 := Lib.hid hv; have B4 := Lib.hid hb; clear hv hb; have V3 := Lib.hid (V3.out.below B4.out); have BW := Lib.hid (below_then B3.out B4.out)) | ((with_reducible refine wp_boxV 5 rfl rfl 2 rfl c ?hx ?_); (case hx => rfl); intro w3 hv hb; have V5 := Lib.hid hv; have B5 := Lib.hid hb; clear hv hb; have V3 := Lib.hid (V3.out.below B5.out); have V4 := Lib.hid (V4.out.below B5.out); have BW := Lib.hid (below_then BW.out B5.out)) | ((with_reducible refine wp_loadG ?hw 3 rfl w.heap.size (0) a ?hx V3.out.range ?_); (case hw => rfl); (case hx => rfl)) | ((with_reducible refine wp_loadG ?hw 4 rfl w1.heap.size (0) b ?hx V4.out.range ?_); (case hw => rfl); (case hx => rfl)) | ((with_reducible refine wp_loadG ?hw 5 rfl w2.heap.size (0) c ?hx V5.out.range ?_); (case hw => rfl); (case hx => rfl)) | ((with_reducible refine wp_eqG ?hw 20 21 rfl a b true ?hx ?hy HD.out ?_); (case hw => rfl); (case hx => rfl); (case hy => rfl)))
      refine (CAB _).mono ?_
      rintro e w4 ⟨rfl, h4⟩
      have V3 := Lib.hid (V3.out.below h4)
      have V4 := Lib.hid (V4.out.below h4)
      have V5 := Lib.hid (V5.out.below h4)
      have BW := Lib.hid (below_then BW.out h4)
      clear h4
      go_wp2_with (first | ((with_reducible refine wp_loadG ?hw 3 rfl w.heap.size (0) a ?hx V3.out.range ?_); (case hw => rfl); (case hx => rfl)) | ((with_reducible refine wp_loadG ?hw 4 rfl w1.heap.size (0) b ?hx V4.out.range ?_); (case hw => rfl); (case hx => rfl)) | ((with_reducible refine wp_loadG ?hw 5 rfl w2.heap.size (0) c ?hx V5.out.range ?_); (case hw => rfl); (case hx => rfl)) | ((with_reducible refine wp_eqG ?hw 20 21 rfl a b true ?hx ?hy HD.out ?_); (case hw => rfl); (case hx => rfl); (case hy => rfl)))
      refine (CBA _).mono ?_
      rintro e w5 ⟨rfl, h5⟩
      have V3 := Lib.hid (V3.out.below h5)
      have V4 := Lib.hid (V4.out.below h5)
      have V5 := Lib.hid (V5.out.below h5)
      have BW := Lib.hid (below_then BW.out h5)
      clear h5
      go_wp2_with (first | ((with_reducible refine wp_loadG ?hw 3 rfl w.heap.size (0) a ?hx V3.out.range ?_); (case hw => rfl); (case hx => rfl)) | ((with_reducible refine wp_loadG ?hw 4 rfl w1.heap.size (0) b ?hx V4.out.range ?_); (case hw => rfl); (case hx => rfl)) | ((with_reducible refine wp_loadG ?hw 5 rfl w2.heap.size (0) c ?hx V5.out.range ?_); (case hw => rfl); (case hx => rfl)) | ((with_reducible refine wp_eqG ?hw 20 21 rfl a b true ?hx ?hy HD.out ?_); (case hw => rfl); (case hx => rfl); (case hy => rfl)))
      refine (CAA _).mono ?_
      rintro e w6 ⟨rfl, h6⟩
      have V3 := Lib.hid (V3.out.below h6)
      have V4 := Lib.hid (V4.out.below h6)
      have V5 := Lib.hid (V5.out.below h6)
      have BW := Lib.hid (below_then BW.out h6)
      clear h6
      go_wp2_with (first | ((with_reducible refine wp_loadG ?hw 3 rfl w.heap.size (0) a ?hx V3.out.range ?_); (case hw => rfl); (case hx => rfl)) | ((with_reducible refine wp_loadG ?hw 4 rfl w1.heap.size (0) b ?hx V4.out.range ?_); (case hw => rfl); (case hx => rfl)) | ((with_reducible refine wp_loadG ?hw 5 rfl w2.heap.size (0) c ?hx V5.out.range ?_); (case hw => rfl); (case hx => rfl)) | ((with_reducible refine wp_eqG ?hw 20 21 rfl a b true ?hx ?hy HD.out ?_); (case hw => rfl); (case hx => rfl); (case hy => rfl)))
      refine (CBC _).mono ?_
      rintro e w7 ⟨rfl, h7⟩
      have V3 := Lib.hid (V3.out.below h7)
      have V4 := Lib.hid (V4.out.below h7)
      have V5 := Lib.hid (V5.out.below h7)
      have BW := Lib.hid (below_then BW.out h7)
      clear h7
      go_wp2_with (first | ((with_reducible refine wp_loadG ?hw 3 rfl w.heap.size (0) a ?hx V3.out.range ?_); (case hw => rfl); (case hx => rfl)) | ((with_reducible refine wp_loadG ?hw 4 rfl w1.heap.size (0) b ?hx V4.out.range ?_); (case hw => rfl); (case hx => rfl)) | ((with_reducible refine wp_loadG ?hw 5 rfl w2.heap.size (0) c ?hx V5.out.range ?_); (case hw => rfl); (case hx => rfl)) | ((with_reducible refine wp_eqG ?hw 20 21 rfl a b true ?hx ?hy HD.out ?_); (case hw => rfl); (case hx => rfl); (case hy => rfl)))
      refine (known8_c (HS.out.below BW.out)).mono ?_
      rintro e w9 ⟨rfl, h9⟩
      have V3 := Lib.hid (V3.out.below h9)
      have V4 := Lib.hid (V4.out.below h9)
      have V5 := Lib.hid (V5.out.below h9)
      have BW := Lib.hid (below_then BW.out h9)
      clear h9
      go_wp2_with fail
      go_ret
      exact ⟨rfl, BW.out⟩
    · have hu : u ≤ 0 := HL.out (by decide) (by omega)
      have hr2 : decide (0 < r) = false := decide_eq_false (by omega)
      have hr3 : ¬ 0 < r := by omega
      have hu2 : decide (u ≤ 0) = true := decide_eq_true hu
      clear HL HZ
      go_enter Tryd.func6, Tryd.ntmps6
      go_wp2_with (first | ((with_reducible refine wp_boxV 3 rfl rfl 0 rfl a ?hx ?_); (case hx => rfl); intro w1 hv hb; have V3 := Lib.hid hv; have B3 := Lib.hid hb; clear hv hb) | ((with_reducible refine wp_boxV 4 rfl rfl 1 rfl b ?hx ?_); (case hx => rfl); intro w2 hv hb; have V4 := Lib.hid hv; have B4 := Lib.hid hb; clear hv hb; have V3 := Lib.hid (V3.out.below B4.out); have BW := Lib.hid (below_then B3.out B4.out)) | ((with_reducible refine wp_boxV 5 rfl rfl 2 rfl c ?hx ?_); (case hx => rfl); intro w3 hv hb; have V5 := Lib.hid hv; have B5 := Lib.hid hb; clear hv hb; have V3 := Lib.hid (V3.out.below B5.out); have V4 := Lib.hid (V4.out.below B5.out); have BW := Lib.hid (below_then BW.out B5.out)) | ((with_reducible refine wp_loadG ?hw 3 rfl w.heap.size (0) a ?hx V3.out.range ?_); (case hw => rfl); (case hx => rfl)) | ((with_reducible refine wp_loadG ?hw 4 rfl w1.heap.size (0) b ?hx V4.out.range ?_); (case hw => rfl); (case hx => rfl)) | ((with_reducible refine wp_loadG ?hw 5 rfl w2.heap.size (0) c ?hx V5.out.range ?_); (case hw => rfl); (case hx => rfl)) | ((with_reducible refine wp_eqG ?hw 20 21 rfl a b true ?hx ?hy HD.out ?_); (case hw => rfl); (case hx => rfl); (case hy => rfl)))
      refine (CAB _).mono ?_
      rintro e w4 ⟨rfl, h4⟩
      have V3 := Lib.hid (V3.out.below h4)
      have V4 := Lib.hid (V4.out.below h4)
      have V5 := Lib.hid (V5.out.below h4)
      have BW := Lib.hid (below_then BW.out h4)
      clear h4
      go_wp2_with (first | ((with_reducible refine wp_loadG ?hw 3 rfl w.heap.size (0) a ?hx V3.out.range ?_); (case hw => rfl); (case hx => rfl)) | ((with_reducible refine wp_loadG ?hw 4 rfl w1.heap.size (0) b ?hx V4.out.range ?_); (case hw => rfl); (case hx => rfl)) | ((with_reducible refine wp_loadG ?hw 5 rfl w2.heap.size (0) c ?hx V5.out.range ?_); (case hw => rfl); (case hx => rfl)) | ((with_reducible refine wp_eqG ?hw 20 21 rfl a b true ?hx ?hy HD.out ?_); (case hw => rfl); (case hx => rfl); (case hy => rfl)))
      refine (CBA _).mono ?_
      rintro e w5 ⟨rfl, h5⟩
      have V3 := Lib.hid (V3.out.below h5)
      have V4 := Lib.hid (V4.out.below h5)
      have V5 := Lib.hid (V5.out.below h5)
      have BW := Lib.hid (below_then BW.out h5)
      clear h5
      go_wp2_with (first | ((with_reducible refine wp_loadG ?hw 3 rfl w.heap.size (0) a ?hx V3.out.range ?_); (case hw => rfl); (case hx => rfl)) | ((with_reducible refine wp_loadG ?hw 4 rfl w1.heap.size (0) b ?hx V4.out.range ?_); (case hw => rfl); (case hx => rfl)) | ((with_reducible refine wp_loadG ?hw 5 rfl w2.heap.size (0) c ?hx V5.out.range ?_); (case hw => rfl); (case hx => rfl)) | ((with_reducible refine wp_eqG ?hw 20 21 rfl a b true ?hx ?hy HD.out ?_); (case hw => rfl); (case hx => rfl); (case hy => rfl)))
      refine (CAA _).mono ?_
      rintro e w6 ⟨rfl, h6⟩
      have V3 := Lib.hid (V3.out.below h6)
      have V4 := Lib.hid (V4.out.below h6)
      have V5 := Lib.hid (V5.out.below h6)
      have BW := Lib.hid (below_then BW.out h6)
      clear h6
      go_wp2_with (first | ((with_reducible refine wp_loadG ?hw 3 rfl w.heap.size (0) a ?hx V3.out.range ?_); (case hw => rfl); (case hx => rfl)) | ((with_reducible refine wp_loadG ?hw 4 rfl w1.heap.size (0) b ?hx V4.out.range ?_); (case hw => rfl); (case hx => rfl)) | ((with_reducible refine wp_loadG ?hw 5 rfl w2.heap.size (0) c ?hx V5.out.range ?_); (case hw => rfl); (case hx => rfl)) | ((with_reducible refine wp_eqG ?hw 20 21 rfl a b true ?hx ?hy HD.out ?_); (case hw => rfl); (case hx => rfl); (case hy => rfl)))
      refine (CBC _).mono ?_
      rintro e w7 ⟨rfl, h7⟩
      have V3 := Lib.hid (V3.out.below h7)
      have V4 := Lib.hid (V4.out.below h7)
      have V5 := Lib.hid (V5.out.below h7)
      have BW := Lib.hid (below_then BW.out h7)
      clear h7
      go_wp2_with (first | ((with_reducible refine wp_loadG ?hw 3 rfl w.heap.size (0) a ?hx V3.out.range ?_); (case hw => rfl); (case hx => rfl)) | ((with_reducible refine wp_loadG ?hw 4 rfl w1.heap.size (0) b ?hx V4.out.range ?_); (case hw => rfl); (case hx => rfl)) | ((with_reducible refine wp_loadG ?hw 5 rfl w2.heap.size (0) c ?hx V5.out.range ?_); (case hw => rfl); (case hx => rfl)) | ((with_reducible refine wp_eqG ?hw 20 21 rfl a b true ?hx ?hy HD.out ?_); (case hw => rfl); (case hx => rfl); (case hy => rfl)))
      refine (CAC _).mono ?_
      rintro e w8 ⟨rfl, h8⟩
      have V3 := Lib.hid (V3.out.below h8)
      have V4 := Lib.hid (V4.out.below h8)
      have V5 := Lib.hid (V5.out.below h8)
      have BW := Lib.hid (below_then BW.out h8)
      clear h8
      go_wp2_with (first | ((with_reducible refine wp_loadG ?hw 3 rfl w.heap.size (0) a ?hx V3.out.range ?_); (case hw => rfl); (case hx => rfl)) | ((with_reducible refine wp_loadG ?hw 4 rfl w1.heap.size (0) b ?hx V4.out.range ?_); (case hw => rfl); (case hx => rfl)) | ((with_reducible refine wp_loadG ?hw 5 rfl w2.heap.size (0) c ?hx V5.out.range ?_); (case hw => rfl); (case hx => rfl)) | ((with_reducible refine wp_eqG ?hw 20 21 rfl a b true ?hx ?hy HD.out ?_); (case hw => rfl); (case hx => rfl); (case hy => rfl)))
      refine (known8_c (HS.out.below BW.out)).mono ?_
      rintro e w9 ⟨rfl, h9⟩
      have V3 := Lib.hid (V3.out.below h9)
      have V4 := Lib.hid (V4.out.below h9)
      have V5 := Lib.hid (V5.out.below h9)
      have BW := Lib.hid (below_then BW.out h9)
      clear h9
      go_wp2_with fail
      go_ret
      exact ⟨rfl, BW.out⟩
  · obtain rfl : D = false := HZ.out.2 (by decide)
    clear HL HZ
    go_enter Tryd.func6, Tryd.ntmps6
    go_wp2_with (first | ((with_reducible refine wp_boxV 3 rfl rfl 0 rfl a ?hx ?_); (case hx => rfl); intro w1 hv hb; have V3 := Lib.hid hv; have B3 := Lib.hid hb; clear hv hb) | ((with_reducible refine wp_boxV 4 rfl rfl 1 rfl b ?hx ?_); (case hx => rfl); intro w2 hv hb; have V4 := Lib.hid hv; have B4 := Lib.hid hb; clear hv hb; have V3 := Lib.hid (V3.out.below B4.out); have BW := Lib.hid (below_then B3.out B4.out)) | ((with_reducible refine wp_boxV 5 rfl rfl 2 rfl c ?hx ?_); (case hx => rfl); intro w3 hv hb; have V5 := Lib.hid hv; have B5 := Lib.hid hb; clear hv hb; have V3 := Lib.hid (V3.out.below B5.out); have V4 := Lib.hid (V4.out.below B5.out); have BW := Lib.hid (below_then BW.out B5.out)) | ((with_reducible refine wp_loadG ?hw 3 rfl w.heap.size (0) a ?hx V3.out.range ?_); (case hw => rfl); (case hx => rfl)) | ((with_reducible refine wp_loadG ?hw 4 rfl w1.heap.size (0) b ?hx V4.out.range ?_); (case hw => rfl); (case hx => rfl)) | ((with_reducible refine wp_loadG ?hw 5 rfl w2.heap.size (0) c ?hx V5.out.range ?_); (case hw => rfl); (case hx => rfl)) | ((with_reducible refine wp_eqG ?hw 20 21 rfl a b false ?hx ?hy HD.out ?_); (case hw => rfl); (case hx => rfl); (case hy => rfl)))
    refine (CAB _).mono ?_
    rintro e w4 ⟨rfl, h4⟩
    have V3 := Lib.hid (V3.out.below h4)
    have V4 := Lib.hid (V4.out.below h4)
    have V5 := Lib.hid (V5.out.below h4)
    have BW := Lib.hid (below_then BW.out h4)
    clear h4
    go_wp2_with (first | ((with_reducible refine wp_loadG ?hw 3 rfl w.heap.size (0) a ?hx V3.out.range ?_); (case hw => rfl); (case hx => rfl)) | ((with_reducible refine wp_loadG ?hw 4 rfl w1.heap.size (0) b ?hx V4.out.range ?_); (case hw => rfl); (case hx => rfl)) | ((with_reducible refine wp_loadG ?hw 5 rfl w2.heap.size (0) c ?hx V5.out.range ?_); (case hw => rfl); (case hx => rfl)) | ((with_reducible refine wp_eqG ?hw 20 21 rfl a b false ?hx ?hy HD.out ?_); (case hw => rfl); (case hx => rfl); (case hy => rfl)))
    refine (CBA _).mono ?_
    rintro e w5 ⟨rfl, h5⟩
    have V3 := Lib.hid (V3.out.below h5)
    have V4 := Lib.hid (V4.out.below h5)
    have V5 := Lib.hid (V5.out.below h5)
    have BW := Lib.hid (below_then BW.out h5)
    clear h5
    go_wp2_with (first | ((with_reducible refine wp_loadG ?hw 3 rfl w.heap.size (0) a ?hx V3.out.range ?_); (case hw => rfl); (case hx => rfl)) | ((with_reducible refine wp_loadG ?hw 4 rfl w1.heap.size (0) b ?hx V4.out.range ?_); (case hw => rfl); (case hx => rfl)) | ((with_reducible refine wp_loadG ?hw 5 rfl w2.heap.size (0) c ?hx V5.out.range ?_); (case hw => rfl); (case hx => rfl)) | ((with_reducible refine wp_eqG ?hw 20 21 rfl a b false ?hx ?hy HD.out ?_); (case hw => rfl); (case hx => rfl); (case hy => rfl)))
    refine (CAA _).mono ?_
    rintro e w6 ⟨rfl, h6⟩
    have V3 := Lib.hid (V3.out.below h6)
    have V4 := Lib.hid (V4.out.below h6)
    have V5 := Lib.hid (V5.out.below h6)
    have BW := Lib.hid (below_then BW.out h6)
    clear h6
    go_wp2_with (first | ((with_reducible refine wp_loadG ?hw 3 rfl w.heap.size (0) a ?hx V3.out.range ?_); (case hw => rfl); (case hx => rfl)) | ((with_reducible refine wp_loadG ?hw 4 rfl w1.heap.size (0) b ?hx V4.out.range ?_); (case hw => rfl); (case hx => rfl)) | ((with_reducible refine wp_loadG ?hw 5 rfl w2.heap.size (0) c ?hx V5.out.range ?_); (case hw => rfl); (case hx => rfl)) | ((with_reducible refine wp_eqG ?hw 20 21 rfl a b false ?hx ?hy HD.out ?_); (case hw => rfl); (case hx => rfl); (case hy => rfl)))
    refine (known8_c (HS.out.below BW.out)).mono ?_
    rintro e w9 ⟨rfl, h9⟩
    have V3 := Lib.hid (V3.out.below h9)
    have V4 := Lib.hid (V4.out.below h9)
    have V5 := Lib.hid (V5.out.below h9)
    have BW := Lib.hid (below_then BW.out h9)
    clear h9
    go_wp2_with fail
    go_ret
    exact ⟨rfl, BW.out⟩
end Go.Proofs.YtpbkmkcfhkdjjaaDoor

/- The contract of known of the laws on rational numbers. -/
import Derived.Test.YtgjhgpfjeoeojaaDoorTxtB
import Derived.Test.YtgjhgpfjeoeojaaDoorRefL
namespace Go.Proofs.YtgjhgpfjeoeojaaDoor
open Go.RowKit Dig
set_option linter.unusedVariables false

namespace Dig
def eighth : List UInt8 := [48, 46, 49, 50, 53]
theorem kn_a : (ftext (frz (-6) 8) == [45, 51, 47, 52]) = true := by decide +kernel
theorem kn_b : ferr eighth = 0 := by decide +kernel
theorem kn_c : (ftext (frz (-6) 8 + fval eighth) == [45, 53, 47, 56]) = true := by decide +kernel
theorem kn_d : rcmp (frz (-6) 8) (fval eighth) = -1 := by decide +kernel
theorem kn_e : (fval eighth).num.natAbs < 4294967296 ^ 2 ∧ (fval eighth).den < 4294967296 ^ 2 := by decide +kernel
end Dig
set_option maxHeartbeats 2000000 in
theorem known2_v (w : World) (hM : MaxL w) : Calls Tryd.prog 9 #[] w (RVal w (.bool true)) := by
  have NW := Lib.hid (fun w1 => new_v w1 (-6) 8 (by unfold Fits64; omega) (by unfold Fits64; omega) (by omega))
  have PS : ∀ w1, Below w.heap.size w w1 → Calls Tryd.prog 12 #[.string ⟨#[48, 46, 49, 50, 53]⟩] w1 (RCanE w1 (fval eighth) 26) :=
    fun w1 hB => (parsef_v w1 ⟨eighth.toArray⟩ (by decide) (hM.below hB)).mono fun e w' h => h.1 kn_b
  have HPS := Lib.hid PS
  have KA := kn_a
  have KC := kn_c
  have KD := Lib.hid kn_d
  have KE := Lib.hid kn_e
  clear PS hM
  generalize frz (-6) 8 = qa at *
  generalize fval eighth = qb at *
  obtain ⟨ta, hta⟩ : ∃ t, ftext qa = t := ⟨_, rfl⟩
  obtain ⟨tc, htc⟩ : ∃ t, ftext (qa + qb) = t := ⟨_, rfl⟩
  rw [hta] at KA
  rw [htc] at KC
  have FA := fun w1 v (hv : CanF w1 v qa 2) => formatf_v (w := w1) hv.fracV (by omega) (by omega)
  have FC := fun w1 v (hv : CanF w1 v (qa + qb) 5) => formatf_v (w := w1) hv.fracV (by omega) (by omega)
  rw [hta] at FA
  rw [htc] at FC
  have HFA := Lib.hid FA
  have HFC := Lib.hid FC
  have AD := Lib.hid (fun w1 u v (hu : CanF w1 u qa 2) (hv : CanF w1 v qb 2) => addf_v (w := w1) hu.fracV hv.fracV (by omega) (by omega) (by omega) (by omega))
  have CM := fun w1 u v (hu : CanF w1 u qa 2) (hv : CanF w1 v qb 2) => cmpf_v (w := w1) hu.fracV hv.fracV (by omega) (by omega)
  rw [KD.out] at CM
  have HCM := Lib.hid CM
  clear FA FC CM hta htc
  go_enter Tryd.func9, Tryd.ntmps9
  go_wp2_with fail
  refine (NW.out _).mono ?_
  rintro e w1 ⟨u, rfl, hu, hB1⟩
  obtain ⟨b, A, m, c, A', m', c', rfl, hb, hx, hy⟩ := hu.parts
  have hB2 : Below w.heap.size w (w1.alloc (.cells #[.bool b, .slice A m c, .slice A' m' c'] 25)) := hB1.alloc hB1.size _
  have S2 := Fcl.new w1 b (.slice A m c) (.slice A' m' c')
  have hu2 := hu.below ((Below.refl w1.heap.size w1).alloc (Nat.le_refl _) (.cells #[.bool b, .slice A m c, .slice A' m' c'] 25))
  clear hx hy hb hu
  go_wp2_with fail
  refine (HPS.out _ hB2).mono ?_
  rintro e w2 ⟨v, rfl, hv, hB3⟩
  have hv := hv.fit KE.out.1 KE.out.2
  have hu3 := hu2.below hB3
  have S3 := S2.below hB3
  have hBw := below_then hB2 hB3
  obtain ⟨b', B, j, d, B', j', d', rfl, hb, hx, hy⟩ := hv.parts
  have S3 := S3.alloc (.cells #[.bool b', .slice B j d, .slice B' j' d'] 25)
  have T3 := Fcl.new w2 b' (.slice B j d) (.slice B' j' d')
  have hBx : Below w.heap.size w (w2.alloc (.cells #[.bool b', .slice B j d, .slice B' j' d'] 25)) := hBw.alloc hBw.size _
  have hu4 := hu3.below ((Below.refl w2.heap.size w2).alloc (Nat.le_refl _) (.cells #[.bool b', .slice B j d, .slice B' j' d'] 25))
  have hv4 := hv.below ((Below.refl w2.heap.size w2).alloc (Nat.le_refl _) (.cells #[.bool b', .slice B j d, .slice B' j' d'] 25))
  clear hx hy hb hv hu3 hBw S2 hu2
  obtain ⟨c0, c1, c2⟩ := S3.cells
  go_wp2_with fail
  refine (HFA.out _ _ hu4).mono ?_
  rintro e w4 ⟨rfl, hB4⟩
  have S4 := S3.below hB4
  have T4 := T3.below hB4
  have hu5 := hu4.below hB4
  have hv5 := hv4.below hB4
  have hBy := below_then hBx hB4
  clear c0 c1 c2 S3 T3 hu4 hv4
  obtain ⟨c0, c1, c2⟩ := S4.cells
  obtain ⟨d0, d1, d2⟩ := T4.cells
  go_wp2_with fail
  refine (AD.out _ _ _ hu5 hv5).mono ?_
  rintro e w5 ⟨z, rfl, hz, hB5⟩
  have S5 := S4.below hB5
  have T5 := T4.below hB5
  have hu6 := hu5.below hB5
  have hv6 := hv5.below hB5
  have hBz := below_then hBy hB5
  clear c0 c1 c2 d0 d1 d2 S4 T4 hu5 hv5
  go_wp2_with fail
  refine (HFC.out _ _ hz).mono ?_
  rintro e w6 ⟨rfl, hB6⟩
  have S6 := S5.below hB6
  have T6 := T5.below hB6
  have hu7 := hu6.below hB6
  have hv7 := hv6.below hB6
  have hBu := below_then hBz hB6
  obtain ⟨c0, c1, c2⟩ := S6.cells
  obtain ⟨d0, d1, d2⟩ := T6.cells
  go_wp2_with fail
  refine (HCM.out _ _ _ hu7 hv7).mono ?_
  rintro e w7 ⟨rfl, hB7⟩
  go_wp2_with fail
  go_ret
  exact ⟨rfl, below_then hBu hB7⟩
end Go.Proofs.YtgjhgpfjeoeojaaDoor

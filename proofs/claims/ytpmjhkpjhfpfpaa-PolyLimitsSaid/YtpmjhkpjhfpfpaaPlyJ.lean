/- The contract of reduce of package poly, and of multiply for all lists. -/
import Derived.Test.YtpmjhkpjhfpfpaaPlyI
namespace Go.Proofs.Ytpmjhkpjhfpfpaa
open Go.RowKit Dig
set_option linter.unusedVariables false

namespace Dig
theorem fr_int (z : Int) (d : Nat) : fr (decide (z < 0)) z.natAbs d = (z : Rat) / (d : Rat) := by
  unfold fr
  rw [← Rat.mkRat_eq_div]
  congr 1
  unfold sg
  by_cases h : z < 0
  · rw [decide_eq_true h]; simp; omega
  · rw [decide_eq_false h]; simp; omega
end Dig
section
variable {w : World} {v va vb : Value} {zs ys : List Int} {d e K L M N : Nat}
theorem multiply_z (ha : SclV w va zs d K M) (hb : SclV w vb ys e L N) (hK : K ≤ 100000) (hL : L ≤ 100000) (hM : M + N + 1 ≤ 1000000) (hn : zs.length ≤ 1000000000) (hm : ys.length ≤ 1000000000) :
    Calls Try.prog 54 #[va, vb] w (RScl w (zmul zs ys) (d * e) (K + L) (M + N + 1)) := by
  by_cases h : zs.length = 0 ∨ ys.length = 0
  · exact multiply_none ha hb hK hL h
  · exact multiply_some ha hb hK hL hM (by omega) (by omega) hn hm
set_option maxHeartbeats 8000000 in
theorem reduce_q (ha : SclV w v zs d K M) (hK : K ≤ M) (hM : M ≤ 400000) (h2 : 2 ≤ M) (hn : zs.length ≤ 1000000000) :
    Calls Try.prog 53 #[v] w (RPol w (mk zs.length fun i => (zf zs i : Rat) / (d : Rat)) M) := by
  obtain ⟨A, c, B, m, c', rfl, hz, hd⟩ := ha.parts
  have hB0 : Below w.heap.size w (w.alloc (.cells #[.slice A zs.length c, .slice B m c'] 59)) := (Below.refl _ _).alloc (Nat.le_refl _) _
  have R0 := Sbx.new w (.slice A zs.length c) (.slice B m c')
  have hz := hz.below hB0
  have hd := hd.below hB0
  have HW0 := Lib.hid hB0
  have hg0 : w.heap.size < (w.alloc (.cells #[.slice A zs.length c, .slice B m c'] 59)).heap.size := R0.lt
  obtain ⟨w0, hw0⟩ : ∃ w0, w.alloc (.cells #[.slice A zs.length c, .slice B m c'] 59) = w0 := ⟨_, rfl⟩
  rw [hw0] at hB0 R0 hz hd hg0
  have HE := Lib.hid hw0
  have HG0 := Lib.hid hg0
  have HZ := Lib.hid (fun w1 (hr : Below w0.heap.size w0 w1) => (hz.below hr).cells (n := zs.length))
  have RB := Lib.hid (fun w1 (hr : Below w0.heap.size w0 w1) => R0.below hr)
  have NF := Lib.hid (fun w1 (hr : Below w0.heap.size w0 w1) X z (hX : Can w1 X (Int.natAbs z) M) => normf_v (w := w1) (v := .agg #[.bool (decide (z < 0)), X, .slice B m c']) (q := (z : Rat) / (d : Rat)) (k := M) ⟨_, _, _, _, _, rfl, hX.numV, ((hd.below hr).le hK).numV, fr_int z d⟩ hM h2)
  have HK := Lib.hid (keeps_CV M)
  generalize hF : (fun i => (zf zs i : Rat) / (d : Rat)) = F at *
  have HF := Lib.hid hF
  clear hF hz hd ha hB0 hg0 hw0
  generalize zs.length = n at *
  obtain ⟨k0, k1⟩ := R0.cells
  have hw0 := HE.out
  go_enter Try.func53, Try.ntmps53
  go_wp2_with (at_make; refine wp_make_f 24 (by kernel_rfl) rfl _ _ rfl _ _ n rfl rfl rfl rfl (by omega) ?_; intro w2 hF2 hB2; have R2 := R0.below hB2; obtain ⟨l0, l1⟩ := R2.cells)
  have hI := Fill.start (base := w0.heap.size) (E := CV M) (f := F) hF2
  clear hF2 k0 k1 l0 l1 R2 R0 hw0
  generalize hg1 : w.heap.size = g0 at *
  have HG := Lib.hid hg1
  clear hg1
  generalize w0.heap.size = g at *
  go_loopw [13] (fun i wr => ∃ j : Nat, j ≤ n ∧ i = .int .i64 j ∧ Fill g (CV M) wr g n j F ∧ Below g w0 wr) (fun i _ => n - (intOf i).toNat)
  case atStart => exact ⟨0, Nat.zero_le _, rfl, hI, hB2⟩
  case round =>
    obtain ⟨j, hj, rfl, hI, hB⟩ := hrel
    have FI := Lib.hid hI
    have hlt := hI.lt
    by_cases hjn : j < n
    · have HI : (j : Int) < n := by omega
      obtain ⟨b, off, rfl, hb, hcell⟩ := HZ.out _ hB (by omega)
      obtain ⟨tb, U, um, uc, c0, c1, hz⟩ := hcell j hjn
      have hA4 : Below wr.heap.size wr (wr.alloc (.cells #[.bool tb, .slice U um uc] 79)) := (Below.refl _ _).alloc (Nat.le_refl _) _
      have R1 := (RB.out _ hB).alloc (.cells #[.bool tb, .slice U um uc] 79)
      have R2 := Dcl.new wr (.bool tb) (.slice U um uc)
      obtain ⟨k0, k1⟩ := R1.cells
      obtain ⟨l0, l1⟩ := R2.cells
      obtain ⟨ht, hz⟩ := hz.parts
      have hN := NF.out (wr.alloc (.cells #[.bool tb, .slice U um uc] 79)) (hB.trans (hA4.mono (Nat.le_of_lt hlt))) _ _ (hz.below hA4)
      rw [← ht] at hN
      have NN := Lib.hid hN
      clear hI hcell hz R1 R2 ht hN
      go_wp2_with fail
      refine (NN.out).mono ?_
      rintro e w5 ⟨u, rfl, hu, hB5⟩
      have hB5 := below_new _ hB5
      have hB := hB.trans (hB5.mono (Nat.le_of_lt hlt))
      obtain ⟨b', C, o, r, C', o', r', rfl, hb', hvx, hvy⟩ := hu.parts
      have hI := FI.out.below HK.out hB5
      obtain ⟨z0, z1, z2, e0, e1, e2⟩ := hI.cells hjn
      have f0 := hI.frozen (j * 3)
      have f1 := hI.frozen (j * 3 + 1)
      have f2 := hI.frozen (j * 3 + 2)
      have HS := Lib.hid (hI.set HK.out hjn (show CV M w5 _ (F j) by rw [← HF.out]; exact CanF.ofParts hb' hvx hvy))
      clear hI hu hb' hvx hvy c0 c1 k0 k1 l0 l1
      go_wp2_with fail
      go_roundw
      case rel => exact ⟨j + 1, by omega, by go_num, HS.out, below_stor3o hB (Nat.le_refl _) _ _ _ _⟩
      case measure => simp [intOf]; omega
    · have HI : ¬ (j : Int) < n := by omega
      obtain rfl : j = n := by omega
      have HD := Lib.hid (hI.done (Nat.le_refl _) (by omega))
      have HB := Lib.hid hB
      clear hI hB
      go_wp2_with fail
      go_ret
      refine ⟨_, rfl, by rw [HG.out]; exact HD.out.mono (Nat.le_of_lt HG0.out), ?_⟩
      rw [HG.out]
      exact HW0.out.trans (by rw [HE.out]; exact HB.out.mono (Nat.le_of_lt HG0.out))
end
end Go.Proofs.Ytpmjhkpjhfpfpaa

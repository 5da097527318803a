/- The contract of the encoding of a fraction of the reference. -/
import Derived.Test.YtkdnmmbnljaahaaEnr
import Derived.Test.YtkdnmmbnljaahaaRefJ
import Derived.Test.YtkdnmmbnljaahaaBown
namespace Go.Proofs.Ytkdnmmbnljaahaa
open Go.RowKit Dig
set_option linter.unusedVariables false

section
variable {w : World} {va : Value} {q : Rat} {k : Nat}
set_option maxRecDepth 20000 in
set_option maxHeartbeats 4000000 in
theorem refFrac_c (ha : FracV w va q k) (hk : k ≤ 100000) (h1 : 2 ≤ k) : Calls Try.prog 18 #[va] w (RByt w (encQ (decide (q.num < 0)) q.num.natAbs q.den)) := by
  obtain ⟨na, A, m, c, A', m', c', n, d, rfl, hn, hd, hp⟩ := ha.parts
  have NF := Lib.hid (fun w1 hB => fracNorm_v (w := w1) (ha.below hB) (by omega) h1)
  have hB0 : Below w.heap.size w (w.alloc (.cells #[.bool na, .slice A m c, .slice A' m' c'] 28)) := (Below.refl _ _).alloc (Nat.le_refl _) _
  clear ha hn hd hp
  go_enter Try.func18, Try.ntmps18
  go_wp2_with fail
  refine (NF.out _ hB0).mono ?_
  rintro e w1 ⟨z, rfl, hz, hB1⟩
  have hB1 := below_then hB0 hB1
  obtain ⟨b, C, o, r, C', o', r', rfl, hb, hvx, hvy⟩ := hz.parts
  have HR := Fcl.new w1 b (.slice C o r) (.slice C' o' r')
  have hBn : Below w1.heap.size w1 (w1.alloc (.cells #[.bool b, .slice C o r, .slice C' o' r'] 28)) := (Below.refl _ _).alloc (Nat.le_refl _) _
  have HX := hvx.below hBn
  have HY := hvy.below hBn
  have HBs := below_then hB1 hBn
  have hSz0 : (w1.alloc (.cells #[.bool b, .slice C o r, .slice C' o' r'] 28)).heap.size = w1.heap.size + 1 := by show (Array.push _ _).size = _; simp
  obtain ⟨S, hS⟩ : ∃ S, (w1.alloc (.cells #[.bool b, .slice C o r, .slice C' o' r'] 28)) = S := ⟨_, rfl⟩
  have hSz : S.heap.size = w1.heap.size + 1 := by rw [← hS]; exact hSz0
  rw [hS] at HR HX HY HBs
  have HSB := Lib.hid (fun W (h : Below ((w1.alloc (.cells #[.bool b, .slice C o r, .slice C' o' r'] 28))).heap.size ((w1.alloc (.cells #[.bool b, .slice C o r, .slice C' o' r'] 28))) W) => show Below S.heap.size S W by rw [hS] at h; exact h)
  have HSL := Lib.hid (fun W ts (h : LetB W ((w1.alloc (.cells #[.bool b, .slice C o r, .slice C' o' r'] 28))).heap.size ts) => show LetB W (w1.heap.size + 1) ts by rw [hS, hSz] at h; exact h)
  have HLx := Lib.hid (encN_length HX.2 hk)
  have HLy := Lib.hid (encN_length HY.2 hk)
  have HR := Lib.hid HR
  have HX := Lib.hid HX
  have HY := Lib.hid HY
  have HBs := Lib.hid HBs
  have HK := Lib.hid hk
  have EN := Lib.hid (fun W X N (h : Num W X (dg N)) (hN : N < 4294967296 ^ k) => show Calls Try.prog 16 #[X] W (RByt W (encN N)) from by have := refNat_c h (by have := dg_length_le N k hN; omega); rwa [val_dg] at this)
  clear hvx hvy hz hS hk hBn hB1 hB0 hSz0
  cases b
  · go_wp2_with ((with_reducible refine wp_litB rfl (.const (.int .u8 0)) rfl 0 0 rfl rfl ?_); intro w2 hL hB2; have hB2 := HSB.out _ hB2; have hL := HSL.out _ _ hL; have c2 := (HR.out.below hB2).cells.1)
    have BW := hB2
    generalize w2 = w3 at *
    clear c2 hB2
    have hc1 := (HR.out.below BW).cells.2.1
    have hc2 := (HR.out.below BW).cells.2.2
    have hd : w3.drew.cell? ⟨w1.heap.size, 1, none⟩ = some (.slice C o r) ∧ w3.drew.cell? ⟨w1.heap.size, 2, none⟩ = some (.slice C' o' r') := ⟨hc1, hc2⟩
    have BD := Lib.hid BW.drew
    have hL := Lib.hid (hL.below (Below.refl _ _).drew hL.lt)
    have E1 := Lib.hid (EN.out _ _ _ (HX.out.1.below BD.out) HX.out.2)
    clear BW hc1 hc2
    go_region_held3 (fun w' => w'.cell? ⟨w1.heap.size, 1, none⟩ = some (.slice C o r) ∧ w'.cell? ⟨w1.heap.size, 2, none⟩ = some (.slice C' o' r')) (first | with_reducible exact hd | exact hd) (first | (go_at_call_of 16 (Value.slice C o r); refine (E1.out).mono ?_; rintro e w4 ⟨r4, rfl, hr4, hB4⟩; have BW4 := below_then BD.out hB4; have hO4 := (show OwB S.heap.size w4 (.slice (some ⟨w1.heap.size + 1, 0, none⟩) 1 1) [0] from (hL.out.below hB4 hL.out.lt).own (by rw [hSz]; exact Nat.le_refl _) rfl (by omega)); have hd := (HR.out.below BW4).cells.2) | (refine step_appendB rfl (.tmp 12) (.tmp 15) rfl S.heap.size _ [0] rfl hO4 r4 (encN q.num.natAbs) rfl hr4.byt (by have := HLx.out; have := HK.out; simp; omega) BW4.size ?_; intro v5 w5 hv5 hg5; have BW5 := below_ownB BW4 hg5 hO4 (Nat.le_refl _); have hd := (HR.out.below BW5).cells.2) | (go_at_call_of 16 (Value.slice C' o' r'); refine (EN.out _ _ _ (HY.out.1.below BW5) HY.out.2).mono ?_; rintro e w6 ⟨r6, rfl, hr6, hB6⟩; have BW6 := below_then BW5 hB6; have hv6 := hv5.below hB6 (Nat.le_refl _); have hd := (HR.out.below BW6).cells.2) | (refine step_appendB rfl (.tmp 16) (.tmp 19) rfl S.heap.size v5 ([0] ++ encN q.num.natAbs) rfl hv6 r6 (encN q.den) rfl hr6.byt (by have := HLx.out; have := HLy.out; have := HK.out; simp; omega) BW6.size ?_; intro v7 w7 hv7 hg7; have hd := (HR.out.below (below_ownB BW6 hg7 hv6 (Nat.le_refl _))).cells.2))
    go_wp2_with fail
    go_ret
    exact ⟨_, rfl, (show OwB w.heap.size w7 v7 _ by have := hv7.mono HBs.out.size; rw [hb]; simpa [encQ] using this), below_then HBs.out (below_ownB BW6 hg7 hv6 (Nat.le_refl _))⟩
  · go_wp2_with ((with_reducible refine wp_litB rfl (.const (.int .u8 0)) rfl 0 0 rfl rfl ?_); intro w2 hL hB2; have hB2 := HSB.out _ hB2; have hL := HSL.out _ _ hL; have c2 := (HR.out.below hB2).cells.1; have cL := hL.cell (j := 0) (by simp); have fL := hL.frozen 0)
    have BW := hB2.setCell (p := ⟨w1.heap.size + 1, 0, none⟩) (by rw [hSz]; exact Nat.le_refl _) (.int .u8 1)
    have hL := hL.put 0 1 1 rfl
    generalize w2.setCell ⟨w1.heap.size + 1, 0, none⟩ (.int .u8 1) = w3 at *
    clear c2 hB2 cL fL
    have hc1 := (HR.out.below BW).cells.2.1
    have hc2 := (HR.out.below BW).cells.2.2
    have hd : w3.drew.cell? ⟨w1.heap.size, 1, none⟩ = some (.slice C o r) ∧ w3.drew.cell? ⟨w1.heap.size, 2, none⟩ = some (.slice C' o' r') := ⟨hc1, hc2⟩
    have BD := Lib.hid BW.drew
    have hL := Lib.hid (hL.below (Below.refl _ _).drew hL.lt)
    have E1 := Lib.hid (EN.out _ _ _ (HX.out.1.below BD.out) HX.out.2)
    clear BW hc1 hc2
    go_region_held3 (fun w' => w'.cell? ⟨w1.heap.size, 1, none⟩ = some (.slice C o r) ∧ w'.cell? ⟨w1.heap.size, 2, none⟩ = some (.slice C' o' r')) (first | with_reducible exact hd | exact hd) (first | (go_at_call_of 16 (Value.slice C o r); refine (E1.out).mono ?_; rintro e w4 ⟨r4, rfl, hr4, hB4⟩; have BW4 := below_then BD.out hB4; have hO4 := (show OwB S.heap.size w4 (.slice (some ⟨w1.heap.size + 1, 0, none⟩) 1 1) [1] from (hL.out.below hB4 hL.out.lt).own (by rw [hSz]; exact Nat.le_refl _) rfl (by omega)); have hd := (HR.out.below BW4).cells.2) | (refine step_appendB rfl (.tmp 12) (.tmp 15) rfl S.heap.size _ [1] rfl hO4 r4 (encN q.num.natAbs) rfl hr4.byt (by have := HLx.out; have := HK.out; simp; omega) BW4.size ?_; intro v5 w5 hv5 hg5; have BW5 := below_ownB BW4 hg5 hO4 (Nat.le_refl _); have hd := (HR.out.below BW5).cells.2) | (go_at_call_of 16 (Value.slice C' o' r'); refine (EN.out _ _ _ (HY.out.1.below BW5) HY.out.2).mono ?_; rintro e w6 ⟨r6, rfl, hr6, hB6⟩; have BW6 := below_then BW5 hB6; have hv6 := hv5.below hB6 (Nat.le_refl _); have hd := (HR.out.below BW6).cells.2) | (refine step_appendB rfl (.tmp 16) (.tmp 19) rfl S.heap.size v5 ([1] ++ encN q.num.natAbs) rfl hv6 r6 (encN q.den) rfl hr6.byt (by have := HLx.out; have := HLy.out; have := HK.out; simp; omega) BW6.size ?_; intro v7 w7 hv7 hg7; have hd := (HR.out.below (below_ownB BW6 hg7 hv6 (Nat.le_refl _))).cells.2))
    go_wp2_with fail
    go_ret
    exact ⟨_, rfl, (show OwB w.heap.size w7 v7 _ by have := hv7.mono HBs.out.size; rw [hb]; simpa [encQ] using this), below_then HBs.out (below_ownB BW6 hg7 hv6 (Nat.le_refl _))⟩
end
end Go.Proofs.Ytkdnmmbnljaahaa

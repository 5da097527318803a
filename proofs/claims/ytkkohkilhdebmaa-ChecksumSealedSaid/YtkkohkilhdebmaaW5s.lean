/- The walk of ChecksumSealed. -/
import Derived.Test.YtkkohkilhdebmaaW5v
namespace Go.Proofs.Ytkkohkilhdebmaa
open Go.RowKit Dig
set_option linter.unusedVariables false
/-- The row of the four bytes of a checksum. -/
theorem byt_le4 (w : World) (p : Nat) : Byt (w.alloc (.cells #[.int .u8 ((p : Int) % 256), .int .u8 ((p : Int) / 256 % 256), .int .u8 ((p : Int) / 65536 % 256), .int .u8 ((p : Int) / 16777216 % 256)] 5)) (.slice (some ⟨w.heap.size, 0, none⟩) 4 4) (le4 p) := by
  refine byt_lit w (le4 p) 4 _ (0, 0) ?_ rfl (by omega)
  unfold le4 Y
  simp only [List.map_cons, List.map_nil]
  rw [oct_toNat (by omega), oct_toNat (by omega), oct_toNat (by omega), oct_toNat (by omega)]
  rfl
section
variable {w : World} {va vb : Value} {ta tb : List UInt8}
theorem sealed_big (ha : Byt w va ta) (hb : Byt w vb tb) (h : 200 < ta.length ∨ 200 < tb.length) :
    Calls Try.prog 8 #[va, vb] w (RVal w (.bool true)) := by
  obtain ⟨A, a, rfl⟩ := ha.form
  obtain ⟨B, b, rfl⟩ := hb.form
  generalize ta.length = l0 at *
  generalize tb.length = l1 at *
  clear ha hb
  by_cases h0 : 200 < l0
  · have h0i : (200 : Int) < l0 := by omega
    clear h h0
    go_enter Try.func8, Try.ntmps8
    go_wp2_with fail
    go_ret
    exact ⟨rfl, Below.refl _ _⟩
  · have h0i : ¬ (200 : Int) < l0 := by omega
    have h1i : (200 : Int) < l1 := by omega
    clear h h0
    go_enter Try.func8, Try.ntmps8
    go_wp2_with fail
    go_ret
    exact ⟨rfl, Below.refl _ _⟩
set_option maxRecDepth 20000 in
set_option maxHeartbeats 8000000 in
theorem sealed_small (ha : Byt w va ta) (hb : Byt w vb tb) (h0 : ta.length ≤ 200) (h1 : tb.length ≤ 200) :
    Calls Try.prog 8 #[va, vb] w (RVal w (.bool true)) := by
  have CA := Lib.hid (fun w1 (hB : Below w.heap.size w w1) => crc_c (ha.below hB) (by omega))
  have CB := Lib.hid (fun w1 (hB : Below w.heap.size w w1) => crc_c (hb.below hB) (by omega))
  have SA := crc_sealed ta
  have SB := crc_sealed tb
  generalize cpl (sts 32 4294967295) = S at SA SB
  have HA := Lib.hid ha
  have HBB := Lib.hid hb
  obtain ⟨A, a, rfl⟩ := ha.form
  obtain ⟨B, b, rfl⟩ := hb.form
  have h0i : ¬ (200 : Int) < ta.length := by omega
  have h1i : ¬ (200 : Int) < tb.length := by omega
  have HLA := Lib.hid h0
  have HLB := Lib.hid h1
  have hpl := crcN_lt ta
  have hql := crcN_lt tb
  clear ha hb h0 h1
  generalize crcN ta = p at *
  generalize crcN tb = q at *
  have SA := Lib.hid SA
  have SB := Lib.hid SB
  obtain ⟨l0, e0⟩ : ∃ l, ta.length = l := ⟨_, rfl⟩
  obtain ⟨l1, e1⟩ : ∃ l, tb.length = l := ⟨_, rfl⟩
  rw [e0] at HA CA h0i
  rw [e1] at HBB CB h1i
  rw [e0, e1]
  clear e0 e1 hpl hql
  go_enter Try.func8, Try.ntmps8
  go_wp2_with fail
  refine (CA.out w (Below.refl _ _)).mono ?_
  rintro e w1 ⟨rfl, hB⟩
  have B1 := Lib.hid hB
  clear hB
  go_wp2_with fail
  refine (CB.out w1 B1.out).mono ?_
  rintro e w2 ⟨rfl, hB⟩
  have B2 := Lib.hid (below_then B1.out hB)
  clear hB
  go_wp2_with (first | (at_builtin; refine wp_appendB rfl _ _ rfl w5.heap.size v7 _ rfl (o7.out.below ((Below.refl w7.heap.size w7).alloc (Nat.le_refl _) _) (Nat.le_refl _)) _ (le4 q) rfl (byt_le4 w7 q) (by have := HLB.out; simp [le4]; omega) (Nat.le_trans B7.out.size ((Below.refl w7.heap.size w7).alloc (Nat.le_refl _) _).size) ?_; intro v8 w8 hv hg; have B8 := Lib.hid (below_ownB (below_then B7.out ((Below.refl w7.heap.size w7).alloc (Nat.le_refl _) _)) hg (o7.out.below ((Below.refl w7.heap.size w7).alloc (Nat.le_refl _) _) (Nat.le_refl _)) (Nat.le_refl _)); have o8 := Lib.hid hv; clear hv hg o7) | (at_builtin; refine wp_appendB rfl _ _ rfl w5.heap.size _ [] rfl o6.out _ tb rfl (HBB.out.below (below_then Q5.out B6.out)) (by have := HLB.out; simp; omega) B6.out.size ?_; intro v7 w7 hv hg; have B7 := Lib.hid (below_ownB B6.out hg o6.out (Nat.le_refl _)); have o7 := Lib.hid hv; clear hv hg o6) | ((with_reducible refine wp_noneB rfl rfl ?_); intro w6 hS hB3; have o6 := Lib.hid hS; have B6 := Lib.hid (show Below w5.heap.size w5 w6 from hB3); have Q5 := B5; clear hS hB3 B5) | (at_builtin; refine wp_appendB rfl _ _ rfl w.heap.size v4 _ rfl (o4.out.below ((Below.refl w4.heap.size w4).alloc (Nat.le_refl _) _) (Nat.le_refl _)) _ (le4 p) rfl (byt_le4 w4 p) (by have := HLA.out; simp [le4]; omega) (Nat.le_trans B4.out.size ((Below.refl w4.heap.size w4).alloc (Nat.le_refl _) _).size) ?_; intro v5 w5 hv hg; have B5 := Lib.hid (below_ownB (below_then B4.out ((Below.refl w4.heap.size w4).alloc (Nat.le_refl _) _)) hg (o4.out.below ((Below.refl w4.heap.size w4).alloc (Nat.le_refl _) _) (Nat.le_refl _)) (Nat.le_refl _)); have o5 := Lib.hid hv; clear hv hg o4) | (at_builtin; refine wp_appendB rfl _ _ rfl w.heap.size _ [] rfl o3.out _ ta rfl (HA.out.below B3.out) (by have := HLA.out; simp; omega) B3.out.size ?_; intro v4 w4 hv hg; have B4 := Lib.hid (below_ownB B3.out hg o3.out (Nat.le_refl _)); have o4 := Lib.hid hv; clear hv hg o3) | ((with_reducible refine wp_noneB rfl rfl ?_); intro w3 hS hB3; have o3 := Lib.hid (hS.mono B2.out.size); have B3 := Lib.hid (below_then B2.out hB3); clear hS hB3))
  have B9 := Lib.hid (below_then Q5.out B8.out)
  have hx := (o5.out.below B8.out (Nat.le_refl _)).byt
  have hy := o8.out.byt
  rw [List.nil_append] at hx hy
  have C1 := crc_c hx (by have := HLA.out; simp [le4]; omega)
  rw [SA.out] at C1
  have hy := Lib.hid hy
  have C1 := Lib.hid C1
  clear hx o5 o8 Q5 B8
  refine (C1.out).mono ?_
  rintro e w9 ⟨rfl, hB⟩
  have B10 := Lib.hid (below_then B9.out hB)
  have C2 := crc_c (hy.out.below hB) (by have := HLB.out; simp [le4]; omega)
  rw [SB.out] at C2
  have C2 := Lib.hid C2
  clear hB C1 hy
  go_wp2_with fail
  refine (C2.out).mono ?_
  rintro e w10 ⟨rfl, hB⟩
  have B11 := Lib.hid (below_then B10.out hB)
  clear hB
  go_wp2_with fail
  refine (known5_c w10).mono ?_
  rintro e w11 ⟨rfl, hB⟩
  have B12 := Lib.hid (below_then B11.out hB)
  clear hB
  go_wp2_with fail
  go_ret
  exact ⟨rfl, B12.out⟩
end
theorem sealed_walk (w : World) (va vb : Value) (ta tb : List UInt8) (ha : Byt w va ta) (hb : Byt w vb tb) :
    Calls Try.prog 8 #[va, vb] w (RVal w (.bool true)) := by
  by_cases h : 200 < ta.length ∨ 200 < tb.length
  · exact sealed_big ha hb h
  · exact sealed_small ha hb (by omega) (by omega)
end Go.Proofs.Ytkkohkilhdebmaa

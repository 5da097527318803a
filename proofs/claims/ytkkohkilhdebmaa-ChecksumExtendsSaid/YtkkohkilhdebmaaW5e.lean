/- The walk of ChecksumExtends. -/
import Derived.Test.YtkkohkilhdebmaaW5v
namespace Go.Proofs.Ytkkohkilhdebmaa
open Go.RowKit Dig
set_option linter.unusedVariables false
section
variable {w : World} {va vb vc : Value} {ta tb tc : List UInt8}
theorem extends_big (ha : Byt w va ta) (hb : Byt w vb tb) (hc : Byt w vc tc) (h : 200 < ta.length ∨ 200 < tb.length ∨ 200 < tc.length) :
    Calls Try.prog 4 #[va, vb, vc] w (RVal w (.bool true)) := by
  obtain ⟨A, a, rfl⟩ := ha.form
  obtain ⟨B, b, rfl⟩ := hb.form
  obtain ⟨C, c, rfl⟩ := hc.form
  generalize ta.length = l0 at *
  generalize tb.length = l1 at *
  generalize tc.length = l2 at *
  clear ha hb hc
  by_cases h0 : 200 < l0
  · have h0i : (200 : Int) < l0 := by omega
    clear h h0
    go_enter Try.func4, Try.ntmps4
    go_wp2_with fail
    go_ret
    exact ⟨rfl, Below.refl _ _⟩
  · have h0i : ¬ (200 : Int) < l0 := by omega
    by_cases h1 : 200 < l1
    · have h1i : (200 : Int) < l1 := by omega
      clear h h0 h1
      go_enter Try.func4, Try.ntmps4
      go_wp2_with fail
      go_ret
      exact ⟨rfl, Below.refl _ _⟩
    · have h1i : ¬ (200 : Int) < l1 := by omega
      have h2i : (200 : Int) < l2 := by omega
      clear h h0 h1
      go_enter Try.func4, Try.ntmps4
      go_wp2_with fail
      go_ret
      exact ⟨rfl, Below.refl _ _⟩
set_option maxRecDepth 20000 in
set_option maxHeartbeats 8000000 in
theorem extends_small (ha : Byt w va ta) (hb : Byt w vb tb) (hc : Byt w vc tc) (h0 : ta.length ≤ 200) (h1 : tb.length ≤ 200) (h2 : tc.length ≤ 200) :
    Calls Try.prog 4 #[va, vb, vc] w (RVal w (.bool true)) := by
  have e1 : crcX (crcX (crcN ta) tb) tc = crcN (ta ++ tb ++ tc) := by
    unfold crcN
    rw [crcX_append, crcX_append, List.append_assoc]
  have e2 : crcX 0 ta = crcN ta := rfl
  have hla := crcN_lt ta
  have hlb := crcX_lt tb hla
  have CA := Lib.hid (fun w1 (hB : Below w.heap.size w w1) => crc_c (ha.below hB) (by omega))
  have X0 := fun w1 (hB : Below w.heap.size w w1) => extend_c (ha.below hB) (by omega) 0 (by omega)
  have XB := fun w1 (hB : Below w.heap.size w w1) => extend_c (hb.below hB) (by omega) (crcN ta) hla
  have XC := fun w1 (hB : Below w.heap.size w w1) => extend_c (hc.below hB) (by omega) (crcX (crcN ta) tb) hlb
  rw [e1] at XC
  rw [e2] at X0
  have X0 := Lib.hid X0
  have XB := Lib.hid XB
  have XC := Lib.hid XC
  have HA := Lib.hid ha
  have HBB := Lib.hid hb
  have HCC := Lib.hid hc
  have HL := Lib.hid (show ta.length ≤ 200 ∧ tb.length ≤ 200 ∧ tc.length ≤ 200 from ⟨h0, h1, h2⟩)
  obtain ⟨A, a, rfl⟩ := ha.form
  obtain ⟨B, b, rfl⟩ := hb.form
  obtain ⟨C, c, rfl⟩ := hc.form
  have h0i : ¬ (200 : Int) < ta.length := by omega
  have h1i : ¬ (200 : Int) < tb.length := by omega
  have h2i : ¬ (200 : Int) < tc.length := by omega
  clear ha hb hc h0 h1 h2 hla hlb e1 e2
  generalize hr1 : crcN ta = r1 at *
  generalize hr2 : crcX r1 tb = r2 at *
  generalize hr3 : crcN (ta ++ tb ++ tc) = r3 at *
  have hr3 := Lib.hid hr3
  clear hr1 hr2
  obtain ⟨l0, e0⟩ : ∃ l, ta.length = l := ⟨_, rfl⟩
  obtain ⟨l1, e1⟩ : ∃ l, tb.length = l := ⟨_, rfl⟩
  obtain ⟨l2, e2⟩ : ∃ l, tc.length = l := ⟨_, rfl⟩
  rw [e0] at HA CA X0 h0i
  rw [e1] at HBB XB h1i
  rw [e2] at HCC XC h2i
  rw [e0, e1, e2]
  clear e0 e1 e2
  go_enter Try.func4, Try.ntmps4
  go_wp2_with (first | ((with_reducible refine wp_noneB rfl rfl ?_); intro w1 hS hB1; have o1 := Lib.hid hS; have B1 := Lib.hid hB1; clear hS hB1) | (at_builtin; refine wp_appendB rfl _ _ rfl w.heap.size _ [] rfl o1.out _ ta rfl (HA.out.below B1.out) (by have := HL.out; simp; omega) B1.out.size ?_; intro v2 w2 hv2 hg2; have B2 := Lib.hid (below_ownB B1.out hg2 o1.out (Nat.le_refl _)); have o2 := Lib.hid hv2; clear hv2 hg2 o1) | (at_builtin; refine wp_appendB rfl _ _ rfl w.heap.size v2 _ rfl o2.out _ tb rfl (HBB.out.below B2.out) (by have := HL.out; simp; omega) B2.out.size ?_; intro v3 w3 hv3 hg3; have B3 := Lib.hid (below_ownB B2.out hg3 o2.out (Nat.le_refl _)); have o3 := Lib.hid hv3; clear hv3 hg3 o2) | (at_builtin; refine wp_appendB rfl _ _ rfl w.heap.size v3 _ rfl o3.out _ tc rfl (HCC.out.below B3.out) (by have := HL.out; simp; omega) B3.out.size ?_; intro v4 w4 hv4 hg4; have B4 := Lib.hid (below_ownB B3.out hg4 o3.out (Nat.le_refl _)); have o4 := Lib.hid hv4; clear hv4 hg4 o3))
  have o4 := Lib.hid o4.out.byt
  rw [List.nil_append] at o4
  refine (CA.out w4 B4.out).mono ?_
  rintro e w5 ⟨rfl, hB⟩
  have CN := crc_c (o4.out.below hB) (by have := HL.out; simp; omega)
  rw [hr3.out] at CN
  have B5 := Lib.hid (below_then B4.out hB)
  have o5 := Lib.hid (o4.out.below hB)
  clear hB CN
  go_wp2_with fail
  refine (XB.out w5 B5.out).mono ?_
  rintro e w6 ⟨rfl, hB⟩
  have B6 := Lib.hid (below_then B5.out hB)
  have o6 := Lib.hid (o5.out.below hB)
  clear hB
  go_wp2_with fail
  refine (XC.out w6 B6.out).mono ?_
  rintro e w7 ⟨rfl, hB⟩
  have B7 := Lib.hid (below_then B6.out hB)
  have CN := crc_c (o6.out.below hB) (by have := HL.out; simp; omega)
  rw [hr3.out] at CN
  have CN := Lib.hid CN
  clear hB
  go_wp2_with fail
  refine (CN.out).mono ?_
  rintro e w8 ⟨rfl, hB⟩
  have B8 := Lib.hid (below_then B7.out hB)
  clear hB CN
  go_wp2_with fail
  refine (X0.out w8 B8.out).mono ?_
  rintro e w9 ⟨rfl, hB⟩
  have B9 := Lib.hid (below_then B8.out hB)
  clear hB
  go_wp2_with fail
  refine (CA.out w9 B9.out).mono ?_
  rintro e w10 ⟨rfl, hB⟩
  have B10 := Lib.hid (below_then B9.out hB)
  clear hB
  go_wp2_with fail
  refine (known5_c w10).mono ?_
  rintro e w11 ⟨rfl, hB⟩
  have B11 := Lib.hid (below_then B10.out hB)
  clear hB
  go_wp2_with fail
  go_ret
  exact ⟨rfl, B11.out⟩
end
theorem extends_walk (w : World) (va vb vc : Value) (ta tb tc : List UInt8) (ha : Byt w va ta) (hb : Byt w vb tb) (hc : Byt w vc tc) :
    Calls Try.prog 4 #[va, vb, vc] w (RVal w (.bool true)) := by
  by_cases h : 200 < ta.length ∨ 200 < tb.length ∨ 200 < tc.length
  · exact extends_big ha hb hc h
  · exact extends_small ha hb hc (by omega) (by omega) (by omega)
end Go.Proofs.Ytkkohkilhdebmaa

/- The walks of ChecksumValues and ChecksumExtends. -/
import Derived.Test.YtkkohkilhdebmaaKn5
import Derived.Test.YtkkohkilhdebmaaBytes
namespace Go.Proofs.Ytkkohkilhdebmaa
open Go.RowKit Dig
set_option linter.unusedVariables false
theorem wf_word {n : Int} (h : (Lit.int .u32 n).wf = true) : 0 ≤ n ∧ n < 4294967296 := by
  have e1 : IntKind.u32.min = 0 := by decide
  have e2 : IntKind.u32.max = 4294967295 := by decide
  simp [Lit.wf] at h
  rw [e1, e2] at h
  omega
theorem values_walk (w : World) (vb : Value) (ts : List UInt8) (hb : Byt w vb ts) {a : Int} (ha : (Lit.int .u32 a).wf = true) :
    Calls Try.prog 3 #[vb, .int .u32 a] w (RVal w (.bool true)) := by
  obtain ⟨h1, h2⟩ := wf_word ha
  obtain ⟨n, rfl⟩ := Int.eq_ofNat_of_zero_le h1
  have hn : n < 4294967296 := by omega
  have C := Lib.hid (fun w1 (hB : Below w.heap.size w w1) hz => crc_c (hb.below hB) hz)
  have RC := Lib.hid (fun w1 (hB : Below w.heap.size w w1) hz => refCRC_c (hb.below hB) hz)
  have X := Lib.hid (fun w1 (hB : Below w.heap.size w w1) hz => extend_c (hb.below hB) hz n hn)
  have RX := Lib.hid (fun w1 (hB : Below w.heap.size w w1) hz => refExt_c (hb.below hB) hz n hn)
  have H := Lib.hid (fun w1 (hB : Below w.heap.size w w1) hz => hash_c (hb.below hB) hz)
  have RH := Lib.hid (fun w1 (hB : Below w.heap.size w w1) hz => refHash_c (hb.below hB) hz)
  obtain ⟨B, c, rfl⟩ := hb.form
  generalize crcN ts = r1 at *
  generalize crcX n ts = r2 at *
  generalize hashN ts = r3 at *
  by_cases h : (300 : Int) < ts.length
  · clear C RC X RX H RH h1 h2 ha hb hn
    go_enter Try.func3, Try.ntmps3
    go_wp2_with fail
    go_ret
    exact ⟨rfl, Below.refl _ _⟩
  · have hz := Lib.hid (show ts.length ≤ 1000000000 by omega)
    clear h1 h2 ha hb hn
    generalize ts.length = l0 at *
    go_enter Try.func3, Try.ntmps3
    go_wp2_with fail
    refine (C.out w (Below.refl _ _) hz.out).mono ?_
    rintro e w1 ⟨rfl, hB⟩
    have B1 := Lib.hid hB
    clear hB
    go_wp2_with fail
    refine (RC.out w1 B1.out hz.out).mono ?_
    rintro e w2 ⟨rfl, hB⟩
    have B2 := Lib.hid (below_then B1.out hB)
    clear hB
    go_wp2_with fail
    refine (X.out w2 B2.out hz.out).mono ?_
    rintro e w3 ⟨rfl, hB⟩
    have B3 := Lib.hid (below_then B2.out hB)
    clear hB
    go_wp2_with fail
    refine (RX.out w3 B3.out hz.out).mono ?_
    rintro e w4 ⟨rfl, hB⟩
    have B4 := Lib.hid (below_then B3.out hB)
    clear hB
    go_wp2_with fail
    refine (H.out w4 B4.out hz.out).mono ?_
    rintro e w5 ⟨rfl, hB⟩
    have B5 := Lib.hid (below_then B4.out hB)
    clear hB
    go_wp2_with fail
    refine (RH.out w5 B5.out hz.out).mono ?_
    rintro e w6 ⟨rfl, hB⟩
    have B6 := Lib.hid (below_then B5.out hB)
    clear hB
    go_wp2_with fail
    refine (known5_c w6).mono ?_
    rintro e w7 ⟨rfl, hB⟩
    have B7 := Lib.hid (below_then B6.out hB)
    clear hB
    go_wp2_with fail
    go_ret
    exact ⟨rfl, B7.out⟩
end Go.Proofs.Ytkkohkilhdebmaa

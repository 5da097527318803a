/- The contract of EncodeFrac of the program. -/
import Derived.Test.YtkdnmmbnljaahaaEnn
import Derived.Test.YtkdnmmbnljaahaaRatB
namespace Go.Proofs.Ytkdnmmbnljaahaa
open Go.RowKit Dig
set_option linter.unusedVariables false

section
variable {w : World} {ops : Array Oper} {rest : List Oper} {o : Oper} {a : Act} {Q : Exit → Act → World → Prop}
/-- A literal of one byte. -/
theorem wp_litB (hg : o.guard = none) (x : Operand) (ho : o.op = .buildSlice 23 1 #[(0, x)]) (c : UInt8) (z : Int) (hx : a.eval x = .int .u8 z) (hz : z = (c.toNat : Int))
    (h : ∀ w', LetB w' w.heap.size [c] → Below w.heap.size w w' → wpList Try.prog ops Q rest (a.put o.dst (.slice (some ⟨w.heap.size, 0, none⟩) 1 1)) w') :
    wpList Try.prog ops Q (o :: rest) a w := by
  subst hz
  obtain ⟨i0, hi, hz0, hz1, hz2⟩ := info_parts info_byte
  refine wpList_plain hg fun K hK => ?_
  unfold Oper.wp execOp
  have hr : (Instr.buildSlice 23 1 #[(0, Value.int .u8 (c.toNat : Int))]).run Try.prog w = .ok (.slice (some ⟨w.heap.size, 0, none⟩) 1 1) (w.alloc (.cells #[.int .u8 (c.toNat : Int)] 5)) := by
    simp [Instr.buildSlice, run_underlying Try.underlying23, sizeOf, typeInfo, hi, newRow, Instr.fill, hz1]
    rw [show (Value.int .u8 (c.toNat : Int)).cells = #[Value.int .u8 (c.toNat : Int)] from rfl, show (Array.range 1) = #[0] from rfl]
    simp
  simp only [ho, Sem.run_bind, List.map_toArray, List.map_cons, List.map_nil, hx, hr, Result.andThen_ok]
  refine hK _ _ (h _ ?_ ((Below.refl _ _).alloc (Nat.le_refl _) _))
  unfold LetB
  rw [heap_alloc_new]
  simp [Y]
end
theorem encN_length {n k : Nat} (h : n < 4294967296 ^ k) (hk : k ≤ 100000) : (encN n).length ≤ 4 * k + 10 := by
  have h1 := beB_short h
  unfold encN encB
  rw [List.length_append]
  have := encU_ten (n := (beB n).length) (by omega)
  omega
theorem LetB.alloc {w : World} {g : Nat} {ts : List UInt8} (h : LetB w g ts) (o : Obj) : LetB (w.alloc o) g ts := h.below ((Below.refl w.heap.size _).alloc (Nat.le_refl _) o) h.lt

section
variable {w : World} {va : Value} {q : Rat} {k : Nat}
set_option maxHeartbeats 4000000 in
theorem encFrac_c (ha : FracV w va q k) (hk : k ≤ 100000) (h1 : 2 ≤ k) : Calls Try.prog 17 #[va] w (RByt w (encQ (decide (q.num < 0)) q.num.natAbs q.den)) := by
  obtain ⟨na, A, m, c, A', m', c', n, d, rfl, hn, hd, hp⟩ := ha.parts
  have NF := Lib.hid (fun w1 hB => normf_v (w := w1) (ha.below hB) (by omega) h1)
  have F0 := Lib.hid (Fcl.new w na (.slice A m c) (.slice A' m' c'))
  have hB0 : Below w.heap.size w (w.alloc (.cells #[.bool na, .slice A m c, .slice A' m' c'] 28)) := (Below.refl _ _).alloc (Nat.le_refl _) _
  clear ha hn hd hp
  go_enter Try.func17, Try.ntmps17
  go_wp2_with fail
  refine (NF.out _ hB0).mono ?_
  rintro e w1 ⟨z, rfl, hz, hB1⟩
  have R1 := F0.out.below hB1
  have hB1 := below_then hB0 hB1
  obtain ⟨b, C, o, r, C', o', r', rfl, hb, hvx, hvy⟩ := hz.parts
  obtain ⟨k0, k1, k2⟩ := R1.cells
  obtain ⟨f0, f1, f2⟩ := R1.frozen
  obtain ⟨S, hS⟩ : ∃ S, stor3 w1 w.heap.size (.bool b) (.slice C o r) (.slice C' o' r') = S := ⟨_, rfl⟩
  have hSz : S.heap.size = w1.heap.size := by rw [← hS]; exact put3_size _ _ _ _ _
  have HR := Fcl.put3 R1 b (.slice C o r) (.slice C' o' r')
  have HX := hvx.put3 R1 (.bool b) (.slice C o r) (.slice C' o' r')
  have HY := hvy.put3 R1 (.bool b) (.slice C o r) (.slice C' o' r')
  have HBs := below_put3 hB1 (Nat.le_refl _) (.bool b) (.slice C o r) (.slice C' o' r')
  rw [hS] at HR HX HY HBs
  have HSB := Lib.hid (fun W (h : Below (stor3 w1 w.heap.size (.bool b) (.slice C o r) (.slice C' o' r')).heap.size (stor3 w1 w.heap.size (.bool b) (.slice C o r) (.slice C' o' r')) W) => show Below S.heap.size S W by rw [hS] at h; exact h)
  have HSL := Lib.hid (fun W ts (h : LetB W (stor3 w1 w.heap.size (.bool b) (.slice C o r) (.slice C' o' r')).heap.size ts) => show LetB W w1.heap.size ts by rw [hS, hSz] at h; exact h)
  have HLx := Lib.hid (encN_length HX.2 hk)
  have HLy := Lib.hid (encN_length HY.2 hk)
  have HR := Lib.hid HR
  have HX := Lib.hid HX
  have HY := Lib.hid HY
  have HBs := Lib.hid HBs
  have HK := Lib.hid hk
  have EN := Lib.hid (fun W X N (h : Num W X (dg N)) (hN : N < 4294967296 ^ k) => show Calls Try.prog 15 #[X] W (RByt W (encN N)) from by have := encNat_c h (by have := dg_length_le N k hN; omega); rwa [val_dg] at this)
  clear R1 hvx hvy hz hS hk
  cases b
  · go_wp2_with ((with_reducible refine wp_litB rfl (.const (.int .u8 0)) rfl 0 0 rfl rfl ?_); intro w2 hL hB2; have hB2 := HSB.out _ hB2; have hL := HSL.out _ _ hL; have c2 := (HR.out.below hB2).cells.1; have c3 := (HR.out.below hB2).cells.2.1)
    have BW := Lib.hid hB2
    refine (EN.out _ _ _ (HX.out.1.below BW.out) HX.out.2).mono ?_
    rintro e w4 ⟨r4, rfl, hr4, hB4⟩
    have hO4 := Lib.hid (show OwB S.heap.size w4 (.slice (some ⟨w1.heap.size, 0, none⟩) 1 1) [0] from (hL.below hB4 hL.lt).own (by rw [hSz]; exact Nat.le_refl _) rfl (by omega))
    have BW4 := below_then BW.out hB4
    have hr := Lib.hid hr4.byt
    go_wp2_with (at_builtin; refine wp_appendB rfl _ _ rfl S.heap.size _ [0] rfl hO4.out r4 (encN q.num.natAbs) rfl hr.out (by have := HLx.out; have := HK.out; simp; omega) BW4.size ?_; intro v5 w5 hv5 hg5; have BW5 := below_ownB BW4 hg5 hO4.out (Nat.le_refl _); have c5 := (HR.out.below BW5).cells.2.2)
    refine (EN.out _ _ _ (HY.out.1.below BW5) HY.out.2).mono ?_
    rintro e w6 ⟨r6, rfl, hr6, hB6⟩
    have BW6 := below_then BW5 hB6
    have hv6 := Lib.hid (hv5.below hB6 (Nat.le_refl _))
    have hr := Lib.hid hr6.byt
    go_wp2_with (at_builtin; refine wp_appendB rfl _ _ rfl S.heap.size v5 ([0] ++ encN q.num.natAbs) rfl hv6.out r6 (encN q.den) rfl hr.out (by have := HLx.out; have := HLy.out; have := HK.out; simp; omega) BW6.size ?_; intro v7 w7 hv7 hg7)
    go_ret
    exact ⟨_, rfl, (show OwB w.heap.size w7 v7 _ by have := hv7.mono HBs.out.size; rw [hb]; simpa [encQ] using this), below_then HBs.out (below_ownB BW6 hg7 hv6.out (Nat.le_refl _))⟩
  · go_wp2_with ((with_reducible refine wp_litB rfl (.const (.int .u8 0)) rfl 0 0 rfl rfl ?_); intro w2 hL hB2; have hB2 := HSB.out _ hB2; have hL := HSL.out _ _ hL; have c2 := (HR.out.below hB2).cells.1; have cL := hL.cell (j := 0) (by simp); have fL := hL.frozen 0; have c3 := (HR.out.below hB2).cells.2.1)
    have BW := Lib.hid (hB2.setCell (p := ⟨w1.heap.size, 0, none⟩) (by rw [hSz]; exact Nat.le_refl _) (.int .u8 1))
    have hL := hL.put 0 1 1 rfl
    refine (EN.out _ _ _ (HX.out.1.below BW.out) HX.out.2).mono ?_
    rintro e w4 ⟨r4, rfl, hr4, hB4⟩
    have hO4 := Lib.hid (show OwB S.heap.size w4 (.slice (some ⟨w1.heap.size, 0, none⟩) 1 1) [1] from (hL.below hB4 hL.lt).own (by rw [hSz]; exact Nat.le_refl _) rfl (by omega))
    have BW4 := below_then BW.out hB4
    have hr := Lib.hid hr4.byt
    go_wp2_with (at_builtin; refine wp_appendB rfl _ _ rfl S.heap.size _ [1] rfl hO4.out r4 (encN q.num.natAbs) rfl hr.out (by have := HLx.out; have := HK.out; simp; omega) BW4.size ?_; intro v5 w5 hv5 hg5; have BW5 := below_ownB BW4 hg5 hO4.out (Nat.le_refl _); have c5 := (HR.out.below BW5).cells.2.2)
    refine (EN.out _ _ _ (HY.out.1.below BW5) HY.out.2).mono ?_
    rintro e w6 ⟨r6, rfl, hr6, hB6⟩
    have BW6 := below_then BW5 hB6
    have hv6 := Lib.hid (hv5.below hB6 (Nat.le_refl _))
    have hr := Lib.hid hr6.byt
    go_wp2_with (at_builtin; refine wp_appendB rfl _ _ rfl S.heap.size v5 ([1] ++ encN q.num.natAbs) rfl hv6.out r6 (encN q.den) rfl hr.out (by have := HLx.out; have := HLy.out; have := HK.out; simp; omega) BW6.size ?_; intro v7 w7 hv7 hg7)
    go_ret
    exact ⟨_, rfl, (show OwB w.heap.size w7 v7 _ by have := hv7.mono HBs.out.size; rw [hb]; simpa [encQ] using this), below_then HBs.out (below_ownB BW6 hg7 hv6.out (Nat.le_refl _))⟩
end
end Go.Proofs.Ytkdnmmbnljaahaa

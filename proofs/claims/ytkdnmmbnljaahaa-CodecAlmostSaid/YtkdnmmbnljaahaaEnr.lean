/- The contract of the encoding of a number of the reference. -/
import Derived.Deep.RegionHeld3
import Derived.Test.YtkdnmmbnljaahaaEnf
import Derived.Test.YtkdnmmbnljaahaaRefs
namespace Go.Proofs.Ytkdnmmbnljaahaa
open Go.RowKit Dig
set_option linter.unusedVariables false

namespace Dig
/-- The four bytes of a digit. -/
def be4 (d : Nat) : List UInt8 := [oct (d / 16777216), oct (d / 65536 % 256), oct (d / 256 % 256), oct (d % 256)]
theorem beV_be4 (ts : List UInt8) (d : Nat) (hd : d < 4294967296) : beV (ts ++ be4 d) = beV ts * 4294967296 + d := by
  have e : ts ++ be4 d = (((ts ++ [oct (d / 16777216)]) ++ [oct (d / 65536 % 256)]) ++ [oct (d / 256 % 256)]) ++ [oct (d % 256)] := by simp [be4]
  rw [e, beV_snoc, beV_snoc, beV_snoc, beV_snoc, oct_toNat (by omega), oct_toNat (by omega), oct_toNat (by omega), oct_toNat (by omega)]
  omega
theorem val_drop_pred (xs : List Nat) (k : Nat) (hk : k < xs.length) : val (xs.drop k) = xs.getD k 0 + 4294967296 * val (xs.drop (k + 1)) := by
  rw [List.drop_eq_getElem_cons hk]
  simp [val, List.getD_eq_getElem?_getD, hk]
end Dig
theorem Byt.four (w : World) (d : Nat) (x0 x1 x2 x3 : Int) (hd : d < 4294967296) (h0 : x0 = ((d / 16777216 : Nat) : Int)) (h1 : x1 = ((d / 65536 % 256 : Nat) : Int)) (h2 : x2 = ((d / 256 % 256 : Nat) : Int)) (h3 : x3 = ((d % 256 : Nat) : Int)) :
    Byt (w.alloc (.cells #[.int .u8 x0, .int .u8 x1, .int .u8 x2, .int .u8 x3] 5)) (.slice (some ⟨w.heap.size, 0, none⟩) 4 4) (be4 d) := by
  have : OwB w.heap.size (w.alloc (.cells #[.int .u8 x0, .int .u8 x1, .int .u8 x2, .int .u8 x3] 5)) (.slice (some ⟨w.heap.size, 0, none⟩) 4 4) (be4 d) := by
    refine .inr ⟨w.heap.size, [], rfl, Nat.le_refl _, by unfold maxLen; simp [be4], ?_⟩
    rw [heap_alloc_new, h0, h1, h2, h3]
    simp only [Y, be4, List.map_cons, List.map_nil, List.append_nil]
    rw [oct_toNat (by omega), oct_toNat (by omega), oct_toNat (by omega), oct_toNat (by omega)]
  exact this.byt
theorem Num.at {w : World} {b off n c : Nat} {xs : List Nat} (h : Num w (.slice (some ⟨b, off, none⟩) n c) xs) (j : Nat) (hj : j < xs.length) : w.cell? ⟨b, off + j, none⟩ = some (.int .u32 ((xs.getD j 0 : Nat) : Int)) := by
  have hn := h.bounds.1
  subst hn
  obtain ⟨b', off', e, _, hall⟩ := h.cells (by omega)
  cases e
  exact hall j hj
theorem grown_of_drew {w w' : World} {row : Option Nat} (h : w.drew.grownBy w' row) : w.grownBy w' row := ⟨h.os, h.tape, h.output, h.size, h.block⟩
/-- How long a slice is. -/
def slen : Value → Nat
  | .slice _ n _ => n
  | _ => 0

section
variable {w : World} {v : Value} {xs : List Nat}
set_option maxRecDepth 20000 in
set_option maxHeartbeats 4000000 in
theorem refNat_c (h : Num w v xs) (hz : xs.length ≤ 100000) : Calls Try.prog 16 #[v] w (RByt w (encN (val xs))) := by
  have NN := Lib.hid (natNorm_c w v xs h (by omega))
  have hlv := dg_length_val xs h.small
  obtain ⟨N, hN⟩ : ∃ N, val xs = N := ⟨_, rfl⟩
  rw [hN] at NN hlv ⊢
  have HZ := Lib.hid (show (dg N).length ≤ 100000 by omega)
  have hzi : ((dg N).length : Int) ≤ 100000 := by omega
  clear hN hlv h hz
  go_enter Try.func16, Try.ntmps16
  go_wp2_with fail
  refine (NN.out).mono ?_
  rintro e w1 ⟨x, rfl, hx, hB1⟩
  obtain ⟨A, c, rfl⟩ := hx.num.form
  have hbd := hx.num.bounds.2
  have HX := Lib.hid hx.num
  have HB1 := Lib.hid hB1
  clear hx hB1
  go_wp2_with fail
  go_loopw [4, 5] (fun b i wr => ∃ (k : Nat) (ts : List UInt8), k ≤ (dg N).length ∧ i = .int .i64 ((k : Int) - 1) ∧ OwB w1.heap.size wr b ts ∧ beV ts = val ((dg N).drop k) ∧ ts.length + 4 * k = 4 * (dg N).length ∧ Below w1.heap.size w1 wr) (fun _ i _ => (intOf i + 1).toNat)
  case atStart => exact ⟨(dg N).length, [], Nat.le_refl _, rfl, OwB.nil _ _, by rw [List.drop_length]; rfl, by simp, Below.refl _ _⟩
  case round =>
    obtain ⟨k, ts, hk, rfl, hO, hV, hT, hB⟩ := hrel
    rcases Nat.eq_zero_or_pos k with h0 | h0
    · subst h0
      have hV0 : beV ts = N := by rw [hV, List.drop_zero, val_dg]
      have hb0 := hO.byt
      have HB := Lib.hid hB
      have HT := Lib.hid hT
      obtain ⟨A0, c0, rfl⟩ := hb0.form
      clear hV hT hO hB
      go_wp2_with fail
      go_loop [4] (fun b => ∃ ts', Byt wr b ts' ∧ beV ts' = N ∧ ts'.length ≤ 4 * (dg N).length) (fun b => slen b)
      case atStart => exact ⟨ts, hb0, hV0, by have := HT.out; omega⟩
      case round =>
        obtain ⟨ts2, hb2, hV2, hT2⟩ := hrel
        obtain ⟨A2, c2, rfl⟩ := hb2.form
        have hbd2 := hb2.bounds.2
        have hl2 : (ts2.length : Int) ≤ 400000 := by have := HZ.out; omega
        by_cases hend : noLead ts2
        · have he : ts2 = beB N := by rw [← hV2]; exact (beB_uniq ts2 hend).symm
          have EB := Lib.hid (show Calls Try.prog 14 #[.slice A2 ts2.length c2] wr (RByt wr (encN N)) from by have := refBytes_c hb2 (by omega); rwa [he] at this ⊢)
          rcases Nat.eq_zero_or_pos ts2.length with h2 | h2
          · have hz2 : (ts2.length : Int) = 0 := by omega
            rw [h2] at EB ⊢
            clear hz2 he hend hV2 hb2 hT2
            go_wp2_with fail
            refine (EB.out).mono ?_
            rintro e w2 ⟨r, rfl, hr, hB2⟩
            go_wp2_with fail
            go_ret
            exact ⟨_, rfl, hr.mono (by have := HB.out.size; have := HB1.out.size; omega), below_then (below_then HB1.out HB.out) hB2⟩
          · obtain ⟨b2, off2, rfl, _, hall⟩ := hb2.cells h2
            have hc2 := hall 0 h2
            have hne : ((ts2.getD 0 0).toNat : Int) ≠ 0 := by
              intro e
              apply hend
              cases ts2 with
              | nil => simp at h2
              | cons a l =>
                have : a.toNat = 0 := by simpa using e
                simp
                exact UInt8.toNat.inj this
            rw [Nat.add_zero] at hc2
            have h2i : (0 : Int) < ts2.length := by omega
            generalize ((ts2.getD 0 0).toNat : Int) = z at hc2 hne
            have hnb : (z == 0) = false := by rw [beq_eq_false_iff_ne]; exact hne
            clear hall hend he hV2 hb2 hT2
            go_wp2_with fail
            refine (EB.out).mono ?_
            rintro e w2 ⟨r, rfl, hr, hB2⟩
            go_wp2_with fail
            go_ret
            exact ⟨_, rfl, hr.mono (by have := HB.out.size; have := HB1.out.size; omega), below_then (below_then HB1.out HB.out) hB2⟩
        · cases ts2 with
          | nil => exact absurd (by simp [noLead]) hend
          | cons a l =>
            have ha : a = 0 := by simpa [noLead] using hend
            subst ha
            obtain ⟨b2, off2, rfl, _, hall⟩ := hb2.cells (by simp)
            have hc2 := hall 0 (by simp)
            rw [Nat.add_zero] at hc2
            have hc2 : wr.cell? ⟨b2, off2, none⟩ = some (.int .u8 0) := hc2
            have ht := hb2.tail (k := 1) (by simp)
            have hVl : beV l = N := by
              rw [← hV2]
              simp [beV]
            have HT2 := Lib.hid hT2
            unfold tailB at ht
            rw [List.length_cons] at *
            have h2i : (0 : Int) < ((l.length + 1 : Nat) : Int) := by omega
            clear hall hend hV2 hb2 hT2
            by_cases hcc : c2 = 1
            · subst hcc
              rw [if_pos rfl] at ht
              have hl0 : l = [] := List.eq_nil_of_length_eq_zero (by have := ht.bounds; simp at this; omega)
              subst hl0
              have HH := Lib.hid ht
              clear ht
              go_wp2_with fail
              go_round
              case rel => exact ⟨[], HH.out, hVl, by simp⟩
              case measure => simp [slen]
            · rw [if_neg hcc] at ht
              have HH := Lib.hid ht
              clear ht
              go_wp2_with fail
              go_round
              case rel => exact ⟨l, HH.out, hVl, by have := HT2.out; omega⟩
              case measure => simp [slen]
    · obtain ⟨j, rfl⟩ : ∃ j, k = j + 1 := ⟨k - 1, by omega⟩
      have ej : ((j + 1 : Nat) : Int) - 1 = (j : Int) := by omega
      rw [ej]
      obtain ⟨b0, off, rfl, hbw, hall⟩ := (HX.out.below hB).cells (by omega)
      have hCC := fun w' (hB : Below w1.heap.size w1 w') => Num.at (HX.out.below hB) j (by omega)
      have hc := hall j (by omega)
      have hdb := (small_dg N).get j
      have hstep := val_drop_pred (dg N) j (by omega)
      generalize (dg N).getD j 0 = d at hc hdb hstep hCC
      have hji : (j : Int) < (dg N).length := by omega
      have hdi : (d : Int) < 4294967296 := by omega
      have hF := Lib.hid (show Byt (wr.alloc (.cells #[.int .u8 (IntKind.u8.wrap ((d : Int) / 16777216)), .int .u8 (IntKind.u8.wrap ((d : Int) / 65536)), .int .u8 (IntKind.u8.wrap ((d : Int) / 256)), .int .u8 (IntKind.u8.wrap (d : Int))] 5)).drew (.slice (some ⟨wr.heap.size, 0, none⟩) 4 4) (be4 d) from (Byt.four wr d _ _ _ _ hdb (by rw [IntKind.wrap_u8]; omega) (by rw [IntKind.wrap_u8]; omega) (by rw [IntKind.wrap_u8]; omega) (by rw [IntKind.wrap_u8]; omega)).drewN 1)
      have hA := Lib.hid (show OwB w1.heap.size (wr.alloc (.cells #[.int .u8 (IntKind.u8.wrap ((d : Int) / 16777216)), .int .u8 (IntKind.u8.wrap ((d : Int) / 65536)), .int .u8 (IntKind.u8.wrap ((d : Int) / 256)), .int .u8 (IntKind.u8.wrap (d : Int))] 5)).drew u4 ts from (hO.alloc _).drewN 1)
      have CA := Lib.hid (show (wr.alloc (.cells #[.int .u8 (IntKind.u8.wrap ((d : Int) / 16777216)), .int .u8 (IntKind.u8.wrap ((d : Int) / 65536)), .int .u8 (IntKind.u8.wrap ((d : Int) / 256)), .int .u8 (IntKind.u8.wrap (d : Int))] 5)).drew.cell? ⟨b0, off + j, none⟩ = some (.int .u32 (d : Int)) from (((Below.refl wr.heap.size wr).alloc (Nat.le_refl _) _).cell (p := ⟨b0, off + j, none⟩) hbw).trans hc)
      have CC := Lib.hid hCC
      clear hCC
      have HO := Lib.hid hO
      have HB := Lib.hid hB
      have HV := Lib.hid (show beV (ts ++ be4 d) = val ((dg N).drop j) by rw [beV_be4 _ _ hdb, hV, hstep]; omega)
      have HT := Lib.hid hT
      clear hall hO hB hV hT hstep
      go_wp2_with fail
      have hcd : wr.drew.cell? ⟨b0, off + j, none⟩ = some (.int .u32 (d : Int)) := hc
      go_region_held3 (fun w' => w'.cell? ⟨b0, off + j, none⟩ = some (.int .u32 (d : Int))) (first | with_reducible exact hcd | exact CA.out | exact hcv) (first | (refine step_appendB rfl (.tmp 15) (.tmp 39) rfl w1.heap.size u4 ts (by simp [Act.eval]) hA.out (.slice (some ⟨wr.heap.size, 0, none⟩) 4 4) (be4 d) (by simp [Act.eval]) hF.out (by have := HT.out; have := HZ.out; simp [be4]; omega) (by have := HB.out.size; show w1.heap.size ≤ (Array.push _ _).size; simp; omega) ?_; intro v' w' hv' hg'; have hcv := CC.out w' (below_ownB HB.out (grown_after_alloc (grown_of_drew hg')) HO.out (Nat.le_refl _))))
      have hB3 := below_ownB HB.out (grown_after_alloc (grown_of_drew hg')) HO.out (Nat.le_refl _)
      go_wp2_with fail
      go_roundw
      case rel => exact ⟨j, _, by omega, rfl, hv', HV.out, by have := HT.out; simp [be4]; omega, hB3⟩
      case measure => simp [intOf]
end
end Go.Proofs.Ytkdnmmbnljaahaa

/- The law ValueText of stage 8. -/
import Derived.Deep.DeepCutAuto
import Derived.Test.YtpbkmkcfhkdjjaaDoorVlr
import Derived.Test.YtpbkmkcfhkdjjaaDoorVvk
import Derived.Test.YtpbkmkcfhkdjjaaDoorVlz
import Derived.Test.YtpbkmkcfhkdjjaaDoorBytes
namespace Go.Proofs.YtpbkmkcfhkdjjaaDoor
set_option linter.unusedSimpArgs false
open Go.RowKit Dig
set_option linter.unusedVariables false

theorem wrap_nat (z : Int) : ∃ m : Nat, IntKind.u64.wrap z = (m : Int) ∧ m < 18446744073709551616 := by
  have h : IntKind.u64.wrap z = z % 18446744073709551616 := IntKind.wrap_u64 z
  refine ⟨(z % 18446744073709551616).toNat, ?_, ?_⟩
  · rw [h]; omega
  · omega
theorem rem_nat {m n : Nat} (hn : 0 < n) : ∃ k : Nat, Int.tmod (m : Int) (n : Int) = (k : Int) ∧ k < n := ⟨m % n, by rw [Int.tmod_eq_emod_of_nonneg (by omega)]; rfl, Nat.mod_lt _ hn⟩
theorem Byt.put {w : World} {g n c k : Nat} {ts : List UInt8} {u : UInt8} {X : Int} (h : Byt w (.slice (some ⟨g, 0, none⟩) n c) ts) (hk : k < ts.length) (hX : X = (u.toNat : Int)) :
    Byt (w.setCell ⟨g, k, none⟩ (.int .u8 X)) (.slice (some ⟨g, 0, none⟩) n c) (ts.set k u) := by
  subst hX
  obtain ⟨hn, hc, hm⟩ := h.bounds
  obtain ⟨b, off, e, hb, hcl⟩ := h.cells (by omega)
  obtain ⟨rfl, rfl⟩ : g = b ∧ 0 = off := by
    injection e with e
    injection e with e1 e2
    exact ⟨e1, e2⟩
  refine ⟨some ⟨g, 0, none⟩, c, by rw [List.length_set, hn], ⟨by rw [List.length_set]; omega, fun e => by cases e⟩, hm, fun _ => ⟨g, 0, rfl, by rw [show (w.setCell ⟨g, k, none⟩ (.int .u8 (u.toNat : Int))).heap.size = w.heap.size from Array.size_modify]; exact hb, fun j hj => ?_⟩⟩
  rw [List.length_set] at hj
  have hj' := hcl j hj
  rw [Nat.zero_add] at hj' ⊢
  by_cases hjk : j = k
  · subst hjk
    rw [World.cell?_setCell_same (h := hj')]
    congr 1
    rw [List.getD_eq_getElem?_getD, List.getElem?_set_self hk]
    rfl
  · rw [World.cell?_setCell_other (h := fun e => by injection e with _ e2; exact hjk e2.symm), hj', List.getD_eq_getElem?_getD, List.getD_eq_getElem?_getD, List.getElem?_set_ne (fun e => hjk e.symm)]
set_option maxRecDepth 20000 in
set_option maxHeartbeats 8000000 in
theorem text_walk (w : World) (y : Vl) (s : List UInt8) (at' by' : Int) (oy : OkVl y) (z : s.length ≤ maxLen) (wa : (Lit.int .i64 at').wf = true) (wb : (Lit.int .u8 by').wf = true) (hS : Std w) : Calls Tryd.prog 5 #[vV y, .string ⟨s.toArray⟩, .int .i64 at', .int .u8 by'] w (RVal w (.bool true)) := by
  have HS := Lib.hid hS
  by_cases hy : y.2.2.length ≤ 80
  case neg =>
    have k1 : (y.2.2.length : Int) > 80 := by omega
    clear hS oy z wa wb hy
    go_enter Tryd.func5, Tryd.ntmps5
    go_wp2_with (((with_reducible refine wp_boxV 4 rfl rfl 0 rfl y ?hx ?_); (case hx => rfl); intro w1 hv hb; have V4 := Lib.hid hv; have B4 := Lib.hid hb; clear hv hb; have c2 : w1.cell? ⟨w.heap.size, 2, none⟩ = some (.string ⟨y.2.2.toArray⟩) := V4.out.cells.2.2))
    go_ret
    exact ⟨rfl, B4.out⟩
  have k1 : ¬ (y.2.2.length : Int) > 80 := by omega
  by_cases hs : s.length ≤ 100
  case neg =>
    have k2 : (s.length : Int) > 100 := by omega
    clear hS oy z wa wb hy hs
    go_enter Tryd.func5, Tryd.ntmps5
    go_wp2_with (((with_reducible refine wp_boxV 4 rfl rfl 0 rfl y ?hx ?_); (case hx => rfl); intro w1 hv hb; have V4 := Lib.hid hv; have B4 := Lib.hid hb; clear hv hb; have c2 : w1.cell? ⟨w.heap.size, 2, none⟩ = some (.string ⟨y.2.2.toArray⟩) := V4.out.cells.2.2))
    go_ret
    exact ⟨rfl, B4.out⟩
  have k2 : ¬ (s.length : Int) > 100 := by omega
  have MV := Lib.hid (fun W => mkv_c W y (by omega))
  have FL := Lib.hid (fun W (h : Below w.heap.size w W) => (show Calls Tryd.prog 32 #[vV y] W (RVal W (.string ⟨(fmtR y).toArray⟩)) from format_c (HS.out.below h) y oy.2.1.1 oy.2.1.2 (by omega)))
  have FR := Lib.hid (fun W => (show Calls Tryd.prog 29 #[vV y] W (RVal W (.string ⟨(fmtR y).toArray⟩)) from rformat_c W y oy.2.1.1 oy.2.1.2 (by omega)))
  have OQ := mkV_ok oy
  obtain ⟨q, hq⟩ : ∃ q, mkV y = q := ⟨_, rfl⟩
  rw [hq] at MV OQ
  have GL := Lib.hid (fun W (h : Below w.heap.size w W) => (show Calls Tryd.prog 32 #[vV q] W (RVal W (.string ⟨(fmtR q).toArray⟩)) from format_c (HS.out.below h) q OQ.2.1.2.1.1 OQ.2.1.2.1.2 (by have := OQ.2.2; omega)))
  have GR := Lib.hid (fun W => (show Calls Tryd.prog 29 #[vV q] W (RVal W (.string ⟨(fmtR q).toArray⟩)) from rformat_c W q OQ.2.1.2.1.1 OQ.2.1.2.1.2 (by have := OQ.2.2; omega)))
  have hlen := txt_len (show IsTxt (fmtR q) q from ⟨OQ.1, by unfold fmtR; rw [if_pos ((vldB_iff q).2 OQ.1.1)]⟩)
  have PC := Lib.hid (fun W (h : Below w.heap.size w W) => parse_c (HS.out.below h) s (by omega))
  have PR := Lib.hid (fun W => rparse_c W s (by omega))
  generalize fmtR y = fy at FL FR
  generalize fmtR q = ts at GL GR hlen
  clear OQ hq
  obtain ⟨hz0, hz1⟩ := wf_byte wb
  obtain ⟨x, rfl⟩ := Int.eq_ofNat_of_zero_le hz0
  obtain ⟨l0, hl0⟩ : ∃ q, ts.length = q := ⟨_, rfl⟩
  rw [hl0] at hlen
  have HL0 := Lib.hid hl0
  have HL1 := Lib.hid hlen
  obtain ⟨m, hm, hml⟩ := wrap_nat at'
  obtain ⟨k, hk, hkl⟩ := rem_nat (m := m) (n := l0) hlen.1
  have hb := (ts.getD k 0).toNat_lt
  have hx := u8_xor_nat (ts.getD k 0).toNat x hb (by omega)
  have hX := Nat.xor_lt_two_pow (n := 8) hb (show x < 2 ^ 8 by omega)
  have HX := Lib.hid (oct_toNat hX)
  obtain ⟨c, ec⟩ : ∃ q, (ts.getD k 0).toNat = q := ⟨_, rfl⟩
  rw [ec] at hx HX
  obtain ⟨X, eX⟩ : ∃ X, c ^^^ x = X := ⟨_, rfl⟩
  rw [eX] at hx HX
  have EC := Lib.hid ec
  have HKL := Lib.hid hkl
  have hki : (k : Int) < l0 := by omega
  have hl0i : (0 : Int) < l0 := by omega
  have hl0n : ¬ (l0 : Int) = 0 := by omega
  have hl0w : (l0 : Int) ≤ 1100 := by omega
  have hl0z : ¬ (l0 : Int) < 1 := by omega
  have hl0g : (l0 : Int) > 0 := by omega
  clear hS oy z wa wb hy hs hl0 hlen hml hkl hb hX ec eX hz0 hz1
  go_enter Tryd.func5, Tryd.ntmps5
  go_wp2_with (first | ((with_reducible refine wp_boxV 4 rfl rfl 0 rfl y ?hx ?_); (case hx => rfl); intro w1 hv hb; have V4 := Lib.hid hv; have B4 := Lib.hid hb; clear hv hb; have c2 : w1.cell? ⟨w.heap.size, 2, none⟩ = some (.string ⟨y.2.2.toArray⟩) := V4.out.cells.2.2) | ((with_reducible refine wp_loadV rfl 4 rfl w.heap.size (0) y ?hx V4.out.range ?_); (case hx => rfl); clear c2))
  refine (MV.out _).mono ?_
  rintro e w2 ⟨rfl, hB⟩
  have V4 := Lib.hid (V4.out.below hB)
  have BW := Lib.hid (below_then B4.out hB)
  clear hB B4
  go_wp2_with fail
  refine (GR.out _).mono ?_
  rintro e w3 ⟨rfl, hB⟩
  have V4 := Lib.hid (V4.out.below hB)
  have BW := Lib.hid (below_then BW.out hB)
  clear hB
  go_wp2_with (first | ((with_reducible refine wp_bytesB rfl (.tmp 29) rfl ts ?hx ?hl ?_); (case hx => rfl); (case hl => (have := HL0.out; have := HL1.out; unfold maxLen; omega)); intro w4 cB hb hz hB; (have hkt : k < ts.length := by have := HL0.out; have := HKL.out; omega); (have hcell : w4.cell? ⟨w3.heap.size, k, none⟩ = some (.int .u8 (c : Int)) := by (obtain ⟨b, off, e, _, hc⟩ := hb.cells (by omega); have h5 := hc k hkt; cases e; rw [Nat.zero_add, EC.out] at h5; exact h5)); have hfz := hz k hkt; rw [HL0.out] at hb ⊢; have XB := Lib.hid hb; have N4 := Lib.hid V4.out.lt; have N3 := Lib.hid BW.out.size; have V4 := Lib.hid (V4.out.below hB); have BW := Lib.hid (below_then BW.out hB); clear hb hz hB hkt))
  have hkt : k < ts.length := by have := HL0.out; have := HKL.out; omega
  have CB := Lib.hid (XB.out.put hkt (u := oct X) (X := (X : Int)) (by rw [HX.out]))
  have V4 := Lib.hid (V4.out.far (g' := w3.heap.size) (i := k) (by have := N4.out; omega) (.int .u8 (X : Int)))
  have BW := Lib.hid (BW.out.setCell (p := ⟨w3.heap.size, k, none⟩) N3.out (.int .u8 (X : Int)))
  have HL3 : Hid ((ts.set k (oct X)).length ≤ 1000000) := Lib.hid (by rw [List.length_set]; have := HL0.out; have := HL1.out; omega)
  generalize w4.setCell ⟨w3.heap.size, k, none⟩ (.int .u8 (X : Int)) = w5 at CB V4 BW ⊢
  generalize ts.set k (oct X) = cs at CB HL3
  clear hkt XB N4 N3 hcell hfz hx hk hm hki hl0i hl0n hl0w hl0z hl0g EC
  have QC := Lib.hid (fun W (h : Below w.heap.size w W) => parse_c (HS.out.below h) cs HL3.out)
  have QR := Lib.hid (fun W => rparse_c W cs HL3.out)
  refine (PC.out _ BW.out).mono ?_
  rintro e w6 ⟨hB, hR⟩
  have V4 := Lib.hid (V4.out.below hB)
  have CB := Lib.hid (CB.out.below hB)
  have BW := Lib.hid (below_then BW.out hB)
  clear hB
  rcases hR with ⟨v1, hv1, rfl⟩ | ⟨hno, rfl⟩
  · skip
    have H1 := Lib.hid hv1
    clear hv1
    go_wp2_with (first | ((with_reducible refine wp_allocV 10 rfl rfl rfl ?_); intro w7a hv hb; have V10 := Lib.hid hv; have B10 := Lib.hid hb; clear hv hb) | ((with_reducible refine wp_storeV rfl 10 50 rfl w6.heap.size v1 (0, 0, []) ?hx ?hy V10.out ?_); (case hx => rfl); (case hy => rfl); intro w7 hv hb; have V10 := Lib.hid hv; have G10 := Lib.hid hb; clear hv hb; have BS := Lib.hid (below_store (B := w6.heap.size) B10.out G10.out (Nat.le_refl _) B10.out.size); have V4 := Lib.hid (V4.out.below BS.out); have CB := Lib.hid (CB.out.below BS.out); have BW := Lib.hid (below_then BW.out BS.out); clear BS B10 G10))
    refine (PR.out _).mono ?_
    rintro e w8 ⟨hB, hR⟩
    have V4 := Lib.hid (V4.out.below hB)
    have CB := Lib.hid (CB.out.below hB)
    have V10 := Lib.hid (V10.out.below hB)
    have BW := Lib.hid (below_then BW.out hB)
    clear hB
    rcases hR with ⟨v2, hv2, rfl⟩ | ⟨hno, rfl⟩
    case inr => exact absurd H1.out (hno v1)
    obtain rfl : v2 = v1 := isTxt_uniq hv2 H1.out
    clear hv2 H1
    go_wp2_with (first | ((with_reducible refine wp_allocV 12 rfl rfl rfl ?_); intro w9a hv hb; have V12 := Lib.hid hv; have B12 := Lib.hid hb; clear hv hb) | ((with_reducible refine wp_storeV rfl 12 55 rfl w8.heap.size v2 (0, 0, []) ?hx ?hy V12.out ?_); (case hx => rfl); (case hy => rfl); intro w9 hv hb; have V12 := Lib.hid hv; have G12 := Lib.hid hb; clear hv hb; have BS := Lib.hid (below_store (B := w8.heap.size) B12.out G12.out (Nat.le_refl _) B12.out.size); have V4 := Lib.hid (V4.out.below BS.out); have CB := Lib.hid (CB.out.below BS.out); have V10 := Lib.hid (V10.out.below BS.out); have BW := Lib.hid (below_then BW.out BS.out); clear BS B12 G12) | ((with_reducible refine wp_stringB rfl (.tmp 58) rfl ?u cs ?hx ?ht ?_); (case u => exact .slice (some ⟨w3.heap.size, 0, none⟩) l0 cB); (case hx => rfl); (case ht => exact CB.out)))
    refine (QC.out _ BW.out).mono ?_
    rintro e w10 ⟨hB, hR⟩
    have V4 := Lib.hid (V4.out.below hB)
    have CB := Lib.hid (CB.out.below hB)
    have V10 := Lib.hid (V10.out.below hB)
    have V12 := Lib.hid (V12.out.below hB)
    have BW := Lib.hid (below_then BW.out hB)
    clear hB
    rcases hR with ⟨v3, hv3, rfl⟩ | ⟨hno, rfl⟩
    · skip
      have H3 := Lib.hid hv3
      clear hv3
      go_wp2_with (first | ((with_reducible refine wp_allocV 14 rfl rfl rfl ?_); intro w11a hv hb; have V14 := Lib.hid hv; have B14 := Lib.hid hb; clear hv hb) | ((with_reducible refine wp_storeV rfl 14 61 rfl w10.heap.size v3 (0, 0, []) ?hx ?hy V14.out ?_); (case hx => rfl); (case hy => rfl); intro w11 hv hb; have V14 := Lib.hid hv; have G14 := Lib.hid hb; clear hv hb; have BS := Lib.hid (below_store (B := w10.heap.size) B14.out G14.out (Nat.le_refl _) B14.out.size); have V4 := Lib.hid (V4.out.below BS.out); have CB := Lib.hid (CB.out.below BS.out); have V10 := Lib.hid (V10.out.below BS.out); have V12 := Lib.hid (V12.out.below BS.out); have BW := Lib.hid (below_then BW.out BS.out); clear BS B14 G14) | ((with_reducible refine wp_stringB rfl (.tmp 64) rfl ?u cs ?hx ?ht ?_); (case u => exact .slice (some ⟨w3.heap.size, 0, none⟩) l0 cB); (case hx => rfl); (case ht => exact CB.out)))
      refine (QR.out _).mono ?_
      rintro e w12 ⟨hB, hR⟩
      have V4 := Lib.hid (V4.out.below hB)
      have V10 := Lib.hid (V10.out.below hB)
      have V12 := Lib.hid (V12.out.below hB)
      have V14 := Lib.hid (V14.out.below hB)
      have BW := Lib.hid (below_then BW.out hB)
      clear hB CB
      rcases hR with ⟨v4, hv4, rfl⟩ | ⟨hno, rfl⟩
      case inr => exact absurd H3.out (hno v3)
      obtain rfl : v4 = v3 := isTxt_uniq hv4 H3.out
      clear hv4 H3
      go_upto_region 10 with (first | ((with_reducible refine wp_allocV 16 rfl rfl rfl ?_); intro w13a hv hb; have V16 := Lib.hid hv; have B16 := Lib.hid hb; clear hv hb) | ((with_reducible refine wp_storeV rfl 16 67 rfl w12.heap.size v4 (0, 0, []) ?hx ?hy V16.out ?_); (case hx => rfl); (case hy => rfl); intro w13 hv hb; have V16 := Lib.hid hv; have G16 := Lib.hid hb; clear hv hb; have BS := Lib.hid (below_store (B := w12.heap.size) B16.out G16.out (Nat.le_refl _) B16.out.size); have V4 := Lib.hid (V4.out.below BS.out); have V10 := Lib.hid (V10.out.below BS.out); have V12 := Lib.hid (V12.out.below BS.out); have V14 := Lib.hid (V14.out.below BS.out); have BW := Lib.hid (below_then BW.out BS.out); clear BS B16 G16))
      skip
      have V4 : Hid (VarV w13.drew w.heap.size y) := Lib.hid V4.out
      have V10 : Hid (VarV w13.drew w6.heap.size v2) := Lib.hid V10.out
      have V12 : Hid (VarV w13.drew w8.heap.size v2) := Lib.hid V12.out
      have V14 : Hid (VarV w13.drew w10.heap.size v4) := Lib.hid V14.out
      have V16 : Hid (VarV w13.drew w12.heap.size v4) := Lib.hid V16.out
      have BW : Hid (Below w.heap.size w w13.drew) := Lib.hid BW.out.drew
      refine wp_region_plan (S := fun W => Below w13.drew.heap.size w13.drew W) [(0, true), (2, true), (1, false), (3, false), (4, true), (5, true), (6, true), (9, true), (7, false), (8, false), (10, false), (11, false), (12, true), (13, true), (14, true), (15, true), (16, true), (17, true), (18, true), (19, true), (20, true), (21, true), (22, true), (23, true), (24, true), (25, true), (26, true), (27, true), (28, true), (29, true), (30, true), (31, true), (32, true), (33, true), (34, true), (35, true), (36, true), (37, true), (38, true), (39, true), (40, true), (41, true), (42, true), (43, true), (44, true), (45, true), (46, true), (47, true), (48, true), (49, true), (50, true), (51, false), (52, true), (53, true)] (by kernel_rfl) (by kernel_rfl) (by kernel_rfl) (by kernel_rfl) (fun _ _ d _ _ h => by cases d <;> exact h) (Below.refl _ _) ?_
      generalize w13.drew = wd at *
      refine wkS_take (some 69) (vV y) (by kernel_rfl) (by kernel_rfl) (by kernel_rfl) (fun W hS => exec_loadV 4 (V4.out.below hS).range (by kernel_rfl) (by kernel_rfl)) ?_
      simp only [put_lit, put_non, List.set_cons_zero, List.set_cons_succ]
      refine wkS_take (some 71) (vV y) (by kernel_rfl) (by kernel_rfl) (by kernel_rfl) (fun W hS => exec_loadV 4 (V4.out.below hS).range (by kernel_rfl) (by kernel_rfl)) ?_
      simp only [put_lit, put_non, List.set_cons_zero, List.set_cons_succ]
      refine wkS_call (some 70) 32 #[vV y] (by kernel_rfl) (by kernel_rfl) (by kernel_rfl) (fun w => (by kernel_rfl)) ?_
      refine (FL.out _ (below_then BW.out (Below.refl wd.heap.size wd))).mono ?_
      rintro e z1 ⟨rfl, hB⟩
      have Z1 := Lib.hid (below_then (Below.refl wd.heap.size wd) hB)
      clear hB
      refine ⟨_, rfl, Z1.out, ?_⟩
      simp only [put_lit, put_non, List.set_cons_zero, List.set_cons_succ]
      refine wkS_call (some 72) 29 #[vV y] (by kernel_rfl) (by kernel_rfl) (by kernel_rfl) (fun w => (by kernel_rfl)) ?_
      refine (FR.out _).mono ?_
      rintro e z2 ⟨rfl, hB⟩
      have Z2 := Lib.hid (below_then Z1.out hB)
      clear hB
      refine ⟨_, rfl, Z2.out, ?_⟩
      simp only [put_lit, put_non, List.set_cons_zero, List.set_cons_succ]
      refine wkS_take (some 73) (.bool true) (by kernel_rfl) (by kernel_rfl) (by kernel_rfl) (fun W hS => exec_eqStr 70 72 ⟨fy.toArray⟩ (by kernel_rfl) (by kernel_rfl) (by kernel_rfl)) ?_
      simp only [put_lit, put_non, List.set_cons_zero, List.set_cons_succ]
      refine wkS_take (some 74) (.bool true) (by kernel_rfl) (by kernel_rfl) (by kernel_rfl) (fun W hS => by kernel_rfl) ?_
      simp only [put_lit, put_non, List.set_cons_zero, List.set_cons_succ]
      refine wkS_take (some 75) (vV y) (by kernel_rfl) (by kernel_rfl) (by kernel_rfl) (fun W hS => exec_loadV 4 (V4.out.below hS).range (by kernel_rfl) (by kernel_rfl)) ?_
      simp only [put_lit, put_non, List.set_cons_zero, List.set_cons_succ]
      refine wkS_take (some 78) (vV y) (by kernel_rfl) (by kernel_rfl) (by kernel_rfl) (fun W hS => exec_loadV 4 (V4.out.below hS).range (by kernel_rfl) (by kernel_rfl)) ?_
      simp only [put_lit, put_non, List.set_cons_zero, List.set_cons_succ]
      refine wkS_call (some 76) 13 #[vV y] (by kernel_rfl) (by kernel_rfl) (by kernel_rfl) (fun w => (by kernel_rfl)) ?_
      refine (MV.out _).mono ?_
      rintro e z3 ⟨rfl, hB⟩
      have Z3 := Lib.hid (below_then Z2.out hB)
      clear hB
      refine ⟨_, rfl, Z3.out, ?_⟩
      simp only [put_lit, put_non, List.set_cons_zero, List.set_cons_succ]
      refine wkS_call (some 77) 32 #[vV q] (by kernel_rfl) (by kernel_rfl) (by kernel_rfl) (fun w => (by kernel_rfl)) ?_
      refine (GL.out _ (below_then BW.out Z3.out)).mono ?_
      rintro e z4 ⟨rfl, hB⟩
      have Z4 := Lib.hid (below_then Z3.out hB)
      clear hB
      refine ⟨_, rfl, Z4.out, ?_⟩
      simp only [put_lit, put_non, List.set_cons_zero, List.set_cons_succ]
      refine wkS_call (some 79) 13 #[vV y] (by kernel_rfl) (by kernel_rfl) (by kernel_rfl) (fun w => (by kernel_rfl)) ?_
      refine (MV.out _).mono ?_
      rintro e z5 ⟨rfl, hB⟩
      have Z5 := Lib.hid (below_then Z4.out hB)
      clear hB
      refine ⟨_, rfl, Z5.out, ?_⟩
      simp only [put_lit, put_non, List.set_cons_zero, List.set_cons_succ]
      refine wkS_call (some 80) 29 #[vV q] (by kernel_rfl) (by kernel_rfl) (by kernel_rfl) (fun w => (by kernel_rfl)) ?_
      refine (GR.out _).mono ?_
      rintro e z6 ⟨rfl, hB⟩
      have Z6 := Lib.hid (below_then Z5.out hB)
      clear hB
      refine ⟨_, rfl, Z6.out, ?_⟩
      simp only [put_lit, put_non, List.set_cons_zero, List.set_cons_succ]
      refine wkS_take (some 81) (.bool true) (by kernel_rfl) (by kernel_rfl) (by kernel_rfl) (fun W hS => exec_eqStr 77 80 ⟨ts.toArray⟩ (by kernel_rfl) (by kernel_rfl) (by kernel_rfl)) ?_
      simp only [put_lit, put_non, List.set_cons_zero, List.set_cons_succ]
      refine wkS_take (some 82) (.bool true) (by kernel_rfl) (by kernel_rfl) (by kernel_rfl) (fun W hS => by kernel_rfl) ?_
      simp only [put_lit, put_non, List.set_cons_zero, List.set_cons_succ]
      refine wkS_take (some 83) (.bool true) (by kernel_rfl) (by kernel_rfl) (by kernel_rfl) (fun W hS => by kernel_rfl) ?_
      simp only [put_lit, put_non, List.set_cons_zero, List.set_cons_succ]
      refine wkS_take (some 84) (vV v2) (by kernel_rfl) (by kernel_rfl) (by kernel_rfl) (fun W hS => exec_loadV 10 (V10.out.below hS).range (by kernel_rfl) (by kernel_rfl)) ?_
      simp only [put_lit, put_non, List.set_cons_zero, List.set_cons_succ]
      refine wkS_take (some 85) (vV v2) (by kernel_rfl) (by kernel_rfl) (by kernel_rfl) (fun W hS => exec_loadV 12 (V12.out.below hS).range (by kernel_rfl) (by kernel_rfl)) ?_
      simp only [put_lit, put_non, List.set_cons_zero, List.set_cons_succ]
      refine wkS_take (some 86) (.bool true) (by kernel_rfl) (by kernel_rfl) (by kernel_rfl) (fun W hS => (exec_eqV (a := v2) (b := v2) 84 85 (by kernel_rfl) (by kernel_rfl) (by kernel_rfl)).trans (by rw [decide_eq_true rfl])) ?_
      simp only [put_lit, put_non, List.set_cons_zero, List.set_cons_succ]
      refine wkS_take (some 87) (.bool true) (by kernel_rfl) (by kernel_rfl) (by kernel_rfl) (fun W hS => by kernel_rfl) ?_
      simp only [put_lit, put_non, List.set_cons_zero, List.set_cons_succ]
      refine wkS_take (some 88) (.bool true) (by kernel_rfl) (by kernel_rfl) (by kernel_rfl) (fun W hS => by kernel_rfl) ?_
      simp only [put_lit, put_non, List.set_cons_zero, List.set_cons_succ]
      refine wkS_take (some 89) (.int .i64 0) (by kernel_rfl) (by kernel_rfl) (by kernel_rfl) (fun W hS => by kernel_rfl) ?_
      simp only [put_lit, put_non, List.set_cons_zero, List.set_cons_succ]
      refine wkS_take (some 90) (.bool true) (by kernel_rfl) (by kernel_rfl) (by kernel_rfl) (fun W hS => by kernel_rfl) ?_
      simp only [put_lit, put_non, List.set_cons_zero, List.set_cons_succ]
      refine wkS_take (some 91) (.bool true) (by kernel_rfl) (by kernel_rfl) (by kernel_rfl) (fun W hS => by kernel_rfl) ?_
      simp only [put_lit, put_non, List.set_cons_zero, List.set_cons_succ]
      refine wkS_take (some 92) (.bool true) (by kernel_rfl) (by kernel_rfl) (by kernel_rfl) (fun W hS => by kernel_rfl) ?_
      simp only [put_lit, put_non, List.set_cons_zero, List.set_cons_succ]
      refine wkS_take (some 93) (.bool true) (by kernel_rfl) (by kernel_rfl) (by kernel_rfl) (fun W hS => by kernel_rfl) ?_
      simp only [put_lit, put_non, List.set_cons_zero, List.set_cons_succ]
      refine wkS_take (some 94) (.bool true) (by kernel_rfl) (by kernel_rfl) (by kernel_rfl) (fun W hS => by kernel_rfl) ?_
      simp only [put_lit, put_non, List.set_cons_zero, List.set_cons_succ]
      refine wkS_take (some 95) (.bool true) (by kernel_rfl) (by kernel_rfl) (by kernel_rfl) (fun W hS => by kernel_rfl) ?_
      simp only [put_lit, put_non, List.set_cons_zero, List.set_cons_succ]
      refine wkS_take (some 96) (.bool true) (by kernel_rfl) (by kernel_rfl) (by kernel_rfl) (fun W hS => by kernel_rfl) ?_
      simp only [put_lit, put_non, List.set_cons_zero, List.set_cons_succ]
      refine wkS_skip (some 97) (by kernel_rfl) (by kernel_rfl) (by kernel_rfl) ?_
      simp only [put_lit, put_non, List.set_cons_zero, List.set_cons_succ]
      refine wkS_skip (some 98) (by kernel_rfl) (by kernel_rfl) (by kernel_rfl) ?_
      simp only [put_lit, put_non, List.set_cons_zero, List.set_cons_succ]
      refine wkS_take (some 99) (.bool true) (by kernel_rfl) (by kernel_rfl) (by kernel_rfl) (fun W hS => by kernel_rfl) ?_
      simp only [put_lit, put_non, List.set_cons_zero, List.set_cons_succ]
      refine wkS_take (some 100) (.bool true) (by kernel_rfl) (by kernel_rfl) (by kernel_rfl) (fun W hS => by kernel_rfl) ?_
      simp only [put_lit, put_non, List.set_cons_zero, List.set_cons_succ]
      refine wkS_take (some 101) (.bool true) (by kernel_rfl) (by kernel_rfl) (by kernel_rfl) (fun W hS => by kernel_rfl) ?_
      simp only [put_lit, put_non, List.set_cons_zero, List.set_cons_succ]
      refine wkS_take (some 102) (vV v4) (by kernel_rfl) (by kernel_rfl) (by kernel_rfl) (fun W hS => exec_loadV 14 (V14.out.below hS).range (by kernel_rfl) (by kernel_rfl)) ?_
      simp only [put_lit, put_non, List.set_cons_zero, List.set_cons_succ]
      refine wkS_take (some 103) (vV v4) (by kernel_rfl) (by kernel_rfl) (by kernel_rfl) (fun W hS => exec_loadV 16 (V16.out.below hS).range (by kernel_rfl) (by kernel_rfl)) ?_
      simp only [put_lit, put_non, List.set_cons_zero, List.set_cons_succ]
      refine wkS_take (some 104) (.bool true) (by kernel_rfl) (by kernel_rfl) (by kernel_rfl) (fun W hS => (exec_eqV (a := v4) (b := v4) 102 103 (by kernel_rfl) (by kernel_rfl) (by kernel_rfl)).trans (by rw [decide_eq_true rfl])) ?_
      simp only [put_lit, put_non, List.set_cons_zero, List.set_cons_succ]
      refine wkS_take (some 105) (.bool true) (by kernel_rfl) (by kernel_rfl) (by kernel_rfl) (fun W hS => by kernel_rfl) ?_
      simp only [put_lit, put_non, List.set_cons_zero, List.set_cons_succ]
      refine wkS_take (some 106) (.bool true) (by kernel_rfl) (by kernel_rfl) (by kernel_rfl) (fun W hS => by kernel_rfl) ?_
      simp only [put_lit, put_non, List.set_cons_zero, List.set_cons_succ]
      refine wkS_take (some 107) (.int .i64 0) (by kernel_rfl) (by kernel_rfl) (by kernel_rfl) (fun W hS => by kernel_rfl) ?_
      simp only [put_lit, put_non, List.set_cons_zero, List.set_cons_succ]
      refine wkS_take (some 108) (.bool true) (by kernel_rfl) (by kernel_rfl) (by kernel_rfl) (fun W hS => by kernel_rfl) ?_
      simp only [put_lit, put_non, List.set_cons_zero, List.set_cons_succ]
      refine wkS_take (some 109) (.bool true) (by kernel_rfl) (by kernel_rfl) (by kernel_rfl) (fun W hS => by kernel_rfl) ?_
      simp only [put_lit, put_non, List.set_cons_zero, List.set_cons_succ]
      refine wkS_take (some 110) (.bool true) (by kernel_rfl) (by kernel_rfl) (by kernel_rfl) (fun W hS => by kernel_rfl) ?_
      simp only [put_lit, put_non, List.set_cons_zero, List.set_cons_succ]
      refine wkS_take (some 111) (.bool true) (by kernel_rfl) (by kernel_rfl) (by kernel_rfl) (fun W hS => by kernel_rfl) ?_
      simp only [put_lit, put_non, List.set_cons_zero, List.set_cons_succ]
      refine wkS_take (some 112) (.bool true) (by kernel_rfl) (by kernel_rfl) (by kernel_rfl) (fun W hS => by kernel_rfl) ?_
      simp only [put_lit, put_non, List.set_cons_zero, List.set_cons_succ]
      refine wkS_take (some 113) (.bool true) (by kernel_rfl) (by kernel_rfl) (by kernel_rfl) (fun W hS => by kernel_rfl) ?_
      simp only [put_lit, put_non, List.set_cons_zero, List.set_cons_succ]
      refine wkS_take (some 114) (.bool true) (by kernel_rfl) (by kernel_rfl) (by kernel_rfl) (fun W hS => by kernel_rfl) ?_
      simp only [put_lit, put_non, List.set_cons_zero, List.set_cons_succ]
      refine wkS_skip (some 115) (by kernel_rfl) (by kernel_rfl) (by kernel_rfl) ?_
      simp only [put_lit, put_non, List.set_cons_zero, List.set_cons_succ]
      refine wkS_skip (some 116) (by kernel_rfl) (by kernel_rfl) (by kernel_rfl) ?_
      simp only [put_lit, put_non, List.set_cons_zero, List.set_cons_succ]
      refine wkS_take (some 117) (.bool true) (by kernel_rfl) (by kernel_rfl) (by kernel_rfl) (fun W hS => by kernel_rfl) ?_
      simp only [put_lit, put_non, List.set_cons_zero, List.set_cons_succ]
      refine wkS_take (some 118) (.bool true) (by kernel_rfl) (by kernel_rfl) (by kernel_rfl) (fun W hS => by kernel_rfl) ?_
      simp only [put_lit, put_non, List.set_cons_zero, List.set_cons_succ]
      refine wkS_take (some 119) (.bool true) (by kernel_rfl) (by kernel_rfl) (by kernel_rfl) (fun W hS => by kernel_rfl) ?_
      simp only [put_lit, put_non, List.set_cons_zero, List.set_cons_succ]
      refine wkS_call (some 120) 25 #[] (by kernel_rfl) (by kernel_rfl) (by kernel_rfl) (fun w => (by kernel_rfl)) ?_
      refine (known8_c (HS.out.below (below_then BW.out Z6.out))).mono ?_
      rintro e z7 ⟨rfl, hB⟩
      have Z7 := Lib.hid (below_then Z6.out hB)
      clear hB
      refine ⟨_, rfl, Z7.out, ?_⟩
      simp only [put_lit, put_non, List.set_cons_zero, List.set_cons_succ]
      refine wkS_take (some 121) (.bool true) (by kernel_rfl) (by kernel_rfl) (by kernel_rfl) (fun W hS => by kernel_rfl) ?_
      simp only [put_lit, put_non, List.set_cons_zero, List.set_cons_succ]
      refine wkS_take (some 8) (.bool true) (by kernel_rfl) (by kernel_rfl) (by kernel_rfl) (fun W hS => by kernel_rfl) ?_
      simp only [put_lit, put_non, List.set_cons_zero, List.set_cons_succ]
      refine wkS_done ?_
      go_wp2_with fail
      go_ret
      exact ⟨rfl, below_then BW.out Z7.out⟩
    · skip
      have H3 := Lib.hid hno
      clear hno
      go_wp2_with (first | ((with_reducible refine wp_allocV 14 rfl rfl rfl ?_); intro w11a hv hb; have V14 := Lib.hid hv; have B14 := Lib.hid hb; clear hv hb) | ((with_reducible refine wp_storeV rfl 14 61 rfl w10.heap.size (0, 0, []) (0, 0, []) ?hx ?hy V14.out ?_); (case hx => rfl); (case hy => rfl); intro w11 hv hb; have V14 := Lib.hid hv; have G14 := Lib.hid hb; clear hv hb; have BS := Lib.hid (below_store (B := w10.heap.size) B14.out G14.out (Nat.le_refl _) B14.out.size); have V4 := Lib.hid (V4.out.below BS.out); have CB := Lib.hid (CB.out.below BS.out); have V10 := Lib.hid (V10.out.below BS.out); have V12 := Lib.hid (V12.out.below BS.out); have BW := Lib.hid (below_then BW.out BS.out); clear BS B14 G14) | ((with_reducible refine wp_stringB rfl (.tmp 64) rfl ?u cs ?hx ?ht ?_); (case u => exact .slice (some ⟨w3.heap.size, 0, none⟩) l0 cB); (case hx => rfl); (case ht => exact CB.out)))
      refine (QR.out _).mono ?_
      rintro e w12 ⟨hB, hR⟩
      have V4 := Lib.hid (V4.out.below hB)
      have V10 := Lib.hid (V10.out.below hB)
      have V12 := Lib.hid (V12.out.below hB)
      have V14 := Lib.hid (V14.out.below hB)
      have BW := Lib.hid (below_then BW.out hB)
      clear hB CB
      rcases hR with ⟨v4, hv4, rfl⟩ | ⟨hno, rfl⟩
      case inl => exact absurd hv4 (H3.out v4)
      clear hno H3
      go_upto_region 10 with (first | ((with_reducible refine wp_allocV 16 rfl rfl rfl ?_); intro w13a hv hb; have V16 := Lib.hid hv; have B16 := Lib.hid hb; clear hv hb) | ((with_reducible refine wp_storeV rfl 16 67 rfl w12.heap.size (0, 0, []) (0, 0, []) ?hx ?hy V16.out ?_); (case hx => rfl); (case hy => rfl); intro w13 hv hb; have V16 := Lib.hid hv; have G16 := Lib.hid hb; clear hv hb; have BS := Lib.hid (below_store (B := w12.heap.size) B16.out G16.out (Nat.le_refl _) B16.out.size); have V4 := Lib.hid (V4.out.below BS.out); have V10 := Lib.hid (V10.out.below BS.out); have V12 := Lib.hid (V12.out.below BS.out); have V14 := Lib.hid (V14.out.below BS.out); have BW := Lib.hid (below_then BW.out BS.out); clear BS B16 G16))
      skip
      have V4 : Hid (VarV w13.drew w.heap.size y) := Lib.hid V4.out
      have V10 : Hid (VarV w13.drew w6.heap.size v2) := Lib.hid V10.out
      have V12 : Hid (VarV w13.drew w8.heap.size v2) := Lib.hid V12.out
      have V14 : Hid (VarV w13.drew w10.heap.size (0, 0, [])) := Lib.hid V14.out
      have V16 : Hid (VarV w13.drew w12.heap.size (0, 0, [])) := Lib.hid V16.out
      have BW : Hid (Below w.heap.size w w13.drew) := Lib.hid BW.out.drew
      refine wp_region_plan (S := fun W => Below w13.drew.heap.size w13.drew W) [(0, true), (2, true), (1, false), (3, false), (4, true), (5, true), (6, true), (9, true), (7, false), (8, false), (10, false), (11, false), (12, true), (13, true), (14, true), (15, true), (16, true), (17, true), (18, true), (19, true), (20, true), (21, true), (22, true), (23, true), (24, true), (25, true), (26, true), (27, true), (28, true), (29, true), (30, true), (31, true), (32, true), (33, true), (34, true), (35, true), (36, true), (37, true), (38, true), (39, true), (40, true), (41, true), (42, true), (43, true), (44, true), (45, true), (46, true), (47, true), (48, true), (49, true), (50, true), (51, false), (52, true), (53, true)] (by kernel_rfl) (by kernel_rfl) (by kernel_rfl) (by kernel_rfl) (fun _ _ d _ _ h => by cases d <;> exact h) (Below.refl _ _) ?_
      generalize w13.drew = wd at *
      refine wkS_take (some 69) (vV y) (by kernel_rfl) (by kernel_rfl) (by kernel_rfl) (fun W hS => exec_loadV 4 (V4.out.below hS).range (by kernel_rfl) (by kernel_rfl)) ?_
      simp only [put_lit, put_non, List.set_cons_zero, List.set_cons_succ]
      refine wkS_take (some 71) (vV y) (by kernel_rfl) (by kernel_rfl) (by kernel_rfl) (fun W hS => exec_loadV 4 (V4.out.below hS).range (by kernel_rfl) (by kernel_rfl)) ?_
      simp only [put_lit, put_non, List.set_cons_zero, List.set_cons_succ]
      refine wkS_call (some 70) 32 #[vV y] (by kernel_rfl) (by kernel_rfl) (by kernel_rfl) (fun w => (by kernel_rfl)) ?_
      refine (FL.out _ (below_then BW.out (Below.refl wd.heap.size wd))).mono ?_
      rintro e z1 ⟨rfl, hB⟩
      have Z1 := Lib.hid (below_then (Below.refl wd.heap.size wd) hB)
      clear hB
      refine ⟨_, rfl, Z1.out, ?_⟩
      simp only [put_lit, put_non, List.set_cons_zero, List.set_cons_succ]
      refine wkS_call (some 72) 29 #[vV y] (by kernel_rfl) (by kernel_rfl) (by kernel_rfl) (fun w => (by kernel_rfl)) ?_
      refine (FR.out _).mono ?_
      rintro e z2 ⟨rfl, hB⟩
      have Z2 := Lib.hid (below_then Z1.out hB)
      clear hB
      refine ⟨_, rfl, Z2.out, ?_⟩
      simp only [put_lit, put_non, List.set_cons_zero, List.set_cons_succ]
      refine wkS_take (some 73) (.bool true) (by kernel_rfl) (by kernel_rfl) (by kernel_rfl) (fun W hS => exec_eqStr 70 72 ⟨fy.toArray⟩ (by kernel_rfl) (by kernel_rfl) (by kernel_rfl)) ?_
      simp only [put_lit, put_non, List.set_cons_zero, List.set_cons_succ]
      refine wkS_take (some 74) (.bool true) (by kernel_rfl) (by kernel_rfl) (by kernel_rfl) (fun W hS => by kernel_rfl) ?_
      simp only [put_lit, put_non, List.set_cons_zero, List.set_cons_succ]
      refine wkS_take (some 75) (vV y) (by kernel_rfl) (by kernel_rfl) (by kernel_rfl) (fun W hS => exec_loadV 4 (V4.out.below hS).range (by kernel_rfl) (by kernel_rfl)) ?_
      simp only [put_lit, put_non, List.set_cons_zero, List.set_cons_succ]
      refine wkS_take (some 78) (vV y) (by kernel_rfl) (by kernel_rfl) (by kernel_rfl) (fun W hS => exec_loadV 4 (V4.out.below hS).range (by kernel_rfl) (by kernel_rfl)) ?_
      simp only [put_lit, put_non, List.set_cons_zero, List.set_cons_succ]
      refine wkS_call (some 76) 13 #[vV y] (by kernel_rfl) (by kernel_rfl) (by kernel_rfl) (fun w => (by kernel_rfl)) ?_
      refine (MV.out _).mono ?_
      rintro e z3 ⟨rfl, hB⟩
      have Z3 := Lib.hid (below_then Z2.out hB)
      clear hB
      refine ⟨_, rfl, Z3.out, ?_⟩
      simp only [put_lit, put_non, List.set_cons_zero, List.set_cons_succ]
      refine wkS_call (some 77) 32 #[vV q] (by kernel_rfl) (by kernel_rfl) (by kernel_rfl) (fun w => (by kernel_rfl)) ?_
      refine (GL.out _ (below_then BW.out Z3.out)).mono ?_
      rintro e z4 ⟨rfl, hB⟩
      have Z4 := Lib.hid (below_then Z3.out hB)
      clear hB
      refine ⟨_, rfl, Z4.out, ?_⟩
      simp only [put_lit, put_non, List.set_cons_zero, List.set_cons_succ]
      refine wkS_call (some 79) 13 #[vV y] (by kernel_rfl) (by kernel_rfl) (by kernel_rfl) (fun w => (by kernel_rfl)) ?_
      refine (MV.out _).mono ?_
      rintro e z5 ⟨rfl, hB⟩
      have Z5 := Lib.hid (below_then Z4.out hB)
      clear hB
      refine ⟨_, rfl, Z5.out, ?_⟩
      simp only [put_lit, put_non, List.set_cons_zero, List.set_cons_succ]
      refine wkS_call (some 80) 29 #[vV q] (by kernel_rfl) (by kernel_rfl) (by kernel_rfl) (fun w => (by kernel_rfl)) ?_
      refine (GR.out _).mono ?_
      rintro e z6 ⟨rfl, hB⟩
      have Z6 := Lib.hid (below_then Z5.out hB)
      clear hB
      refine ⟨_, rfl, Z6.out, ?_⟩
      simp only [put_lit, put_non, List.set_cons_zero, List.set_cons_succ]
      refine wkS_take (some 81) (.bool true) (by kernel_rfl) (by kernel_rfl) (by kernel_rfl) (fun W hS => exec_eqStr 77 80 ⟨ts.toArray⟩ (by kernel_rfl) (by kernel_rfl) (by kernel_rfl)) ?_
      simp only [put_lit, put_non, List.set_cons_zero, List.set_cons_succ]
      refine wkS_take (some 82) (.bool true) (by kernel_rfl) (by kernel_rfl) (by kernel_rfl) (fun W hS => by kernel_rfl) ?_
      simp only [put_lit, put_non, List.set_cons_zero, List.set_cons_succ]
      refine wkS_take (some 83) (.bool true) (by kernel_rfl) (by kernel_rfl) (by kernel_rfl) (fun W hS => by kernel_rfl) ?_
      simp only [put_lit, put_non, List.set_cons_zero, List.set_cons_succ]
      refine wkS_take (some 84) (vV v2) (by kernel_rfl) (by kernel_rfl) (by kernel_rfl) (fun W hS => exec_loadV 10 (V10.out.below hS).range (by kernel_rfl) (by kernel_rfl)) ?_
      simp only [put_lit, put_non, List.set_cons_zero, List.set_cons_succ]
      refine wkS_take (some 85) (vV v2) (by kernel_rfl) (by kernel_rfl) (by kernel_rfl) (fun W hS => exec_loadV 12 (V12.out.below hS).range (by kernel_rfl) (by kernel_rfl)) ?_
      simp only [put_lit, put_non, List.set_cons_zero, List.set_cons_succ]
      refine wkS_take (some 86) (.bool true) (by kernel_rfl) (by kernel_rfl) (by kernel_rfl) (fun W hS => (exec_eqV (a := v2) (b := v2) 84 85 (by kernel_rfl) (by kernel_rfl) (by kernel_rfl)).trans (by rw [decide_eq_true rfl])) ?_
      simp only [put_lit, put_non, List.set_cons_zero, List.set_cons_succ]
      refine wkS_take (some 87) (.bool true) (by kernel_rfl) (by kernel_rfl) (by kernel_rfl) (fun W hS => by kernel_rfl) ?_
      simp only [put_lit, put_non, List.set_cons_zero, List.set_cons_succ]
      refine wkS_take (some 88) (.bool true) (by kernel_rfl) (by kernel_rfl) (by kernel_rfl) (fun W hS => by kernel_rfl) ?_
      simp only [put_lit, put_non, List.set_cons_zero, List.set_cons_succ]
      refine wkS_take (some 89) (.int .i64 0) (by kernel_rfl) (by kernel_rfl) (by kernel_rfl) (fun W hS => by kernel_rfl) ?_
      simp only [put_lit, put_non, List.set_cons_zero, List.set_cons_succ]
      refine wkS_take (some 90) (.bool true) (by kernel_rfl) (by kernel_rfl) (by kernel_rfl) (fun W hS => by kernel_rfl) ?_
      simp only [put_lit, put_non, List.set_cons_zero, List.set_cons_succ]
      refine wkS_take (some 91) (.bool true) (by kernel_rfl) (by kernel_rfl) (by kernel_rfl) (fun W hS => by kernel_rfl) ?_
      simp only [put_lit, put_non, List.set_cons_zero, List.set_cons_succ]
      refine wkS_take (some 92) (.bool true) (by kernel_rfl) (by kernel_rfl) (by kernel_rfl) (fun W hS => by kernel_rfl) ?_
      simp only [put_lit, put_non, List.set_cons_zero, List.set_cons_succ]
      refine wkS_take (some 93) (.bool true) (by kernel_rfl) (by kernel_rfl) (by kernel_rfl) (fun W hS => by kernel_rfl) ?_
      simp only [put_lit, put_non, List.set_cons_zero, List.set_cons_succ]
      refine wkS_take (some 94) (.bool true) (by kernel_rfl) (by kernel_rfl) (by kernel_rfl) (fun W hS => by kernel_rfl) ?_
      simp only [put_lit, put_non, List.set_cons_zero, List.set_cons_succ]
      refine wkS_take (some 95) (.bool true) (by kernel_rfl) (by kernel_rfl) (by kernel_rfl) (fun W hS => by kernel_rfl) ?_
      simp only [put_lit, put_non, List.set_cons_zero, List.set_cons_succ]
      refine wkS_take (some 96) (.bool true) (by kernel_rfl) (by kernel_rfl) (by kernel_rfl) (fun W hS => by kernel_rfl) ?_
      simp only [put_lit, put_non, List.set_cons_zero, List.set_cons_succ]
      refine wkS_skip (some 97) (by kernel_rfl) (by kernel_rfl) (by kernel_rfl) ?_
      simp only [put_lit, put_non, List.set_cons_zero, List.set_cons_succ]
      refine wkS_skip (some 98) (by kernel_rfl) (by kernel_rfl) (by kernel_rfl) ?_
      simp only [put_lit, put_non, List.set_cons_zero, List.set_cons_succ]
      refine wkS_take (some 99) (.bool true) (by kernel_rfl) (by kernel_rfl) (by kernel_rfl) (fun W hS => by kernel_rfl) ?_
      simp only [put_lit, put_non, List.set_cons_zero, List.set_cons_succ]
      refine wkS_take (some 100) (.bool true) (by kernel_rfl) (by kernel_rfl) (by kernel_rfl) (fun W hS => by kernel_rfl) ?_
      simp only [put_lit, put_non, List.set_cons_zero, List.set_cons_succ]
      refine wkS_take (some 101) (.bool true) (by kernel_rfl) (by kernel_rfl) (by kernel_rfl) (fun W hS => by kernel_rfl) ?_
      simp only [put_lit, put_non, List.set_cons_zero, List.set_cons_succ]
      refine wkS_take (some 102) (vV (0, 0, [])) (by kernel_rfl) (by kernel_rfl) (by kernel_rfl) (fun W hS => exec_loadV 14 (V14.out.below hS).range (by kernel_rfl) (by kernel_rfl)) ?_
      simp only [put_lit, put_non, List.set_cons_zero, List.set_cons_succ]
      refine wkS_take (some 103) (vV (0, 0, [])) (by kernel_rfl) (by kernel_rfl) (by kernel_rfl) (fun W hS => exec_loadV 16 (V16.out.below hS).range (by kernel_rfl) (by kernel_rfl)) ?_
      simp only [put_lit, put_non, List.set_cons_zero, List.set_cons_succ]
      refine wkS_take (some 104) (.bool true) (by kernel_rfl) (by kernel_rfl) (by kernel_rfl) (fun W hS => (exec_eqV (a := (0, 0, [])) (b := (0, 0, [])) 102 103 (by kernel_rfl) (by kernel_rfl) (by kernel_rfl)).trans (by rw [decide_eq_true rfl])) ?_
      simp only [put_lit, put_non, List.set_cons_zero, List.set_cons_succ]
      refine wkS_take (some 105) (.bool true) (by kernel_rfl) (by kernel_rfl) (by kernel_rfl) (fun W hS => by kernel_rfl) ?_
      simp only [put_lit, put_non, List.set_cons_zero, List.set_cons_succ]
      refine wkS_take (some 106) (.bool true) (by kernel_rfl) (by kernel_rfl) (by kernel_rfl) (fun W hS => by kernel_rfl) ?_
      simp only [put_lit, put_non, List.set_cons_zero, List.set_cons_succ]
      refine wkS_take (some 107) (.int .i64 2) (by kernel_rfl) (by kernel_rfl) (by kernel_rfl) (fun W hS => by kernel_rfl) ?_
      simp only [put_lit, put_non, List.set_cons_zero, List.set_cons_succ]
      refine wkS_take (some 108) (.bool false) (by kernel_rfl) (by kernel_rfl) (by kernel_rfl) (fun W hS => by kernel_rfl) ?_
      simp only [put_lit, put_non, List.set_cons_zero, List.set_cons_succ]
      refine wkS_take (some 109) (.bool false) (by kernel_rfl) (by kernel_rfl) (by kernel_rfl) (fun W hS => by kernel_rfl) ?_
      simp only [put_lit, put_non, List.set_cons_zero, List.set_cons_succ]
      refine wkS_take (some 110) (.bool true) (by kernel_rfl) (by kernel_rfl) (by kernel_rfl) (fun W hS => by kernel_rfl) ?_
      simp only [put_lit, put_non, List.set_cons_zero, List.set_cons_succ]
      refine wkS_take (some 111) (.bool true) (by kernel_rfl) (by kernel_rfl) (by kernel_rfl) (fun W hS => by kernel_rfl) ?_
      simp only [put_lit, put_non, List.set_cons_zero, List.set_cons_succ]
      refine wkS_take (some 112) (.bool true) (by kernel_rfl) (by kernel_rfl) (by kernel_rfl) (fun W hS => by kernel_rfl) ?_
      simp only [put_lit, put_non, List.set_cons_zero, List.set_cons_succ]
      refine wkS_take (some 113) (.bool false) (by kernel_rfl) (by kernel_rfl) (by kernel_rfl) (fun W hS => by kernel_rfl) ?_
      simp only [put_lit, put_non, List.set_cons_zero, List.set_cons_succ]
      refine wkS_take (some 114) (.bool false) (by kernel_rfl) (by kernel_rfl) (by kernel_rfl) (fun W hS => by kernel_rfl) ?_
      simp only [put_lit, put_non, List.set_cons_zero, List.set_cons_succ]
      refine wkS_take (some 115) (.int .i64 2) (by kernel_rfl) (by kernel_rfl) (by kernel_rfl) (fun W hS => by kernel_rfl) ?_
      simp only [put_lit, put_non, List.set_cons_zero, List.set_cons_succ]
      refine wkS_take (some 116) (.bool true) (by kernel_rfl) (by kernel_rfl) (by kernel_rfl) (fun W hS => by kernel_rfl) ?_
      simp only [put_lit, put_non, List.set_cons_zero, List.set_cons_succ]
      refine wkS_take (some 117) (.bool true) (by kernel_rfl) (by kernel_rfl) (by kernel_rfl) (fun W hS => by kernel_rfl) ?_
      simp only [put_lit, put_non, List.set_cons_zero, List.set_cons_succ]
      refine wkS_take (some 118) (.bool true) (by kernel_rfl) (by kernel_rfl) (by kernel_rfl) (fun W hS => by kernel_rfl) ?_
      simp only [put_lit, put_non, List.set_cons_zero, List.set_cons_succ]
      refine wkS_take (some 119) (.bool true) (by kernel_rfl) (by kernel_rfl) (by kernel_rfl) (fun W hS => by kernel_rfl) ?_
      simp only [put_lit, put_non, List.set_cons_zero, List.set_cons_succ]
      refine wkS_call (some 120) 25 #[] (by kernel_rfl) (by kernel_rfl) (by kernel_rfl) (fun w => (by kernel_rfl)) ?_
      refine (known8_c (HS.out.below (below_then BW.out Z6.out))).mono ?_
      rintro e z7 ⟨rfl, hB⟩
      have Z7 := Lib.hid (below_then Z6.out hB)
      clear hB
      refine ⟨_, rfl, Z7.out, ?_⟩
      simp only [put_lit, put_non, List.set_cons_zero, List.set_cons_succ]
      refine wkS_take (some 121) (.bool true) (by kernel_rfl) (by kernel_rfl) (by kernel_rfl) (fun W hS => by kernel_rfl) ?_
      simp only [put_lit, put_non, List.set_cons_zero, List.set_cons_succ]
      refine wkS_take (some 8) (.bool true) (by kernel_rfl) (by kernel_rfl) (by kernel_rfl) (fun W hS => by kernel_rfl) ?_
      simp only [put_lit, put_non, List.set_cons_zero, List.set_cons_succ]
      refine wkS_done ?_
      go_wp2_with fail
      go_ret
      exact ⟨rfl, below_then BW.out Z7.out⟩
  · skip
    have H1 := Lib.hid hno
    clear hno
    go_wp2_with (first | ((with_reducible refine wp_allocV 10 rfl rfl rfl ?_); intro w7a hv hb; have V10 := Lib.hid hv; have B10 := Lib.hid hb; clear hv hb) | ((with_reducible refine wp_storeV rfl 10 50 rfl w6.heap.size (0, 0, []) (0, 0, []) ?hx ?hy V10.out ?_); (case hx => rfl); (case hy => rfl); intro w7 hv hb; have V10 := Lib.hid hv; have G10 := Lib.hid hb; clear hv hb; have BS := Lib.hid (below_store (B := w6.heap.size) B10.out G10.out (Nat.le_refl _) B10.out.size); have V4 := Lib.hid (V4.out.below BS.out); have CB := Lib.hid (CB.out.below BS.out); have BW := Lib.hid (below_then BW.out BS.out); clear BS B10 G10))
    refine (PR.out _).mono ?_
    rintro e w8 ⟨hB, hR⟩
    have V4 := Lib.hid (V4.out.below hB)
    have CB := Lib.hid (CB.out.below hB)
    have V10 := Lib.hid (V10.out.below hB)
    have BW := Lib.hid (below_then BW.out hB)
    clear hB
    rcases hR with ⟨v2, hv2, rfl⟩ | ⟨hno, rfl⟩
    case inl => exact absurd hv2 (H1.out v2)
    clear hno H1
    go_wp2_with (first | ((with_reducible refine wp_allocV 12 rfl rfl rfl ?_); intro w9a hv hb; have V12 := Lib.hid hv; have B12 := Lib.hid hb; clear hv hb) | ((with_reducible refine wp_storeV rfl 12 55 rfl w8.heap.size (0, 0, []) (0, 0, []) ?hx ?hy V12.out ?_); (case hx => rfl); (case hy => rfl); intro w9 hv hb; have V12 := Lib.hid hv; have G12 := Lib.hid hb; clear hv hb; have BS := Lib.hid (below_store (B := w8.heap.size) B12.out G12.out (Nat.le_refl _) B12.out.size); have V4 := Lib.hid (V4.out.below BS.out); have CB := Lib.hid (CB.out.below BS.out); have V10 := Lib.hid (V10.out.below BS.out); have BW := Lib.hid (below_then BW.out BS.out); clear BS B12 G12) | ((with_reducible refine wp_stringB rfl (.tmp 58) rfl ?u cs ?hx ?ht ?_); (case u => exact .slice (some ⟨w3.heap.size, 0, none⟩) l0 cB); (case hx => rfl); (case ht => exact CB.out)))
    refine (QC.out _ BW.out).mono ?_
    rintro e w10 ⟨hB, hR⟩
    have V4 := Lib.hid (V4.out.below hB)
    have CB := Lib.hid (CB.out.below hB)
    have V10 := Lib.hid (V10.out.below hB)
    have V12 := Lib.hid (V12.out.below hB)
    have BW := Lib.hid (below_then BW.out hB)
    clear hB
    rcases hR with ⟨v3, hv3, rfl⟩ | ⟨hno, rfl⟩
    · skip
      have H3 := Lib.hid hv3
      clear hv3
      go_wp2_with (first | ((with_reducible refine wp_allocV 14 rfl rfl rfl ?_); intro w11a hv hb; have V14 := Lib.hid hv; have B14 := Lib.hid hb; clear hv hb) | ((with_reducible refine wp_storeV rfl 14 61 rfl w10.heap.size v3 (0, 0, []) ?hx ?hy V14.out ?_); (case hx => rfl); (case hy => rfl); intro w11 hv hb; have V14 := Lib.hid hv; have G14 := Lib.hid hb; clear hv hb; have BS := Lib.hid (below_store (B := w10.heap.size) B14.out G14.out (Nat.le_refl _) B14.out.size); have V4 := Lib.hid (V4.out.below BS.out); have CB := Lib.hid (CB.out.below BS.out); have V10 := Lib.hid (V10.out.below BS.out); have V12 := Lib.hid (V12.out.below BS.out); have BW := Lib.hid (below_then BW.out BS.out); clear BS B14 G14) | ((with_reducible refine wp_stringB rfl (.tmp 64) rfl ?u cs ?hx ?ht ?_); (case u => exact .slice (some ⟨w3.heap.size, 0, none⟩) l0 cB); (case hx => rfl); (case ht => exact CB.out)))
      refine (QR.out _).mono ?_
      rintro e w12 ⟨hB, hR⟩
      have V4 := Lib.hid (V4.out.below hB)
      have V10 := Lib.hid (V10.out.below hB)
      have V12 := Lib.hid (V12.out.below hB)
      have V14 := Lib.hid (V14.out.below hB)
      have BW := Lib.hid (below_then BW.out hB)
      clear hB CB
      rcases hR with ⟨v4, hv4, rfl⟩ | ⟨hno, rfl⟩
      case inr => exact absurd H3.out (hno v3)
      obtain rfl : v4 = v3 := isTxt_uniq hv4 H3.out
      clear hv4 H3
      go_upto_region 10 with (first | ((with_reducible refine wp_allocV 16 rfl rfl rfl ?_); intro w13a hv hb; have V16 := Lib.hid hv; have B16 := Lib.hid hb; clear hv hb) | ((with_reducible refine wp_storeV rfl 16 67 rfl w12.heap.size v4 (0, 0, []) ?hx ?hy V16.out ?_); (case hx => rfl); (case hy => rfl); intro w13 hv hb; have V16 := Lib.hid hv; have G16 := Lib.hid hb; clear hv hb; have BS := Lib.hid (below_store (B := w12.heap.size) B16.out G16.out (Nat.le_refl _) B16.out.size); have V4 := Lib.hid (V4.out.below BS.out); have V10 := Lib.hid (V10.out.below BS.out); have V12 := Lib.hid (V12.out.below BS.out); have V14 := Lib.hid (V14.out.below BS.out); have BW := Lib.hid (below_then BW.out BS.out); clear BS B16 G16))
      skip
      have V4 : Hid (VarV w13.drew w.heap.size y) := Lib.hid V4.out
      have V10 : Hid (VarV w13.drew w6.heap.size (0, 0, [])) := Lib.hid V10.out
      have V12 : Hid (VarV w13.drew w8.heap.size (0, 0, [])) := Lib.hid V12.out
      have V14 : Hid (VarV w13.drew w10.heap.size v4) := Lib.hid V14.out
      have V16 : Hid (VarV w13.drew w12.heap.size v4) := Lib.hid V16.out
      have BW : Hid (Below w.heap.size w w13.drew) := Lib.hid BW.out.drew
      refine wp_region_plan (S := fun W => Below w13.drew.heap.size w13.drew W) [(0, true), (2, true), (1, false), (3, false), (4, true), (5, true), (6, true), (9, true), (7, false), (8, false), (10, false), (11, false), (12, true), (13, true), (14, true), (15, true), (16, true), (17, true), (18, true), (19, true), (20, true), (21, true), (22, true), (23, true), (24, true), (25, true), (26, true), (27, true), (28, true), (29, true), (30, true), (31, true), (32, true), (33, true), (34, true), (35, true), (36, true), (37, true), (38, true), (39, true), (40, true), (41, true), (42, true), (43, true), (44, true), (45, true), (46, true), (47, true), (48, true), (49, true), (50, true), (51, false), (52, true), (53, true)] (by kernel_rfl) (by kernel_rfl) (by kernel_rfl) (by kernel_rfl) (fun _ _ d _ _ h => by cases d <;> exact h) (Below.refl _ _) ?_
      generalize w13.drew = wd at *
      refine wkS_take (some 69) (vV y) (by kernel_rfl) (by kernel_rfl) (by kernel_rfl) (fun W hS => exec_loadV 4 (V4.out.below hS).range (by kernel_rfl) (by kernel_rfl)) ?_
      simp only [put_lit, put_non, List.set_cons_zero, List.set_cons_succ]
      refine wkS_take (some 71) (vV y) (by kernel_rfl) (by kernel_rfl) (by kernel_rfl) (fun W hS => exec_loadV 4 (V4.out.below hS).range (by kernel_rfl) (by kernel_rfl)) ?_
      simp only [put_lit, put_non, List.set_cons_zero, List.set_cons_succ]
      refine wkS_call (some 70) 32 #[vV y] (by kernel_rfl) (by kernel_rfl) (by kernel_rfl) (fun w => (by kernel_rfl)) ?_
      refine (FL.out _ (below_then BW.out (Below.refl wd.heap.size wd))).mono ?_
      rintro e z1 ⟨rfl, hB⟩
      have Z1 := Lib.hid (below_then (Below.refl wd.heap.size wd) hB)
      clear hB
      refine ⟨_, rfl, Z1.out, ?_⟩
      simp only [put_lit, put_non, List.set_cons_zero, List.set_cons_succ]
      refine wkS_call (some 72) 29 #[vV y] (by kernel_rfl) (by kernel_rfl) (by kernel_rfl) (fun w => (by kernel_rfl)) ?_
      refine (FR.out _).mono ?_
      rintro e z2 ⟨rfl, hB⟩
      have Z2 := Lib.hid (below_then Z1.out hB)
      clear hB
      refine ⟨_, rfl, Z2.out, ?_⟩
      simp only [put_lit, put_non, List.set_cons_zero, List.set_cons_succ]
      refine wkS_take (some 73) (.bool true) (by kernel_rfl) (by kernel_rfl) (by kernel_rfl) (fun W hS => exec_eqStr 70 72 ⟨fy.toArray⟩ (by kernel_rfl) (by kernel_rfl) (by kernel_rfl)) ?_
      simp only [put_lit, put_non, List.set_cons_zero, List.set_cons_succ]
      refine wkS_take (some 74) (.bool true) (by kernel_rfl) (by kernel_rfl) (by kernel_rfl) (fun W hS => by kernel_rfl) ?_
      simp only [put_lit, put_non, List.set_cons_zero, List.set_cons_succ]
      refine wkS_take (some 75) (vV y) (by kernel_rfl) (by kernel_rfl) (by kernel_rfl) (fun W hS => exec_loadV 4 (V4.out.below hS).range (by kernel_rfl) (by kernel_rfl)) ?_
      simp only [put_lit, put_non, List.set_cons_zero, List.set_cons_succ]
      refine wkS_take (some 78) (vV y) (by kernel_rfl) (by kernel_rfl) (by kernel_rfl) (fun W hS => exec_loadV 4 (V4.out.below hS).range (by kernel_rfl) (by kernel_rfl)) ?_
      simp only [put_lit, put_non, List.set_cons_zero, List.set_cons_succ]
      refine wkS_call (some 76) 13 #[vV y] (by kernel_rfl) (by kernel_rfl) (by kernel_rfl) (fun w => (by kernel_rfl)) ?_
      refine (MV.out _).mono ?_
      rintro e z3 ⟨rfl, hB⟩
      have Z3 := Lib.hid (below_then Z2.out hB)
      clear hB
      refine ⟨_, rfl, Z3.out, ?_⟩
      simp only [put_lit, put_non, List.set_cons_zero, List.set_cons_succ]
      refine wkS_call (some 77) 32 #[vV q] (by kernel_rfl) (by kernel_rfl) (by kernel_rfl) (fun w => (by kernel_rfl)) ?_
      refine (GL.out _ (below_then BW.out Z3.out)).mono ?_
      rintro e z4 ⟨rfl, hB⟩
      have Z4 := Lib.hid (below_then Z3.out hB)
      clear hB
      refine ⟨_, rfl, Z4.out, ?_⟩
      simp only [put_lit, put_non, List.set_cons_zero, List.set_cons_succ]
      refine wkS_call (some 79) 13 #[vV y] (by kernel_rfl) (by kernel_rfl) (by kernel_rfl) (fun w => (by kernel_rfl)) ?_
      refine (MV.out _).mono ?_
      rintro e z5 ⟨rfl, hB⟩
      have Z5 := Lib.hid (below_then Z4.out hB)
      clear hB
      refine ⟨_, rfl, Z5.out, ?_⟩
      simp only [put_lit, put_non, List.set_cons_zero, List.set_cons_succ]
      refine wkS_call (some 80) 29 #[vV q] (by kernel_rfl) (by kernel_rfl) (by kernel_rfl) (fun w => (by kernel_rfl)) ?_
      refine (GR.out _).mono ?_
      rintro e z6 ⟨rfl, hB⟩
      have Z6 := Lib.hid (below_then Z5.out hB)
      clear hB
      refine ⟨_, rfl, Z6.out, ?_⟩
      simp only [put_lit, put_non, List.set_cons_zero, List.set_cons_succ]
      refine wkS_take (some 81) (.bool true) (by kernel_rfl) (by kernel_rfl) (by kernel_rfl) (fun W hS => exec_eqStr 77 80 ⟨ts.toArray⟩ (by kernel_rfl) (by kernel_rfl) (by kernel_rfl)) ?_
      simp only [put_lit, put_non, List.set_cons_zero, List.set_cons_succ]
      refine wkS_take (some 82) (.bool true) (by kernel_rfl) (by kernel_rfl) (by kernel_rfl) (fun W hS => by kernel_rfl) ?_
      simp only [put_lit, put_non, List.set_cons_zero, List.set_cons_succ]
      refine wkS_take (some 83) (.bool true) (by kernel_rfl) (by kernel_rfl) (by kernel_rfl) (fun W hS => by kernel_rfl) ?_
      simp only [put_lit, put_non, List.set_cons_zero, List.set_cons_succ]
      refine wkS_take (some 84) (vV (0, 0, [])) (by kernel_rfl) (by kernel_rfl) (by kernel_rfl) (fun W hS => exec_loadV 10 (V10.out.below hS).range (by kernel_rfl) (by kernel_rfl)) ?_
      simp only [put_lit, put_non, List.set_cons_zero, List.set_cons_succ]
      refine wkS_take (some 85) (vV (0, 0, [])) (by kernel_rfl) (by kernel_rfl) (by kernel_rfl) (fun W hS => exec_loadV 12 (V12.out.below hS).range (by kernel_rfl) (by kernel_rfl)) ?_
      simp only [put_lit, put_non, List.set_cons_zero, List.set_cons_succ]
      refine wkS_take (some 86) (.bool true) (by kernel_rfl) (by kernel_rfl) (by kernel_rfl) (fun W hS => (exec_eqV (a := (0, 0, [])) (b := (0, 0, [])) 84 85 (by kernel_rfl) (by kernel_rfl) (by kernel_rfl)).trans (by rw [decide_eq_true rfl])) ?_
      simp only [put_lit, put_non, List.set_cons_zero, List.set_cons_succ]
      refine wkS_take (some 87) (.bool true) (by kernel_rfl) (by kernel_rfl) (by kernel_rfl) (fun W hS => by kernel_rfl) ?_
      simp only [put_lit, put_non, List.set_cons_zero, List.set_cons_succ]
      refine wkS_take (some 88) (.bool true) (by kernel_rfl) (by kernel_rfl) (by kernel_rfl) (fun W hS => by kernel_rfl) ?_
      simp only [put_lit, put_non, List.set_cons_zero, List.set_cons_succ]
      refine wkS_take (some 89) (.int .i64 2) (by kernel_rfl) (by kernel_rfl) (by kernel_rfl) (fun W hS => by kernel_rfl) ?_
      simp only [put_lit, put_non, List.set_cons_zero, List.set_cons_succ]
      refine wkS_take (some 90) (.bool false) (by kernel_rfl) (by kernel_rfl) (by kernel_rfl) (fun W hS => by kernel_rfl) ?_
      simp only [put_lit, put_non, List.set_cons_zero, List.set_cons_succ]
      refine wkS_take (some 91) (.bool false) (by kernel_rfl) (by kernel_rfl) (by kernel_rfl) (fun W hS => by kernel_rfl) ?_
      simp only [put_lit, put_non, List.set_cons_zero, List.set_cons_succ]
      refine wkS_take (some 92) (.bool true) (by kernel_rfl) (by kernel_rfl) (by kernel_rfl) (fun W hS => by kernel_rfl) ?_
      simp only [put_lit, put_non, List.set_cons_zero, List.set_cons_succ]
      refine wkS_take (some 93) (.bool true) (by kernel_rfl) (by kernel_rfl) (by kernel_rfl) (fun W hS => by kernel_rfl) ?_
      simp only [put_lit, put_non, List.set_cons_zero, List.set_cons_succ]
      refine wkS_take (some 94) (.bool true) (by kernel_rfl) (by kernel_rfl) (by kernel_rfl) (fun W hS => by kernel_rfl) ?_
      simp only [put_lit, put_non, List.set_cons_zero, List.set_cons_succ]
      refine wkS_take (some 95) (.bool false) (by kernel_rfl) (by kernel_rfl) (by kernel_rfl) (fun W hS => by kernel_rfl) ?_
      simp only [put_lit, put_non, List.set_cons_zero, List.set_cons_succ]
      refine wkS_take (some 96) (.bool false) (by kernel_rfl) (by kernel_rfl) (by kernel_rfl) (fun W hS => by kernel_rfl) ?_
      simp only [put_lit, put_non, List.set_cons_zero, List.set_cons_succ]
      refine wkS_take (some 97) (.int .i64 2) (by kernel_rfl) (by kernel_rfl) (by kernel_rfl) (fun W hS => by kernel_rfl) ?_
      simp only [put_lit, put_non, List.set_cons_zero, List.set_cons_succ]
      refine wkS_take (some 98) (.bool true) (by kernel_rfl) (by kernel_rfl) (by kernel_rfl) (fun W hS => by kernel_rfl) ?_
      simp only [put_lit, put_non, List.set_cons_zero, List.set_cons_succ]
      refine wkS_take (some 99) (.bool true) (by kernel_rfl) (by kernel_rfl) (by kernel_rfl) (fun W hS => by kernel_rfl) ?_
      simp only [put_lit, put_non, List.set_cons_zero, List.set_cons_succ]
      refine wkS_take (some 100) (.bool true) (by kernel_rfl) (by kernel_rfl) (by kernel_rfl) (fun W hS => by kernel_rfl) ?_
      simp only [put_lit, put_non, List.set_cons_zero, List.set_cons_succ]
      refine wkS_take (some 101) (.bool true) (by kernel_rfl) (by kernel_rfl) (by kernel_rfl) (fun W hS => by kernel_rfl) ?_
      simp only [put_lit, put_non, List.set_cons_zero, List.set_cons_succ]
      refine wkS_take (some 102) (vV v4) (by kernel_rfl) (by kernel_rfl) (by kernel_rfl) (fun W hS => exec_loadV 14 (V14.out.below hS).range (by kernel_rfl) (by kernel_rfl)) ?_
      simp only [put_lit, put_non, List.set_cons_zero, List.set_cons_succ]
      refine wkS_take (some 103) (vV v4) (by kernel_rfl) (by kernel_rfl) (by kernel_rfl) (fun W hS => exec_loadV 16 (V16.out.below hS).range (by kernel_rfl) (by kernel_rfl)) ?_
      simp only [put_lit, put_non, List.set_cons_zero, List.set_cons_succ]
      refine wkS_take (some 104) (.bool true) (by kernel_rfl) (by kernel_rfl) (by kernel_rfl) (fun W hS => (exec_eqV (a := v4) (b := v4) 102 103 (by kernel_rfl) (by kernel_rfl) (by kernel_rfl)).trans (by rw [decide_eq_true rfl])) ?_
      simp only [put_lit, put_non, List.set_cons_zero, List.set_cons_succ]
      refine wkS_take (some 105) (.bool true) (by kernel_rfl) (by kernel_rfl) (by kernel_rfl) (fun W hS => by kernel_rfl) ?_
      simp only [put_lit, put_non, List.set_cons_zero, List.set_cons_succ]
      refine wkS_take (some 106) (.bool true) (by kernel_rfl) (by kernel_rfl) (by kernel_rfl) (fun W hS => by kernel_rfl) ?_
      simp only [put_lit, put_non, List.set_cons_zero, List.set_cons_succ]
      refine wkS_take (some 107) (.int .i64 0) (by kernel_rfl) (by kernel_rfl) (by kernel_rfl) (fun W hS => by kernel_rfl) ?_
      simp only [put_lit, put_non, List.set_cons_zero, List.set_cons_succ]
      refine wkS_take (some 108) (.bool true) (by kernel_rfl) (by kernel_rfl) (by kernel_rfl) (fun W hS => by kernel_rfl) ?_
      simp only [put_lit, put_non, List.set_cons_zero, List.set_cons_succ]
      refine wkS_take (some 109) (.bool true) (by kernel_rfl) (by kernel_rfl) (by kernel_rfl) (fun W hS => by kernel_rfl) ?_
      simp only [put_lit, put_non, List.set_cons_zero, List.set_cons_succ]
      refine wkS_take (some 110) (.bool true) (by kernel_rfl) (by kernel_rfl) (by kernel_rfl) (fun W hS => by kernel_rfl) ?_
      simp only [put_lit, put_non, List.set_cons_zero, List.set_cons_succ]
      refine wkS_take (some 111) (.bool true) (by kernel_rfl) (by kernel_rfl) (by kernel_rfl) (fun W hS => by kernel_rfl) ?_
      simp only [put_lit, put_non, List.set_cons_zero, List.set_cons_succ]
      refine wkS_take (some 112) (.bool true) (by kernel_rfl) (by kernel_rfl) (by kernel_rfl) (fun W hS => by kernel_rfl) ?_
      simp only [put_lit, put_non, List.set_cons_zero, List.set_cons_succ]
      refine wkS_take (some 113) (.bool true) (by kernel_rfl) (by kernel_rfl) (by kernel_rfl) (fun W hS => by kernel_rfl) ?_
      simp only [put_lit, put_non, List.set_cons_zero, List.set_cons_succ]
      refine wkS_take (some 114) (.bool true) (by kernel_rfl) (by kernel_rfl) (by kernel_rfl) (fun W hS => by kernel_rfl) ?_
      simp only [put_lit, put_non, List.set_cons_zero, List.set_cons_succ]
      refine wkS_skip (some 115) (by kernel_rfl) (by kernel_rfl) (by kernel_rfl) ?_
      simp only [put_lit, put_non, List.set_cons_zero, List.set_cons_succ]
      refine wkS_skip (some 116) (by kernel_rfl) (by kernel_rfl) (by kernel_rfl) ?_
      simp only [put_lit, put_non, List.set_cons_zero, List.set_cons_succ]
      refine wkS_take (some 117) (.bool true) (by kernel_rfl) (by kernel_rfl) (by kernel_rfl) (fun W hS => by kernel_rfl) ?_
      simp only [put_lit, put_non, List.set_cons_zero, List.set_cons_succ]
      refine wkS_take (some 118) (.bool true) (by kernel_rfl) (by kernel_rfl) (by kernel_rfl) (fun W hS => by kernel_rfl) ?_
      simp only [put_lit, put_non, List.set_cons_zero, List.set_cons_succ]
      refine wkS_take (some 119) (.bool true) (by kernel_rfl) (by kernel_rfl) (by kernel_rfl) (fun W hS => by kernel_rfl) ?_
      simp only [put_lit, put_non, List.set_cons_zero, List.set_cons_succ]
      refine wkS_call (some 120) 25 #[] (by kernel_rfl) (by kernel_rfl) (by kernel_rfl) (fun w => (by kernel_rfl)) ?_
      refine (known8_c (HS.out.below (below_then BW.out Z6.out))).mono ?_
      rintro e z7 ⟨rfl, hB⟩
      have Z7 := Lib.hid (below_then Z6.out hB)
      clear hB
      refine ⟨_, rfl, Z7.out, ?_⟩
      simp only [put_lit, put_non, List.set_cons_zero, List.set_cons_succ]
      refine wkS_take (some 121) (.bool true) (by kernel_rfl) (by kernel_rfl) (by kernel_rfl) (fun W hS => by kernel_rfl) ?_
      simp only [put_lit, put_non, List.set_cons_zero, List.set_cons_succ]
      refine wkS_take (some 8) (.bool true) (by kernel_rfl) (by kernel_rfl) (by kernel_rfl) (fun W hS => by kernel_rfl) ?_
      simp only [put_lit, put_non, List.set_cons_zero, List.set_cons_succ]
      refine wkS_done ?_
      go_wp2_with fail
      go_ret
      exact ⟨rfl, below_then BW.out Z7.out⟩
    · skip
      have H3 := Lib.hid hno
      clear hno
      go_wp2_with (first | ((with_reducible refine wp_allocV 14 rfl rfl rfl ?_); intro w11a hv hb; have V14 := Lib.hid hv; have B14 := Lib.hid hb; clear hv hb) | ((with_reducible refine wp_storeV rfl 14 61 rfl w10.heap.size (0, 0, []) (0, 0, []) ?hx ?hy V14.out ?_); (case hx => rfl); (case hy => rfl); intro w11 hv hb; have V14 := Lib.hid hv; have G14 := Lib.hid hb; clear hv hb; have BS := Lib.hid (below_store (B := w10.heap.size) B14.out G14.out (Nat.le_refl _) B14.out.size); have V4 := Lib.hid (V4.out.below BS.out); have CB := Lib.hid (CB.out.below BS.out); have V10 := Lib.hid (V10.out.below BS.out); have V12 := Lib.hid (V12.out.below BS.out); have BW := Lib.hid (below_then BW.out BS.out); clear BS B14 G14) | ((with_reducible refine wp_stringB rfl (.tmp 64) rfl ?u cs ?hx ?ht ?_); (case u => exact .slice (some ⟨w3.heap.size, 0, none⟩) l0 cB); (case hx => rfl); (case ht => exact CB.out)))
      refine (QR.out _).mono ?_
      rintro e w12 ⟨hB, hR⟩
      have V4 := Lib.hid (V4.out.below hB)
      have V10 := Lib.hid (V10.out.below hB)
      have V12 := Lib.hid (V12.out.below hB)
      have V14 := Lib.hid (V14.out.below hB)
      have BW := Lib.hid (below_then BW.out hB)
      clear hB CB
      rcases hR with ⟨v4, hv4, rfl⟩ | ⟨hno, rfl⟩
      case inl => exact absurd hv4 (H3.out v4)
      clear hno H3
      go_upto_region 10 with (first | ((with_reducible refine wp_allocV 16 rfl rfl rfl ?_); intro w13a hv hb; have V16 := Lib.hid hv; have B16 := Lib.hid hb; clear hv hb) | ((with_reducible refine wp_storeV rfl 16 67 rfl w12.heap.size (0, 0, []) (0, 0, []) ?hx ?hy V16.out ?_); (case hx => rfl); (case hy => rfl); intro w13 hv hb; have V16 := Lib.hid hv; have G16 := Lib.hid hb; clear hv hb; have BS := Lib.hid (below_store (B := w12.heap.size) B16.out G16.out (Nat.le_refl _) B16.out.size); have V4 := Lib.hid (V4.out.below BS.out); have V10 := Lib.hid (V10.out.below BS.out); have V12 := Lib.hid (V12.out.below BS.out); have V14 := Lib.hid (V14.out.below BS.out); have BW := Lib.hid (below_then BW.out BS.out); clear BS B16 G16))
      skip
      have V4 : Hid (VarV w13.drew w.heap.size y) := Lib.hid V4.out
      have V10 : Hid (VarV w13.drew w6.heap.size (0, 0, [])) := Lib.hid V10.out
      have V12 : Hid (VarV w13.drew w8.heap.size (0, 0, [])) := Lib.hid V12.out
      have V14 : Hid (VarV w13.drew w10.heap.size (0, 0, [])) := Lib.hid V14.out
      have V16 : Hid (VarV w13.drew w12.heap.size (0, 0, [])) := Lib.hid V16.out
      have BW : Hid (Below w.heap.size w w13.drew) := Lib.hid BW.out.drew
      refine wp_region_plan (S := fun W => Below w13.drew.heap.size w13.drew W) [(0, true), (2, true), (1, false), (3, false), (4, true), (5, true), (6, true), (9, true), (7, false), (8, false), (10, false), (11, false), (12, true), (13, true), (14, true), (15, true), (16, true), (17, true), (18, true), (19, true), (20, true), (21, true), (22, true), (23, true), (24, true), (25, true), (26, true), (27, true), (28, true), (29, true), (30, true), (31, true), (32, true), (33, true), (34, true), (35, true), (36, true), (37, true), (38, true), (39, true), (40, true), (41, true), (42, true), (43, true), (44, true), (45, true), (46, true), (47, true), (48, true), (49, true), (50, true), (51, false), (52, true), (53, true)] (by kernel_rfl) (by kernel_rfl) (by kernel_rfl) (by kernel_rfl) (fun _ _ d _ _ h => by cases d <;> exact h) (Below.refl _ _) ?_
      generalize w13.drew = wd at *
      refine wkS_take (some 69) (vV y) (by kernel_rfl) (by kernel_rfl) (by kernel_rfl) (fun W hS => exec_loadV 4 (V4.out.below hS).range (by kernel_rfl) (by kernel_rfl)) ?_
      simp only [put_lit, put_non, List.set_cons_zero, List.set_cons_succ]
      refine wkS_take (some 71) (vV y) (by kernel_rfl) (by kernel_rfl) (by kernel_rfl) (fun W hS => exec_loadV 4 (V4.out.below hS).range (by kernel_rfl) (by kernel_rfl)) ?_
      simp only [put_lit, put_non, List.set_cons_zero, List.set_cons_succ]
      refine wkS_call (some 70) 32 #[vV y] (by kernel_rfl) (by kernel_rfl) (by kernel_rfl) (fun w => (by kernel_rfl)) ?_
      refine (FL.out _ (below_then BW.out (Below.refl wd.heap.size wd))).mono ?_
      rintro e z1 ⟨rfl, hB⟩
      have Z1 := Lib.hid (below_then (Below.refl wd.heap.size wd) hB)
      clear hB
      refine ⟨_, rfl, Z1.out, ?_⟩
      simp only [put_lit, put_non, List.set_cons_zero, List.set_cons_succ]
      refine wkS_call (some 72) 29 #[vV y] (by kernel_rfl) (by kernel_rfl) (by kernel_rfl) (fun w => (by kernel_rfl)) ?_
      refine (FR.out _).mono ?_
      rintro e z2 ⟨rfl, hB⟩
      have Z2 := Lib.hid (below_then Z1.out hB)
      clear hB
      refine ⟨_, rfl, Z2.out, ?_⟩
      simp only [put_lit, put_non, List.set_cons_zero, List.set_cons_succ]
      refine wkS_take (some 73) (.bool true) (by kernel_rfl) (by kernel_rfl) (by kernel_rfl) (fun W hS => exec_eqStr 70 72 ⟨fy.toArray⟩ (by kernel_rfl) (by kernel_rfl) (by kernel_rfl)) ?_
      simp only [put_lit, put_non, List.set_cons_zero, List.set_cons_succ]
      refine wkS_take (some 74) (.bool true) (by kernel_rfl) (by kernel_rfl) (by kernel_rfl) (fun W hS => by kernel_rfl) ?_
      simp only [put_lit, put_non, List.set_cons_zero, List.set_cons_succ]
      refine wkS_take (some 75) (vV y) (by kernel_rfl) (by kernel_rfl) (by kernel_rfl) (fun W hS => exec_loadV 4 (V4.out.below hS).range (by kernel_rfl) (by kernel_rfl)) ?_
      simp only [put_lit, put_non, List.set_cons_zero, List.set_cons_succ]
      refine wkS_take (some 78) (vV y) (by kernel_rfl) (by kernel_rfl) (by kernel_rfl) (fun W hS => exec_loadV 4 (V4.out.below hS).range (by kernel_rfl) (by kernel_rfl)) ?_
      simp only [put_lit, put_non, List.set_cons_zero, List.set_cons_succ]
      refine wkS_call (some 76) 13 #[vV y] (by kernel_rfl) (by kernel_rfl) (by kernel_rfl) (fun w => (by kernel_rfl)) ?_
      refine (MV.out _).mono ?_
      rintro e z3 ⟨rfl, hB⟩
      have Z3 := Lib.hid (below_then Z2.out hB)
      clear hB
      refine ⟨_, rfl, Z3.out, ?_⟩
      simp only [put_lit, put_non, List.set_cons_zero, List.set_cons_succ]
      refine wkS_call (some 77) 32 #[vV q] (by kernel_rfl) (by kernel_rfl) (by kernel_rfl) (fun w => (by kernel_rfl)) ?_
      refine (GL.out _ (below_then BW.out Z3.out)).mono ?_
      rintro e z4 ⟨rfl, hB⟩
      have Z4 := Lib.hid (below_then Z3.out hB)
      clear hB
      refine ⟨_, rfl, Z4.out, ?_⟩
      simp only [put_lit, put_non, List.set_cons_zero, List.set_cons_succ]
      refine wkS_call (some 79) 13 #[vV y] (by kernel_rfl) (by kernel_rfl) (by kernel_rfl) (fun w => (by kernel_rfl)) ?_
      refine (MV.out _).mono ?_
      rintro e z5 ⟨rfl, hB⟩
      have Z5 := Lib.hid (below_then Z4.out hB)
      clear hB
      refine ⟨_, rfl, Z5.out, ?_⟩
      simp only [put_lit, put_non, List.set_cons_zero, List.set_cons_succ]
      refine wkS_call (some 80) 29 #[vV q] (by kernel_rfl) (by kernel_rfl) (by kernel_rfl) (fun w => (by kernel_rfl)) ?_
      refine (GR.out _).mono ?_
      rintro e z6 ⟨rfl, hB⟩
      have Z6 := Lib.hid (below_then Z5.out hB)
      clear hB
      refine ⟨_, rfl, Z6.out, ?_⟩
      simp only [put_lit, put_non, List.set_cons_zero, List.set_cons_succ]
      refine wkS_take (some 81) (.bool true) (by kernel_rfl) (by kernel_rfl) (by kernel_rfl) (fun W hS => exec_eqStr 77 80 ⟨ts.toArray⟩ (by kernel_rfl) (by kernel_rfl) (by kernel_rfl)) ?_
      simp only [put_lit, put_non, List.set_cons_zero, List.set_cons_succ]
      refine wkS_take (some 82) (.bool true) (by kernel_rfl) (by kernel_rfl) (by kernel_rfl) (fun W hS => by kernel_rfl) ?_
      simp only [put_lit, put_non, List.set_cons_zero, List.set_cons_succ]
      refine wkS_take (some 83) (.bool true) (by kernel_rfl) (by kernel_rfl) (by kernel_rfl) (fun W hS => by kernel_rfl) ?_
      simp only [put_lit, put_non, List.set_cons_zero, List.set_cons_succ]
      refine wkS_take (some 84) (vV (0, 0, [])) (by kernel_rfl) (by kernel_rfl) (by kernel_rfl) (fun W hS => exec_loadV 10 (V10.out.below hS).range (by kernel_rfl) (by kernel_rfl)) ?_
      simp only [put_lit, put_non, List.set_cons_zero, List.set_cons_succ]
      refine wkS_take (some 85) (vV (0, 0, [])) (by kernel_rfl) (by kernel_rfl) (by kernel_rfl) (fun W hS => exec_loadV 12 (V12.out.below hS).range (by kernel_rfl) (by kernel_rfl)) ?_
      simp only [put_lit, put_non, List.set_cons_zero, List.set_cons_succ]
      refine wkS_take (some 86) (.bool true) (by kernel_rfl) (by kernel_rfl) (by kernel_rfl) (fun W hS => (exec_eqV (a := (0, 0, [])) (b := (0, 0, [])) 84 85 (by kernel_rfl) (by kernel_rfl) (by kernel_rfl)).trans (by rw [decide_eq_true rfl])) ?_
      simp only [put_lit, put_non, List.set_cons_zero, List.set_cons_succ]
      refine wkS_take (some 87) (.bool true) (by kernel_rfl) (by kernel_rfl) (by kernel_rfl) (fun W hS => by kernel_rfl) ?_
      simp only [put_lit, put_non, List.set_cons_zero, List.set_cons_succ]
      refine wkS_take (some 88) (.bool true) (by kernel_rfl) (by kernel_rfl) (by kernel_rfl) (fun W hS => by kernel_rfl) ?_
      simp only [put_lit, put_non, List.set_cons_zero, List.set_cons_succ]
      refine wkS_take (some 89) (.int .i64 2) (by kernel_rfl) (by kernel_rfl) (by kernel_rfl) (fun W hS => by kernel_rfl) ?_
      simp only [put_lit, put_non, List.set_cons_zero, List.set_cons_succ]
      refine wkS_take (some 90) (.bool false) (by kernel_rfl) (by kernel_rfl) (by kernel_rfl) (fun W hS => by kernel_rfl) ?_
      simp only [put_lit, put_non, List.set_cons_zero, List.set_cons_succ]
      refine wkS_take (some 91) (.bool false) (by kernel_rfl) (by kernel_rfl) (by kernel_rfl) (fun W hS => by kernel_rfl) ?_
      simp only [put_lit, put_non, List.set_cons_zero, List.set_cons_succ]
      refine wkS_take (some 92) (.bool true) (by kernel_rfl) (by kernel_rfl) (by kernel_rfl) (fun W hS => by kernel_rfl) ?_
      simp only [put_lit, put_non, List.set_cons_zero, List.set_cons_succ]
      refine wkS_take (some 93) (.bool true) (by kernel_rfl) (by kernel_rfl) (by kernel_rfl) (fun W hS => by kernel_rfl) ?_
      simp only [put_lit, put_non, List.set_cons_zero, List.set_cons_succ]
      refine wkS_take (some 94) (.bool true) (by kernel_rfl) (by kernel_rfl) (by kernel_rfl) (fun W hS => by kernel_rfl) ?_
      simp only [put_lit, put_non, List.set_cons_zero, List.set_cons_succ]
      refine wkS_take (some 95) (.bool false) (by kernel_rfl) (by kernel_rfl) (by kernel_rfl) (fun W hS => by kernel_rfl) ?_
      simp only [put_lit, put_non, List.set_cons_zero, List.set_cons_succ]
      refine wkS_take (some 96) (.bool false) (by kernel_rfl) (by kernel_rfl) (by kernel_rfl) (fun W hS => by kernel_rfl) ?_
      simp only [put_lit, put_non, List.set_cons_zero, List.set_cons_succ]
      refine wkS_take (some 97) (.int .i64 2) (by kernel_rfl) (by kernel_rfl) (by kernel_rfl) (fun W hS => by kernel_rfl) ?_
      simp only [put_lit, put_non, List.set_cons_zero, List.set_cons_succ]
      refine wkS_take (some 98) (.bool true) (by kernel_rfl) (by kernel_rfl) (by kernel_rfl) (fun W hS => by kernel_rfl) ?_
      simp only [put_lit, put_non, List.set_cons_zero, List.set_cons_succ]
      refine wkS_take (some 99) (.bool true) (by kernel_rfl) (by kernel_rfl) (by kernel_rfl) (fun W hS => by kernel_rfl) ?_
      simp only [put_lit, put_non, List.set_cons_zero, List.set_cons_succ]
      refine wkS_take (some 100) (.bool true) (by kernel_rfl) (by kernel_rfl) (by kernel_rfl) (fun W hS => by kernel_rfl) ?_
      simp only [put_lit, put_non, List.set_cons_zero, List.set_cons_succ]
      refine wkS_take (some 101) (.bool true) (by kernel_rfl) (by kernel_rfl) (by kernel_rfl) (fun W hS => by kernel_rfl) ?_
      simp only [put_lit, put_non, List.set_cons_zero, List.set_cons_succ]
      refine wkS_take (some 102) (vV (0, 0, [])) (by kernel_rfl) (by kernel_rfl) (by kernel_rfl) (fun W hS => exec_loadV 14 (V14.out.below hS).range (by kernel_rfl) (by kernel_rfl)) ?_
      simp only [put_lit, put_non, List.set_cons_zero, List.set_cons_succ]
      refine wkS_take (some 103) (vV (0, 0, [])) (by kernel_rfl) (by kernel_rfl) (by kernel_rfl) (fun W hS => exec_loadV 16 (V16.out.below hS).range (by kernel_rfl) (by kernel_rfl)) ?_
      simp only [put_lit, put_non, List.set_cons_zero, List.set_cons_succ]
      refine wkS_take (some 104) (.bool true) (by kernel_rfl) (by kernel_rfl) (by kernel_rfl) (fun W hS => (exec_eqV (a := (0, 0, [])) (b := (0, 0, [])) 102 103 (by kernel_rfl) (by kernel_rfl) (by kernel_rfl)).trans (by rw [decide_eq_true rfl])) ?_
      simp only [put_lit, put_non, List.set_cons_zero, List.set_cons_succ]
      refine wkS_take (some 105) (.bool true) (by kernel_rfl) (by kernel_rfl) (by kernel_rfl) (fun W hS => by kernel_rfl) ?_
      simp only [put_lit, put_non, List.set_cons_zero, List.set_cons_succ]
      refine wkS_take (some 106) (.bool true) (by kernel_rfl) (by kernel_rfl) (by kernel_rfl) (fun W hS => by kernel_rfl) ?_
      simp only [put_lit, put_non, List.set_cons_zero, List.set_cons_succ]
      refine wkS_take (some 107) (.int .i64 2) (by kernel_rfl) (by kernel_rfl) (by kernel_rfl) (fun W hS => by kernel_rfl) ?_
      simp only [put_lit, put_non, List.set_cons_zero, List.set_cons_succ]
      refine wkS_take (some 108) (.bool false) (by kernel_rfl) (by kernel_rfl) (by kernel_rfl) (fun W hS => by kernel_rfl) ?_
      simp only [put_lit, put_non, List.set_cons_zero, List.set_cons_succ]
      refine wkS_take (some 109) (.bool false) (by kernel_rfl) (by kernel_rfl) (by kernel_rfl) (fun W hS => by kernel_rfl) ?_
      simp only [put_lit, put_non, List.set_cons_zero, List.set_cons_succ]
      refine wkS_take (some 110) (.bool true) (by kernel_rfl) (by kernel_rfl) (by kernel_rfl) (fun W hS => by kernel_rfl) ?_
      simp only [put_lit, put_non, List.set_cons_zero, List.set_cons_succ]
      refine wkS_take (some 111) (.bool true) (by kernel_rfl) (by kernel_rfl) (by kernel_rfl) (fun W hS => by kernel_rfl) ?_
      simp only [put_lit, put_non, List.set_cons_zero, List.set_cons_succ]
      refine wkS_take (some 112) (.bool true) (by kernel_rfl) (by kernel_rfl) (by kernel_rfl) (fun W hS => by kernel_rfl) ?_
      simp only [put_lit, put_non, List.set_cons_zero, List.set_cons_succ]
      refine wkS_take (some 113) (.bool false) (by kernel_rfl) (by kernel_rfl) (by kernel_rfl) (fun W hS => by kernel_rfl) ?_
      simp only [put_lit, put_non, List.set_cons_zero, List.set_cons_succ]
      refine wkS_take (some 114) (.bool false) (by kernel_rfl) (by kernel_rfl) (by kernel_rfl) (fun W hS => by kernel_rfl) ?_
      simp only [put_lit, put_non, List.set_cons_zero, List.set_cons_succ]
      refine wkS_take (some 115) (.int .i64 2) (by kernel_rfl) (by kernel_rfl) (by kernel_rfl) (fun W hS => by kernel_rfl) ?_
      simp only [put_lit, put_non, List.set_cons_zero, List.set_cons_succ]
      refine wkS_take (some 116) (.bool true) (by kernel_rfl) (by kernel_rfl) (by kernel_rfl) (fun W hS => by kernel_rfl) ?_
      simp only [put_lit, put_non, List.set_cons_zero, List.set_cons_succ]
      refine wkS_take (some 117) (.bool true) (by kernel_rfl) (by kernel_rfl) (by kernel_rfl) (fun W hS => by kernel_rfl) ?_
      simp only [put_lit, put_non, List.set_cons_zero, List.set_cons_succ]
      refine wkS_take (some 118) (.bool true) (by kernel_rfl) (by kernel_rfl) (by kernel_rfl) (fun W hS => by kernel_rfl) ?_
      simp only [put_lit, put_non, List.set_cons_zero, List.set_cons_succ]
      refine wkS_take (some 119) (.bool true) (by kernel_rfl) (by kernel_rfl) (by kernel_rfl) (fun W hS => by kernel_rfl) ?_
      simp only [put_lit, put_non, List.set_cons_zero, List.set_cons_succ]
      refine wkS_call (some 120) 25 #[] (by kernel_rfl) (by kernel_rfl) (by kernel_rfl) (fun w => (by kernel_rfl)) ?_
      refine (known8_c (HS.out.below (below_then BW.out Z6.out))).mono ?_
      rintro e z7 ⟨rfl, hB⟩
      have Z7 := Lib.hid (below_then Z6.out hB)
      clear hB
      refine ⟨_, rfl, Z7.out, ?_⟩
      simp only [put_lit, put_non, List.set_cons_zero, List.set_cons_succ]
      refine wkS_take (some 121) (.bool true) (by kernel_rfl) (by kernel_rfl) (by kernel_rfl) (fun W hS => by kernel_rfl) ?_
      simp only [put_lit, put_non, List.set_cons_zero, List.set_cons_succ]
      refine wkS_take (some 8) (.bool true) (by kernel_rfl) (by kernel_rfl) (by kernel_rfl) (fun W hS => by kernel_rfl) ?_
      simp only [put_lit, put_non, List.set_cons_zero, List.set_cons_succ]
      refine wkS_done ?_
      go_wp2_with fail
      go_ret
      exact ⟨rfl, below_then BW.out Z7.out⟩
end Go.Proofs.YtpbkmkcfhkdjjaaDoor

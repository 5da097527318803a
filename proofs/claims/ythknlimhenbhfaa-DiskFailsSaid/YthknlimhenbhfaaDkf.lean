/- The walk of DiskFails. -/
import Derived.Test.YthknlimhenbhfaaDkj
namespace Go.Proofs.Ythknlimhenbhfaa
set_option linter.unusedSimpArgs false
open Go.RowKit Dig
set_option linter.unusedVariables false
section
variable {D : World → Nat → DS → Prop} {fp : World → Nat → Nat → Prop} {w : World} {v : Value} {ts : List UInt8} {n : Nat}
set_option maxRecDepth 20000 in
set_option maxHeartbeats 8000000 in
theorem fails_walk (P : Prog6 D fp) (hn : n < 256) (hv : Byt w v ts) : Calls Try.prog 7 #[.int .u8 (n : Int), v] w (RVal w (.bool true)) := by
  have kc := fun (w : World) (C : Array Value) (n c : Nat) => Lib.run_convert_bytes_const (P := Try.prog) w 32 5 C n c Try.underlying32 Try.underlying5
  have HV := Lib.hid hv
  have hP := Lib.hid P
  obtain ⟨A, c, rfl⟩ := hv.form
  by_cases h64 : 64 < ts.length
  · have h65 : (ts.length : Int) > 64 := by omega
    clear hv P HV hP hn h64 kc
    go_enter Try.func7, Try.ntmps7
    go_wp2_with fail
    go_ret
    exact ⟨rfl, Below.refl _ _⟩
  · have h65 : ¬ (ts.length : Int) > 64 := by omega
    have HT := Lib.hid (show ts.length ≤ 64 by omega)
    have a1 := kind8 hn
    obtain ⟨k, ek⟩ : ∃ k, n % 8 = k := ⟨_, rfl⟩
    have hk : k ≤ 7 := by omega
    have hk7 := Lib.hid hk
    rw [ek] at a1
    have hk8 : (k : Int) ≤ 7 := by omega
    clear hv P hn h64 ek
    go_enter Try.func7, Try.ntmps7
    go_wp2_with fail
    refine (hP.out.new w 8 (by omega) (by omega)).mono ?_
    rintro e w1 ⟨g, rfl, hD, hB1, hF⟩
    have O1 := Lib.hid (show One D fp w1 w.heap.size g (newS 8) from ⟨hD, hF⟩)
    have B1 := Lib.hid hB1
    clear hD hF hB1
    go_wp2_with fail
    refine (hP.out.failAfter O1.out.1 (k : Int) (by omega) (by omega)).mono ?_
    rw [fs_start k ts]
    rintro e w2 hd
    obtain ⟨rfl, hO, hB⟩ := O1.out.prog B1.out.size hd
    have O2 := Lib.hid hO
    have B2 := Lib.hid (B1.out.trans hB)
    clear hd hO hB O1 B1
    go_wp2_with fail
    go_loopw [8] (fun i wr => ∃ j : Nat, j ≤ k ∧ i = .int .i64 j ∧ One D fp wr w.heap.size g (fs k j ts) ∧ Below w.heap.size w wr) (fun i _ => k - (intOf i).toNat)
    case atStart => exact ⟨0, Nat.zero_le _, rfl, O2.out, B2.out⟩
    case round =>
      obtain ⟨j, hj, rfl, hO, hB⟩ := hrel
      have OR := Lib.hid hO
      have BR := Lib.hid hB
      clear hO hB O2 B2
      by_cases hjk : j < k
      · have HI : (j : Int) < k := by omega
        have C1 := hP.out.write OR.out.1 (fs_few (by omega)) (j : Int) _ ts (HV.out.below BR.out) (by have := HT.out; omega) (fun hp b hb hF => by have h1 := HV.out.low hp b hb; have h2 := OR.out.2 b hF; omega)
        rw [fs_write hjk hk HT.out] at C1
        have C1 := Lib.hid C1
        go_wp2_with fail
        refine (C1.out).mono ?_
        rintro e w3 hd
        obtain ⟨rfl, hO, hB⟩ := OR.out.prog BR.out.size hd
        have O3 := Lib.hid (show One D fp w3 w.heap.size g (fs k (j + 1) ts) from hO)
        have B3 := Lib.hid (BR.out.trans hB)
        clear hd hO hB OR BR C1
        have C2 := hP.out.write O3.out.1 (fs_few (by omega)) 99 _ ts (HV.out.below B3.out) (by have := HT.out; omega) (fun hp b hb hF => by have h1 := HV.out.low hp b hb; have h2 := O3.out.2 b hF; omega)
        rw [fs_range] at C2
        have C2 := Lib.hid C2
        go_wp2_with fail
        refine (C2.out).mono ?_
        rintro e w4 hd
        obtain ⟨rfl, hO, hB⟩ := O3.out.prog B3.out.size hd
        have O4 := Lib.hid (show One D fp w4 w.heap.size g (fs k (j + 1) ts) from hO)
        have B4 := Lib.hid (B3.out.trans hB)
        clear hd hO hB O3 B3 C2
        go_wp2_with fail
        go_roundw
        case rel => exact ⟨j + 1, by omega, by go_num, O4.out, B4.out⟩
        case measure => simp [intOf]; omega
      · have HI : ¬ (j : Int) < k := by omega
        obtain rfl : k = j := by omega
        generalize wr = w4 at *
        clear hj hjk
        go_wp2_with fail
        have hBa : Below w4.heap.size w4 (w4.alloc (.cells #[.int .u8 108, .int .u8 111, .int .u8 115, .int .u8 116] 5 (4, 5))) := (Below.refl _ _).alloc (Nat.le_refl _) _
        have OL := Lib.hid (OR.out.below hP.out hBa)
        have BL := Lib.hid (below_then BR.out hBa)
        have C := hP.out.write OL.out.1 (fs_few hk) 7 _ [108, 111, 115, 116] (byt_lit6 w4 [108, 111, 115, 116] 4 #[.int .u8 108, .int .u8 111, .int .u8 115, .int .u8 116] (4, 5) rfl rfl (by omega)) (by decide) (fun _ b e hF => by
          obtain rfl : w4.heap.size = b := by simpa [Value.ownBlock] using e
          exact OR.out.apart hP.out hBa (Nat.le_refl _) hF)
        rw [fs_lost] at C
        refine C.mono ?_
        rintro e w5 hd
        obtain ⟨rfl, hO, hB⟩ := OL.out.prog BL.out.size hd
        have O5 := Lib.hid (show One D fp w5 w.heap.size g (ft k ts) from hO)
        have B5 := Lib.hid (BL.out.trans hB)
        clear hd hO hB C OL BL OR BR hBa kc
        have C := hP.out.online O5.out.1
        rw [show (ft k ts).off = true from rfl] at C
        have C := Lib.hid C
        go_wp2_with fail
        refine (C.out).mono ?_
        rintro e w6 ⟨rfl, hB⟩
        have O6 := Lib.hid (O5.out.below hP.out hB)
        have B6 := Lib.hid (below_then B5.out hB)
        clear hB C O5 B5
        have C := hP.out.pending O6.out.1
        rw [ft_pend] at C
        have C := Lib.hid C
        go_wp2_with fail
        refine (C.out).mono ?_
        rintro e w7 ⟨rfl, hB⟩
        have O7 := Lib.hid (O6.out.below hP.out hB)
        have B7 := Lib.hid (below_then B6.out hB)
        clear hB C O6 B6
        have C := hP.out.flush O7.out.1 (ft_few hk)
        rw [ft_flush] at C
        have C := Lib.hid C
        go_wp2_with fail
        refine (C.out).mono ?_
        rintro e w8 hd
        obtain ⟨rfl, hO, hB⟩ := O7.out.prog B7.out.size hd
        have O8 := Lib.hid (show One D fp w8 w.heap.size g (ft k ts) from hO)
        have B8 := Lib.hid (B7.out.trans hB)
        clear hd hO hB C O7 B7
        have C := Lib.hid (hP.out.power O8.out.1)
        go_wp2_with fail
        refine (C.out).mono ?_
        rintro e w9 hd
        obtain ⟨rfl, hO, hB⟩ := O8.out.prog B8.out.size hd
        have O9 := Lib.hid (show One D fp w9 w.heap.size g (fu k ts) from hO)
        have B9 := Lib.hid (B8.out.trans hB)
        clear hd hO hB C O8 B8
        have C := hP.out.read O9.out.1 (fu_few hk) 7
        rw [fu_read hk] at C
        have C := Lib.hid C
        go_wp2_with fail
        refine (C.out).mono ?_
        rintro e w10 ⟨r, rfl, hr, hB⟩
        have AR := Lib.hid (Asd.own hP.out O9.out.1 hB hr)
        have OR := Lib.hid (O9.out.below hP.out hB)
        have SR := Lib.hid (show Byt w10 r (List.replicate 64 0) ∧ Below w.heap.size w w10 from ⟨hr.byt, below_then B9.out hB⟩)
        clear hB hr C O9 B9
        go_wp2_with fail
        have hdw : Below w10.heap.size w10 w10.drew := (Below.refl _ _).drew
        have AZ := Lib.hid (AR.out.below hP.out OR.out.1 hdw)
        have OZ := Lib.hid (OR.out.below hP.out hdw)
        have SZ := Lib.hid (show Byt w10.drew r (List.replicate 64 0) ∧ Below w.heap.size w w10.drew from ⟨SR.out.1.below hdw, below_then SR.out.2 hdw⟩)
        clear hdw AR OR SR
        refine wp_region_plan (S := fun W => Byt W r (List.replicate 64 0) ∧ Below w.heap.size w W) [(0, true), (1, true), (2, true), (3, true), (4, true), (5, false), (6, false), (7, true), (8, true), (9, true), (10, true), (12, true), (11, false), (13, true), (14, true), (15, true), (16, true), (17, true), (18, false), (19, true), (20, true), (21, true), (22, true), (23, false), (24, true), (25, true), (26, true), (27, false), (28, true), (29, true)] (by kernel_rfl) (by kernel_rfl) (by kernel_rfl) (by kernel_rfl) (fun _ _ d _ _ h => by cases d <;> exact h) SZ.out ?_
        generalize w10.drew = u0 at *
        refine wkS_take (some 73) (.int .i64 0) (by kernel_rfl) (by kernel_rfl) (by kernel_rfl) (fun W hS => by kernel_rfl) ?_
        simp only [put_lit, put_non, List.set_cons_zero, List.set_cons_succ]
        refine wkS_take (some 74) (.bool true) (by kernel_rfl) (by kernel_rfl) (by kernel_rfl) (fun W hS => by kernel_rfl) ?_
        simp only [put_lit, put_non, List.set_cons_zero, List.set_cons_succ]
        refine wkS_take (some 75) (.bool true) (by kernel_rfl) (by kernel_rfl) (by kernel_rfl) (fun W hS => by kernel_rfl) ?_
        simp only [put_lit, put_non, List.set_cons_zero, List.set_cons_succ]
        refine wkS_take (some 76) (r) (by kernel_rfl) (by kernel_rfl) (by kernel_rfl) (fun W hS => by kernel_rfl) ?_
        simp only [put_lit, put_non, List.set_cons_zero, List.set_cons_succ]
        refine wkS_take (some 77) (.string ⟨(List.replicate 64 (0 : UInt8)).toArray⟩) (by kernel_rfl) (by kernel_rfl) (by kernel_rfl) (fun W hS => exec_strB 76 hS.1 (by kernel_rfl) (by kernel_rfl)) ?_
        simp only [put_lit, put_non, List.set_cons_zero, List.set_cons_succ]
        obtain ⟨um, hrun, hbm, hB⟩ := make64 u0
        have hbm := Lib.hid hbm
        have OA := Lib.hid (OZ.out.below hP.out hB)
        have AA := Lib.hid (AZ.out.below hP.out OZ.out.1 hB)
        have SA := Lib.hid (show Byt um r (List.replicate 64 0) ∧ Below w.heap.size w um from ⟨SZ.out.1.below hB, below_then SZ.out.2 hB⟩)
        refine wkS_doW (some 78) (.slice (some ⟨u0.heap.size, 0, none⟩) 64 64) (by kernel_rfl) (by kernel_rfl) (by kernel_rfl) (hrun _ _ (by kernel_rfl) (by kernel_rfl)) SA.out ?_
        clear hrun hB
        simp only [put_lit, put_non, List.set_cons_zero, List.set_cons_succ]
        refine wkS_do (some 79) (.string ⟨(List.replicate 64 (0 : UInt8)).toArray⟩) (by kernel_rfl) (by kernel_rfl) (by kernel_rfl) (exec_strB 78 hbm.out (by kernel_rfl) (by kernel_rfl)) SA.out ?_
        simp only [put_lit, put_non, List.set_cons_zero, List.set_cons_succ]
        refine wkS_take (some 80) (.bool true) (by kernel_rfl) (by kernel_rfl) (by kernel_rfl) (fun W hS => exec_eqStr 77 79 ⟨(List.replicate 64 (0 : UInt8)).toArray⟩ (by kernel_rfl) (by kernel_rfl) (by kernel_rfl)) ?_
        simp only [put_lit, put_non, List.set_cons_zero, List.set_cons_succ]
        refine wkS_take (some 81) (.bool true) (by kernel_rfl) (by kernel_rfl) (by kernel_rfl) (fun W hS => by kernel_rfl) ?_
        simp only [put_lit, put_non, List.set_cons_zero, List.set_cons_succ]
        refine wkS_take (some 82) (.bool true) (by kernel_rfl) (by kernel_rfl) (by kernel_rfl) (fun W hS => by kernel_rfl) ?_
        simp only [put_lit, put_non, List.set_cons_zero, List.set_cons_succ]
        refine wkS_take (some 83) (.pointer (some ⟨g, 0, none⟩)) (by kernel_rfl) (by kernel_rfl) (by kernel_rfl) (fun W hS => by kernel_rfl) ?_
        simp only [put_lit, put_non, List.set_cons_zero, List.set_cons_succ]
        refine wkS_take (some 85) (.int .i64 (k : Int)) (by kernel_rfl) (by kernel_rfl) (by kernel_rfl) (fun W hS => by kernel_rfl) ?_
        simp only [put_lit, put_non, List.set_cons_zero, List.set_cons_succ]
        refine wkS_call (some 84) 22 #[.pointer (some ⟨g, 0, none⟩)] (by kernel_rfl) (by kernel_rfl) (by kernel_rfl) (fun w => (by kernel_rfl)) ?_
        have C := hP.out.pending OA.out.1
        rw [fu_pend] at C
        refine C.mono ?_
        rintro e u1 ⟨rfl, hB⟩
        have O1 := Lib.hid (OA.out.below hP.out hB)
        have A1 := Lib.hid (AA.out.below hP.out OA.out.1 hB)
        have S1 := Lib.hid (show Byt u1 r (List.replicate 64 0) ∧ Below w.heap.size w u1 from ⟨SA.out.1.below hB, below_then SA.out.2 hB⟩)
        refine ⟨.int .i64 (k : Int), rfl, S1.out, ?_⟩
        clear hB C
        simp only [put_lit, put_non, List.set_cons_zero, List.set_cons_succ]
        refine wkS_take (some 86) (.bool true) (by kernel_rfl) (by kernel_rfl) (by kernel_rfl) (fun W hS => exec_eqInt (T := 3) (T' := 3) (k := .i64) 84 85 (k : Int) (by kernel_rfl) (by kernel_rfl) (by kernel_rfl)) ?_
        simp only [put_lit, put_non, List.set_cons_zero, List.set_cons_succ]
        refine wkS_take (some 87) (.bool true) (by kernel_rfl) (by kernel_rfl) (by kernel_rfl) (fun W hS => by kernel_rfl) ?_
        simp only [put_lit, put_non, List.set_cons_zero, List.set_cons_succ]
        refine wkS_take (some 88) (.bool true) (by kernel_rfl) (by kernel_rfl) (by kernel_rfl) (fun W hS => by kernel_rfl) ?_
        simp only [put_lit, put_non, List.set_cons_zero, List.set_cons_succ]
        refine wkS_take (some 89) (.pointer (some ⟨g, 0, none⟩)) (by kernel_rfl) (by kernel_rfl) (by kernel_rfl) (fun W hS => by kernel_rfl) ?_
        simp only [put_lit, put_non, List.set_cons_zero, List.set_cons_succ]
        refine wkS_take (some 90) (.slice A ts.length c) (by kernel_rfl) (by kernel_rfl) (by kernel_rfl) (fun W hS => by kernel_rfl) ?_
        simp only [put_lit, put_non, List.set_cons_zero, List.set_cons_succ]
        have C := hP.out.write O1.out.1 (fu_few hk7.out) 7 _ ts (HV.out.below S1.out.2) (by have := HT.out; omega) (fun hp b hb hF => by have h1 := HV.out.low hp b hb; have h2 := O1.out.2 b hF; omega)
        rw [fu_write HT.out] at C
        refine wkS_call (some 91) 17 #[.pointer (some ⟨g, 0, none⟩), .int .i64 7, .slice A ts.length c] (by kernel_rfl) (by kernel_rfl) (by kernel_rfl) (fun w => (by kernel_rfl)) ?_
        refine C.mono ?_
        rintro e u2 hd
        have A2 := Lib.hid (A1.out.prog hd)
        have hby := S1.out.1.aside A1.out hd
        obtain ⟨rfl, hO, hB⟩ := O1.out.prog S1.out.2.size hd
        have O2 := Lib.hid (show One D fp u2 w.heap.size g (fv k ts) from hO)
        have S2 := Lib.hid (show Byt u2 r (List.replicate 64 0) ∧ Below w.heap.size w u2 from ⟨hby, S1.out.2.trans hB⟩)
        refine ⟨.int .i64 0, rfl, S2.out, ?_⟩
        clear hB C hd hby hO
        simp only [put_lit, put_non, List.set_cons_zero, List.set_cons_succ]
        refine wkS_take (some 92) (.bool true) (by kernel_rfl) (by kernel_rfl) (by kernel_rfl) (fun W hS => by kernel_rfl) ?_
        simp only [put_lit, put_non, List.set_cons_zero, List.set_cons_succ]
        refine wkS_take (some 93) (.bool true) (by kernel_rfl) (by kernel_rfl) (by kernel_rfl) (fun W hS => by kernel_rfl) ?_
        simp only [put_lit, put_non, List.set_cons_zero, List.set_cons_succ]
        refine wkS_take (some 94) (.bool true) (by kernel_rfl) (by kernel_rfl) (by kernel_rfl) (fun W hS => by kernel_rfl) ?_
        simp only [put_lit, put_non, List.set_cons_zero, List.set_cons_succ]
        refine wkS_take (some 95) (.pointer (some ⟨g, 0, none⟩)) (by kernel_rfl) (by kernel_rfl) (by kernel_rfl) (fun W hS => by kernel_rfl) ?_
        simp only [put_lit, put_non, List.set_cons_zero, List.set_cons_succ]
        have C := hP.out.flush O2.out.1 (fv_few hk7.out)
        rw [fv_flush] at C
        refine wkS_call (some 96) 19 #[.pointer (some ⟨g, 0, none⟩)] (by kernel_rfl) (by kernel_rfl) (by kernel_rfl) (fun w => (by kernel_rfl)) ?_
        refine C.mono ?_
        rintro e u3 hd
        have A3 := Lib.hid (A2.out.prog hd)
        have hby := S2.out.1.aside A2.out hd
        obtain ⟨rfl, hO, hB⟩ := O2.out.prog S2.out.2.size hd
        have O3 := Lib.hid (show One D fp u3 w.heap.size g ((flushS (fv k ts)).2) from hO)
        have S3 := Lib.hid (show Byt u3 r (List.replicate 64 0) ∧ Below w.heap.size w u3 from ⟨hby, S2.out.2.trans hB⟩)
        refine ⟨.int .i64 0, rfl, S3.out, ?_⟩
        clear hB C hd hby hO
        simp only [put_lit, put_non, List.set_cons_zero, List.set_cons_succ]
        refine wkS_take (some 97) (.bool true) (by kernel_rfl) (by kernel_rfl) (by kernel_rfl) (fun W hS => by kernel_rfl) ?_
        simp only [put_lit, put_non, List.set_cons_zero, List.set_cons_succ]
        refine wkS_take (some 98) (.bool true) (by kernel_rfl) (by kernel_rfl) (by kernel_rfl) (fun W hS => by kernel_rfl) ?_
        simp only [put_lit, put_non, List.set_cons_zero, List.set_cons_succ]
        refine wkS_take (some 99) (.bool true) (by kernel_rfl) (by kernel_rfl) (by kernel_rfl) (fun W hS => by kernel_rfl) ?_
        simp only [put_lit, put_non, List.set_cons_zero, List.set_cons_succ]
        refine wkS_call (some 100) 14 #[] (by kernel_rfl) (by kernel_rfl) (by kernel_rfl) (fun w => (by kernel_rfl)) ?_
        refine (known6_c hP.out _).mono ?_
        rintro e u4 ⟨rfl, hB⟩
        have S4 := Lib.hid (show Byt u4 r (List.replicate 64 0) ∧ Below w.heap.size w u4 from ⟨S3.out.1.below hB, below_then S3.out.2 hB⟩)
        refine ⟨.bool true, rfl, S4.out, ?_⟩
        clear hB
        simp only [put_lit, put_non, List.set_cons_zero, List.set_cons_succ]
        refine wkS_take (some 101) (.bool true) (by kernel_rfl) (by kernel_rfl) (by kernel_rfl) (fun W hS => by kernel_rfl) ?_
        simp only [put_lit, put_non, List.set_cons_zero, List.set_cons_succ]
        refine wkS_take (some 4) (.bool true) (by kernel_rfl) (by kernel_rfl) (by kernel_rfl) (fun W hS => by kernel_rfl) ?_
        simp only [put_lit, put_non, List.set_cons_zero, List.set_cons_succ]
        refine wkS_done ?_
        go_wp2_with fail
        go_ret
        exact ⟨rfl, S4.out.2⟩
end
end Go.Proofs.Ythknlimhenbhfaa

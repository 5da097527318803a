/- The walk of CodecRoundTrip. -/
import Derived.Test.YtkdnmmbnljaahaaLw4
namespace Go.Proofs.Ytkdnmmbnljaahaa
set_option linter.unusedSimpArgs false
open Go.RowKit Dig
set_option linter.unusedVariables false

section
variable {w : World} {ops : Array Oper} {rest : List Oper} {o : Oper} {a : Act} {Q : Exit → Act → World → Prop}
/-- A literal of two bytes. -/
theorem wp_lit99 (hg : o.guard = none) (ho : o.op = .buildSlice 23 2 #[(0, .const (.int .u8 9)), (1, .const (.int .u8 9))])
    (h : ∀ w', LetB w' w.heap.size [9, 9] → Below w.heap.size w w' → wpList Try.prog ops Q rest (a.put o.dst (.slice (some ⟨w.heap.size, 0, none⟩) 2 2)) w') :
    wpList Try.prog ops Q (o :: rest) a w := by
  obtain ⟨i0, hi, hz0, hz1, hz2⟩ := info_parts info_byte
  refine wpList_plain hg fun K hK => ?_
  unfold Oper.wp execOp
  have hr : (Instr.buildSlice 23 2 #[(0, Value.int .u8 9), (1, Value.int .u8 9)]).run Try.prog w = .ok (.slice (some ⟨w.heap.size, 0, none⟩) 2 2) (w.alloc (.cells #[.int .u8 9, .int .u8 9] 5)) := by
    simp [Instr.buildSlice, run_underlying Try.underlying23, sizeOf, typeInfo, hi, newRow, Instr.fill, hz1]
    rw [show (Value.int .u8 9).cells = #[Value.int .u8 9] from rfl, show (Array.range 2) = #[0, 1] from rfl]
    simp
  have e1 : a.eval (.const (.int .u8 9)) = .int .u8 9 := rfl
  simp only [ho, Sem.run_bind, List.map_toArray, List.map_cons, List.map_nil, e1, hr, Result.andThen_ok]
  refine hK _ _ (h _ ?_ ((Below.refl _ _).alloc (Nat.le_refl _) _))
  unfold LetB
  rw [heap_alloc_new]
  simp [Y]
end
section
variable {w : World} {vb vx vy : Value} {ts : List UInt8} {xs ys : List Nat}
theorem round_big (n : Int) (neg : Bool) (hb : Byt w vb ts) (hx : Num w vx xs) (hy : Num w vy ys) (h : 300 < ts.length ∨ 5 < xs.length ∨ 5 < ys.length) :
    Calls Try.prog 6 #[.int .u64 n, vb, vx, .bool neg, vy] w (RVal w (.bool true)) := by
  obtain ⟨B, bc, rfl⟩ := hb.form
  obtain ⟨A, c, rfl⟩ := hx.form
  obtain ⟨A', c', rfl⟩ := hy.form
  generalize ts.length = l0 at *
  generalize xs.length = l1 at *
  generalize ys.length = l2 at *
  clear hb hx hy
  by_cases h0 : 300 < l0
  · have h0i : (300 : Int) < l0 := by omega
    clear h h0
    go_enter Try.func6, Try.ntmps6
    go_wp2_with fail
    go_ret
    exact ⟨rfl, Below.refl _ _⟩
  · have h0i : ¬ (300 : Int) < l0 := by omega
    by_cases h1 : 5 < l1
    · have h1i : (5 : Int) < l1 := by omega
      clear h h0 h1
      go_enter Try.func6, Try.ntmps6
      go_wp2_with fail
      go_ret
      exact ⟨rfl, Below.refl _ _⟩
    · have h1i : ¬ (5 : Int) < l1 := by omega
      have h2i : (5 : Int) < l2 := by omega
      clear h h0 h1
      go_enter Try.func6, Try.ntmps6
      go_wp2_with fail
      go_ret
      exact ⟨rfl, Below.refl _ _⟩
theorem whole_enc {n : Nat} {ts : List UInt8} {N : Nat} {q : Rat} (hn : n < 18446744073709551616) (ht : ts.length ≤ 1000000) (hN : (beB N).length ≤ 32) (h1 : (beB q.num.natAbs).length ≤ 32) (h2 : (beB q.den).length ≤ 32) :
    let W := encU n ++ encB ts ++ encN N ++ encQ (decide (q.num < 0)) q.num.natAbs q.den ++ [9, 9]
    let s1 : RS := (uintS n (W, 0)).2
    let s2 : RS := (bytesS ts.length s1).2
    let s3 : RS := (natS s2).2
    (uintS n (W, 0)).1 = n ∧ (bytesS ts.length s1).1 = ts ∧ (natS s2).1 = N ∧ fracS canonN s3 = (some (decide (q.num < 0), q.num.natAbs, q.den), ([9, 9], 0)) ∧ s1.1.length ≤ W.length ∧ s2.1.length ≤ W.length ∧ s3.1.length ≤ W.length := by
  intro W s1 s2 s3
  have e1 : uintS n (W, 0) = (n, (encB ts ++ (encN N ++ (encQ (decide (q.num < 0)) q.num.natAbs q.den ++ [9, 9])), 0)) := by
    show uintS n (encU n ++ encB ts ++ encN N ++ encQ (decide (q.num < 0)) q.num.natAbs q.den ++ [9, 9], 0) = _
    rw [List.append_assoc, List.append_assoc, List.append_assoc, uintS_enc _ (Nat.le_refl _) hn]
  have e2 : bytesS ts.length s1 = (ts, (encN N ++ (encQ (decide (q.num < 0)) q.num.natAbs q.den ++ [9, 9]), 0)) := by
    show bytesS ts.length (uintS n (W, 0)).2 = _
    rw [e1]
    exact bytesS_enc _ _ (Nat.le_refl _) (by omega)
  have e3 : natS s2 = (N, (encQ (decide (q.num < 0)) q.num.natAbs q.den ++ [9, 9], 0)) := by
    show natS (bytesS ts.length s1).2 = _
    rw [e2]
    exact natS_enc _ (by omega)
  have e4 : fracS canonN s3 = (some (decide (q.num < 0), q.num.natAbs, q.den), ([9, 9], 0)) := by
    show fracS canonN (natS s2).2 = _
    rw [e3]
    exact fracS_enc _ (by omega) (by omega) (canon_parts q)
  have l0 : W.length = (encU n).length + (encB ts).length + (encN N).length + (encQ (decide (q.num < 0)) q.num.natAbs q.den).length + 2 := by
    show (encU n ++ encB ts ++ encN N ++ encQ (decide (q.num < 0)) q.num.natAbs q.den ++ [9, 9]).length = _
    simp only [List.length_append, List.length_cons, List.length_nil]
  refine ⟨by rw [e1], by rw [e2], by rw [e3], e4, ?_, ?_, ?_⟩
  · show (uintS n (W, 0)).2.1.length ≤ _
    rw [e1, l0]
    simp only [List.length_append, List.length_cons, List.length_nil]
    omega
  · show (bytesS ts.length s1).2.1.length ≤ _
    rw [e2, l0]
    simp only [List.length_append, List.length_cons, List.length_nil]
    omega
  · show (natS s2).2.1.length ≤ _
    rw [e3, l0]
    simp only [List.length_append, List.length_cons, List.length_nil]
    omega
set_option maxRecDepth 20000 in
set_option maxHeartbeats 16000000 in
theorem round_small (n : Nat) (hn : n < 18446744073709551616) (neg : Bool) (hb : Byt w vb ts) (hx : Num w vx xs) (hy : Num w vy ys) (h0 : ts.length ≤ 300) (h1 : xs.length ≤ 5) (h2 : ys.length ≤ 5) :
    Calls Try.prog 6 #[.int .u64 (n : Int), vb, vx, .bool neg, vy] w (RVal w (.bool true)) := by
  have BX := Lib.hid (base_c w _ xs hx)
  have FR := Lib.hid (fun w1 (hB : Below w.heap.size w w1) => frac4_c neg (hx.below hB) (hy.below hB))
  have HB := Lib.hid hb
  have hsx := hx.small
  have hsy := hy.small
  obtain ⟨m1, m2⟩ := mkn_short neg xs ys hsx hsy
  have m3 : (beB (val (mkn xs))).length ≤ 32 := beB_short (mkn_lt xs hsx)
  have hLu := encU_ten hn
  have hLb := encU_ten (n := ts.length) (by omega)
  have hLe : (encB ts).length ≤ 310 := by unfold encB; rw [List.length_append]; omega
  obtain ⟨B, bc, rfl⟩ := hb.form
  obtain ⟨A, c, rfl⟩ := hx.form
  obtain ⟨A', c', rfl⟩ := hy.form
  have h0i : ¬ (300 : Int) < ts.length := by omega
  have h1i : ¬ (5 : Int) < xs.length := by omega
  have h2i : ¬ (5 : Int) < ys.length := by omega
  have HT := Lib.hid h0
  have HN := Lib.hid hn
  clear hb hx hy h1 h2 hsx hsy
  generalize hl1 : xs.length = l1 at *
  generalize hl2 : ys.length = l2 at *
  clear hl1 hl2
  obtain ⟨bl, hbl⟩ : ∃ bl, ts.length = bl := ⟨_, rfl⟩
  rw [hbl] at h0i HB
  have HBL := Lib.hid hbl
  rw [hbl]
  clear h0 hn hLb hbl
  go_enter Try.func6, Try.ntmps6
  go_wp2_with fail
  refine (BX.out).mono ?_
  rintro e w1 ⟨r1, rfl, hr1, hB1⟩
  go_wp2_with fail
  refine (FR.out _ hB1).mono ?_
  rintro e w2 ⟨v, rfl, hv, hB2⟩
  obtain ⟨vn, vd, rfl, hv1, hv2⟩ := hv
  obtain ⟨X, xc, rfl⟩ := hr1.num.form
  obtain ⟨Y, yc, rfl⟩ := hv1.form
  obtain ⟨Z, zc, rfl⟩ := hv2.form
  have hBa : Below w2.heap.size w2 (w2.alloc (.cells #[.bool neg, .slice Y (mkn xs).length yc, .slice Z (mkn ys).length zc] 28)) := (Below.refl _ _).alloc (Nat.le_refl _) _
  have FA := Fcl.new w2 neg (.slice Y (mkn xs).length yc) (.slice Z (mkn ys).length zc)
  have FV := (FracV.of (neg := neg) ⟨_, hv1, rfl, mkn_length xs⟩ ⟨_, hv2, rfl, mkn_length ys⟩).below hBa
  have HA := (hr1.num.below hB2).below hBa
  have HBB := Lib.hid (below_then (below_then hB1 hB2) hBa)
  have HB := HB.out.below HBB.out
  have hml := mkn_length xs
  have hNN : NumV (w2.alloc (.cells #[.bool neg, .slice Y (mkn xs).length yc, .slice Z (mkn ys).length zc] 28)) (.slice X (mkn xs).length xc) (val (mkn xs)) 8 := ⟨_, HA, rfl, hml⟩
  clear hBa HA
  generalize hxl : (mkn xs).length = yl at FA FV HBB HB hNN hml ⊢
  generalize hyl : (mkn ys).length = zl at FA FV HBB HB hNN ⊢
  generalize hq : fr neg (val (mkn xs)) (val (mkn ys)) = q0 at FV m1 m2
  generalize hNv : val (mkn xs) = N at hNN m3
  clear hv1 hv2 hr1 hB1 hB2 BX FR hq hxl hyl hml hNv
  have hLq := encQ_short (neg := decide (q0.num < 0)) m1 m2
  have hLn := encN_short m3
  have HLs := Lib.hid (show (encU n).length ≤ 10 ∧ (encB ts).length ≤ 310 ∧ (encN N).length ≤ 42 ∧ (encQ (decide (q0.num < 0)) q0.num.natAbs q0.den).length ≤ 85 from ⟨hLu, hLe, hLn, hLq⟩)
  have WE := Lib.hid (whole_enc (n := n) (ts := ts) (N := N) (q := q0) HN.out (by have := HT.out; omega) m3 m1 m2)
  clear hLu hLe hLn hLq m1 m2 m3
  go_wp2_with fail
  generalize w2.alloc (.cells #[.bool neg, .slice Y yl yc, .slice Z zl zc] 28) = w3 at *
  generalize w2.heap.size = ga at *
  have hK : Below w3.heap.size w3 w3.drew := (Below.refl _ _).drew
  have HFA := Lib.hid FA
  have HFV := Lib.hid FV
  have HNN := Lib.hid hNN
  have HB := Lib.hid HB
  have EU := Lib.hid (fun w1 => encUint_c w1 n HN.out)
  have EB := Lib.hid (fun w1 (h : Below w3.heap.size w3 w1) => encBytes_c (HB.out.below h) (by have := HT.out; omega))
  have EN := Lib.hid (fun w1 (h : Below w3.heap.size w3 w1) => show Calls Try.prog 15 #[.slice X yl xc] w1 (RByt w1 (encN N)) from by
    obtain ⟨L, hL, hv, hl⟩ := HNN.out
    rw [← hv]
    exact encNat_c (hL.below h) (by omega))
  have EQ := Lib.hid (fun w1 (h : Below w3.heap.size w3 w1) => encFrac_c (HFV.out.below h) (by omega) (by omega))
  have NN := Lib.hid (fun w1 (h : Below w3.heap.size w3 w1) => natNorm_v (HNN.out.below h) (by omega))
  have FN := Lib.hid (fun w1 (h : Below w3.heap.size w3 w1) => fracNorm_v (HFV.out.below h) (by omega) (by omega))
  have hd : w3.drew.cell? ⟨ga, 0, none⟩ = some (.bool neg) ∧ w3.drew.cell? ⟨ga, 1, none⟩ = some (.slice Y yl yc) ∧ w3.drew.cell? ⟨ga, 2, none⟩ = some (.slice Z zl zc) := (FA.below hK).cells
  clear FA FV hNN
  go_region_held3 (fun w' => w'.cell? ⟨ga, 0, none⟩ = some (.bool neg) ∧ w'.cell? ⟨ga, 1, none⟩ = some (.slice Y yl yc) ∧ w'.cell? ⟨ga, 2, none⟩ = some (.slice Z zl zc)) (first | with_reducible exact hd | exact hd) (first | (go_at_call_of 11 (Value.int IntKind.u64 (n : Int)); refine (EU.out _).mono ?_; rintro e w4 ⟨r1, rfl, hr1, hB4⟩; have B4 := below_then hK hB4; have hd := (HFA.out.below B4).cells) | (go_at_call_of 13 (Value.slice B bl bc); refine (EB.out _ B4).mono ?_; rintro e w5 ⟨r2, rfl, hr2, hB5⟩; have B5 := below_then B4 hB5; have o1 := (show OwB w3.heap.size w5 r1 (encU n) from hr1.below hB5 (Nat.le_refl _)); have hd := (HFA.out.below B5).cells) | (refine step_appendB rfl (.tmp 39) (.tmp 41) rfl w3.heap.size r1 (encU n) rfl o1 r2 (encB ts) rfl hr2.byt (by have := HLs.out; omega) B5.size ?_; intro v6 w6 hv6 hg6; have B6 := below_ownB B5 hg6 o1 (Nat.le_refl _); have hd := (HFA.out.below B6).cells) | (go_at_call_of 15 (Value.slice X yl xc); refine (EN.out _ B6).mono ?_; rintro e w7 ⟨r7, rfl, hr7, hB7⟩; have B7 := below_then B6 hB7; have o6 := hv6.below hB7 (Nat.le_refl _); have hd := (HFA.out.below B7).cells) | (refine step_appendB rfl (.tmp 42) (.tmp 44) rfl w3.heap.size v6 (encU n ++ encB ts) rfl o6 r7 (encN N) rfl hr7.byt (by have := HLs.out; rw [List.length_append]; omega) B7.size ?_; intro v8 w8 hv8 hg8; have B8 := below_ownB B7 hg8 o6 (Nat.le_refl _); have hd := (HFA.out.below B8).cells) | (go_at_call_of 17 (Value.agg #[Value.bool neg, Value.slice Y yl yc, Value.slice Z zl zc]); refine (EQ.out _ B8).mono ?_; rintro e w9 ⟨r9, rfl, hr9, hB9⟩; have B9 := below_then B8 hB9; have o8 := hv8.below hB9 (Nat.le_refl _); have hd := (HFA.out.below B9).cells) | (refine step_appendB rfl (.tmp 45) (.tmp 47) rfl w3.heap.size v8 (encU n ++ encB ts ++ encN N) rfl o8 r9 (encQ (decide (q0.num < 0)) q0.num.natAbs q0.den) rfl hr9.byt (by have := HLs.out; rw [List.length_append, List.length_append]; omega) B9.size ?_; intro v10 w10 hv10 hg10; have B10 := below_ownB B9 hg10 o8 (Nat.le_refl _); have hd := (HFA.out.below B10).cells))
  have HL10 := Lib.hid (show (encU n ++ encB ts ++ encN N ++ encQ (decide (q0.num < 0)) q0.num.natAbs q0.den).length ≤ 500 by have := HLs.out; simp only [List.length_append]; omega)
  have hv10 := Lib.hid hv10
  have B10 := Lib.hid B10
  clear hd hr1 hB4 B4 hr2 hB5 B5 o1 hv6 hg6 B6 hr7 hB7 B7 o6 hv8 hg8 B8 hr9 hB9 B9 o8 hg10 EU EB EN EQ hK
  go_wp2_with (first | ((with_reducible refine wp_lit99 rfl rfl ?_); intro w11 hL11 hB11; have B11 := Lib.hid (below_then B10.out hB11); have o10 := Lib.hid (hv10.out.below hB11 (Nat.le_refl _)); have hL11 := Lib.hid (hL11.own (Nat.le_refl _) (n := 2) rfl (by omega)).byt) | (at_builtin; refine wp_appendB rfl _ _ rfl w3.heap.size v10 (encU n ++ encB ts ++ encN N ++ encQ (decide (q0.num < 0)) q0.num.natAbs q0.den) rfl o10.out _ [9, 9] rfl hL11.out (by have := HL10.out; simp only [List.length_cons, List.length_nil]; omega) B11.out.size ?_; intro v12 w12 hv12 hg12; have B12 := Lib.hid (below_ownB B11.out hg12 o10.out (Nat.le_refl _))))
  generalize hW : encU n ++ encB ts ++ encN N ++ encQ (decide (q0.num < 0)) q0.num.natAbs q0.den ++ [9, 9] = W at *
  have hWl : W.length ≤ 502 := by have := HL10.out; rw [← hW]; simp only [List.length_append, List.length_cons, List.length_nil] at this ⊢; omega
  have WE := WE.out
  obtain ⟨we1, we2, we3, we4, wl1, wl2, wl3⟩ := WE
  have NR := Lib.hid (newReader_c hv12.byt (by omega))
  clear hv12 hg12 hL11 o10 hv10 hW HL10 HLs
  refine (NR.out).mono ?_
  rintro e w13 ⟨g, rfl, hgl, hR13, hB13⟩
  have hg : w3.heap.size ≤ g := Nat.le_trans B12.out.size hgl
  have B13 := Lib.hid (below_then B12.out hB13)
  have UC := uint_c hR13 (by show W.length ≤ _; omega) n HN.out
  rw [we1] at UC
  have UC := Lib.hid UC
  clear hB13 NR hgl hR13 B10 B11 B12
  go_wp2_with fail
  refine (UC.out).mono ?_
  rintro e w14 ⟨rfl, hR14, hG14⟩
  have B14 := Lib.hid (below_of_grown B13.out hG14 B13.out.size hg)
  have BC := bytes_c hR14 (by omega) (ts.length : Int) (by omega) (by have := HT.out; omega)
  rw [Int.toNat_natCast, HBL.out] at BC
  rw [HBL.out] at we2 we3 we4 wl2 wl3
  unfold RRB at BC
  rw [we2] at BC
  have BC := Lib.hid BC
  clear hR14 hG14 UC
  go_wp2_with fail
  refine (BC.out).mono ?_
  rintro e w15 ⟨q, rfl, hQ15, hR15, hG15⟩
  have B15 := Lib.hid (below_of_grown B14.out hG15 B14.out.size hg)
  have NC := nat_c hR15 (by omega)
  unfold RRN at NC
  rw [we3] at NC
  have NC := Lib.hid NC
  have hQ15 := Lib.hid hQ15
  have hR15 := Lib.hid hR15
  clear hG15 BC we2
  go_wp2_with fail
  refine (NC.out).mono ?_
  rintro e w16 ⟨s, rfl, hS16, hR16, hG16⟩
  have B16 := Lib.hid (below_of_grown B15.out hG16 B15.out.size hg)
  have hQ16 := hQ15.out.beside hR15.out hG16
  have FC := frac_c hR16 (by omega)
  rw [we4] at FC
  have FC := Lib.hid FC
  have hQ16 := Lib.hid hQ16
  have hS16 := Lib.hid hS16
  have hR16 := Lib.hid hR16
  clear hG16 NC we3 we4 wl1 wl2 wl3 hQ15 hR15
  go_wp2_with fail
  refine (FC.out).mono ?_
  rintro e w17 ⟨v17, rfl, hF17, hR17, hG17⟩
  have B17 := Lib.hid (below_of_grown B16.out hG17 B16.out.size hg)
  have hQ17 := hQ16.out.beside hR16.out hG17
  have hS17 := hS16.out.beside hR16.out hG17
  obtain ⟨V, U, rfl, hV, hU⟩ := hF17
  generalize hbq : decide (q0.num < 0) = bq at *
  have hBa : Below w17.heap.size w17 (w17.alloc (.cells #[.bool bq, V, U] 28)) := (Below.refl _ _).alloc (Nat.le_refl _) _
  have FB := Fcl.new w17 bq V U
  have hg17 := hR17.lt
  have hne2 := Lib.hid (show (some g : Option Nat) ≠ some w17.heap.size from fun e => by injection e with e; omega)
  have hne1 := Lib.hid (show (some g : Option Nat) ≠ some ga from fun e => by injection e with e; have := HFA.out.lt; omega)
  have B18 := below_then B17.out hBa
  have HQ := hQ17.below hBa
  have HS := hS17.below hBa
  have hV := hV.below hBa
  have hU := hU.below hBa
  have hR18 := hR17.below hBa
  obtain ⟨V, vc, rfl⟩ := hV.form
  obtain ⟨U, uc, rfl⟩ := hU.form
  generalize (dg q0.num.natAbs).length = vl at *
  generalize (dg q0.den).length = ul at *
  clear hBa hQ17 hS17 hR17 hG17 FC hQ16 hS16 hR16 B17 B16 B15 B14 B13 hg17
  go_wp2_with fail
  generalize w17.alloc (.cells #[.bool bq, .slice V vl vc, .slice U ul uc] 28) = w18 at *
  generalize w17.heap.size = gb at *
  have hD : Below w18.heap.size w18 w18.drew := (Below.refl _ _).drew
  have hHB := HB.out.below B18
  have hHB := hHB.below hD
  have hHQ := HQ.below hD
  have hHS := HS.below hD
  have hFF := (HFA.out.below B18).below hD
  have hFB := FB.below hD
  have hV := hV.below hD
  have hU := hU.below hD
  have R0 := Lib.hid (hR18.below hD)
  have B19 := Lib.hid (below_then B18 hD)
  refine hk_begin (S := fun w' => w18.drew.grownBy w' (some g)) 42 (by kernel_rfl) (by kernel_rfl) ?_
  generalize w18.drew = y0 at *
  have G0 := Lib.hid (World.grownBy.refl y0 (some g))
  obtain ⟨⟨RA, rn, rc, hrow, _⟩, _⟩ := R0.out
  have HRW := Lib.hid hrow
  have HB := Lib.hid hHB
  have HQ := Lib.hid hHQ
  have HS := Lib.hid hHS
  have FF := Lib.hid hFF
  have FB := Lib.hid hFB
  have NN := Lib.hid (fun w1 (h : y0.grownBy w1 (some g)) => show Calls Try.prog 29 #[.slice X yl xc] w1 (fun e w' => ∃ r, e = .returned r ∧ Num w' r (dg N) ∧ Below w1.heap.size w1 w') from (NN.out _ (below_of_grown B19.out h B19.out.size hg)).mono (by
    rintro e w' ⟨r, rfl, h1, _, h2⟩
    exact ⟨r, rfl, h1.1, h2⟩))
  have FN := Lib.hid (fun w1 (h : y0.grownBy w1 (some g)) => show Calls Try.prog 31 #[.agg #[.bool neg, .slice Y yl yc, .slice Z zl zc]] w1 (RCanF w1 q0 8) from FN.out _ (below_of_grown B19.out h B19.out.size hg))
  have FX := Lib.hid (fun w1 (h : y0.grownBy w1 (some g)) => show Fx w1 (.agg #[.bool bq, .slice V vl vc, .slice U ul uc]) bq (dg q0.num.natAbs) (dg q0.den) from ⟨_, _, rfl, hV.but HRW.out h, hU.but HRW.out h⟩)
  have FS1 := Lib.hid (fun w1 v2 (h1 : Fx w1 (.agg #[.bool bq, .slice V vl vc, .slice U ul uc]) bq (dg q0.num.natAbs) (dg q0.den)) (h2 : Fx w1 v2 (decide (q0.num < 0)) (dg q0.num.natAbs) (dg q0.den)) => show Calls Try.prog 30 #[.agg #[.bool bq, .slice V vl vc, .slice U ul uc], v2] w1 (RVal w1 (.bool true)) from by
    rw [hbq] at h2
    have := fracSame_v h1 h2
    simpa using this)
  have NS := Lib.hid (fun w1 v2 (h1 : Num w1 s (dg N)) (h2 : Num w1 v2 (dg N)) => show Calls Try.prog 28 #[s, v2] w1 (RVal w1 (.bool true)) from by
    have := natSame_any w1 s v2 _ _ h1 h2
    simpa using this)
  have RW := Lib.hid (fun w1 (h : Rdr 66 w1 g ([9, 9], 0)) => show Calls Try.prog 32 #[.pointer (some ⟨g, 0, none⟩), .int .i64 2] w1 (fun e w' => ∃ r, e = .returned r ∧ Byt w' r [9, 9] ∧ Rdr 66 w' g ([], 0) ∧ w1.grownBy w' (some g)) from raw_c h (by decide) 2 (by omega) (by omega))
  have RM := Lib.hid (fun w1 (h : Rdr 66 w1 g ([], 0)) => show Calls Try.prog 21 #[.pointer (some ⟨g, 0, none⟩)] w1 (fun e w' => e = .returned (.int .i64 0) ∧ w1 = w') from remaining_c h)
  have RE := Lib.hid (fun w1 (h : Rdr 66 w1 g ([], 0)) => show Calls Try.prog 22 #[.pointer (some ⟨g, 0, none⟩)] w1 (fun e w' => e = .returned (.int .i64 0) ∧ w1 = w') from err_c h)
  clear hHB hHQ hHS hFF hFB hV hU hrow hbq hR18 B18
  refine hk_take (i := 0) (some 66) (.int .u64 (n : Int)) (by kernel_rfl) (by kernel_rfl) (by kernel_rfl) (by kernel_rfl) (by kernel_rfl) (by kernel_rfl) (fun w hS => by kernel_rfl) (fun _ _ d _ _ h => by cases d <;> exact h) G0.out ?_
  simp only [put_lit, put_non, List.set_cons_zero, List.set_cons_succ]
  refine hk_take (i := 1) (some 67) (.int .u64 (n : Int)) (by kernel_rfl) (by kernel_rfl) (by kernel_rfl) (by kernel_rfl) (by kernel_rfl) (by kernel_rfl) (fun w hS => by kernel_rfl) (fun _ _ d _ _ h => by cases d <;> exact h) G0.out ?_
  simp only [put_lit, put_non, List.set_cons_zero, List.set_cons_succ]
  refine hk_take (i := 2) (some 68) (.bool true) (by kernel_rfl) (by kernel_rfl) (by kernel_rfl) (by kernel_rfl) (by kernel_rfl) (by kernel_rfl) (fun w hS => exec_eqInt (T := 22) (T' := 22) (k := .u64) 66 67 (n : Int) (by kernel_rfl) (by kernel_rfl) (by kernel_rfl)) (fun _ _ d _ _ h => by cases d <;> exact h) G0.out ?_
  simp only [put_lit, put_non, List.set_cons_zero, List.set_cons_succ]
  refine hk_take (i := 3) (some 69) (.bool true) (by kernel_rfl) (by kernel_rfl) (by kernel_rfl) (by kernel_rfl) (by kernel_rfl) (by kernel_rfl) (fun w hS => by kernel_rfl) (fun _ _ d _ _ h => by cases d <;> exact h) G0.out ?_
  simp only [put_lit, put_non, List.set_cons_zero, List.set_cons_succ]
  refine hk_take (i := 4) (some 70) (q) (by kernel_rfl) (by kernel_rfl) (by kernel_rfl) (by kernel_rfl) (by kernel_rfl) (by kernel_rfl) (fun w hS => by kernel_rfl) (fun _ _ d _ _ h => by cases d <;> exact h) G0.out ?_
  simp only [put_lit, put_non, List.set_cons_zero, List.set_cons_succ]
  refine hk_take (i := 5) (some 71) (.string ⟨(ts).toArray⟩) (by kernel_rfl) (by kernel_rfl) (by kernel_rfl) (by kernel_rfl) (by kernel_rfl) (by kernel_rfl) (fun w hS => exec_strB 70 (HQ.out.but HRW.out hS) (by kernel_rfl) (by kernel_rfl)) (fun _ _ d _ _ h => by cases d <;> exact h) G0.out ?_
  simp only [put_lit, put_non, List.set_cons_zero, List.set_cons_succ]
  refine hk_take (i := 6) (some 72) (.slice B bl bc) (by kernel_rfl) (by kernel_rfl) (by kernel_rfl) (by kernel_rfl) (by kernel_rfl) (by kernel_rfl) (fun w hS => by kernel_rfl) (fun _ _ d _ _ h => by cases d <;> exact h) G0.out ?_
  simp only [put_lit, put_non, List.set_cons_zero, List.set_cons_succ]
  refine hk_take (i := 7) (some 73) (.string ⟨(ts).toArray⟩) (by kernel_rfl) (by kernel_rfl) (by kernel_rfl) (by kernel_rfl) (by kernel_rfl) (by kernel_rfl) (fun w hS => exec_strB 72 (HB.out.but HRW.out hS) (by kernel_rfl) (by kernel_rfl)) (fun _ _ d _ _ h => by cases d <;> exact h) G0.out ?_
  simp only [put_lit, put_non, List.set_cons_zero, List.set_cons_succ]
  refine hk_take (i := 8) (some 74) (.bool true) (by kernel_rfl) (by kernel_rfl) (by kernel_rfl) (by kernel_rfl) (by kernel_rfl) (by kernel_rfl) (fun w hS => exec_eqStr 71 73 ⟨(ts).toArray⟩ (by kernel_rfl) (by kernel_rfl) (by kernel_rfl)) (fun _ _ d _ _ h => by cases d <;> exact h) G0.out ?_
  simp only [put_lit, put_non, List.set_cons_zero, List.set_cons_succ]
  refine hk_take (i := 9) (some 75) (.bool true) (by kernel_rfl) (by kernel_rfl) (by kernel_rfl) (by kernel_rfl) (by kernel_rfl) (by kernel_rfl) (fun w hS => by kernel_rfl) (fun _ _ d _ _ h => by cases d <;> exact h) G0.out ?_
  simp only [put_lit, put_non, List.set_cons_zero, List.set_cons_succ]
  refine hk_take (i := 10) (some 76) (.bool true) (by kernel_rfl) (by kernel_rfl) (by kernel_rfl) (by kernel_rfl) (by kernel_rfl) (by kernel_rfl) (fun w hS => by kernel_rfl) (fun _ _ d _ _ h => by cases d <;> exact h) G0.out ?_
  simp only [put_lit, put_non, List.set_cons_zero, List.set_cons_succ]
  refine hk_take (i := 11) (some 77) (s) (by kernel_rfl) (by kernel_rfl) (by kernel_rfl) (by kernel_rfl) (by kernel_rfl) (by kernel_rfl) (fun w hS => by kernel_rfl) (fun _ _ d _ _ h => by cases d <;> exact h) G0.out ?_
  simp only [put_lit, put_non, List.set_cons_zero, List.set_cons_succ]
  refine hk_take (i := 12) (some 78) (.slice X yl xc) (by kernel_rfl) (by kernel_rfl) (by kernel_rfl) (by kernel_rfl) (by kernel_rfl) (by kernel_rfl) (fun w hS => by kernel_rfl) (fun _ _ d _ _ h => by cases d <;> exact h) G0.out ?_
  simp only [put_lit, put_non, List.set_cons_zero, List.set_cons_succ]
  refine hk_one (i := 13) (by kernel_rfl) ?_
  refine op_call (some 79) 29 #[.slice X yl xc] (by kernel_rfl) (by kernel_rfl) (by kernel_rfl) (fun w => by kernel_rfl) ?_
  refine (NN.out _ G0.out).mono ?_
  rintro e y1 ⟨r1, rfl, hr1, hB⟩
  have G1 := Lib.hid (grown_then G0.out (grown_of_below hB))
  have R1 := Lib.hid (R0.out.below hB)
  clear hB
  have HS1 := Lib.hid (HS.out.but HRW.out G1.out)
  have hr1 := Lib.hid hr1
  refine ⟨_, rfl, G1.out, ?_⟩
  simp only [put_lit, put_non, List.set_cons_zero, List.set_cons_succ]
  refine hk_one (i := 14) (by kernel_rfl) ?_
  refine op_call (some 80) 28 #[s, r1] (by kernel_rfl) (by kernel_rfl) (by kernel_rfl) (fun w => by kernel_rfl) ?_
  refine (NS.out _ _ HS1.out hr1.out).mono ?_
  rintro e y2 ⟨rfl, hB⟩
  have G2 := Lib.hid (grown_then G1.out (grown_of_below hB))
  have R2 := Lib.hid (R1.out.below hB)
  clear hB
  refine ⟨_, rfl, G2.out, ?_⟩
  simp only [put_lit, put_non, List.set_cons_zero, List.set_cons_succ]
  refine hk_take (i := 15) (some 81) (.bool true) (by kernel_rfl) (by kernel_rfl) (by kernel_rfl) (by kernel_rfl) (by kernel_rfl) (by kernel_rfl) (fun w hS => by kernel_rfl) (fun _ _ d _ _ h => by cases d <;> exact h) G2.out ?_
  simp only [put_lit, put_non, List.set_cons_zero, List.set_cons_succ]
  refine hk_take (i := 16) (some 82) (.bool true) (by kernel_rfl) (by kernel_rfl) (by kernel_rfl) (by kernel_rfl) (by kernel_rfl) (by kernel_rfl) (fun w hS => by kernel_rfl) (fun _ _ d _ _ h => by cases d <;> exact h) G2.out ?_
  simp only [put_lit, put_non, List.set_cons_zero, List.set_cons_succ]
  refine hk_take (i := 17) (some 83) (.agg #[.bool bq, .slice V vl vc, .slice U ul uc]) (by kernel_rfl) (by kernel_rfl) (by kernel_rfl) (by kernel_rfl) (by kernel_rfl) (by kernel_rfl) (fun w hS => exec_load3 18 ((FB).out.grow1 hS hne2.out) (by kernel_rfl) (by kernel_rfl)) (fun _ _ d _ _ h => by cases d <;> exact h) G2.out ?_
  simp only [put_lit, put_non, List.set_cons_zero, List.set_cons_succ]
  refine hk_take (i := 18) (some 84) (.agg #[.bool neg, .slice Y yl yc, .slice Z zl zc]) (by kernel_rfl) (by kernel_rfl) (by kernel_rfl) (by kernel_rfl) (by kernel_rfl) (by kernel_rfl) (fun w hS => exec_load3 12 ((FF).out.grow1 hS hne1.out) (by kernel_rfl) (by kernel_rfl)) (fun _ _ d _ _ h => by cases d <;> exact h) G2.out ?_
  simp only [put_lit, put_non, List.set_cons_zero, List.set_cons_succ]
  refine hk_one (i := 19) (by kernel_rfl) ?_
  refine op_call (some 85) 31 #[.agg #[.bool neg, .slice Y yl yc, .slice Z zl zc]] (by kernel_rfl) (by kernel_rfl) (by kernel_rfl) (fun w => by kernel_rfl) ?_
  refine (FN.out _ G2.out).mono ?_
  rintro e y3 ⟨r2, rfl, hr2, hB⟩
  have G3 := Lib.hid (grown_then G2.out (grown_of_below hB))
  have R3 := Lib.hid (R2.out.below hB)
  clear hB
  have FX1 := Lib.hid (FX.out _ G3.out)
  have hr2 := Lib.hid hr2.fx
  refine ⟨_, rfl, G3.out, ?_⟩
  simp only [put_lit, put_non, List.set_cons_zero, List.set_cons_succ]
  refine hk_one (i := 20) (by kernel_rfl) ?_
  refine op_call (some 86) 30 #[.agg #[.bool bq, .slice V vl vc, .slice U ul uc], r2] (by kernel_rfl) (by kernel_rfl) (by kernel_rfl) (fun w => by kernel_rfl) ?_
  refine (FS1.out _ _ FX1.out hr2.out).mono ?_
  rintro e y4 ⟨rfl, hB⟩
  have G4 := Lib.hid (grown_then G3.out (grown_of_below hB))
  have R4 := Lib.hid (R3.out.below hB)
  clear hB
  refine ⟨_, rfl, G4.out, ?_⟩
  simp only [put_lit, put_non, List.set_cons_zero, List.set_cons_succ]
  refine hk_take (i := 21) (some 87) (.bool true) (by kernel_rfl) (by kernel_rfl) (by kernel_rfl) (by kernel_rfl) (by kernel_rfl) (by kernel_rfl) (fun w hS => by kernel_rfl) (fun _ _ d _ _ h => by cases d <;> exact h) G4.out ?_
  simp only [put_lit, put_non, List.set_cons_zero, List.set_cons_succ]
  refine hk_take (i := 22) (some 88) (.bool true) (by kernel_rfl) (by kernel_rfl) (by kernel_rfl) (by kernel_rfl) (by kernel_rfl) (by kernel_rfl) (fun w hS => by kernel_rfl) (fun _ _ d _ _ h => by cases d <;> exact h) G4.out ?_
  simp only [put_lit, put_non, List.set_cons_zero, List.set_cons_succ]
  refine hk_take (i := 23) (some 89) (.pointer (some ⟨g, 0, none⟩)) (by kernel_rfl) (by kernel_rfl) (by kernel_rfl) (by kernel_rfl) (by kernel_rfl) (by kernel_rfl) (fun w hS => by kernel_rfl) (fun _ _ d _ _ h => by cases d <;> exact h) G4.out ?_
  simp only [put_lit, put_non, List.set_cons_zero, List.set_cons_succ]
  refine hk_one (i := 24) (by kernel_rfl) ?_
  refine op_call (some 90) 32 #[.pointer (some ⟨g, 0, none⟩), .int .i64 2] (by kernel_rfl) (by kernel_rfl) (by kernel_rfl) (fun w => by kernel_rfl) ?_
  refine (RW.out _ R4.out).mono ?_
  rintro e y5 ⟨r9, rfl, hr9, hR, hG⟩
  have G5 := Lib.hid (grown_then G4.out hG)
  have R5 := Lib.hid hR
  have hr9 := Lib.hid hr9
  clear hR hG
  refine ⟨_, rfl, G5.out, ?_⟩
  simp only [put_lit, put_non, List.set_cons_zero, List.set_cons_succ]
  refine hk_one (i := 25) (by kernel_rfl) ?_
  refine op_do (some 91) (.string ⟨([9, 9] : List UInt8).toArray⟩) _ (by kernel_rfl) (by kernel_rfl) (by kernel_rfl) (exec_strB 90 hr9.out (by kernel_rfl) (by kernel_rfl)) ?_
  refine ⟨G5.out, ?_⟩
  simp only [put_lit, put_non, List.set_cons_zero, List.set_cons_succ]
  refine hk_take (i := 26) (some 92) (.bool true) (by kernel_rfl) (by kernel_rfl) (by kernel_rfl) (by kernel_rfl) (by kernel_rfl) (by kernel_rfl) (fun w hS => exec_eqLit 91 ⟨([9, 9] : List UInt8).toArray⟩ (by kernel_rfl) (by kernel_rfl) (by kernel_rfl)) (fun _ _ d _ _ h => by cases d <;> exact h) G5.out ?_
  simp only [put_lit, put_non, List.set_cons_zero, List.set_cons_succ]
  refine hk_take (i := 27) (some 93) (.bool true) (by kernel_rfl) (by kernel_rfl) (by kernel_rfl) (by kernel_rfl) (by kernel_rfl) (by kernel_rfl) (fun w hS => by kernel_rfl) (fun _ _ d _ _ h => by cases d <;> exact h) G5.out ?_
  simp only [put_lit, put_non, List.set_cons_zero, List.set_cons_succ]
  refine hk_take (i := 28) (some 94) (.bool true) (by kernel_rfl) (by kernel_rfl) (by kernel_rfl) (by kernel_rfl) (by kernel_rfl) (by kernel_rfl) (fun w hS => by kernel_rfl) (fun _ _ d _ _ h => by cases d <;> exact h) G5.out ?_
  simp only [put_lit, put_non, List.set_cons_zero, List.set_cons_succ]
  refine hk_take (i := 29) (some 95) (.pointer (some ⟨g, 0, none⟩)) (by kernel_rfl) (by kernel_rfl) (by kernel_rfl) (by kernel_rfl) (by kernel_rfl) (by kernel_rfl) (fun w hS => by kernel_rfl) (fun _ _ d _ _ h => by cases d <;> exact h) G5.out ?_
  simp only [put_lit, put_non, List.set_cons_zero, List.set_cons_succ]
  refine hk_one (i := 30) (by kernel_rfl) ?_
  refine op_call (some 96) 21 #[.pointer (some ⟨g, 0, none⟩)] (by kernel_rfl) (by kernel_rfl) (by kernel_rfl) (fun w => by kernel_rfl) ?_
  refine (RM.out _ R5.out).mono ?_
  rintro e y6 ⟨rfl, rfl⟩
  have G6 := G5
  have R6 := R5
  refine ⟨_, rfl, G6.out, ?_⟩
  simp only [put_lit, put_non, List.set_cons_zero, List.set_cons_succ]
  refine hk_take (i := 31) (some 97) (.bool true) (by kernel_rfl) (by kernel_rfl) (by kernel_rfl) (by kernel_rfl) (by kernel_rfl) (by kernel_rfl) (fun w hS => exec_eqNum (T := 3) (T' := 3) (k := .i64) 96 0 (by kernel_rfl) (by kernel_rfl) (by kernel_rfl)) (fun _ _ d _ _ h => by cases d <;> exact h) G6.out ?_
  simp only [put_lit, put_non, List.set_cons_zero, List.set_cons_succ]
  refine hk_take (i := 32) (some 98) (.bool true) (by kernel_rfl) (by kernel_rfl) (by kernel_rfl) (by kernel_rfl) (by kernel_rfl) (by kernel_rfl) (fun w hS => by kernel_rfl) (fun _ _ d _ _ h => by cases d <;> exact h) G6.out ?_
  simp only [put_lit, put_non, List.set_cons_zero, List.set_cons_succ]
  refine hk_take (i := 33) (some 99) (.bool true) (by kernel_rfl) (by kernel_rfl) (by kernel_rfl) (by kernel_rfl) (by kernel_rfl) (by kernel_rfl) (fun w hS => by kernel_rfl) (fun _ _ d _ _ h => by cases d <;> exact h) G6.out ?_
  simp only [put_lit, put_non, List.set_cons_zero, List.set_cons_succ]
  refine hk_take (i := 34) (some 100) (.pointer (some ⟨g, 0, none⟩)) (by kernel_rfl) (by kernel_rfl) (by kernel_rfl) (by kernel_rfl) (by kernel_rfl) (by kernel_rfl) (fun w hS => by kernel_rfl) (fun _ _ d _ _ h => by cases d <;> exact h) G6.out ?_
  simp only [put_lit, put_non, List.set_cons_zero, List.set_cons_succ]
  refine hk_one (i := 35) (by kernel_rfl) ?_
  refine op_call (some 101) 22 #[.pointer (some ⟨g, 0, none⟩)] (by kernel_rfl) (by kernel_rfl) (by kernel_rfl) (fun w => by kernel_rfl) ?_
  refine (RE.out _ R6.out).mono ?_
  rintro e y7 ⟨rfl, rfl⟩
  have G7 := G6
  have R7 := R6
  refine ⟨_, rfl, G7.out, ?_⟩
  simp only [put_lit, put_non, List.set_cons_zero, List.set_cons_succ]
  refine hk_take (i := 36) (some 102) (.bool true) (by kernel_rfl) (by kernel_rfl) (by kernel_rfl) (by kernel_rfl) (by kernel_rfl) (by kernel_rfl) (fun w hS => exec_eqNum (T := 40) (T' := 40) (k := .i64) 101 0 (by kernel_rfl) (by kernel_rfl) (by kernel_rfl)) (fun _ _ d _ _ h => by cases d <;> exact h) G7.out ?_
  simp only [put_lit, put_non, List.set_cons_zero, List.set_cons_succ]
  refine hk_take (i := 37) (some 103) (.bool true) (by kernel_rfl) (by kernel_rfl) (by kernel_rfl) (by kernel_rfl) (by kernel_rfl) (by kernel_rfl) (fun w hS => by kernel_rfl) (fun _ _ d _ _ h => by cases d <;> exact h) G7.out ?_
  simp only [put_lit, put_non, List.set_cons_zero, List.set_cons_succ]
  refine hk_take (i := 38) (some 104) (.bool true) (by kernel_rfl) (by kernel_rfl) (by kernel_rfl) (by kernel_rfl) (by kernel_rfl) (by kernel_rfl) (fun w hS => by kernel_rfl) (fun _ _ d _ _ h => by cases d <;> exact h) G7.out ?_
  simp only [put_lit, put_non, List.set_cons_zero, List.set_cons_succ]
  refine hk_one (i := 39) (by kernel_rfl) ?_
  refine op_call (some 105) 19 #[] (by kernel_rfl) (by kernel_rfl) (by kernel_rfl) (fun w => by kernel_rfl) ?_
  refine (known4_c _).mono ?_
  rintro e y8 ⟨rfl, hB⟩
  have G8 := Lib.hid (grown_then G7.out (grown_of_below hB))
  have R8 := Lib.hid (R7.out.below hB)
  clear hB
  refine ⟨_, rfl, G8.out, ?_⟩
  simp only [put_lit, put_non, List.set_cons_zero, List.set_cons_succ]
  refine hk_take (i := 40) (some 106) (.bool true) (by kernel_rfl) (by kernel_rfl) (by kernel_rfl) (by kernel_rfl) (by kernel_rfl) (by kernel_rfl) (fun w hS => by kernel_rfl) (fun _ _ d _ _ h => by cases d <;> exact h) G8.out ?_
  simp only [put_lit, put_non, List.set_cons_zero, List.set_cons_succ]
  refine hk_take (i := 41) (some 10) (.bool true) (by kernel_rfl) (by kernel_rfl) (by kernel_rfl) (by kernel_rfl) (by kernel_rfl) (by kernel_rfl) (fun w hS => by kernel_rfl) (fun _ _ d _ _ h => by cases d <;> exact h) G8.out ?_
  simp only [put_lit, put_non, List.set_cons_zero, List.set_cons_succ]
  refine hk_done (by kernel_rfl) ?_
  go_wp2_with fail
  go_ret
  exact ⟨rfl, below_then HBB.out (below_of_grown B19.out G8.out B19.out.size hg)⟩
end
theorem round_walk (w : World) (vb vx vy : Value) (ts : List UInt8) (xs ys : List Nat) {a : Int} {neg : Bool} (ha : (Lit.int .u64 a).wf = true) (hb : Byt w vb ts) (hx : Num w vx xs) (hy : Num w vy ys) :
    Calls Try.prog 6 #[.int .u64 a, vb, vx, .bool neg, vy] w (RVal w (.bool true)) := by
  by_cases h : 300 < ts.length ∨ 5 < xs.length ∨ 5 < ys.length
  · exact round_big a neg hb hx hy h
  · obtain ⟨h1, h2⟩ := wf_u64 ha
    obtain ⟨n, rfl⟩ := Int.eq_ofNat_of_zero_le h1
    exact round_small n (by omega) neg hb hx hy (by omega) (by omega) (by omega)
end Go.Proofs.Ytkdnmmbnljaahaa

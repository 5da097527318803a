/- The walk of CodecTruncated. -/
import Derived.Test.YtkdnmmbnljaahaaLw4
namespace Go.Proofs.Ytkdnmmbnljaahaa
open Go.RowKit Dig
set_option linter.unusedVariables false

section
variable {w : World} {vb vx vy : Value} {ts : List UInt8} {xs ys : List Nat}
theorem trunc_big (n cut : Int) (neg : Bool) (hb : Byt w vb ts) (hx : Num w vx xs) (hy : Num w vy ys) (h : 100 < ts.length ∨ 5 < xs.length ∨ 5 < ys.length) :
    Calls Try.prog 8 #[.int .u64 n, vb, vx, .bool neg, vy, .int .i64 cut] w (RVal w (.bool true)) := by
  obtain ⟨B, bc, rfl⟩ := hb.form
  obtain ⟨A, c, rfl⟩ := hx.form
  obtain ⟨A', c', rfl⟩ := hy.form
  generalize ts.length = l0 at *
  generalize xs.length = l1 at *
  generalize ys.length = l2 at *
  clear hb hx hy
  by_cases h0 : 100 < l0
  · have h0i : (100 : Int) < l0 := by omega
    clear h h0
    go_enter Try.func8, Try.ntmps8
    go_wp2_with fail
    go_ret
    exact ⟨rfl, Below.refl _ _⟩
  · have h0i : ¬ (100 : Int) < l0 := by omega
    by_cases h1 : 5 < l1
    · have h1i : (5 : Int) < l1 := by omega
      clear h h0 h1
      go_enter Try.func8, Try.ntmps8
      go_wp2_with fail
      go_ret
      exact ⟨rfl, Below.refl _ _⟩
    · have h1i : ¬ (5 : Int) < l1 := by omega
      have h2i : (5 : Int) < l2 := by omega
      clear h h0 h1
      go_enter Try.func8, Try.ntmps8
      go_wp2_with fail
      go_ret
      exact ⟨rfl, Below.refl _ _⟩
set_option maxRecDepth 20000 in
set_option maxHeartbeats 16000000 in
theorem trunc_small (n : Nat) (hn : n < 18446744073709551616) (cut : Int) (hc1 : -9223372036854775808 ≤ cut) (hc2 : cut ≤ 9223372036854775807) (neg : Bool) (hb : Byt w vb ts) (hx : Num w vx xs) (hy : Num w vy ys) (h0 : ts.length ≤ 100) (h1 : xs.length ≤ 5) (h2 : ys.length ≤ 5) :
    Calls Try.prog 8 #[.int .u64 (n : Int), vb, vx, .bool neg, vy, .int .i64 cut] w (RVal w (.bool true)) := by
  have EU := Lib.hid (encUint_c w n hn)
  have EB := Lib.hid (fun w1 (hB : Below w.heap.size w w1) => encBytes_c (hb.below hB) (by omega))
  have FR := Lib.hid (fun w1 (hB : Below w.heap.size w w1) => frac4_c neg (hx.below hB) (hy.below hB))
  have hsx := hx.small
  have hsy := hy.small
  obtain ⟨B, bc, rfl⟩ := hb.form
  obtain ⟨A, c, rfl⟩ := hx.form
  obtain ⟨A', c', rfl⟩ := hy.form
  have h0i : ¬ (100 : Int) < ts.length := by omega
  have h0j : (ts.length : Int) ≤ 100 := by omega
  have h1i : ¬ (5 : Int) < xs.length := by omega
  have h2i : ¬ (5 : Int) < ys.length := by omega
  obtain ⟨m1, m2⟩ := mkn_short neg xs ys hsx hsy
  obtain ⟨q, hq⟩ : ∃ q, fr neg (val (mkn xs)) (val (mkn ys)) = q := ⟨_, rfl⟩
  rw [hq] at m1 m2
  have hLu := encU_ten hn
  have hLb := encU_ten (n := ts.length) (by omega)
  have hLq := encQ_short (neg := decide (q.num < 0)) m1 m2
  have hWl : ((encU n ++ encB ts) ++ encQ (decide (q.num < 0)) q.num.natAbs q.den).length ≤ 300 := by
    rw [List.length_append, List.length_append]
    unfold encB
    rw [List.length_append]
    omega
  have hLe : (encB ts).length ≤ 110 := by unfold encB; rw [List.length_append]; omega
  have CUT := Lib.hid (fun k hk => cut3 (n := n) (k := k) (ts := ts) (neg := decide (q.num < 0)) (a := q.num.natAbs) (b := q.den) hn (by omega) (by omega) (by omega) (canon_parts q) hk)
  have FV := Lib.hid (fun w1 vn vd (a : Num w1 vn (mkn xs)) (b : Num w1 vd (mkn ys)) => show FracV w1 (.agg #[.bool neg, vn, vd]) q 8 from hq ▸ FracV.of (neg := neg) ⟨_, a, rfl, mkn_length xs⟩ ⟨_, b, rfl, mkn_length ys⟩)
  have HN := Lib.hid hn
  have HT := Lib.hid h0
  have HLu := Lib.hid hLu
  have HLe := Lib.hid hLe
  obtain ⟨W, hW⟩ : ∃ W, (encU n ++ encB ts) ++ encQ (decide (q.num < 0)) q.num.natAbs q.den = W := ⟨_, rfl⟩
  rw [hW] at hWl CUT
  have HW := Lib.hid hW
  have HWl := Lib.hid hWl
  obtain ⟨L, hL⟩ : ∃ L, W.length = L := ⟨_, rfl⟩
  have HL := Lib.hid hL
  rw [hL] at hWl
  obtain ⟨cu, hcu⟩ : ∃ cu : Nat, IntKind.u64.wrap cut = (cu : Int) := ⟨(IntKind.u64.wrap cut).toNat, by rw [IntKind.wrap_u64]; omega⟩
  obtain ⟨k, hk⟩ : ∃ k, cu % (L + 1) = k := ⟨_, rfl⟩
  have hkL : k ≤ L := by have := Nat.mod_lt cu (show 0 < L + 1 by omega); omega
  have hki : (cu : Int) % ((L : Int) + 1) = (k : Int) := by rw [← hk]; simp
  have hLi : (L : Int) ≤ 300 := by omega
  have hkLi : (k : Int) ≤ L := by omega
  have hcu2 : (cu : Int) < 18446744073709551616 := by rw [← hcu, IntKind.wrap_u64]; omega
  clear hb hx hy h0 h1 h2 hn hq hLu hLb hLq hLe hW hL m1 m2 hsx hsy hc1 hc2 hWl hk
  go_enter Try.func8, Try.ntmps8
  go_wp2_with fail
  refine (EU.out).mono ?_
  rintro e w1 ⟨r1, rfl, hr1, hB1⟩
  go_wp2_with fail
  refine (EB.out _ hB1).mono ?_
  rintro e w2 ⟨r2, rfl, hr2, hB2⟩
  have B2 := below_then hB1 hB2
  have o1 := Lib.hid (show OwB w.heap.size w2 r1 (encU n) from hr1.below hB2 (Nat.le_refl _))
  go_wp2_with (at_builtin; refine wp_appendB rfl _ _ rfl w.heap.size r1 (encU n) rfl o1.out r2 (encB ts) rfl hr2.byt (by have := HLu.out; have := HLe.out; omega) B2.size ?_; intro v3 w3 hv3 hg3)
  have B3 := below_ownB B2 hg3 o1.out (Nat.le_refl _)
  refine (FR.out _ B3).mono ?_
  rintro e w4 ⟨v, rfl, hv, hB4⟩
  obtain ⟨vn, vd, rfl, hv1, hv2⟩ := hv
  have F4 := FV.out _ _ _ hv1 hv2
  have B4 := below_then B3 hB4
  have hv3 := hv3.below hB4 (Nat.le_refl _)
  clear hB1 hB2 hB4 B3 hg3
  go_wp2_with fail
  refine (encFrac_c F4 (by omega) (by omega)).mono ?_
  rintro e w5 ⟨r5, rfl, hr5, hB5⟩
  have B5 := below_then B4 hB5
  have o3 := Lib.hid (hv3.below hB5 (Nat.le_refl _))
  clear hv3 hv1 hv2 F4 B4 B2
  go_wp2_with (at_builtin; refine wp_appendB rfl _ _ rfl w.heap.size v3 (encU n ++ encB ts) rfl o3.out r5 (encQ (decide (q.num < 0)) q.num.natAbs q.den) rfl hr5.byt (by have := HWl.out; rw [← HW.out, List.length_append] at this; omega) B5.size ?_; intro v6 w6 hv6 hg6; rw [HW.out] at hv6; have hf6 := hv6.byt.form; rw [HL.out] at hf6; obtain ⟨X, xc, rfl⟩ := hf6; have hxc := hv6.byt.bounds.2.1)
  have B6 := below_ownB B5 hg6 o3.out (Nat.le_refl _)
  have NR := newReader_c (hv6.byt.cut hkL) (by have := HWl.out; rw [List.length_take]; omega)
  refine (NR).mono ?_
  rintro e w7 ⟨g, rfl, hgl, hR7, hB7⟩
  have hg := Nat.le_trans B6.size hgl
  have B7 := below_then B6 hB7
  have hl7 : (W.take k).length ≤ 300 := by have := HWl.out; rw [List.length_take]; omega
  have l1 := uintS_len n (W.take k, 0)
  have l2 := (bytesS_len ts.length (uintS n (W.take k, 0)).2).1
  have HC := Lib.hid (CUT.out k (by rw [HL.out]; exact hkL))
  rw [HL.out] at HC
  clear hv6 hg6 NR B6 hgl hB7 B5 hr5 hB5 CUT
  go_wp2_with fail
  refine (uint_c hR7 (by show (W.take k).length ≤ _; omega) n HN.out).mono ?_
  rintro e w8 ⟨rfl, hR8, hG8⟩
  have B8 := below_of_grown B7 hG8 B7.size hg
  have BC := bytes_c hR8 (by have : ((W.take k, (0 : Int)) : RS).1.length = (W.take k).length := rfl; omega) (ts.length : Int) (by omega) (by omega)
  rw [Int.toNat_natCast] at BC
  have HBC := Lib.hid BC
  have h8 : (uintS n (W.take k, 0)).2.1.length ≤ 300 := by have : ((W.take k, (0 : Int)) : RS).1.length = (W.take k).length := rfl; omega
  generalize (uintS n (W.take k, 0)).1 = u8' at *
  generalize (uintS n (W.take k, 0)).2 = s1 at *
  clear hR7 hR8 hG8 B7 BC l1 hl7
  go_wp2_with fail
  refine (HBC.out).mono ?_
  rintro e w9 ⟨r9, rfl, hr9, hR9, hG9⟩
  have B9 := below_of_grown B8 hG9 B8.size hg
  have h9 : (bytesS ts.length s1).2.1.length ≤ 300 := by omega
  generalize (bytesS ts.length s1).1 = b9 at *
  generalize (bytesS ts.length s1).2 = s2 at *
  clear hG9 B8 l2 h8 hr9
  go_wp2_with fail
  refine (frac_c hR9 (by omega)).mono ?_
  rintro e w10 ⟨r10, rfl, hr10, hR10, hG10⟩
  have B10 := below_of_grown B9 hG10 B9.size hg
  generalize (fracS canonN s2).1 = f10 at *
  generalize (fracS canonN s2).2 = s3 at *
  clear hR9 hG10 B9 hr10
  by_cases hck : k < L
  · have hci : (k : Int) < L := by omega
    have RE := Lib.hid (show ∀ W2, Rdr 66 W2 g s3 → Calls Try.prog 22 #[.pointer (some ⟨g, 0, none⟩)] W2 fun e w' => e = .returned (.int .i64 3) ∧ W2 = w' from fun W2 h => by
      have := err_c h
      rw [HC.out, if_pos hck] at this
      exact this)
    clear hck
    go_wp2_with fail
    refine (RE.out _ hR10).mono ?_
    rintro e w' ⟨rfl, rfl⟩
    go_wp2_with fail
    refine (known4_c _).mono ?_
    rintro e w11 ⟨rfl, hB11⟩
    go_wp2_with fail
    go_ret
    exact ⟨rfl, below_then B10 hB11⟩
  · have hci : ¬ (k : Int) < L := by omega
    have RE := Lib.hid (show ∀ W2, Rdr 66 W2 g s3 → Calls Try.prog 22 #[.pointer (some ⟨g, 0, none⟩)] W2 fun e w' => e = .returned (.int .i64 0) ∧ W2 = w' from fun W2 h => by
      have := err_c h
      rw [HC.out, if_neg hck] at this
      exact this)
    have HF := Lib.hid (show decide (k < L) = false from decide_eq_false hck)
    clear hck
    go_wp2_with fail
    refine (RE.out _ hR10).mono ?_
    rintro e w' ⟨rfl, rfl⟩
    clear hcu hki hcu2 hkLi
    go_wp2_with fail
    refine (RE.out _ hR10).mono ?_
    rintro e w' ⟨rfl, rfl⟩
    go_wp2_with fail
    refine (known4_c _).mono ?_
    rintro e w11 ⟨rfl, hB11⟩
    go_wp2_with fail
    go_ret
    exact ⟨ret_eq (show Value.bool (!decide (k < L)) = _ by rw [HF.out]; rfl), below_then B10 hB11⟩
end
theorem trunc_walk (w : World) (vb vx vy : Value) (ts : List UInt8) (xs ys : List Nat) {a z : Int} {neg : Bool} (ha : (Lit.int .u64 a).wf = true) (hb : Byt w vb ts) (hx : Num w vx xs) (hy : Num w vy ys) (hz : (Lit.int .i64 z).wf = true) :
    Calls Try.prog 8 #[.int .u64 a, vb, vx, .bool neg, vy, .int .i64 z] w (RVal w (.bool true)) := by
  by_cases h : 100 < ts.length ∨ 5 < xs.length ∨ 5 < ys.length
  · exact trunc_big a z neg hb hx hy h
  · obtain ⟨h1, h2⟩ := wf_u64 ha
    obtain ⟨h3, h4⟩ := wf_i64 hz
    obtain ⟨n, rfl⟩ := Int.eq_ofNat_of_zero_le h1
    exact trunc_small n (by omega) z h3 h4 neg hb hx hy (by omega) (by omega) (by omega)
end Go.Proofs.Ytkdnmmbnljaahaa

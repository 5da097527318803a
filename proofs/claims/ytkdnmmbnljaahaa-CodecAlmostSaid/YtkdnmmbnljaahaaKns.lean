/- Walks through drawn regions: the condition may be made stronger on the way; conversions of bytes, equality of strings and integers. -/
import Derived.Deep.RegionHeld3
import Derived.Test.YtkdnmmbnljaahaaPlans
import Derived.Test.YtkdnmmbnljaahaaEnc
import Derived.Test.YtkdnmmbnljaahaaRdns
import Derived.Test.YtkdnmmbnljaahaaEnf
import Derived.Test.YtkdnmmbnljaahaaRefL
namespace Go.Proofs.Ytkdnmmbnljaahaa
open Go.RowKit Dig
set_option linter.unusedVariables false

section
variable {P : Program} {ops : Array Oper} {Q : Exit → Act → World → Prop} {md : Region.Mode} {S S2 : World → Prop}
theorem hk_more (h : ∀ w, S2 w → S w) : ∀ (n : Nat) (L : Array Bool) (a : Act) (w : World), wpAnyH P md ops Q S2 n L a w → wpAnyH P md ops Q S n L a w
  | 0, _, _, _, H => H
  | n + 1, L, a, w, H => ⟨H.1, fun i hi => wpOp_mono (fun a' w' h' => ⟨h w' h'.1, hk_more h n _ a' w' h'.2⟩) (H.2 i hi)⟩
end
section
variable {ev : Operand → Value} {o : Oper} {w : World}
theorem exec_strB (t : Tmp) {u : Value} {ts : List UInt8} (h : Byt w u ts) (ho : o.op = .convert 23 9 (.tmp t)) (hx : ev (.tmp t) = u) : (execOp ev o).run Try.prog w = .ok (.value (.string ⟨ts.toArray⟩)) w := by
  have hrun := run_stringB w u ts h
  unfold execOp
  simp only [ho, hx, hrun, Sem.run_bind, Sem.run_pure, Result.andThen_ok]
theorem exec_eqStr (t s : Tmp) (x : ByteArray) (ho : o.op = .binOp .eql 9 (.tmp t) (.tmp s) 9) (hx : ev (.tmp t) = .string x) (hy : ev (.tmp s) = .string x) :
    (execOp ev o).run Try.prog w = .ok (.value (.bool true)) w := by
  unfold execOp
  simp only [ho, hx, hy]
  go_simp
theorem exec_eqLit (t : Tmp) (x : ByteArray) (ho : o.op = .binOp .eql 9 (.tmp t) (.const (.string x)) 9) (hx : ev (.tmp t) = .string x) (hy : ev (.const (.string x)) = .string x) :
    (execOp ev o).run Try.prog w = .ok (.value (.bool true)) w := by
  unfold execOp
  simp only [ho, hx, hy]
  go_simp
theorem exec_eqInt {T T' : TypeId} {k : IntKind} (t s : Tmp) (x : Int) (ho : o.op = .binOp .eql T (.tmp t) (.tmp s) T') (hx : ev (.tmp t) = .int k x) (hy : ev (.tmp s) = .int k x) :
    (execOp ev o).run Try.prog w = .ok (.value (.bool true)) w := by
  unfold execOp
  simp only [ho, hx, hy]
  cases k <;> go_simp
theorem exec_eqNum {T T' : TypeId} {k : IntKind} (t : Tmp) (x : Int) (ho : o.op = .binOp .eql T (.tmp t) (.const (.int k x)) T') (hx : ev (.tmp t) = .int k x) (hy : ev (.const (.int k x)) = .int k x) :
    (execOp ev o).run Try.prog w = .ok (.value (.bool true)) w := by
  unfold execOp
  simp only [ho, hx, hy]
  cases k <;> go_simp
theorem exec_low15 (t : Tmp) (n : Nat) (hn : n < 18446744073709551616) (ho : o.op = .binOp .and 22 (.tmp t) (.const (.int .u64 32767)) 22) (hx : ev (.tmp t) = .int .u64 (n : Int)) (hy : ev (.const (.int .u64 32767)) = .int .u64 32767) :
    (execOp ev o).run Try.prog w = .ok (.value (.int .u64 ((n % 32768 : Nat) : Int))) w := by
  have hb : bits .and .u64 (n : Int) 32767 = ((n % 32768 : Nat) : Int) := by
    have h := u64_and_nat n 32767 hn (by omega)
    rw [Nat.and_two_pow_sub_one_eq_mod n 15] at h
    exact h
  unfold execOp
  simp only [ho, hx, hy]
  go_simp
end
end Go.Proofs.Ytkdnmmbnljaahaa

/- The contracts of the law package's frac and known. -/
namespace Go.Proofs.Ytkdnmmbnljaahaa
open Go.RowKit Dig
set_option linter.unusedVariables false

section
variable {w : World} {vx vy : Value} {xs ys : List Nat}
set_option maxRecDepth 20000 in
set_option maxHeartbeats 1000000 in
theorem frac4_c (neg : Bool) (hx : Num w vx xs) (hy : Num w vy ys) : Calls Try.prog 10 #[.bool neg, vx, vy] w fun e w' => ∃ r, e = .returned r ∧ Fx w' r neg (mkn xs) (mkn ys) ∧ Below w.heap.size w w' := by
  have BX := Lib.hid (fun w1 (hB : Below w.heap.size w w1) => base_c w1 _ xs (hx.below hB))
  have BY := Lib.hid (fun w1 (hB : Below w.heap.size w w1) => base_c w1 _ ys (hy.below hB))
  have R0 := Lib.hid (Fcl.new w false (.slice none 0 0) (.slice none 0 0))
  have hB0 : Below w.heap.size w (w.alloc (.cells #[.bool false, .slice none 0 0, .slice none 0 0] 28)) := (Below.refl _ _).alloc (Nat.le_refl _) _
  obtain ⟨A, c, rfl⟩ := hx.form
  obtain ⟨A', c', rfl⟩ := hy.form
  generalize xs.length = n1 at *
  generalize ys.length = n2 at *
  clear hx hy
  go_enter Try.func10, Try.ntmps10
  go_wp2_with fail
  refine (BX.out _ hB0).mono ?_
  rintro e w1 ⟨r1, rfl, hr1, hB1⟩
  have hB1' := below_then hB0 hB1
  go_wp2_with fail
  refine (BY.out _ hB1').mono ?_
  rintro e w2 ⟨r2, rfl, hr2, hB2⟩
  have R2 := (R0.out.below hB1).below hB2
  obtain ⟨X, xc, rfl⟩ := hr1.num.form
  obtain ⟨Y, yc, rfl⟩ := hr2.num.form
  have hx2 := Lib.hid ((hr1.num.below hB2).keepBut (w' := stor3 w2 w.heap.size (.bool neg) (.slice X (mkn xs).length xc) (.slice Y (mkn ys).length yc)) R2 (by rw [put3_size]; exact Nat.le_refl _) (put3_heap _ _ _ _ _))
  have hy2 := Lib.hid (hr2.num.keepBut (w' := stor3 w2 w.heap.size (.bool neg) (.slice X (mkn xs).length xc) (.slice Y (mkn ys).length yc)) R2 (by rw [put3_size]; exact Nat.le_refl _) (put3_heap _ _ _ _ _))
  have hBB := Lib.hid (below_put3 (below_then hB1' hB2) (Nat.le_refl _) (.bool neg) (.slice X (mkn xs).length xc) (.slice Y (mkn ys).length yc))
  obtain ⟨k0, k1, k2⟩ := R2.cells
  obtain ⟨f0, f1, f2⟩ := R2.frozen
  generalize (mkn xs).length = m1 at *
  generalize (mkn ys).length = m2 at *
  clear R2 hr1 hr2 hB1 hB2
  go_wp2_with fail
  refine bodyPost_ret (v := .agg #[.bool neg, .slice X m1 xc, .slice Y m2 yc]) (by rw [results_one rfl]; go_simp) rfl ?_
  exact ⟨_, rfl, ⟨_, _, rfl, hx2.out, hy2.out⟩, hBB.out⟩
theorem half_parts : decide ((frz (-1) 2).num < 0) = true ∧ (frz (-1) 2).num.natAbs = 1 ∧ (frz (-1) 2).den = 2 := by
  obtain ⟨h1, h2, h3⟩ := fr_parts true (n := 1) (d := 2) (by decide) (by decide)
  exact ⟨h1, h2, h3⟩
theorem enc300 : encU 300 = [172, 2] := by decide
theorem encHalf : encQ true 1 2 = [1, 1, 1, 1, 2] := by decide
theorem below_eq {w w' : World} (h : w = w') : Below w.heap.size w w' := h ▸ Below.refl _ _
set_option maxRecDepth 20000 in
set_option maxHeartbeats 8000000 in
theorem known4_c (w : World) : Calls Try.prog 19 #[] w (RVal w (.bool true)) := by
  have NW := Lib.hid (fracNew_v w (-1) 2 (by unfold Fits64; omega) (by unfold Fits64; omega) (by omega))
  have EU := Lib.hid (fun w1 => show Calls Try.prog 11 #[.int .u64 300] w1 (RByt w1 (encU 300)) from encUint_c w1 300 (by omega))
  go_enter Try.func19, Try.ntmps19
  go_wp2_with fail
  refine (NW.out).mono ?_
  rintro e w1 ⟨v, rfl, hv, hB1⟩
  have hfv := hv.fracV
  have hfx := hv.fx
  obtain ⟨hp1, hp2, hp3⟩ := half_parts
  rw [hp1, hp2, hp3] at hfx
  obtain ⟨b, C, o, r, C', o', r', rfl, hb, hvx, hvy⟩ := hv.parts
  obtain rfl : b = true := by rw [← hb]; exact hp1
  have hBa : Below w1.heap.size w1 (w1.alloc (.cells #[.bool true, .slice C o r, .slice C' o' r'] 28)) := (Below.refl _ _).alloc (Nat.le_refl _) _
  have FA := Fcl.new w1 true (.slice C o r) (.slice C' o' r')
  have hfv := hfv.below hBa
  have hfx := hfx.below hBa
  have hB2 := below_then hB1 hBa
  have EF := Lib.hid (fun w1 (h : FracV w1 (.agg #[.bool true, .slice C o r, .slice C' o' r']) (frz (-1) 2) 2) => show Calls Try.prog 17 #[.agg #[.bool true, .slice C o r, .slice C' o' r']] w1 (RByt w1 (encQ true 1 2)) from by
    have := encFrac_c h (by omega) (by omega)
    rwa [hp1, hp2, hp3] at this)
  clear hv hb hvx hvy hp1 hp2 hp3 hBa hB1
  go_wp2_with fail
  generalize w1.alloc (.cells #[.bool true, .slice C o r, .slice C' o' r'] 28) = w2 at *
  generalize w1.heap.size = ga at *
  have hK : Below w2.heap.size w2 w2.drew := (Below.refl _ _).drew
  have hd : w2.drew.cell? ⟨ga, 0, none⟩ = some (.bool true) ∧ w2.drew.cell? ⟨ga, 1, none⟩ = some (.slice C o r) ∧ w2.drew.cell? ⟨ga, 2, none⟩ = some (.slice C' o' r') := (FA.below hK).cells
  have HFA := Lib.hid FA
  have HFV := Lib.hid hfv
  have HFX := Lib.hid hfx
  have HB2 := Lib.hid hB2
  clear FA hfv hfx hB2
  go_region_held3 (fun w' => w'.cell? ⟨ga, 0, none⟩ = some (.bool true) ∧ w'.cell? ⟨ga, 1, none⟩ = some (.slice C o r) ∧ w'.cell? ⟨ga, 2, none⟩ = some (.slice C' o' r')) (first | with_reducible exact hd | exact hd) (first | (go_at_call_of 11 (Value.int IntKind.u64 300); refine (EU.out _).mono ?_; rintro e w3 ⟨r1, rfl, hr1, hB3⟩; have B3 := below_then hK hB3; have hd := (HFA.out.below B3).cells) | (go_at_call_of 17 (Value.agg #[Value.bool true, Value.slice C o r, Value.slice C' o' r']); refine (EF.out _ (HFV.out.below B3)).mono ?_; rintro e w4 ⟨r2, rfl, hr2, hB4⟩; have B4 := below_then B3 hB4; have hr1 := (show OwB w2.heap.size w4 r1 (encU 300) from hr1.below hB4 (Nat.le_refl _)); have hd := (HFA.out.below B4).cells) | (refine step_appendB rfl (.tmp 10) (.tmp 12) rfl w2.heap.size r1 (encU 300) rfl hr1 r2 (encQ true 1 2) rfl hr2.byt (by rw [enc300, encHalf]; simp) B4.size ?_; intro v5 w5 hv5 hg5; have B5 := below_ownB B4 hg5 hr1 (Nat.le_refl _); have hd := (HFA.out.below B5).cells) | (go_at_call 20; refine (newReader_c hv5.byt (by rw [enc300, encHalf]; simp)).mono ?_; rintro e w6 ⟨g, rfl, hgl, hR6, hB6⟩; have B6 := below_then B5 hB6; have hd := (HFA.out.below B6).cells))
  have hg2 : w2.heap.size ≤ g := Nat.le_trans B5.size hgl
  have hU := uintS_enc (max := 300) (n := 300) (encQ true 1 2) (by omega) (by omega)
  have hFr := fracS_enc (K := canonN) (neg := true) (n := 1) (d := 2) [] (by decide) (by decide) (by decide)
  rw [List.append_nil] at hFr
  have UC := uint_c hR6 (by rw [enc300, encHalf]; simp) 300 (by omega)
  rw [hU] at UC
  have UC := Lib.hid (show Calls Try.prog 24 #[.pointer (some ⟨g, 0, none⟩), .int .u64 300] w6 (fun e w' => e = .returned (.int .u64 300) ∧ Rdr 66 w' g (encQ true 1 2, 0) ∧ w6.grownBy w' (some g)) from UC)
  have HB6 := Lib.hid B6
  clear hd hB3 hB4 hB6 hv5 hr1 hr2 B3 B4 B5 B6 hg5 hU hR6
  go_wp2_with fail
  refine (UC.out).mono ?_
  rintro e w7 ⟨rfl, hR7, hG7⟩
  have B7 := below_of_grown HB6.out hG7 HB6.out.size hg2
  have FC := frac_c hR7 (by rw [encHalf]; simp)
  rw [hFr] at FC
  have FC := Lib.hid FC
  clear hR7 hFr
  go_wp2_with fail
  refine (FC.out).mono ?_
  rintro e w8 ⟨r8, rfl, hr8, hR8, hG8⟩
  have B8 := below_of_grown B7 hG8 B7.size hg2
  obtain ⟨vn, vd, rfl, hy1, hy2⟩ := hr8
  obtain ⟨Y, yc, rfl⟩ := hy1.form
  obtain ⟨Y', yc', rfl⟩ := hy2.form
  have hBa : Below w8.heap.size w8 (w8.alloc (.cells #[.bool true, .slice Y (dg 1).length yc, .slice Y' (dg 2).length yc'] 28)) := (Below.refl _ _).alloc (Nat.le_refl _) _
  have FB := Fcl.new w8 true (.slice Y (dg 1).length yc) (.slice Y' (dg 2).length yc')
  have hy1 := hy1.below hBa
  have hy2 := hy2.below hBa
  have hR9 := hR8.below hBa
  have B9 := below_then B8 hBa
  have FX9 : Fx (w8.alloc (.cells #[.bool true, .slice Y (dg 1).length yc, .slice Y' (dg 2).length yc'] 28)) (.agg #[.bool true, .slice Y (dg 1).length yc, .slice Y' (dg 2).length yc']) true (dg 1) (dg 2) := ⟨_, _, rfl, hy1, hy2⟩
  generalize (dg 1).length = y1 at *
  generalize (dg 2).length = y2 at *
  clear hy1 hy2 hR8 hBa B8 hG8 B7 hG7
  go_wp2_with fail
  generalize w8.alloc (.cells #[.bool true, .slice Y y1 yc, .slice Y' y2 yc'] 28) = w9 at *
  generalize w8.heap.size = gb at *
  refine (EU.out _).mono ?_
  rintro e w10 ⟨r21, rfl, h21, hB10⟩
  have B10 := below_then B9 hB10
  obtain ⟨a0, a1, a2⟩ := (HFA.out.below B10).cells
  go_wp2_with ((with_reducible refine wp_stringB rfl (.tmp 21) rfl r21 (encU 300) rfl h21.byt ?_); rw [enc300])
  refine (EF.out _ (HFV.out.below B10)).mono ?_
  rintro e w11 ⟨r26, rfl, h26, hB11⟩
  have B11 := below_then B10 hB11
  have FB11 := (FB.below hB10).below hB11
  have hR11 := Lib.hid ((hR9.below hB10).below hB11)
  have FX11 := (FX9.below hB10).below hB11
  clear a0 a1 a2
  obtain ⟨a0, a1, a2⟩ := (HFA.out.below B11).cells
  obtain ⟨b0, b1, b2⟩ := FB11.cells
  have FSm := Lib.hid (show Calls Try.prog 30 #[.agg #[.bool true, .slice Y y1 yc, .slice Y' y2 yc'], .agg #[.bool true, .slice C o r, .slice C' o' r']] w11 (RVal w11 (.bool true)) from by
    have := fracSame_v FX11 (HFX.out.below B11)
    simpa using this)
  clear FB hR9 FX9 FX11 FB11 hB10
  have hcv := run_stringB w11 r26 _ h26.byt
  rw [encHalf] at hcv
  go_wp2_with fail
  refine (FSm.out).mono ?_
  rintro e w12 ⟨rfl, hB12⟩
  have hR12 := hR11.out.below hB12
  have B12 := below_then B11 hB12
  clear a0 a1 a2 b0 b1 b2
  have RM := Lib.hid (remaining_c hR12)
  have RE := Lib.hid (err_c hR12)
  go_wp2_with fail
  refine (RM.out).mono ?_
  rintro e w' ⟨rfl, rfl⟩
  go_wp2_with fail
  refine (RE.out).mono ?_
  rintro e w' ⟨rfl, rfl⟩
  go_wp2_with fail
  go_ret
  exact ⟨rfl, below_then HB2.out B12⟩
end
end Go.Proofs.Ytkdnmmbnljaahaa

/- Plain lemmas for the laws of layer 4: the canonical form and its lengths; encodings cut off. -/
namespace Go.Proofs.Ytkdnmmbnljaahaa
open Go.RowKit Dig
set_option linter.unusedVariables false

theorem canon_parts (q : Rat) : canonN (decide (q.num < 0)) q.num.natAbs q.den = true := by
  unfold canonN canon
  rw [val_dg, val_dg, fr_self]
  simp
theorem mkn_lt (xs : List Nat) (hs : Small xs) : val (mkn xs) < 4294967296 ^ 8 := by
  have h := val_lt (mkn xs) (mkn_small xs hs)
  exact Nat.lt_of_lt_of_le h (Nat.pow_le_pow_right (by omega) (mkn_length xs))
theorem fr_bound (neg : Bool) (n d K : Nat) (hn : n < K) (hd : d < K) (h1 : 1 < K) : (fr neg n d).num.natAbs < K ∧ (fr neg n d).den < K := by
  by_cases h : n = 0 ∨ d = 0
  · obtain ⟨_, h2, h3⟩ := rat_zero_parts ((fr_eq_zero neg n d).2 h)
    rw [h2, h3]
    omega
  · obtain ⟨_, h2, h3⟩ := fr_parts neg (n := n) (d := d) (by omega) (by omega)
    rw [h2, h3]
    have e1 := Nat.div_le_self n (Nat.gcd n d)
    have e2 := Nat.div_le_self d (Nat.gcd n d)
    omega
/-- The lengths of the bytes of the fractions that the laws draw. -/
theorem mkn_short (neg : Bool) (xs ys : List Nat) (hx : Small xs) (hy : Small ys) : (beB (fr neg (val (mkn xs)) (val (mkn ys))).num.natAbs).length ≤ 32 ∧ (beB (fr neg (val (mkn xs)) (val (mkn ys))).den).length ≤ 32 := by
  obtain ⟨h1, h2⟩ := fr_bound neg _ _ _ (mkn_lt xs hx) (mkn_lt ys hy) (by decide)
  exact ⟨beB_short h1, beB_short h2⟩
theorem encN_short {n : Nat} (h : (beB n).length ≤ 32) : (encN n).length ≤ 42 := by
  unfold encN encB
  have := encU_ten (n := (beB n).length) (by omega)
  rw [List.length_append]
  omega
theorem encQ_short {neg : Bool} {n d : Nat} (h1 : (beB n).length ≤ 32) (h2 : (beB d).length ≤ 32) : (encQ neg n d).length ≤ 85 := by
  have := encN_short h1
  have := encN_short h2
  unfold encQ
  simp
  omega
/-- What is read of a number, bytes and a fraction, one behind another, the end cut off. -/
theorem cut3 {n k : Nat} {ts : List UInt8} {neg : Bool} {a b : Nat} (hn : n < 18446744073709551616) (ht : ts.length ≤ 1000000) (ha : (beB a).length ≤ 8192) (hb : (beB b).length ≤ 8192) (hc : canonN neg a b = true) (hk : k ≤ ((encU n ++ encB ts) ++ encQ neg a b).length) :
    (fracS canonN (bytesS ts.length (uintS n (((encU n ++ encB ts) ++ encQ neg a b).take k, 0)).2).2).2.2 = if k < ((encU n ++ encB ts) ++ encQ neg a b).length then 3 else 0 := by
  have hl : ((encU n ++ encB ts) ++ encQ neg a b).length = (encU n).length + (encB ts).length + (encQ neg a b).length := by rw [List.length_append, List.length_append]
  rw [hl] at hk ⊢
  rcases Nat.lt_or_ge k (encU n).length with h1 | h1
  · rw [if_pos (by omega), List.append_assoc, List.take_append_of_le_length (by omega), uintS_cut hn h1, bytesS_stop (by decide), fracS_stop (by decide)]
  · obtain ⟨i, rfl⟩ : ∃ i, k = (encU n).length + i := ⟨k - (encU n).length, by omega⟩
    rw [List.append_assoc, List.take_append, List.take_of_length_le (by omega), Nat.add_sub_cancel_left, uintS_enc _ (Nat.le_refl _) hn]
    rcases Nat.lt_or_ge i (encB ts).length with h2 | h2
    · rw [if_pos (by omega), List.take_append_of_le_length (by omega), bytesS_cut (Nat.le_refl _) (by omega) h2, fracS_stop (by decide)]
    · obtain ⟨j, rfl⟩ : ∃ j, i = (encB ts).length + j := ⟨i - (encB ts).length, by omega⟩
      rw [List.take_append, List.take_of_length_le (by omega), Nat.add_sub_cancel_left, bytesS_enc _ _ (Nat.le_refl _) (by omega)]
      rcases Nat.lt_or_ge j (encQ neg a b).length with h3 | h3
      · rw [if_pos (by omega), fracS_cut ha hb h3]
      · rw [if_neg (by omega), List.take_of_length_le h3]
        have := fracS_enc (K := canonN) (neg := neg) (n := a) (d := b) [] ha hb hc
        rw [List.append_nil] at this
        rw [this]
end Go.Proofs.Ytkdnmmbnljaahaa

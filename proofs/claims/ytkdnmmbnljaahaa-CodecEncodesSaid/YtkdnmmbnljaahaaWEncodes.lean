/- The walk of CodecEncodes. -/
import Derived.Test.YtkdnmmbnljaahaaKn4
import Derived.Test.YtkdnmmbnljaahaaEnq
namespace Go.Proofs.Ytkdnmmbnljaahaa
set_option linter.unusedSimpArgs false
open Go.RowKit Dig
set_option linter.unusedVariables false

section
variable {w : World} {vb vx vy : Value} {ts : List UInt8} {xs ys : List Nat}
theorem encodes_big (n : Int) (neg : Bool) (hb : Byt w vb ts) (hx : Num w vx xs) (hy : Num w vy ys) (h : 300 < ts.length ∨ 5 < xs.length ∨ 5 < ys.length) :
    Calls Try.prog 3 #[.int .u64 n, vb, vx, .bool neg, vy] w (RVal w (.bool true)) := by
  obtain ⟨B, bc, rfl⟩ := hb.form
  obtain ⟨A, c, rfl⟩ := hx.form
  obtain ⟨A', c', rfl⟩ := hy.form
  generalize ts.length = l0 at *
  generalize xs.length = l1 at *
  generalize ys.length = l2 at *
  clear hb hx hy
  by_cases h0 : 300 < l0
  · have h0i : (300 : Int) < l0 := by omega
    clear h h0
    go_enter Try.func3, Try.ntmps3
    go_wp2_with fail
    go_ret
    exact ⟨rfl, Below.refl _ _⟩
  · have h0i : ¬ (300 : Int) < l0 := by omega
    by_cases h1 : 5 < l1
    · have h1i : (5 : Int) < l1 := by omega
      clear h h0 h1
      go_enter Try.func3, Try.ntmps3
      go_wp2_with fail
      go_ret
      exact ⟨rfl, Below.refl _ _⟩
    · have h1i : ¬ (5 : Int) < l1 := by omega
      have h2i : (5 : Int) < l2 := by omega
      clear h h0 h1
      go_enter Try.func3, Try.ntmps3
      go_wp2_with fail
      go_ret
      exact ⟨rfl, Below.refl _ _⟩
theorem mkn_frac {w : World} {vn vd : Value} {neg : Bool} {xs ys : List Nat} (h1 : Num w vn (mkn xs)) (h2 : Num w vd (mkn ys)) : FracV w (.agg #[.bool neg, vn, vd]) (fr neg (val (mkn xs)) (val (mkn ys))) 8 :=
  FracV.of ⟨_, h1, rfl, mkn_length xs⟩ ⟨_, h2, rfl, mkn_length ys⟩
set_option maxRecDepth 20000 in
set_option maxHeartbeats 16000000 in
theorem encodes_small (n : Nat) (hn : n < 18446744073709551616) (neg : Bool) (hb : Byt w vb ts) (hx : Num w vx xs) (hy : Num w vy ys) (h0 : ts.length ≤ 300) (h1 : xs.length ≤ 5) (h2 : ys.length ≤ 5) :
    Calls Try.prog 3 #[.int .u64 (n : Int), vb, vx, .bool neg, vy] w (RVal w (.bool true)) := by
  have BX := Lib.hid (base_c w _ xs hx)
  have FR := Lib.hid (fun w1 (hB : Below w.heap.size w w1) => frac4_c neg (hx.below hB) (hy.below hB))
  have HB := Lib.hid hb
  obtain ⟨B, bc, rfl⟩ := hb.form
  obtain ⟨A, c, rfl⟩ := hx.form
  obtain ⟨A', c', rfl⟩ := hy.form
  have h0i : ¬ (300 : Int) < ts.length := by omega
  have h1i : ¬ (5 : Int) < xs.length := by omega
  have h2i : ¬ (5 : Int) < ys.length := by omega
  have HT := Lib.hid (show ts.length ≤ 1000000000 by omega)
  have HN := Lib.hid hn
  generalize ts.length = bl at HB h0i ⊢
  generalize xs.length = l1 at *
  generalize ys.length = l2 at *
  clear hb hx hy h0 h1 h2 hn
  go_enter Try.func3, Try.ntmps3
  go_wp2_with fail
  refine (BX.out).mono ?_
  rintro e w1 ⟨r1, rfl, hr1, hB1⟩
  go_wp2_with fail
  refine (FR.out _ hB1).mono ?_
  rintro e w2 ⟨v, rfl, hv, hB2⟩
  obtain ⟨vn, vd, rfl, hv1, hv2⟩ := hv
  obtain ⟨X, xc, rfl⟩ := hr1.num.form
  obtain ⟨Y, yc, rfl⟩ := hv1.form
  obtain ⟨Z, zc, rfl⟩ := hv2.form
  have hBa : Below w2.heap.size w2 (w2.alloc (.cells #[.bool neg, .slice Y (mkn xs).length yc, .slice Z (mkn ys).length zc] 28)) := (Below.refl _ _).alloc (Nat.le_refl _) _
  have FF := Fcl.new w2 neg (.slice Y (mkn xs).length yc) (.slice Z (mkn ys).length zc)
  have FV := (mkn_frac (neg := neg) hv1 hv2).below hBa
  have HA := (hr1.num.below hB2).below hBa
  have HBB := Lib.hid (below_then (below_then hB1 hB2) hBa)
  have HB := HB.out.below HBB.out
  have HX := Lib.hid (show (mkn xs).length ≤ 100000 by have := mkn_length xs; omega)
  clear hBa
  generalize (mkn xs).length = yl at FF FV HA HBB HB ⊢
  generalize (mkn ys).length = zl at FF FV HA HBB HB ⊢
  generalize hq : fr neg (val (mkn xs)) (val (mkn ys)) = q at FV
  clear hv1 hv2 hr1 hB1 hB2 BX FR hq
  go_wp2_with fail
  generalize w2.alloc (.cells #[.bool neg, .slice Y yl yc, .slice Z zl zc] 28) = w3 at *
  generalize w2.heap.size = g at *
  refine hk_begin (S := fun w' => Below w3.drew.heap.size w3.drew w') 49 (by kernel_rfl) (by kernel_rfl) ?_
  have KB : Below w3.heap.size w3 w3.drew := (Below.refl _ _).drew
  have HB := HB.below (Below.refl _ _).drew
  have HA := HA.below (Below.refl _ _).drew
  have FF := FF.below (Below.refl _ _).drew
  have FV := FV.below (Below.refl _ _).drew
  refine hk_take (i := 0) (some 32) (.int .u64 (n : Int)) (by kernel_rfl) (by kernel_rfl) (by kernel_rfl) (by kernel_rfl) (by kernel_rfl) (by kernel_rfl) (fun w hS => by kernel_rfl) (fun _ _ d _ _ h => by cases d <;> exact h) (Below.refl _ _) ?_
  simp only [put_lit, put_non, List.set_cons_zero, List.set_cons_succ]
  refine hk_take (i := 3) (some 35) (.int .u64 (n : Int)) (by kernel_rfl) (by kernel_rfl) (by kernel_rfl) (by kernel_rfl) (by kernel_rfl) (by kernel_rfl) (fun w hS => by kernel_rfl) (fun _ _ d _ _ h => by cases d <;> exact h) (Below.refl _ _) ?_
  simp only [put_lit, put_non, List.set_cons_zero, List.set_cons_succ]
  refine hk_one (i := 1) (by kernel_rfl) ?_
  refine op_call (some 33) 11 #[.int .u64 (n : Int)] (by kernel_rfl) (by kernel_rfl) (by kernel_rfl) (fun w => by kernel_rfl) ?_
  refine (encUint_c _ n HN.out).mono ?_
  rintro e y1 ⟨r1, rfl, h1, hB⟩
  refine ⟨_, rfl, hB, ?_⟩
  refine hk_more (S2 := fun w' => Below y1.heap.size y1 w') (fun w' h => below_then hB h) _ _ _ _ ?_
  have KB := below_then KB hB
  have HB := HB.below hB
  have HA := HA.below hB
  have FF := FF.below hB
  have FV := FV.below hB
  clear hB
  simp only [put_lit, put_non, List.set_cons_zero, List.set_cons_succ]
  have b1 := h1.byt
  refine hk_take (i := 2) (some 34) (.string ⟨(encU n).toArray⟩) (by kernel_rfl) (by kernel_rfl) (by kernel_rfl) (by kernel_rfl) (by kernel_rfl) (by kernel_rfl) (fun w hS => exec_strB 33 (b1.below hS) (by kernel_rfl) (by kernel_rfl)) (fun _ _ d _ _ h => by cases d <;> exact h) (Below.refl _ _) ?_
  simp only [put_lit, put_non, List.set_cons_zero, List.set_cons_succ]
  refine hk_one (i := 4) (by kernel_rfl) ?_
  refine op_call (some 36) 12 #[.int .u64 (n : Int)] (by kernel_rfl) (by kernel_rfl) (by kernel_rfl) (fun w => by kernel_rfl) ?_
  refine (refUint_c _ n HN.out).mono ?_
  rintro e y2 ⟨q1, rfl, k1, hB⟩
  refine ⟨_, rfl, hB, ?_⟩
  refine hk_more (S2 := fun w' => Below y2.heap.size y2 w') (fun w' h => below_then hB h) _ _ _ _ ?_
  have KB := below_then KB hB
  have HB := HB.below hB
  have HA := HA.below hB
  have FF := FF.below hB
  have FV := FV.below hB
  have b1 := b1.below hB
  clear hB
  simp only [put_lit, put_non, List.set_cons_zero, List.set_cons_succ]
  have c1 := k1.byt
  refine hk_take (i := 5) (some 37) (.string ⟨(encU n).toArray⟩) (by kernel_rfl) (by kernel_rfl) (by kernel_rfl) (by kernel_rfl) (by kernel_rfl) (by kernel_rfl) (fun w hS => exec_strB 36 (c1.below hS) (by kernel_rfl) (by kernel_rfl)) (fun _ _ d _ _ h => by cases d <;> exact h) (Below.refl _ _) ?_
  simp only [put_lit, put_non, List.set_cons_zero, List.set_cons_succ]
  refine hk_take (i := 6) (some 38) (.bool true) (by kernel_rfl) (by kernel_rfl) (by kernel_rfl) (by kernel_rfl) (by kernel_rfl) (by kernel_rfl) (fun w hS => exec_eqStr 34 37 ⟨(encU n).toArray⟩ (by kernel_rfl) (by kernel_rfl) (by kernel_rfl)) (fun _ _ d _ _ h => by cases d <;> exact h) (Below.refl _ _) ?_
  simp only [put_lit, put_non, List.set_cons_zero, List.set_cons_succ]
  refine hk_take (i := 7) (some 39) (.bool true) (by kernel_rfl) (by kernel_rfl) (by kernel_rfl) (by kernel_rfl) (by kernel_rfl) (by kernel_rfl) (fun w hS => by kernel_rfl) (fun _ _ d _ _ h => by cases d <;> exact h) (Below.refl _ _) ?_
  simp only [put_lit, put_non, List.set_cons_zero, List.set_cons_succ]
  refine hk_take (i := 8) (some 40) (.int .u64 (n : Int)) (by kernel_rfl) (by kernel_rfl) (by kernel_rfl) (by kernel_rfl) (by kernel_rfl) (by kernel_rfl) (fun w hS => by kernel_rfl) (fun _ _ d _ _ h => by cases d <;> exact h) (Below.refl _ _) ?_
  simp only [put_lit, put_non, List.set_cons_zero, List.set_cons_succ]
  refine hk_take (i := 9) (some 41) (.int .u64 ((n % 32768 : Nat) : Int)) (by kernel_rfl) (by kernel_rfl) (by kernel_rfl) (by kernel_rfl) (by kernel_rfl) (by kernel_rfl) (fun w hS => exec_low15 40 n HN.out (by kernel_rfl) (by kernel_rfl) (by kernel_rfl)) (fun _ _ d _ _ h => by cases d <;> exact h) (Below.refl _ _) ?_
  simp only [put_lit, put_non, List.set_cons_zero, List.set_cons_succ]
  refine hk_take (i := 12) (some 44) (.int .u64 (n : Int)) (by kernel_rfl) (by kernel_rfl) (by kernel_rfl) (by kernel_rfl) (by kernel_rfl) (by kernel_rfl) (fun w hS => by kernel_rfl) (fun _ _ d _ _ h => by cases d <;> exact h) (Below.refl _ _) ?_
  simp only [put_lit, put_non, List.set_cons_zero, List.set_cons_succ]
  refine hk_take (i := 13) (some 45) (.int .u64 ((n % 32768 : Nat) : Int)) (by kernel_rfl) (by kernel_rfl) (by kernel_rfl) (by kernel_rfl) (by kernel_rfl) (by kernel_rfl) (fun w hS => exec_low15 44 n HN.out (by kernel_rfl) (by kernel_rfl) (by kernel_rfl)) (fun _ _ d _ _ h => by cases d <;> exact h) (Below.refl _ _) ?_
  simp only [put_lit, put_non, List.set_cons_zero, List.set_cons_succ]
  refine hk_one (i := 10) (by kernel_rfl) ?_
  refine op_call (some 42) 11 #[.int .u64 ((n % 32768 : Nat) : Int)] (by kernel_rfl) (by kernel_rfl) (by kernel_rfl) (fun w => by kernel_rfl) ?_
  refine (encUint_c _ (n % 32768) (by omega)).mono ?_
  rintro e y3 ⟨r2, rfl, h2, hB⟩
  refine ⟨_, rfl, hB, ?_⟩
  refine hk_more (S2 := fun w' => Below y3.heap.size y3 w') (fun w' h => below_then hB h) _ _ _ _ ?_
  have KB := below_then KB hB
  have HB := HB.below hB
  have HA := HA.below hB
  have FF := FF.below hB
  have FV := FV.below hB
  have b1 := b1.below hB
  have c1 := c1.below hB
  clear hB
  simp only [put_lit, put_non, List.set_cons_zero, List.set_cons_succ]
  have b2 := h2.byt
  refine hk_take (i := 11) (some 43) (.string ⟨(encU (n % 32768)).toArray⟩) (by kernel_rfl) (by kernel_rfl) (by kernel_rfl) (by kernel_rfl) (by kernel_rfl) (by kernel_rfl) (fun w hS => exec_strB 42 (b2.below hS) (by kernel_rfl) (by kernel_rfl)) (fun _ _ d _ _ h => by cases d <;> exact h) (Below.refl _ _) ?_
  simp only [put_lit, put_non, List.set_cons_zero, List.set_cons_succ]
  refine hk_one (i := 14) (by kernel_rfl) ?_
  refine op_call (some 46) 12 #[.int .u64 ((n % 32768 : Nat) : Int)] (by kernel_rfl) (by kernel_rfl) (by kernel_rfl) (fun w => by kernel_rfl) ?_
  refine (refUint_c _ (n % 32768) (by omega)).mono ?_
  rintro e y4 ⟨q2, rfl, k2, hB⟩
  refine ⟨_, rfl, hB, ?_⟩
  refine hk_more (S2 := fun w' => Below y4.heap.size y4 w') (fun w' h => below_then hB h) _ _ _ _ ?_
  have KB := below_then KB hB
  have HB := HB.below hB
  have HA := HA.below hB
  have FF := FF.below hB
  have FV := FV.below hB
  have b1 := b1.below hB
  have c1 := c1.below hB
  have b2 := b2.below hB
  clear hB
  simp only [put_lit, put_non, List.set_cons_zero, List.set_cons_succ]
  have c2 := k2.byt
  refine hk_take (i := 15) (some 47) (.string ⟨(encU (n % 32768)).toArray⟩) (by kernel_rfl) (by kernel_rfl) (by kernel_rfl) (by kernel_rfl) (by kernel_rfl) (by kernel_rfl) (fun w hS => exec_strB 46 (c2.below hS) (by kernel_rfl) (by kernel_rfl)) (fun _ _ d _ _ h => by cases d <;> exact h) (Below.refl _ _) ?_
  simp only [put_lit, put_non, List.set_cons_zero, List.set_cons_succ]
  refine hk_take (i := 16) (some 48) (.bool true) (by kernel_rfl) (by kernel_rfl) (by kernel_rfl) (by kernel_rfl) (by kernel_rfl) (by kernel_rfl) (fun w hS => exec_eqStr 43 47 ⟨(encU (n % 32768)).toArray⟩ (by kernel_rfl) (by kernel_rfl) (by kernel_rfl)) (fun _ _ d _ _ h => by cases d <;> exact h) (Below.refl _ _) ?_
  simp only [put_lit, put_non, List.set_cons_zero, List.set_cons_succ]
  refine hk_take (i := 17) (some 49) (.bool true) (by kernel_rfl) (by kernel_rfl) (by kernel_rfl) (by kernel_rfl) (by kernel_rfl) (by kernel_rfl) (fun w hS => by kernel_rfl) (fun _ _ d _ _ h => by cases d <;> exact h) (Below.refl _ _) ?_
  simp only [put_lit, put_non, List.set_cons_zero, List.set_cons_succ]
  refine hk_take (i := 18) (some 50) (.bool true) (by kernel_rfl) (by kernel_rfl) (by kernel_rfl) (by kernel_rfl) (by kernel_rfl) (by kernel_rfl) (fun w hS => by kernel_rfl) (fun _ _ d _ _ h => by cases d <;> exact h) (Below.refl _ _) ?_
  simp only [put_lit, put_non, List.set_cons_zero, List.set_cons_succ]
  refine hk_take (i := 19) (some 51) (.slice B bl bc) (by kernel_rfl) (by kernel_rfl) (by kernel_rfl) (by kernel_rfl) (by kernel_rfl) (by kernel_rfl) (fun w hS => by kernel_rfl) (fun _ _ d _ _ h => by cases d <;> exact h) (Below.refl _ _) ?_
  simp only [put_lit, put_non, List.set_cons_zero, List.set_cons_succ]
  refine hk_take (i := 22) (some 54) (.slice B bl bc) (by kernel_rfl) (by kernel_rfl) (by kernel_rfl) (by kernel_rfl) (by kernel_rfl) (by kernel_rfl) (fun w hS => by kernel_rfl) (fun _ _ d _ _ h => by cases d <;> exact h) (Below.refl _ _) ?_
  simp only [put_lit, put_non, List.set_cons_zero, List.set_cons_succ]
  refine hk_one (i := 20) (by kernel_rfl) ?_
  refine op_call (some 52) 13 #[.slice B bl bc] (by kernel_rfl) (by kernel_rfl) (by kernel_rfl) (fun w => by kernel_rfl) ?_
  refine (encBytes_c HB HT.out).mono ?_
  rintro e y5 ⟨r3, rfl, h3, hB⟩
  refine ⟨_, rfl, hB, ?_⟩
  refine hk_more (S2 := fun w' => Below y5.heap.size y5 w') (fun w' h => below_then hB h) _ _ _ _ ?_
  have KB := below_then KB hB
  have HB := HB.below hB
  have HA := HA.below hB
  have FF := FF.below hB
  have FV := FV.below hB
  have b1 := b1.below hB
  have c1 := c1.below hB
  have b2 := b2.below hB
  have c2 := c2.below hB
  clear hB
  simp only [put_lit, put_non, List.set_cons_zero, List.set_cons_succ]
  have b3 := h3.byt
  refine hk_take (i := 21) (some 53) (.string ⟨(encB ts).toArray⟩) (by kernel_rfl) (by kernel_rfl) (by kernel_rfl) (by kernel_rfl) (by kernel_rfl) (by kernel_rfl) (fun w hS => exec_strB 52 (b3.below hS) (by kernel_rfl) (by kernel_rfl)) (fun _ _ d _ _ h => by cases d <;> exact h) (Below.refl _ _) ?_
  simp only [put_lit, put_non, List.set_cons_zero, List.set_cons_succ]
  refine hk_one (i := 23) (by kernel_rfl) ?_
  refine op_call (some 55) 14 #[.slice B bl bc] (by kernel_rfl) (by kernel_rfl) (by kernel_rfl) (fun w => by kernel_rfl) ?_
  refine (refBytes_c HB HT.out).mono ?_
  rintro e y6 ⟨q3, rfl, k3, hB⟩
  refine ⟨_, rfl, hB, ?_⟩
  refine hk_more (S2 := fun w' => Below y6.heap.size y6 w') (fun w' h => below_then hB h) _ _ _ _ ?_
  have KB := below_then KB hB
  have HB := HB.below hB
  have HA := HA.below hB
  have FF := FF.below hB
  have FV := FV.below hB
  have b1 := b1.below hB
  have c1 := c1.below hB
  have b2 := b2.below hB
  have c2 := c2.below hB
  have b3 := b3.below hB
  clear hB
  simp only [put_lit, put_non, List.set_cons_zero, List.set_cons_succ]
  have c3 := k3.byt
  refine hk_take (i := 24) (some 56) (.string ⟨(encB ts).toArray⟩) (by kernel_rfl) (by kernel_rfl) (by kernel_rfl) (by kernel_rfl) (by kernel_rfl) (by kernel_rfl) (fun w hS => exec_strB 55 (c3.below hS) (by kernel_rfl) (by kernel_rfl)) (fun _ _ d _ _ h => by cases d <;> exact h) (Below.refl _ _) ?_
  simp only [put_lit, put_non, List.set_cons_zero, List.set_cons_succ]
  refine hk_take (i := 25) (some 57) (.bool true) (by kernel_rfl) (by kernel_rfl) (by kernel_rfl) (by kernel_rfl) (by kernel_rfl) (by kernel_rfl) (fun w hS => exec_eqStr 53 56 ⟨(encB ts).toArray⟩ (by kernel_rfl) (by kernel_rfl) (by kernel_rfl)) (fun _ _ d _ _ h => by cases d <;> exact h) (Below.refl _ _) ?_
  simp only [put_lit, put_non, List.set_cons_zero, List.set_cons_succ]
  refine hk_take (i := 26) (some 58) (.bool true) (by kernel_rfl) (by kernel_rfl) (by kernel_rfl) (by kernel_rfl) (by kernel_rfl) (by kernel_rfl) (fun w hS => by kernel_rfl) (fun _ _ d _ _ h => by cases d <;> exact h) (Below.refl _ _) ?_
  simp only [put_lit, put_non, List.set_cons_zero, List.set_cons_succ]
  refine hk_take (i := 27) (some 59) (.bool true) (by kernel_rfl) (by kernel_rfl) (by kernel_rfl) (by kernel_rfl) (by kernel_rfl) (by kernel_rfl) (fun w hS => by kernel_rfl) (fun _ _ d _ _ h => by cases d <;> exact h) (Below.refl _ _) ?_
  simp only [put_lit, put_non, List.set_cons_zero, List.set_cons_succ]
  refine hk_take (i := 28) (some 60) (.slice X yl xc) (by kernel_rfl) (by kernel_rfl) (by kernel_rfl) (by kernel_rfl) (by kernel_rfl) (by kernel_rfl) (fun w hS => by kernel_rfl) (fun _ _ d _ _ h => by cases d <;> exact h) (Below.refl _ _) ?_
  simp only [put_lit, put_non, List.set_cons_zero, List.set_cons_succ]
  refine hk_take (i := 31) (some 63) (.slice X yl xc) (by kernel_rfl) (by kernel_rfl) (by kernel_rfl) (by kernel_rfl) (by kernel_rfl) (by kernel_rfl) (fun w hS => by kernel_rfl) (fun _ _ d _ _ h => by cases d <;> exact h) (Below.refl _ _) ?_
  simp only [put_lit, put_non, List.set_cons_zero, List.set_cons_succ]
  refine hk_one (i := 29) (by kernel_rfl) ?_
  refine op_call (some 61) 15 #[.slice X yl xc] (by kernel_rfl) (by kernel_rfl) (by kernel_rfl) (fun w => by kernel_rfl) ?_
  refine (encNat_c HA HX.out).mono ?_
  rintro e y7 ⟨r4, rfl, h4, hB⟩
  refine ⟨_, rfl, hB, ?_⟩
  refine hk_more (S2 := fun w' => Below y7.heap.size y7 w') (fun w' h => below_then hB h) _ _ _ _ ?_
  have KB := below_then KB hB
  have HB := HB.below hB
  have HA := HA.below hB
  have FF := FF.below hB
  have FV := FV.below hB
  have b1 := b1.below hB
  have c1 := c1.below hB
  have b2 := b2.below hB
  have c2 := c2.below hB
  have b3 := b3.below hB
  have c3 := c3.below hB
  clear hB
  simp only [put_lit, put_non, List.set_cons_zero, List.set_cons_succ]
  have b4 := h4.byt
  refine hk_take (i := 30) (some 62) (.string ⟨(encN (val (mkn xs))).toArray⟩) (by kernel_rfl) (by kernel_rfl) (by kernel_rfl) (by kernel_rfl) (by kernel_rfl) (by kernel_rfl) (fun w hS => exec_strB 61 (b4.below hS) (by kernel_rfl) (by kernel_rfl)) (fun _ _ d _ _ h => by cases d <;> exact h) (Below.refl _ _) ?_
  simp only [put_lit, put_non, List.set_cons_zero, List.set_cons_succ]
  refine hk_one (i := 32) (by kernel_rfl) ?_
  refine op_call (some 64) 16 #[.slice X yl xc] (by kernel_rfl) (by kernel_rfl) (by kernel_rfl) (fun w => by kernel_rfl) ?_
  refine (refNat_c HA HX.out).mono ?_
  rintro e y8 ⟨q4, rfl, k4, hB⟩
  refine ⟨_, rfl, hB, ?_⟩
  refine hk_more (S2 := fun w' => Below y8.heap.size y8 w') (fun w' h => below_then hB h) _ _ _ _ ?_
  have KB := below_then KB hB
  have HB := HB.below hB
  have HA := HA.below hB
  have FF := FF.below hB
  have FV := FV.below hB
  have b1 := b1.below hB
  have c1 := c1.below hB
  have b2 := b2.below hB
  have c2 := c2.below hB
  have b3 := b3.below hB
  have c3 := c3.below hB
  have b4 := b4.below hB
  clear hB
  simp only [put_lit, put_non, List.set_cons_zero, List.set_cons_succ]
  have c4 := k4.byt
  refine hk_take (i := 33) (some 65) (.string ⟨(encN (val (mkn xs))).toArray⟩) (by kernel_rfl) (by kernel_rfl) (by kernel_rfl) (by kernel_rfl) (by kernel_rfl) (by kernel_rfl) (fun w hS => exec_strB 64 (c4.below hS) (by kernel_rfl) (by kernel_rfl)) (fun _ _ d _ _ h => by cases d <;> exact h) (Below.refl _ _) ?_
  simp only [put_lit, put_non, List.set_cons_zero, List.set_cons_succ]
  refine hk_take (i := 34) (some 66) (.bool true) (by kernel_rfl) (by kernel_rfl) (by kernel_rfl) (by kernel_rfl) (by kernel_rfl) (by kernel_rfl) (fun w hS => exec_eqStr 62 65 ⟨(encN (val (mkn xs))).toArray⟩ (by kernel_rfl) (by kernel_rfl) (by kernel_rfl)) (fun _ _ d _ _ h => by cases d <;> exact h) (Below.refl _ _) ?_
  simp only [put_lit, put_non, List.set_cons_zero, List.set_cons_succ]
  refine hk_take (i := 35) (some 67) (.bool true) (by kernel_rfl) (by kernel_rfl) (by kernel_rfl) (by kernel_rfl) (by kernel_rfl) (by kernel_rfl) (fun w hS => by kernel_rfl) (fun _ _ d _ _ h => by cases d <;> exact h) (Below.refl _ _) ?_
  simp only [put_lit, put_non, List.set_cons_zero, List.set_cons_succ]
  refine hk_take (i := 36) (some 68) (.bool true) (by kernel_rfl) (by kernel_rfl) (by kernel_rfl) (by kernel_rfl) (by kernel_rfl) (by kernel_rfl) (fun w hS => by kernel_rfl) (fun _ _ d _ _ h => by cases d <;> exact h) (Below.refl _ _) ?_
  simp only [put_lit, put_non, List.set_cons_zero, List.set_cons_succ]
  refine hk_take (i := 37) (some 69) (.agg #[.bool neg, .slice Y yl yc, .slice Z zl zc]) (by kernel_rfl) (by kernel_rfl) (by kernel_rfl) (by kernel_rfl) (by kernel_rfl) (by kernel_rfl) (fun w hS => exec_load3 12 (FF.below hS) (by kernel_rfl) (by kernel_rfl)) (fun _ _ d _ _ h => by cases d <;> exact h) (Below.refl _ _) ?_
  simp only [put_lit, put_non, List.set_cons_zero, List.set_cons_succ]
  refine hk_take (i := 40) (some 72) (.agg #[.bool neg, .slice Y yl yc, .slice Z zl zc]) (by kernel_rfl) (by kernel_rfl) (by kernel_rfl) (by kernel_rfl) (by kernel_rfl) (by kernel_rfl) (fun w hS => exec_load3 12 (FF.below hS) (by kernel_rfl) (by kernel_rfl)) (fun _ _ d _ _ h => by cases d <;> exact h) (Below.refl _ _) ?_
  simp only [put_lit, put_non, List.set_cons_zero, List.set_cons_succ]
  refine hk_one (i := 38) (by kernel_rfl) ?_
  refine op_call (some 70) 17 #[.agg #[.bool neg, .slice Y yl yc, .slice Z zl zc]] (by kernel_rfl) (by kernel_rfl) (by kernel_rfl) (fun w => by kernel_rfl) ?_
  refine (encFrac_c FV (by omega) (by omega)).mono ?_
  rintro e y9 ⟨r5, rfl, h5, hB⟩
  refine ⟨_, rfl, hB, ?_⟩
  refine hk_more (S2 := fun w' => Below y9.heap.size y9 w') (fun w' h => below_then hB h) _ _ _ _ ?_
  have KB := below_then KB hB
  have HB := HB.below hB
  have HA := HA.below hB
  have FF := FF.below hB
  have FV := FV.below hB
  have b1 := b1.below hB
  have c1 := c1.below hB
  have b2 := b2.below hB
  have c2 := c2.below hB
  have b3 := b3.below hB
  have c3 := c3.below hB
  have b4 := b4.below hB
  have c4 := c4.below hB
  clear hB
  simp only [put_lit, put_non, List.set_cons_zero, List.set_cons_succ]
  have b5 := h5.byt
  refine hk_take (i := 39) (some 71) (.string ⟨(encQ (decide (q.num < 0)) q.num.natAbs q.den).toArray⟩) (by kernel_rfl) (by kernel_rfl) (by kernel_rfl) (by kernel_rfl) (by kernel_rfl) (by kernel_rfl) (fun w hS => exec_strB 70 (b5.below hS) (by kernel_rfl) (by kernel_rfl)) (fun _ _ d _ _ h => by cases d <;> exact h) (Below.refl _ _) ?_
  simp only [put_lit, put_non, List.set_cons_zero, List.set_cons_succ]
  refine hk_one (i := 41) (by kernel_rfl) ?_
  refine op_call (some 73) 18 #[.agg #[.bool neg, .slice Y yl yc, .slice Z zl zc]] (by kernel_rfl) (by kernel_rfl) (by kernel_rfl) (fun w => by kernel_rfl) ?_
  refine (refFrac_c FV (by omega) (by omega)).mono ?_
  rintro e y10 ⟨q5, rfl, k5, hB⟩
  refine ⟨_, rfl, hB, ?_⟩
  refine hk_more (S2 := fun w' => Below y10.heap.size y10 w') (fun w' h => below_then hB h) _ _ _ _ ?_
  have KB := below_then KB hB
  have HB := HB.below hB
  have HA := HA.below hB
  have FF := FF.below hB
  have FV := FV.below hB
  have b1 := b1.below hB
  have c1 := c1.below hB
  have b2 := b2.below hB
  have c2 := c2.below hB
  have b3 := b3.below hB
  have c3 := c3.below hB
  have b4 := b4.below hB
  have c4 := c4.below hB
  have b5 := b5.below hB
  clear hB
  simp only [put_lit, put_non, List.set_cons_zero, List.set_cons_succ]
  have c5 := k5.byt
  refine hk_take (i := 42) (some 74) (.string ⟨(encQ (decide (q.num < 0)) q.num.natAbs q.den).toArray⟩) (by kernel_rfl) (by kernel_rfl) (by kernel_rfl) (by kernel_rfl) (by kernel_rfl) (by kernel_rfl) (fun w hS => exec_strB 73 (c5.below hS) (by kernel_rfl) (by kernel_rfl)) (fun _ _ d _ _ h => by cases d <;> exact h) (Below.refl _ _) ?_
  simp only [put_lit, put_non, List.set_cons_zero, List.set_cons_succ]
  refine hk_take (i := 43) (some 75) (.bool true) (by kernel_rfl) (by kernel_rfl) (by kernel_rfl) (by kernel_rfl) (by kernel_rfl) (by kernel_rfl) (fun w hS => exec_eqStr 71 74 ⟨(encQ (decide (q.num < 0)) q.num.natAbs q.den).toArray⟩ (by kernel_rfl) (by kernel_rfl) (by kernel_rfl)) (fun _ _ d _ _ h => by cases d <;> exact h) (Below.refl _ _) ?_
  simp only [put_lit, put_non, List.set_cons_zero, List.set_cons_succ]
  refine hk_take (i := 44) (some 76) (.bool true) (by kernel_rfl) (by kernel_rfl) (by kernel_rfl) (by kernel_rfl) (by kernel_rfl) (by kernel_rfl) (fun w hS => by kernel_rfl) (fun _ _ d _ _ h => by cases d <;> exact h) (Below.refl _ _) ?_
  simp only [put_lit, put_non, List.set_cons_zero, List.set_cons_succ]
  refine hk_take (i := 45) (some 77) (.bool true) (by kernel_rfl) (by kernel_rfl) (by kernel_rfl) (by kernel_rfl) (by kernel_rfl) (by kernel_rfl) (fun w hS => by kernel_rfl) (fun _ _ d _ _ h => by cases d <;> exact h) (Below.refl _ _) ?_
  simp only [put_lit, put_non, List.set_cons_zero, List.set_cons_succ]
  refine hk_one (i := 46) (by kernel_rfl) ?_
  refine op_call (some 78) 19 #[] (by kernel_rfl) (by kernel_rfl) (by kernel_rfl) (fun w => by kernel_rfl) ?_
  refine (known4_c _).mono ?_
  rintro e y11 ⟨rfl, hB⟩
  refine ⟨_, rfl, hB, ?_⟩
  refine hk_more (S2 := fun w' => Below y11.heap.size y11 w') (fun w' h => below_then hB h) _ _ _ _ ?_
  have KB := below_then KB hB
  have HB := HB.below hB
  have HA := HA.below hB
  have FF := FF.below hB
  have FV := FV.below hB
  have b1 := b1.below hB
  have c1 := c1.below hB
  have b2 := b2.below hB
  have c2 := c2.below hB
  have b3 := b3.below hB
  have c3 := c3.below hB
  have b4 := b4.below hB
  have c4 := c4.below hB
  have b5 := b5.below hB
  have c5 := c5.below hB
  clear hB
  simp only [put_lit, put_non, List.set_cons_zero, List.set_cons_succ]
  refine hk_take (i := 47) (some 79) (.bool true) (by kernel_rfl) (by kernel_rfl) (by kernel_rfl) (by kernel_rfl) (by kernel_rfl) (by kernel_rfl) (fun w hS => by kernel_rfl) (fun _ _ d _ _ h => by cases d <;> exact h) (Below.refl _ _) ?_
  simp only [put_lit, put_non, List.set_cons_zero, List.set_cons_succ]
  refine hk_take (i := 48) (some 10) (.bool true) (by kernel_rfl) (by kernel_rfl) (by kernel_rfl) (by kernel_rfl) (by kernel_rfl) (by kernel_rfl) (fun w hS => by kernel_rfl) (fun _ _ d _ _ h => by cases d <;> exact h) (Below.refl _ _) ?_
  simp only [put_lit, put_non, List.set_cons_zero, List.set_cons_succ]
  refine hk_done (by kernel_rfl) ?_
  go_wp2_with fail
  go_ret
  exact ⟨rfl, below_then HBB.out KB⟩
end
theorem encodes_walk (w : World) (vb vx vy : Value) (ts : List UInt8) (xs ys : List Nat) {a : Int} {neg : Bool} (ha : (Lit.int .u64 a).wf = true) (hb : Byt w vb ts) (hx : Num w vx xs) (hy : Num w vy ys) :
    Calls Try.prog 3 #[.int .u64 a, vb, vx, .bool neg, vy] w (RVal w (.bool true)) := by
  by_cases h : 300 < ts.length ∨ 5 < xs.length ∨ 5 < ys.length
  · exact encodes_big a neg hb hx hy h
  · obtain ⟨h1, h2⟩ := wf_u64 ha
    obtain ⟨n, rfl⟩ := Int.eq_ofNat_of_zero_le h1
    exact encodes_small n (by omega) neg hb hx hy (by omega) (by omega) (by omega)
end Go.Proofs.Ytkdnmmbnljaahaa

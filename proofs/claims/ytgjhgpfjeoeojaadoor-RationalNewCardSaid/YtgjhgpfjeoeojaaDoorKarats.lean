/- The contract of splitProduct: three products of numbers with half of the digits. -/
import Derived.Deep.RegionHeld3
import Derived.Test.YtgjhgpfjeoeojaaDoorMuls
import Derived.Test.YtgjhgpfjeoeojaaDoorDivs
import Derived.Test.YtgjhgpfjeoeojaaDoorAdds
namespace Go.Proofs.YtgjhgpfjeoeojaaDoor
open Go.RowKit Dig
set_option linter.unusedVariables false

namespace Dig
theorem drop_replicate' (n k : Nat) : (List.replicate n 0).drop k = List.replicate (n - k) 0 := by simp
/-- Digits laid over zeros. -/
theorem over_val (ys : List Nat) (n : Nat) : val (ys ++ (List.replicate n 0).drop ys.length) = val ys := by
  rw [val_append, drop_replicate', val_replicate]; omega
theorem over_take (ys : List Nat) (n m : Nat) (h : ys.length ≤ m) : val ((ys ++ (List.replicate n 0).drop ys.length).take m) = val ys := by
  rw [List.take_append, List.take_of_length_le h, drop_replicate', List.take_replicate, val_append, val_replicate]; omega
theorem over_drop (ys : List Nat) (n m : Nat) (h : ys.length ≤ m) (hm : m ≤ n) : (ys ++ (List.replicate n 0).drop ys.length).drop m = List.replicate (n - m) 0 := by
  rw [List.drop_append, List.drop_of_length_le h, drop_replicate', List.drop_replicate, List.nil_append]
  congr 1
  omega
theorem over_length (ys : List Nat) (n : Nat) (h : ys.length ≤ n) : (ys ++ (List.replicate n 0).drop ys.length).length = n := by
  rw [List.length_append, drop_replicate', List.length_replicate]; omega
theorem over_small (ys : List Nat) (n : Nat) (h : Small ys) : Small (ys ++ (List.replicate n 0).drop ys.length) := h.append ((Small.replicate n).drop _)
/-- Karatsuba's equation. -/
theorem kara (x0 x1 y0 y1 T : Nat) : (x0 + x1) * (y0 + y1) - x0 * y0 - x1 * y1 = x0 * y1 + x1 * y0 ∧ x0 * y0 ≤ (x0 + x1) * (y0 + y1) ∧ x1 * y1 ≤ (x0 + x1) * (y0 + y1) - x0 * y0 ∧
    x0 * y0 + T * T * (x1 * y1) + T * (x0 * y1 + x1 * y0) = (x0 + T * x1) * (y0 + T * y1) := by
  have e : (x0 + x1) * (y0 + y1) = x0 * y0 + x1 * y1 + (x0 * y1 + x1 * y0) := by
    rw [Nat.add_mul, Nat.mul_add, Nat.mul_add]; omega
  refine ⟨by omega, by omega, by omega, ?_⟩
  rw [Nat.add_mul, Nat.mul_add, Nat.mul_add, Nat.mul_add]
  have e1 : T * T * (x1 * y1) = T * x1 * (T * y1) := by rw [Nat.mul_mul_mul_comm]
  have e2 : T * (x0 * y1) = x0 * (T * y1) := Nat.mul_left_comm _ _ _
  have e3 : T * (x1 * y0) = T * x1 * y0 := (Nat.mul_assoc _ _ _).symm
  rw [e1, e2, e3]
  omega
end Dig
theorem own_apart {b1 b2 : Nat} {w1 w2 : World} {v1 v2 : Value} {xs ys : List Nat} (h1 : Own b1 w1 v1 xs) (h2 : Own b2 w2 v2 ys) (hb : w1.heap.size ≤ b2) : 0 < xs.length → v1.ownBlock ≠ v2.ownBlock := by
  intro hp e
  obtain ⟨_, h⟩ := h1
  rcases h with ⟨_, rfl⟩ | ⟨g, rest, rfl, _, _, hseg⟩
  · simp at hp
  · have := (h2.block g e.symm).1
    have := hseg.lt
    omega
/-- A part of a slice of digits. -/
theorem Num.part {w : World} {b off n c : Nat} {X : List Nat} (h : Num w (.slice (some ⟨b, off, none⟩) n c) X) (i m c' : Nat) (hi : i + m ≤ n) (hc : m ≤ c') (hm : c' ≤ 9223372036854775807) :
    Num w (.slice (some ⟨b, off + i, none⟩) m c') ((X.drop i).take m) := by
  obtain ⟨A, c0, e, _, _, hs, hr⟩ := h
  simp only [Value.slice.injEq] at e
  obtain ⟨rfl, rfl, rfl⟩ := e
  have hl : ((X.drop i).take m).length = m := by rw [List.length_take, List.length_drop]; omega
  refine ⟨some ⟨b, off + i, none⟩, c', by rw [hl], ⟨by omega, fun e => by cases e⟩, by unfold maxLen; omega, (hs.drop i).take m, fun hp => ?_⟩
  rw [hl] at hp
  obtain ⟨b', off', e, hb, hcell⟩ := hr (by omega)
  simp only [Option.some.injEq, Addr.mk.injEq, and_true] at e
  obtain ⟨rfl, rfl⟩ := e
  refine ⟨b, off + i, rfl, hb, fun j hj => ?_⟩
  rw [hl] at hj
  rw [Nat.add_assoc, hcell (i + j) (by omega), getD_take _ _ _ hj, getD_drop]

/-- What is known of Mul for fewer digits. -/
def MulFor (k : Nat) : Prop := ∀ (w : World) (va vb : Value) (xs ys : List Nat), Num w va xs → Num w vb ys → xs.length + ys.length < k → Calls Tryd.prog 16 #[va, vb] w (RNat w (val xs * val ys))


set_option maxRecDepth 100000 in
set_option maxHeartbeats 4000000 in
theorem split_c (w : World) (va vb : Value) (X Y : List Nat) (h k la lb : Nat) (ha : Num w va X) (hb : Num w vb Y) (hla : X.length = la) (hlb : Y.length = lb) (h0 : 0 < h) (h1 : h < lb) (h2 : lb ≤ la) (hk : MulFor k) (hk1 : 2 * h + 2 < k) (hk2 : la + lb < k + 1) (h3 : la ≤ 2 * h) (hz : la ≤ 4398046511104) :
    Calls Tryd.prog 41 #[va, vb, .int .i64 (h : Int)] w fun e w' => ∃ r zs, e = .returned r ∧ Own w.heap.size w' r zs ∧ val zs = val X * val Y ∧ Below w.heap.size w w' := by
  obtain ⟨A, c, rfl⟩ := ha.form
  obtain ⟨A', c', rfl⟩ := hb.form
  rw [hla] at ha ⊢
  rw [hlb] at hb ⊢
  have hba := ha.bounds.2
  have hbb := hb.bounds.2
  obtain ⟨ba, oa, rfl, _, _⟩ := ha.cells (by omega)
  obtain ⟨bb, ob, rfl, _, _⟩ := hb.cells (by omega)
  have a0 := ha.part 0 h c (by omega) (by omega) (by omega)
  have a1 := ha.part h (la - h) (c - h) (by omega) (by omega) (by omega)
  have b0 := hb.part 0 h c' (by omega) (by omega) (by omega)
  have b1 := hb.part h (lb - h) (c' - h) (by omega) (by omega) (by omega)
  rw [List.drop_zero, Nat.add_zero] at a0 b0
  rw [List.take_of_length_le (by rw [List.length_drop]; omega)] at a1 b1
  have hX := val_take_drop X h (by omega)
  have hY := val_take_drop Y h (by omega)
  have la0 : (X.take h).length = h := by rw [List.length_take]; omega
  have la1 : (X.drop h).length = la - h := by rw [List.length_drop]; omega
  have lb0 : (Y.take h).length = h := by rw [List.length_take]; omega
  have lb1 : (Y.drop h).length = lb - h := by rw [List.length_drop]; omega
  have hxl := val_lt X ha.small
  have hyl := val_lt Y hb.small
  rw [hla] at hxl
  rw [hlb] at hyl
  generalize X.take h = X0 at *
  generalize X.drop h = X1 at *
  generalize Y.take h = Y0 at *
  generalize Y.drop h = Y1 at *
  have HX := Lib.hid hX
  have HY := Lib.hid hY
  have HXL := Lib.hid hxl
  have HYL := Lib.hid hyl
  have HLA0 := Lib.hid la0
  have HLA1 := Lib.hid la1
  have HLB0 := Lib.hid lb0
  have HLB1 := Lib.hid lb1
  have HK := Lib.hid hk
  have x0l : val X0 < 4294967296 ^ h := by have := val_lt X0 a0.small; rwa [la0] at this
  have x1l : val X1 < 4294967296 ^ h := by have := val_lt X1 a1.small; rw [la1] at this; exact Nat.lt_of_lt_of_le this (pow_le (by omega))
  have y0l : val Y0 < 4294967296 ^ h := by have := val_lt Y0 b0.small; rwa [lb0] at this
  have y1l : val Y1 < 4294967296 ^ h := by have := val_lt Y1 b1.small; rw [lb1] at this; exact Nat.lt_of_lt_of_le this (pow_le (by omega))
  have y1l2 : val Y1 < 4294967296 ^ (lb - h) := by have := val_lt Y1 b1.small; rwa [lb1] at this
  have x1l2 : val X1 < 4294967296 ^ (la - h) := by have := val_lt X1 a1.small; rwa [la1] at this
  have SAL := dg_length_le _ (h + 1) (add_fit _ _ _ x0l x1l)
  have SBL := dg_length_le _ (h + 1) (add_fit _ _ _ y0l y1l)
  have mul_lt' : ∀ a b k l : Nat, a < 4294967296 ^ k → b < 4294967296 ^ l → a * b < 4294967296 ^ (k + l) := by
    intro a b k l ha hb
    rw [Nat.pow_add]
    rcases Nat.eq_zero_or_pos b with h0 | h0
    · subst h0
      rw [Nat.mul_zero]
      exact Nat.mul_pos (Nat.pow_pos (by omega)) (Nat.pow_pos (by omega))
    · exact Nat.lt_of_lt_of_le (Nat.mul_lt_mul_of_pos_right ha h0) (Nat.mul_le_mul_left _ (Nat.le_of_lt hb))
  have P0L := dg_length_le _ (h + h) (mul_lt' _ _ _ _ x0l y0l)
  have P1L := dg_length_le _ (la - h + (lb - h)) (mul_lt' _ _ _ _ x1l2 y1l2)
  have HXY : Hid (val X * val Y < 4294967296 ^ (la + lb)) := mul_lt' _ _ _ _ hxl hyl
  obtain ⟨k1, k2, k3, k4⟩ := kara (val X0) (val X1) (val Y0) (val Y1) (4294967296 ^ h)
  rw [← hX, ← hY] at k4
  clear mul_lt' x0l x1l y0l y1l x1l2 y1l2
  have i1 : (h : Int) < lb := by omega
  have i2 : (lb : Int) ≤ la := by omega
  have i3 : (la : Int) ≤ c := by omega
  have i4 : (lb : Int) ≤ c' := by omega
  have i5 : (0 : Int) < h := by omega
  have j1 : (h : Int) ≤ c := by omega
  have j2 : (h : Int) ≤ c' := by omega
  have j3 : (h : Int) ≤ la := by omega
  have j4 : (h : Int) ≤ lb := by omega
  have m0 : (0 : Int) ≤ h := by omega
  have m1 : h ≤ c := by omega
  have m2 : h ≤ c' := by omega
  have m3 : h ≤ la := by omega
  have m4 : h ≤ lb := by omega
  have m5 : ¬ c = h := by omega
  have m6 : ¬ c' = h := by omega
  clear hX hY hxl hyl la0 la1 lb0 lb1 hla hlb ha hb hk
  go_enter Tryd.func41, Tryd.ntmps41
  go_wp2_with fail
  go_region_held3 (fun w' => True) (trivial) (first | (go_at_call 16; refine (HK.out _ _ _ X0 Y0 ?_ ?_ ?_).mono ?_; exact a0; exact b0; (rw [HLA0.out, HLB0.out]; omega); rintro e w1 ⟨low, rfl, hlow, hB1⟩))
  have B1 := below_undrew hB1
  have hlow1 : Own w.heap.size w1 low (dg (val X0 * val Y0)) := hlow
  have a01 := a0.below B1
  have a11 := a1.below B1
  have b01 := b0.below B1
  have b11 := b1.below B1
  clear hB1 hlow a0 a1 b0 b1
  go_wp2_with fail
  go_region_held3 (fun w' => True) (trivial) (first | (go_at_call 16; refine (HK.out _ _ _ X1 Y1 ?_ ?_ ?_).mono ?_; exact a11; exact b11; (rw [HLA1.out, HLB1.out]; omega); rintro e w2 ⟨high, rfl, hhigh, hB2⟩))
  have B2 := below_undrew hB2
  have hhigh2 : Own w.heap.size w2 high (dg (val X1 * val Y1)) := Own.mono hhigh B1.size
  have hlow2 := hlow1.below B2 (Nat.le_refl _)
  have a02 := a01.below B2
  have a12 := a11.below B2
  have b02 := b01.below B2
  have b12 := b11.below B2
  have BB := below_then B1 B2
  clear hB2 hhigh B1 B2 hlow1 a01 a11 b01 b11
  go_wp2_with fail
  go_region_held3 (fun w' => True) (trivial) (first | (go_at_call_of 36 (Value.slice (some { block := ba, off := oa }) h c); refine (add_c _ _ _ X0 X1 ?_ ?_ ?_ ?_).mono ?_; exact a02; exact a12; (rw [HLA0.out]; omega); (rw [HLA1.out]; omega); rintro e w3 ⟨sa, rfl, hsa, hB3⟩; have B3 := below_undrew hB3; have b03 := b02.below B3; have b13 := b12.below B3) | (go_at_call_of 36 (Value.slice (some { block := bb, off := ob }) h c'); refine (add_c _ _ _ Y0 Y1 ?_ ?_ ?_ ?_).mono ?_; exact b03; exact b13; (rw [HLB0.out]; omega); (rw [HLB1.out]; omega); rintro e w4 ⟨sb, rfl, hsb, hB4⟩; have hsa4 := hsa.below hB4 (Nat.le_refl _)) | (go_at_call 16; refine (HK.out _ _ _ (dg (val X0 + val X1)) (dg (val Y0 + val Y1)) ?_ ?_ ?_).mono ?_; exact hsa4.num; exact hsb.num; omega; rintro e w5 ⟨mid, rfl, hmid, hB5⟩))
  rw [val_dg, val_dg] at hmid
  have BB2 := below_then (below_then B3 hB4) hB5
  have hlow5 := hlow2.below BB2 (Nat.le_refl _)
  have hhigh5 := hhigh2.below BB2 (Nat.le_refl _)
  have hsz : w2.heap.size ≤ w4.heap.size := by have := B3.size; have := hB4.size; omega
  have ne1 := own_apart hlow2 hmid hsz
  have ne2 := own_apart hhigh2 hmid hsz
  generalize hM : (val X0 + val X1) * (val Y0 + val Y1) = M at *
  generalize hp0 : val X0 * val Y0 = p0 at *
  generalize hp1 : val X1 * val Y1 = p1 at *
  generalize hpm : val X0 * val Y1 + val X1 * val Y0 = pm at *
  have K1 := Lib.hid k1
  have K4 := Lib.hid k4
  have S1 := Lib.hid (subFrom_own w5 w4.heap.size mid low (dg M) (dg p0) hmid hlow5.num ne1 (dg_length_mono k2) (by rw [val_dg, val_dg]; exact k2))
  rw [val_dg, val_dg] at S1
  clear hM hp0 hp1 hpm a02 a12 b02 b12 hsa hsb hB4 hB5 B3 b03 b13 hsa4 hlow5 hhigh5 k1 k4
  go_wp2_with fail
  refine (S1.out).mono ?_
  rintro e w6 ⟨rfl, zs1, z1, z2, z3, z4, z5⟩
  have BB3 := below_own BB2 z4 hmid hsz
  have hhigh6 := hhigh2.below BB3 (Nat.le_refl _)
  have S2 := Lib.hid (subFrom_own w6 w4.heap.size mid high zs1 (dg p1) z3 hhigh6.num ne2 (by rw [z1]; exact dg_length_mono (by omega)) (by rw [z2, val_dg]; exact k3))
  rw [z2, val_dg, K1.out] at S2
  clear S1 z1 z2 z4 z5 hmid BB2
  go_wp2_with fail
  refine (S2.out).mono ?_
  rintro e w7 ⟨rfl, zs2, y1, y2, y3, y4, y5⟩
  have BB4 := below_own BB3 y4 z3 hsz
  have hlow7 := hlow2.below BB4 (Nat.le_refl _)
  have hhigh7 := hhigh2.below BB4 (Nat.le_refl _)
  have Y2 := Lib.hid y2
  have hmn7 := y3.num
  have BB7 := BB.trans (BB4.mono BB.size)
  have i6 : (2 : Int) * h < (la : Int) + lb := by omega
  have i7 : 2 * h < la + lb := by omega
  clear S2 y1 y2 y4 y5 z3 BB3 hhigh6 hlow2 hhigh2 ne1 ne2
  go_wp2_with (first | (at_make; refine wp_make rfl _ _ rfl _ _ (la + lb) rfl rfl (by omega) (by omega) (by omega) ?_; intro w8 hS8 hB8; have hl8 := (hlow7.below hB8 (Nat.le_refl _)).num; have hh8 := hhigh7.below hB8 (Nat.le_refl _)) | (with_reducible refine wp_copy rfl (.tmp 52) (.tmp 53) rfl w7.heap.size 0 (la + lb) (la + lb) rfl low (dg p0) rfl hl8 [] [] _ hS8 rfl (by simp) (by simp; omega) ?_; intro w9 hS9 hG9 hZ9; have hB9 := below_grown hB8 hG9 (Nat.le_refl _); have hh9 := (hhigh7.below hB9 (Nat.le_refl _)).num; have hS9a := hS9.at_ (2 * h)) | (with_reducible refine wp_copy rfl (.tmp 58) (.tmp 59) rfl w7.heap.size (2 * h) (la + lb - 2 * h) (la + lb - 2 * h) rfl high (dg p1) rfl hh9 _ [] _ hS9a (by rw [U_length, List.length_take, over_length _ _ (by omega)]; omega) (by rw [List.length_drop, over_length _ _ (by omega)]) (by rw [List.length_drop, over_length _ _ (by omega)]; omega) ?_; intro w10 hS10 hG10 hZ10))
  have hB10 := below_grown hB9 hG10 (Nat.le_refl _)
  have hmn10 := hmn7.below hB10
  rw [over_drop _ _ _ (by omega) (by omega)] at hS10
  have hS10b := hS10.back
  have v1 := over_take (dg p0) (la + lb) (2 * h) (by omega)
  have v2 := over_val (dg p1) (la + lb - 2 * h)
  have t1 : ((dg p0 ++ (List.replicate (la + lb) 0).drop (dg p0).length).take (2 * h)).length = 2 * h := by rw [List.length_take, over_length _ _ (by omega)]; omega
  have t2 := over_length (dg p1) (la + lb - 2 * h) (by omega)
  have t3 := (over_small (dg p0) (la + lb) (small_dg p0)).take (2 * h)
  have t4 := over_small (dg p1) (la + lb - 2 * h) (small_dg p1)
  generalize (dg p0 ++ (List.replicate (la + lb) 0).drop (dg p0).length).take (2 * h) = R0 at *
  generalize dg p1 ++ (List.replicate (la + lb - 2 * h) 0).drop (dg p1).length = R1 at *
  rw [val_dg] at v1 v2
  have hRv : val (R0 ++ R1) = p0 + 4294967296 ^ h * 4294967296 ^ h * p1 := by
    rw [val_append, v1, v2, t1, show 2 * h = h + h by omega, Nat.pow_add]
  have hRl : (R0 ++ R1).length = la + lb := by rw [List.length_append]; omega
  have hRs : Small (R0 ++ R1) := t3.append t4
  generalize R0 ++ R1 = R at *
  have hRa := hS10b.at_ h
  have hRt := val_take_drop R h (by omega)
  have hxy := HXY.out
  rw [← K4.out, ← hRv, hRt] at hxy
  have hlt : val (R.drop h) + pm < 4294967296 ^ (la + lb - h) := by
    have e : 4294967296 ^ (la + lb) = 4294967296 ^ h * 4294967296 ^ (la + lb - h) := by rw [← Nat.pow_add]; congr 1; omega
    rw [e] at hxy
    have e2 : 4294967296 ^ h * (val (R.drop h) + pm) < 4294967296 ^ h * 4294967296 ^ (la + lb - h) := by rw [Nat.mul_add]; omega
    exact Nat.lt_of_mul_lt_mul_left e2
  have hpml : (dg pm).length ≤ la + lb - h := dg_length_le _ _ (by omega)
  have HLT := Lib.hid hlt
  have HRV := Lib.hid hRv
  have HRT := Lib.hid hRt
  have HRL := Lib.hid hRl
  have n1 : (h : Int) ≤ (la : Int) + lb := by omega
  have n2 : h ≤ la + lb := by omega
  have n3 : ¬ la + lb = h := by omega
  have hg10 : w7.heap.size ≤ w7.heap.size := Nat.le_refl _
  have TR := Lib.hid (fun W (hW : Num W mid zs2) => trim_any W mid zs2 hW)
  have hTL : (R.take h).length = h := by rw [List.length_take]; omega
  have hDL : (R.drop h).length = la + lb - h := by rw [List.length_drop]; omega
  have HTL := Lib.hid hTL
  have HDL := Lib.hid hDL
  clear hxy hlt hRv hRt hRl v1 v2 t1 t2 t3 t4 hS8 hS9 hS9a hS10 hl8 hh8 hh9 hG9 hG10 hZ9 hZ10 hTL hDL hB8 hB9 hlow7 hhigh7
  go_wp2_with fail
  go_region_held3 (fun w' => True) (trivial) (first | (go_at_call 31; refine (TR.out _ ?_).mono ?_; exact hmn10; rintro e w11 ⟨At, ct, rfl, hT, rfl⟩) | (go_at_call 59; refine (addTo_n _ w7.heap.size h (la + lb - h) (U (R.take h)) [] (R.drop h) (dg (val zs2)) (la + lb - h) _ ?_ ?_ ?_ ?_ ?_ ?_ ?_ ?_ ?_).mono ?_; exact hRa; (rw [U_length, HTL.out]); exact HDL.out; exact hRs.drop h; exact ⟨Nat.le_refl _, by omega⟩; exact hT _ hmn10; exact (hT w7 hmn7).ne_new (Nat.le_refl _); (rw [Y2.out]; omega); (rw [val_dg, Y2.out]; exact HLT.out); rintro e w12 ⟨rfl, zs3, q1, q2, q3, q4, q5, q6⟩))
  rw [val_dg, Y2.out] at q3
  have hlen : (R.take h ++ zs3).length = la + lb := by rw [List.length_append, HTL.out, q1]; omega
  have hfin : val (R.take h ++ zs3) = val X * val Y := by
    rw [val_append, HTL.out, q3, ← K4.out, ← HRV.out, HRT.out, Nat.mul_add]; omega
  have hO := Own.of_seg (base := w.heap.size) (c := la + lb) q4.back ((hRs.take h).append q2) hlen BB7.size rfl (by omega)
  have hBB := BB7.trans ((below_grown hB10.drew q5 (Nat.le_refl _)).mono BB7.size)
  have HF := Lib.hid hfin
  clear q1 q3 q4 q5 q6 hlen hfin hRa hS10b hmn7 hmn10
  go_wp2_with fail
  go_ret
  exact ⟨_, _, rfl, hO, HF.out, hBB⟩
end Go.Proofs.YtgjhgpfjeoeojaaDoor

/- The contract of pieceProduct, and of Mul for all numbers. -/
namespace Go.Proofs.YtgjhgpfjeoeojaaDoor
open Go.RowKit Dig
set_option linter.unusedVariables false

set_option maxRecDepth 100000 in
set_option maxHeartbeats 4000000 in
theorem piece_c (w : World) (va vb : Value) (X Y : List Nat) (k la lb : Nat) (ha : Num w va X) (hb : Num w vb Y) (hla : X.length = la) (hlb : Y.length = lb) (h0 : 0 < lb) (hk : MulFor k) (hk1 : 2 * lb < k) (hlo : 0 < la) (hz : la ≤ 4398046511104) (hz2 : lb ≤ 4398046511104) :
    Calls Tryd.prog 40 #[va, vb] w fun e w' => ∃ r zs, e = .returned r ∧ Own w.heap.size w' r zs ∧ val zs = val X * val Y ∧ Below w.heap.size w w' := by
  obtain ⟨A, c, rfl⟩ := ha.form
  obtain ⟨A', c', rfl⟩ := hb.form
  rw [hla] at ha ⊢
  rw [hlb] at hb ⊢
  have hba := ha.bounds.2
  have hbb := hb.bounds.2
  obtain ⟨ba, oa, rfl, _, _⟩ := ha.cells (by omega)
  have HLA := Lib.hid hla
  have HLB := Lib.hid hlb
  have HK := Lib.hid hk
  have hxs := ha.small
  have hys := hb.small
  clear hla hlb hk
  go_enter Tryd.func40, Tryd.ntmps40
  go_wp2_with (at_make; refine wp_make rfl _ _ rfl _ _ (la + lb) rfl rfl (by omega) (by omega) (by omega) ?_; intro w1 hS1 hB1)
  go_loopw [6] (fun ii wr => ∃ (i : Nat) (zs : List Nat), i ≤ la + lb ∧ ii = .int .i64 i ∧ zs.length = la + lb ∧ Small zs ∧ val zs = val (X.take i) * val Y ∧ Seg wr w.heap.size [] zs [] ∧ Below w.heap.size w wr) (fun ii _ => la + lb - (intOf ii).toNat)
  case atStart => exact ⟨0, _, Nat.zero_le _, rfl, by simp, Small.replicate _, by rw [val_replicate]; simp [val], hS1, hB1⟩
  case round =>
    clear hS1 hB1
    obtain ⟨i, zs, hi, rfl, hl, hs, hv, hseg, hB⟩ := hrel
    have HV := Lib.hid hv
    have HL := Lib.hid hl
    clear hv
    by_cases hlt : i < la
    · have i1 : (i : Int) < la := by omega
      have i2 : (i : Int) ≤ (la : Int) + lb := by omega
      have i3 : (la : Int) ≤ c := by omega
      have i4 : (i : Int) ≤ c := by omega
      have i5 : (0 : Int) < lb := by omega
      have m1 : i ≤ la + lb := hi
      have m2 : ¬ la + lb = i := by omega
      have m3 : ¬ c = i := by omega
      have m4 : i ≤ c := by omega
      clear hl
      obtain ⟨j, hj1, hj2, hj3, hj4⟩ : ∃ j : Nat, i < j ∧ j ≤ la ∧ j ≤ i + lb ∧ ((j = la ∧ la ≤ i + lb) ∨ j = i + lb) := by
        by_cases hmm : i + lb ≤ la
        · exact ⟨i + lb, by omega, by omega, by omega, .inr rfl⟩
        · exact ⟨la, by omega, by omega, by omega, .inl ⟨rfl, by omega⟩⟩
      have wsum : IntKind.i64.wrap ((i : Int) + (lb : Int)) = (i : Int) + (lb : Int) := IntWalk.i64_in _ (by omega)
      have hmin : min ((i : Int) + (lb : Int)) (la : Int) = (j : Int) := by omega
      have hmin2 : (min ((i : Int) + (lb : Int)) (la : Int)).toNat = j := by omega
      have j0 : (0 : Int) ≤ (j : Int) := by omega
      have j1 : (j : Int) ≤ c := by omega
      have j2 : i ≤ j := by omega
      have j3 : (i : Int) ≤ j := by omega
      have hp := (ha.below hB).part i (j - i) (c - i) (by omega) (by omega) (by omega)
      have hbB := hb.below hB
      have hpl : ((X.drop i).take (j - i)).length = j - i := by rw [List.length_take, List.length_drop, HLA.out]; omega
      have hXj : val (X.take j) = val (X.take i) + 4294967296 ^ i * val ((X.drop i).take (j - i)) := by
        have e : X.take j = X.take i ++ (X.drop i).take (j - i) := by
          rw [← List.take_add]; congr 1; omega
        rw [e, val_append, List.length_take, HLA.out, Nat.min_eq_left (by omega)]
      have hxj : val (X.take j) < 4294967296 ^ j := take_lt X hxs j
      have hyl : val Y < 4294967296 ^ lb := by have := val_lt Y hys; rwa [HLB.out] at this
      generalize (X.drop i).take (j - i) = P at *
      have hPb : val P < 4294967296 ^ (j - i) := by have := val_lt P hp.small; rwa [hpl] at this
      have mul_lt' : ∀ a b k l : Nat, a < 4294967296 ^ k → b < 4294967296 ^ l → a * b < 4294967296 ^ (k + l) := by
        intro a b k l ha hb
        rw [Nat.pow_add]
        rcases Nat.eq_zero_or_pos b with h0 | h0
        · subst h0
          rw [Nat.mul_zero]
          exact Nat.mul_pos (Nat.pow_pos (by omega)) (Nat.pow_pos (by omega))
        · exact Nat.lt_of_lt_of_le (Nat.mul_lt_mul_of_pos_right ha h0) (Nat.mul_le_mul_left _ (Nat.le_of_lt hb))
      have hPYl := dg_length_le _ (la + lb - i) (Nat.lt_of_lt_of_le (mul_lt' _ _ _ _ hPb hyl) (pow_le (by omega)))
      have hzt := val_take_drop zs i (by rw [HL.out]; omega)
      have hnew : val (X.take j) * val Y = val (zs.take i) + 4294967296 ^ i * (val (zs.drop i) + val P * val Y) := by
        have e1 : val (X.take j) * val Y = val zs + 4294967296 ^ i * (val P * val Y) := by rw [hXj, HV.out, Nat.add_mul, Nat.mul_assoc]
        rw [e1, hzt, Nat.mul_add, Nat.add_assoc]
      have hfit : val (zs.drop i) + val P * val Y < 4294967296 ^ (la + lb - i) := by
        have e1 := mul_lt' _ _ _ _ hxj hyl
        have e2 : 4294967296 ^ (j + lb) ≤ 4294967296 ^ i * 4294967296 ^ (la + lb - i) := by rw [← Nat.pow_add]; exact pow_le (by omega)
        rw [hnew] at e1
        have e3 : 4294967296 ^ i * (val (zs.drop i) + val P * val Y) < 4294967296 ^ i * 4294967296 ^ (la + lb - i) := by omega
        exact Nat.lt_of_mul_lt_mul_left e3
      have hsa := hseg.at_ i
      have hTL : (zs.take i).length = i := by rw [List.length_take, HL.out]; omega
      have hDL : (zs.drop i).length = la + lb - i := by rw [List.length_drop, HL.out]
      have HNEW := Lib.hid hnew
      have HFIT := Lib.hid hfit
      have HTL := Lib.hid hTL
      have HDL := Lib.hid hDL
      have HPL := Lib.hid hpl
      have hwl := hseg.lt
      clear mul_lt' hxj hyl hPb hXj hzt hnew hfit hTL hDL hseg hpl hj4
      go_wp2_with fail
      go_region_held3 (fun w' => True) (trivial) (first | (go_at_call 16; refine (HK.out _ _ _ P Y ?_ ?_ ?_).mono ?_; exact hp; exact hbB; (rw [HPL.out, HLB.out]; omega); rintro e w3 ⟨pr, rfl, hpr, hB3⟩; have B3 := below_undrew hB3) | (go_at_call 59; refine (addTo_n _ w.heap.size i (la + lb - i) (U (zs.take i)) [] (zs.drop i) (dg (val P * val Y)) (la + lb - i) _ ?_ ?_ ?_ ?_ ?_ ?_ ?_ ?_ ?_).mono ?_; exact hsa.below B3 hwl; (rw [U_length, HTL.out]); exact HDL.out; exact hs.drop i; exact ⟨Nat.le_refl _, by omega⟩; exact hpr.num; exact (fun _ e => absurd (hpr.block _ e).1 (by exact Nat.not_le.2 hwl)); exact hPYl; (rw [val_dg]; exact HFIT.out); rintro e w4 ⟨rfl, zs3, q1, q2, q3, q4, q5, q6⟩))
      have hBn := below_grown (below_then hB B3) q5 (Nat.le_refl _)
      have hlen : (zs.take i ++ zs3).length = la + lb := by rw [List.length_append, HTL.out, q1]; omega
      have hvn : val (zs.take i ++ zs3) = val (X.take j) * val Y := by rw [val_append, HTL.out, q3, val_dg, HNEW.out]
      have HVN := Lib.hid hvn
      have hsn := (hs.take i).append q2
      have hqs := q4.back
      have HLEN := Lib.hid hlen
      have HXT := Lib.hid (show val (X.take (i + lb)) = val (X.take j) by
        have : X.take (i + lb) = X.take j := by
          by_cases hmm : i + lb ≤ la
          · have : j = i + lb := by omega
            rw [this]
          · have : j = la := by omega
            rw [this, List.take_of_length_le (by rw [HLA.out]; omega), List.take_of_length_le (by rw [HLA.out]; exact Nat.le_refl _)]
        rw [this])
      clear hlen hvn q1 q3 q4 q5 q6 hmin hmin2 wsum
      go_wp2_with fail
      go_roundw
      case rel => exact ⟨i + lb, _, by omega, by go_num, HLEN.out, hsn, by rw [HXT.out]; exact HVN.out, hqs, hBn⟩
      case measure => simp [intOf]; omega
    · have hfin : val zs = val X * val Y := by
        rw [HV.out, List.take_of_length_le (by rw [HLA.out]; omega)]
      have HF := Lib.hid hfin
      have hO := Own.of_seg (base := w.heap.size) (c := la + lb) hseg hs HL.out (Nat.le_refl _) rfl (by omega)
      have i1 : (la : Int) ≤ i := by omega
      clear hfin hl
      go_wp2_with fail
      go_ret
      exact ⟨_, zs, rfl, hO, HF.out, hB⟩
end Go.Proofs.YtgjhgpfjeoeojaaDoor

/- The contract of Mul for all numbers. -/
namespace Go.Proofs.YtgjhgpfjeoeojaaDoor
open Go.RowKit Dig
set_option linter.unusedVariables false

set_option maxHeartbeats 400000 in
theorem mulb_ns (w : World) (va vb : Value) (xs ys : List Nat) (k : Nat) (ha : Num w va xs) (hb : Num w vb ys) (hk : MulFor k) (hz : k ≤ 4398046511104) (hkl : xs.length + ys.length ≤ k) (hl : (dg (val ys)).length ≤ (dg (val xs)).length) (h48 : 48 ≤ (dg (val ys)).length) (hh : ((dg (val xs)).length + 1) / 2 < (dg (val ys)).length) :
    Calls Tryd.prog 16 #[va, vb] w (RNat w (val xs * val ys)) := by
  have Ta := Lib.hid (trim_n w va xs ha)
  have Tb := Lib.hid (trim_n w vb ys hb)
  have hla := dg_length_val xs ha.small
  have hlb := dg_length_val ys hb.small
  have HK := Lib.hid hk
  clear hk
  have hl2 : decide ((dg (val xs)).length < (dg (val ys)).length) = false := by simp; omega
  have hz0 : (((dg (val ys)).length : Int) == 0) = false := by rw [beq_eq_false_iff_ne]; omega
  have h48i : (48 : Int) ≤ (dg (val ys)).length := by omega
  obtain ⟨h, hhd⟩ : ∃ h, h = ((dg (val xs)).length + 1) / 2 := ⟨_, rfl⟩
  have hq : (((dg (val xs)).length : Int) + 1) / 2 = (h : Int) := by omega
  have hci : (h : Int) < (dg (val ys)).length := by omega
  have HHD := Lib.hid hhd
  go_enter Tryd.func16, Tryd.ntmps16
  clear hhd
  go_wp2_with fail
  refine (Ta.out).mono ?_
  rintro e w' ⟨A, c, rfl, hA, rfl⟩
  go_wp2_with fail
  refine (Tb.out).mono ?_
  rintro e w' ⟨A', c', rfl, hB, rfl⟩
  go_wp2_with fail
  refine (split_c w _ _ (dg (val xs)) (dg (val ys)) h k _ _ hA hB rfl rfl (by have := HHD.out; omega) (by omega) (by omega) HK.out (by have := HHD.out; omega) (by omega) (by have := HHD.out; omega) (by omega)).mono ?_
  rintro e w1 ⟨r, zs, rfl, hO, z2, hB1⟩
  have T2 := Lib.hid (trim_own_any w1 _ r zs hO)
  have Z2 := Lib.hid z2
  clear z2
  go_wp2_with fail
  refine (T2.out).mono ?_
  rintro e w3 ⟨r3, rfl, hr3, rfl⟩
  go_wp2_with fail
  go_ret
  rw [Z2.out, val_dg, val_dg] at hr3
  exact ⟨_, rfl, hr3, hB1⟩

set_option maxHeartbeats 400000 in
theorem mulb_np (w : World) (va vb : Value) (xs ys : List Nat) (k : Nat) (ha : Num w va xs) (hb : Num w vb ys) (hk : MulFor k) (hz : k ≤ 4398046511104) (hkl : xs.length + ys.length ≤ k) (hl : (dg (val ys)).length ≤ (dg (val xs)).length) (h48 : 48 ≤ (dg (val ys)).length) (hh : (dg (val ys)).length ≤ ((dg (val xs)).length + 1) / 2) :
    Calls Tryd.prog 16 #[va, vb] w (RNat w (val xs * val ys)) := by
  have Ta := Lib.hid (trim_n w va xs ha)
  have Tb := Lib.hid (trim_n w vb ys hb)
  have hla := dg_length_val xs ha.small
  have hlb := dg_length_val ys hb.small
  have HK := Lib.hid hk
  clear hk
  have hl2 : decide ((dg (val xs)).length < (dg (val ys)).length) = false := by simp; omega
  have hz0 : (((dg (val ys)).length : Int) == 0) = false := by rw [beq_eq_false_iff_ne]; omega
  have h48i : (48 : Int) ≤ (dg (val ys)).length := by omega
  obtain ⟨h, hhd⟩ : ∃ h, h = ((dg (val xs)).length + 1) / 2 := ⟨_, rfl⟩
  have hq : (((dg (val xs)).length : Int) + 1) / 2 = (h : Int) := by omega
  have hci : ((dg (val ys)).length : Int) ≤ h := by omega
  have HHD := Lib.hid hhd
  go_enter Tryd.func16, Tryd.ntmps16
  clear hhd
  go_wp2_with fail
  refine (Ta.out).mono ?_
  rintro e w' ⟨A, c, rfl, hA, rfl⟩
  go_wp2_with fail
  refine (Tb.out).mono ?_
  rintro e w' ⟨A', c', rfl, hB, rfl⟩
  go_wp2_with fail
  refine (piece_c w _ _ (dg (val xs)) (dg (val ys)) k _ _ hA hB rfl rfl (by omega) HK.out (by have := HHD.out; omega) (by omega) (by omega) (by omega)).mono ?_
  rintro e w1 ⟨r, zs, rfl, hO, z2, hB1⟩
  have T2 := Lib.hid (trim_own_any w1 _ r zs hO)
  have Z2 := Lib.hid z2
  clear z2
  go_wp2_with fail
  refine (T2.out).mono ?_
  rintro e w3 ⟨r3, rfl, hr3, rfl⟩
  go_wp2_with fail
  go_ret
  rw [Z2.out, val_dg, val_dg] at hr3
  exact ⟨_, rfl, hr3, hB1⟩

set_option maxHeartbeats 400000 in
theorem mulb_ss (w : World) (va vb : Value) (xs ys : List Nat) (k : Nat) (ha : Num w va xs) (hb : Num w vb ys) (hk : MulFor k) (hz : k ≤ 4398046511104) (hkl : xs.length + ys.length ≤ k) (hl : (dg (val xs)).length < (dg (val ys)).length) (h48 : 48 ≤ (dg (val xs)).length) (hh : ((dg (val ys)).length + 1) / 2 < (dg (val xs)).length) :
    Calls Tryd.prog 16 #[va, vb] w (RNat w (val xs * val ys)) := by
  have Ta := Lib.hid (trim_n w va xs ha)
  have Tb := Lib.hid (trim_n w vb ys hb)
  have hla := dg_length_val xs ha.small
  have hlb := dg_length_val ys hb.small
  have HK := Lib.hid hk
  clear hk
  have hz0 : (((dg (val xs)).length : Int) == 0) = false := by rw [beq_eq_false_iff_ne]; omega
  have h48i : (48 : Int) ≤ (dg (val xs)).length := by omega
  obtain ⟨h, hhd⟩ : ∃ h, h = ((dg (val ys)).length + 1) / 2 := ⟨_, rfl⟩
  have hq : (((dg (val ys)).length : Int) + 1) / 2 = (h : Int) := by omega
  have hci : (h : Int) < (dg (val xs)).length := by omega
  have HHD := Lib.hid hhd
  go_enter Tryd.func16, Tryd.ntmps16
  clear hhd
  go_wp2_with fail
  refine (Ta.out).mono ?_
  rintro e w' ⟨A, c, rfl, hA, rfl⟩
  go_wp2_with fail
  refine (Tb.out).mono ?_
  rintro e w' ⟨A', c', rfl, hB, rfl⟩
  go_wp2_with fail
  refine (split_c w _ _ (dg (val ys)) (dg (val xs)) h k _ _ hB hA rfl rfl (by have := HHD.out; omega) (by omega) (by omega) HK.out (by have := HHD.out; omega) (by omega) (by have := HHD.out; omega) (by omega)).mono ?_
  rintro e w1 ⟨r, zs, rfl, hO, z2, hB1⟩
  have T2 := Lib.hid (trim_own_any w1 _ r zs hO)
  have Z2 := Lib.hid z2
  clear z2
  go_wp2_with fail
  refine (T2.out).mono ?_
  rintro e w3 ⟨r3, rfl, hr3, rfl⟩
  go_wp2_with fail
  go_ret
  rw [Z2.out, val_dg, val_dg] at hr3
  exact ⟨_, rfl, by rw [Nat.mul_comm]; exact hr3, hB1⟩

set_option maxHeartbeats 400000 in
theorem mulb_sp (w : World) (va vb : Value) (xs ys : List Nat) (k : Nat) (ha : Num w va xs) (hb : Num w vb ys) (hk : MulFor k) (hz : k ≤ 4398046511104) (hkl : xs.length + ys.length ≤ k) (hl : (dg (val xs)).length < (dg (val ys)).length) (h48 : 48 ≤ (dg (val xs)).length) (hh : (dg (val xs)).length ≤ ((dg (val ys)).length + 1) / 2) :
    Calls Tryd.prog 16 #[va, vb] w (RNat w (val xs * val ys)) := by
  have Ta := Lib.hid (trim_n w va xs ha)
  have Tb := Lib.hid (trim_n w vb ys hb)
  have hla := dg_length_val xs ha.small
  have hlb := dg_length_val ys hb.small
  have HK := Lib.hid hk
  clear hk
  have hz0 : (((dg (val xs)).length : Int) == 0) = false := by rw [beq_eq_false_iff_ne]; omega
  have h48i : (48 : Int) ≤ (dg (val xs)).length := by omega
  obtain ⟨h, hhd⟩ : ∃ h, h = ((dg (val ys)).length + 1) / 2 := ⟨_, rfl⟩
  have hq : (((dg (val ys)).length : Int) + 1) / 2 = (h : Int) := by omega
  have hci : ((dg (val xs)).length : Int) ≤ h := by omega
  have HHD := Lib.hid hhd
  go_enter Tryd.func16, Tryd.ntmps16
  clear hhd
  go_wp2_with fail
  refine (Ta.out).mono ?_
  rintro e w' ⟨A, c, rfl, hA, rfl⟩
  go_wp2_with fail
  refine (Tb.out).mono ?_
  rintro e w' ⟨A', c', rfl, hB, rfl⟩
  go_wp2_with fail
  refine (piece_c w _ _ (dg (val ys)) (dg (val xs)) k _ _ hB hA rfl rfl (by omega) HK.out (by have := HHD.out; omega) (by omega) (by omega) (by omega)).mono ?_
  rintro e w1 ⟨r, zs, rfl, hO, z2, hB1⟩
  have T2 := Lib.hid (trim_own_any w1 _ r zs hO)
  have Z2 := Lib.hid z2
  clear z2
  go_wp2_with fail
  refine (T2.out).mono ?_
  rintro e w3 ⟨r3, rfl, hr3, rfl⟩
  go_wp2_with fail
  go_ret
  rw [Z2.out, val_dg, val_dg] at hr3
  exact ⟨_, rfl, by rw [Nat.mul_comm]; exact hr3, hB1⟩

theorem mul_for (k : Nat) (hz : k ≤ 4398046511104) : MulFor k := by
  induction k with
  | zero => intro w va vb xs ys ha hb h; omega
  | succ k ih =>
    have hk := ih (by omega)
    intro w va vb xs ys ha hb h
    have hla := dg_length_val xs ha.small
    have hlb := dg_length_val ys hb.small
    by_cases h48 : (dg (val xs)).length < 48 ∨ (dg (val ys)).length < 48
    · exact mul_small w va vb xs ys ha hb (by omega) (by omega) h48
    · by_cases hl : (dg (val xs)).length < (dg (val ys)).length
      · by_cases hh : ((dg (val ys)).length + 1) / 2 < (dg (val xs)).length
        · exact mulb_ss w va vb xs ys k ha hb hk (by omega) (by omega) hl (by omega) hh
        · exact mulb_sp w va vb xs ys k ha hb hk (by omega) (by omega) hl (by omega) (by omega)
      · by_cases hh : ((dg (val xs)).length + 1) / 2 < (dg (val ys)).length
        · exact mulb_ns w va vb xs ys k ha hb hk (by omega) (by omega) (by omega) (by omega) hh
        · exact mulb_np w va vb xs ys k ha hb hk (by omega) (by omega) (by omega) (by omega) (by omega)
theorem mul_c (w : World) (va vb : Value) (xs ys : List Nat) (ha : Num w va xs) (hb : Num w vb ys) (hz : xs.length + ys.length < 4398046511104) :
    Calls Tryd.prog 16 #[va, vb] w (RNat w (val xs * val ys)) := mul_for _ (Nat.le_refl _) w va vb xs ys ha hb hz
end Go.Proofs.YtgjhgpfjeoeojaaDoor

/- The walk of the law BignatArith: it returns true and leaves what was there. -/
import Derived.Test.YticakmcjiofhoaaLawf
import Derived.Test.YticakmcjiofhoaaLawg
import Derived.Test.YticakmcjiofhoaaRefH
namespace Go.Proofs.Yticakmcjiofhoaa
open Go.RowKit Dig
set_option linter.unusedVariables false
section
variable {w : World} {va vb : Value} {a b k l : Nat}
theorem uint64_w (ha : NumV w va a k) : Calls Try.prog 13 #[va] w (RVal w (.tuple #[.int .u64 (u64Of a), .bool (fits a)])) := by
  obtain ⟨L, h1, h2, h3⟩ := ha
  subst h2
  obtain ⟨A, c, rfl⟩ := h1.form
  exact (uint64_c w A _ c L h1).mono fun e w' ⟨x, N, y⟩ => ⟨x, by rw [y]; exact below_drewN (Below.refl _ _) N⟩
theorem natU64_w (ha : NumV w va a k) (hk : k ≤ 1000000) : Calls Try.prog 14 #[va] w (RVal w (.tuple #[.int .u64 (u64Of a), .bool (fits a)])) := by
  obtain ⟨L, h1, h2, h3⟩ := ha
  subst h2
  exact natU64_c w va L h1 (by omega)
theorem natSub_ltv (ha : NumV w va a k) (hb : NumV w vb b l) (hk : k ≤ 1000000) (hl : l ≤ 1000000) (h : a < b) : Calls Try.prog 16 #[va, vb] w (RNoSub w) := by
  obtain ⟨L, h1, h2, h3⟩ := ha
  obtain ⟨M, g1, g2, g3⟩ := hb
  subst h2
  subst g2
  exact natSub_lt w va vb L M h1 g1 (by omega) (by omega) h
theorem natSub_gev (ha : NumV w va a k) (hb : NumV w vb b l) (hk : k ≤ 1000000) (hl : l ≤ 1000000) (h : b ≤ a) :
    Calls Try.prog 16 #[va, vb] w fun e w' => ∃ r, e = .returned (.tuple #[r, .bool true]) ∧ Can w' r (a - b) k ∧ Below w.heap.size w w' := by
  have hf := ha.lt
  obtain ⟨L, h1, h2, h3⟩ := ha
  obtain ⟨M, g1, g2, g3⟩ := hb
  subst h2
  subst g2
  exact (natSub_ge w va vb L M h1 g1 (by omega) (by omega) h).mono fun e w' ⟨r, x, y, z⟩ => ⟨r, x, ⟨y.num, by omega⟩, z⟩
theorem natOf_v (n : Nat) (hn : n < 18446744073709551616) : Calls Try.prog 21 #[.int .u64 (n : Int)] w (RCan w n 2) :=
  (natOf_c w n hn).mono fun e w' h => RCan.of h (by omega)
theorem natNorm_v (ha : NumV w va a k) (hk : k ≤ 1000000) : Calls Try.prog 23 #[va] w (RCan w a k) := by
  have hf := ha.lt
  obtain ⟨L, h1, h2, h3⟩ := ha
  subst h2
  exact (natNorm_c w va L h1 (by omega)).mono fun e w' h => RCan.of h hf
theorem natBits_v (ha : NumV w va a k) (hk : k ≤ 1000000) : Calls Try.prog 25 #[va] w (RVal w (.int .i64 (nbits a))) := by
  obtain ⟨L, h1, h2, h3⟩ := ha
  subst h2
  exact natBits_c w va L h1 (by omega)
theorem natCmp_v (ha : NumV w va a k) (hb : NumV w vb b l) (hk : k ≤ 1000000) (hl : l ≤ 1000000) : Calls Try.prog 27 #[va, vb] w (RVal w (.int .i64 (cmpI a b))) := by
  obtain ⟨L, h1, h2, h3⟩ := ha
  obtain ⟨M, g1, g2, g3⟩ := hb
  subst h2
  subst g2
  exact natCmp_c w va vb L M h1 g1 (by omega) (by omega)
theorem natAdd_v (ha : NumV w va a k) (hb : NumV w vb b l) (hk : k ≤ 1000000) (hl : l ≤ 1000000) : Calls Try.prog 29 #[va, vb] w (RCan w (a + b) (k + l + 1)) := by
  have hf := add_lt ha.lt hb.lt
  obtain ⟨L, h1, h2, h3⟩ := ha
  obtain ⟨M, g1, g2, g3⟩ := hb
  subst h2
  subst g2
  exact (natAdd_c w va vb L M h1 g1 (by omega) (by omega)).mono fun e w' h => RCan.of h hf
theorem natMul_v (ha : NumV w va a k) (hb : NumV w vb b l) (hk : k ≤ 1000000) (hl : l ≤ 1000000) : Calls Try.prog 31 #[va, vb] w (RCan w (a * b) (k + l)) := by
  have hf := mul_lt ha.lt hb.lt
  obtain ⟨L, h1, h2, h3⟩ := ha
  obtain ⟨M, g1, g2, g3⟩ := hb
  subst h2
  subst g2
  exact (natMul_c w va vb L M h1 g1 (by omega) (by omega)).mono fun e w' h => RCan.of h hf
theorem natGCD_v (ha : NumV w va a k) (hb : NumV w vb b l) (hk : k ≤ 1000000) (hl : l ≤ 1000000) : Calls Try.prog 33 #[va, vb] w (RCan w (Nat.gcd a b) (k + l)) := by
  have hf := gcd_lt_pow ha.lt hb.lt
  obtain ⟨L, h1, h2, h3⟩ := ha
  obtain ⟨M, g1, g2, g3⟩ := hb
  subst h2
  subst g2
  exact (natGCD_c w va vb L M h1 g1 (by omega) (by omega)).mono fun e w' h => RCan.of h hf
end
theorem wf_u64 {z : Int} (h : (Lit.int .u64 z).wf = true) : ∃ n : Nat, n < 18446744073709551616 ∧ z = (n : Int) := by
  have e1 : IntKind.u64.min = 0 := by decide
  have e2 : IntKind.u64.max = 18446744073709551615 := by decide
  simp [Lit.wf] at h
  rw [e1, e2] at h
  exact ⟨z.toNat, by omega, by omega⟩

set_option maxRecDepth 20000 in
set_option maxHeartbeats 4000000 in
theorem arith_b0 (w : World) (v0 v1 : Value) (l0 l1 : List Nat) (n0 : Num w v0 l0) (n1 : Num w v1 l1) {z2 : Int} (n2 : (Lit.int .u64 z2).wf = true) (h0 : val (mkn l1) = 0) :
    Calls Try.prog 3 #[v0, v1, .int .u64 z2] w fun e w' => e = .returned (.bool true) ∧ Below w.heap.size w w' := by
  go_enter Try.func3, Try.ntmps3
  obtain ⟨n, hn, rfl⟩ := wf_u64 n2
  go_wp2_with fail
  refine (base_v (w := w) n0).mono ?_
  rintro e w1 ⟨a, rfl, ha0, _, hB⟩
  have n0 := n0.below hB
  have n1 := n1.below hB
  have HB := hB
  have ha := ha0
  clear hB ha0
  go_wp2_with fail
  refine (base_v (w := w1) n1).mono ?_
  rintro e w2 ⟨b, rfl, hb0, _, hB⟩
  have n0 := n0.below hB
  have n1 := n1.below hB
  have ha := ha.below hB
  have HB := below_step HB hB
  have hb := hb0
  clear hB hb0
  rw [h0] at hb
  generalize val (mkn l0) = x at *
  go_wp2_with fail
  refine (uint64_w (w := w2) ha).mono ?_
  rintro e w3 ⟨rfl, hB⟩
  have ha := ha.below hB
  have hb := hb.below hB
  have HB := below_step HB hB
  clear hB
  go_wp2_with fail
  refine (natU64_w (w := w3) ha (by omega)).mono ?_
  rintro e w4 ⟨rfl, hB⟩
  have ha := ha.below hB
  have hb := hb.below hB
  have HB := below_step HB hB
  clear hB
  generalize u64Of x = ux at *
  go_wp2_with fail
  refine (subge_v (w := w4) ha hb (by omega) (Nat.zero_le _)).mono ?_
  rintro e w5 ⟨d, rfl, hd0, hB⟩
  have ha := ha.below hB
  have hb := hb.below hB
  have HB := below_step HB hB
  clear hB
  have hd := hd0
  clear hd0
  go_wp2_with fail
  refine (natSub_gev (w := w5) ha hb (by omega) (by omega) (Nat.zero_le _)).mono ?_
  rintro e w6 ⟨e1, rfl, he10, hB⟩
  have ha := ha.below hB
  have hb := hb.below hB
  have hd := hd.below hB
  have HB := below_step HB hB
  clear hB
  have he1 := he10
  clear he10
  go_wp2_with fail
  refine (div0_v (w := w6) ha hb).mono ?_
  rintro e w7 ⟨rfl, hB⟩
  have ha := ha.below hB
  have hb := hb.below hB
  have hd := hd.below hB
  have he1 := he1.below hB
  have HB := below_step HB hB
  clear hB
  go_wp2_with fail
  refine (natDiv0_v (w := w7) ha hb (by omega) (by omega)).mono ?_
  rintro e w8 ⟨rfl, hB⟩
  have ha := ha.below hB
  have hb := hb.below hB
  have hd := hd.below hB
  have he1 := he1.below hB
  have HB := below_step HB hB
  clear hB
  go_wp2_with fail
  refine (from_v (w := w8) n hn).mono ?_
  rintro e w9 ⟨f1, rfl, hf10, _, hB⟩
  have ha := ha.below hB
  have hb := hb.below hB
  have hd := hd.below hB
  have he1 := he1.below hB
  have HB := below_step HB hB
  clear hB
  have hf1 := hf10
  clear hf10
  go_wp2_with fail
  refine (natOf_v (w := w9) n hn).mono ?_
  rintro e w10 ⟨f2, rfl, hf20, _, hB⟩
  have ha := ha.below hB
  have hb := hb.below hB
  have hd := hd.below hB
  have he1 := he1.below hB
  have hf1 := hf1.below hB
  have HB := below_step HB hB
  clear hB
  have hf2 := hf20
  clear hf20
  go_wp2_with fail
  refine (same_v (w := w10) hf1 hf2 (rfl)).mono ?_
  rintro e w11 ⟨rfl, hB⟩
  have ha := ha.below hB
  have hb := hb.below hB
  have hd := hd.below hB
  have he1 := he1.below hB
  have hf1 := hf1.below hB
  have hf2 := hf2.below hB
  have HB := below_step HB hB
  clear hB
  clear hf1
  clear hf2
  go_wp2_with fail
  refine (norm_v (w := w11) ha (by omega)).mono ?_
  rintro e w12 ⟨n1, rfl, hn10, _, hB⟩
  have ha := ha.below hB
  have hb := hb.below hB
  have hd := hd.below hB
  have he1 := he1.below hB
  have HB := below_step HB hB
  clear hB
  have hn1 := hn10
  clear hn10
  go_wp2_with fail
  refine (natNorm_v (w := w12) ha (by omega)).mono ?_
  rintro e w13 ⟨n2, rfl, hn20, _, hB⟩
  have ha := ha.below hB
  have hb := hb.below hB
  have hd := hd.below hB
  have he1 := he1.below hB
  have hn1 := hn1.below hB
  have HB := below_step HB hB
  clear hB
  have hn2 := hn20
  clear hn20
  go_wp2_with fail
  refine (same_v (w := w13) hn1 hn2 (rfl)).mono ?_
  rintro e w14 ⟨rfl, hB⟩
  have ha := ha.below hB
  have hb := hb.below hB
  have hd := hd.below hB
  have he1 := he1.below hB
  have hn1 := hn1.below hB
  have hn2 := hn2.below hB
  have HB := below_step HB hB
  clear hB
  clear hn1
  clear hn2
  go_wp2_with fail
  refine (bitLen_n (w := w14) ha (by omega)).mono ?_
  rintro e w15 ⟨rfl, hB⟩
  have ha := ha.below hB
  have hb := hb.below hB
  have hd := hd.below hB
  have he1 := he1.below hB
  have HB := below_step HB hB
  clear hB
  go_wp2_with fail
  refine (natBits_v (w := w15) ha (by omega)).mono ?_
  rintro e w16 ⟨rfl, hB⟩
  have ha := ha.below hB
  have hb := hb.below hB
  have hd := hd.below hB
  have he1 := he1.below hB
  have HB := below_step HB hB
  clear hB
  go_wp2_with fail
  refine (cmp_v (w := w16) ha hb).mono ?_
  rintro e w17 ⟨rfl, hB⟩
  have ha := ha.below hB
  have hb := hb.below hB
  have hd := hd.below hB
  have he1 := he1.below hB
  have HB := below_step HB hB
  clear hB
  go_wp2_with fail
  refine (natCmp_v (w := w17) ha hb (by omega) (by omega)).mono ?_
  rintro e w18 ⟨rfl, hB⟩
  have ha := ha.below hB
  have hb := hb.below hB
  have hd := hd.below hB
  have he1 := he1.below hB
  have HB := below_step HB hB
  clear hB
  go_wp2_with fail
  refine (add_v (w := w18) ha hb (by omega) (by omega)).mono ?_
  rintro e w19 ⟨p1, rfl, hp10, _, hB⟩
  have ha := ha.below hB
  have hb := hb.below hB
  have hd := hd.below hB
  have he1 := he1.below hB
  have HB := below_step HB hB
  clear hB
  have hp1 := hp10
  clear hp10
  go_wp2_with fail
  refine (natAdd_v (w := w19) ha hb (by omega) (by omega)).mono ?_
  rintro e w20 ⟨p2, rfl, hp20, _, hB⟩
  have ha := ha.below hB
  have hb := hb.below hB
  have hd := hd.below hB
  have he1 := he1.below hB
  have hp1 := hp1.below hB
  have HB := below_step HB hB
  clear hB
  have hp2 := hp20
  clear hp20
  go_wp2_with fail
  refine (same_v (w := w20) hp1 hp2 (rfl)).mono ?_
  rintro e w21 ⟨rfl, hB⟩
  have ha := ha.below hB
  have hb := hb.below hB
  have hd := hd.below hB
  have he1 := he1.below hB
  have hp1 := hp1.below hB
  have hp2 := hp2.below hB
  have HB := below_step HB hB
  clear hB
  clear hp1
  clear hp2
  go_wp2_with fail
  refine (same_v (w := w21) hd he1 (rfl)).mono ?_
  rintro e w22 ⟨rfl, hB⟩
  have ha := ha.below hB
  have hb := hb.below hB
  have hd := hd.below hB
  have he1 := he1.below hB
  have HB := below_step HB hB
  clear hB
  clear hd
  clear he1
  go_wp2_with fail
  refine (mul_v (w := w22) ha hb (by omega) (by omega) (by omega)).mono ?_
  rintro e w23 ⟨p1, rfl, hp10, _, hB⟩
  have ha := ha.below hB
  have hb := hb.below hB
  have HB := below_step HB hB
  clear hB
  have hp1 := hp10
  clear hp10
  go_wp2_with fail
  refine (natMul_v (w := w23) ha hb (by omega) (by omega)).mono ?_
  rintro e w24 ⟨p2, rfl, hp20, _, hB⟩
  have ha := ha.below hB
  have hb := hb.below hB
  have hp1 := hp1.below hB
  have HB := below_step HB hB
  clear hB
  have hp2 := hp20
  clear hp20
  go_wp2_with fail
  refine (same_v (w := w24) hp1 hp2 (rfl)).mono ?_
  rintro e w25 ⟨rfl, hB⟩
  have ha := ha.below hB
  have hb := hb.below hB
  have hp1 := hp1.below hB
  have hp2 := hp2.below hB
  have HB := below_step HB hB
  clear hB
  clear hp1
  clear hp2
  go_wp2_with fail
  refine (sameNum_v (w := w25) (Num.nil _) (Num.nil _)).mono ?_
  rintro e w26 ⟨rfl, hB⟩
  have ha := ha.below hB
  have hb := hb.below hB
  have HB := below_step HB hB
  clear hB
  go_wp2_with fail
  refine (sameNum_v (w := w26) (Num.nil _) (Num.nil _)).mono ?_
  rintro e w27 ⟨rfl, hB⟩
  have ha := ha.below hB
  have hb := hb.below hB
  have HB := below_step HB hB
  clear hB
  go_wp2_with fail
  refine (gcd_v (w := w27) ha hb (by omega) (by omega)).mono ?_
  rintro e w28 ⟨p1, rfl, hp10, _, hB⟩
  have ha := ha.below hB
  have hb := hb.below hB
  have HB := below_step HB hB
  clear hB
  have hp1 := hp10
  clear hp10
  go_wp2_with fail
  refine (natGCD_v (w := w28) ha hb (by omega) (by omega)).mono ?_
  rintro e w29 ⟨p2, rfl, hp20, _, hB⟩
  have ha := ha.below hB
  have hb := hb.below hB
  have hp1 := hp1.below hB
  have HB := below_step HB hB
  clear hB
  have hp2 := hp20
  clear hp20
  go_wp2_with fail
  refine (same_v (w := w29) hp1 hp2 (rfl)).mono ?_
  rintro e w30 ⟨rfl, hB⟩
  have ha := ha.below hB
  have hb := hb.below hB
  have hp1 := hp1.below hB
  have hp2 := hp2.below hB
  have HB := below_step HB hB
  clear hB
  clear hp1
  clear hp2
  go_wp2_with fail
  refine (known_v w30).mono ?_
  rintro e w31 ⟨rfl, hB⟩
  have ha := ha.below hB
  have hb := hb.below hB
  have HB := below_step HB hB
  clear hB
  go_wp2_with fail
  go_ret
  exact ⟨rfl, HB⟩

set_option maxRecDepth 20000 in
set_option maxHeartbeats 4000000 in
theorem arith_lt (w : World) (v0 v1 : Value) (l0 l1 : List Nat) (n0 : Num w v0 l0) (n1 : Num w v1 l1) {z2 : Int} (n2 : (Lit.int .u64 z2).wf = true) (h : val (mkn l0) < val (mkn l1)) (hy : 0 < val (mkn l1)) :
    Calls Try.prog 3 #[v0, v1, .int .u64 z2] w fun e w' => e = .returned (.bool true) ∧ Below w.heap.size w w' := by
  go_enter Try.func3, Try.ntmps3
  obtain ⟨n, hn, rfl⟩ := wf_u64 n2
  go_wp2_with fail
  refine (base_v (w := w) n0).mono ?_
  rintro e w1 ⟨a, rfl, ha0, _, hB⟩
  have n0 := n0.below hB
  have n1 := n1.below hB
  have HB := hB
  have ha := ha0
  clear hB ha0
  go_wp2_with fail
  refine (base_v (w := w1) n1).mono ?_
  rintro e w2 ⟨b, rfl, hb0, _, hB⟩
  have n0 := n0.below hB
  have n1 := n1.below hB
  have ha := ha.below hB
  have HB := below_step HB hB
  have hb := hb0
  clear hB hb0
  generalize val (mkn l0) = x at *
  generalize val (mkn l1) = y at *
  go_wp2_with fail
  refine (uint64_w (w := w2) ha).mono ?_
  rintro e w3 ⟨rfl, hB⟩
  have ha := ha.below hB
  have hb := hb.below hB
  have HB := below_step HB hB
  clear hB
  go_wp2_with fail
  refine (natU64_w (w := w3) ha (by omega)).mono ?_
  rintro e w4 ⟨rfl, hB⟩
  have ha := ha.below hB
  have hb := hb.below hB
  have HB := below_step HB hB
  clear hB
  generalize u64Of x = ux at *
  go_wp2_with fail
  refine (sublt_v (w := w4) ha hb h).mono ?_
  rintro e w5 ⟨rfl, hB⟩
  have ha := ha.below hB
  have hb := hb.below hB
  have HB := below_step HB hB
  clear hB
  go_wp2_with fail
  refine (natSub_ltv (w := w5) ha hb (by omega) (by omega) h).mono ?_
  rintro e w6 ⟨rfl, hB⟩
  have ha := ha.below hB
  have hb := hb.below hB
  have HB := below_step HB hB
  clear hB
  go_wp2_with fail
  refine (div_v (w := w6) ha hb (by omega) hy).mono ?_
  rintro e w7 ⟨q, r, rfl, hq0, hr0, _, _, hB⟩
  have ha := ha.below hB
  have hb := hb.below hB
  have HB := below_step HB hB
  clear hB
  have hq := hq0
  clear hq0
  have hr := hr0
  clear hr0
  go_wp2_with fail
  refine (natDiv_v (w := w7) ha hb (by omega) (by omega) hy).mono ?_
  rintro e w8 ⟨s, t, rfl, hs0, ht0, _, _, hB⟩
  have ha := ha.below hB
  have hb := hb.below hB
  have hq := hq.below hB
  have hr := hr.below hB
  have HB := below_step HB hB
  clear hB
  have hs := hs0
  clear hs0
  have ht := ht0
  clear ht0
  go_wp2_with fail
  refine (from_v (w := w8) n hn).mono ?_
  rintro e w9 ⟨f1, rfl, hf10, _, hB⟩
  have ha := ha.below hB
  have hb := hb.below hB
  have hq := hq.below hB
  have hr := hr.below hB
  have hs := hs.below hB
  have ht := ht.below hB
  have HB := below_step HB hB
  clear hB
  have hf1 := hf10
  clear hf10
  go_wp2_with fail
  refine (natOf_v (w := w9) n hn).mono ?_
  rintro e w10 ⟨f2, rfl, hf20, _, hB⟩
  have ha := ha.below hB
  have hb := hb.below hB
  have hq := hq.below hB
  have hr := hr.below hB
  have hs := hs.below hB
  have ht := ht.below hB
  have hf1 := hf1.below hB
  have HB := below_step HB hB
  clear hB
  have hf2 := hf20
  clear hf20
  go_wp2_with fail
  refine (same_v (w := w10) hf1 hf2 (rfl)).mono ?_
  rintro e w11 ⟨rfl, hB⟩
  have ha := ha.below hB
  have hb := hb.below hB
  have hq := hq.below hB
  have hr := hr.below hB
  have hs := hs.below hB
  have ht := ht.below hB
  have hf1 := hf1.below hB
  have hf2 := hf2.below hB
  have HB := below_step HB hB
  clear hB
  clear hf1
  clear hf2
  go_wp2_with fail
  refine (norm_v (w := w11) ha (by omega)).mono ?_
  rintro e w12 ⟨n1, rfl, hn10, _, hB⟩
  have ha := ha.below hB
  have hb := hb.below hB
  have hq := hq.below hB
  have hr := hr.below hB
  have hs := hs.below hB
  have ht := ht.below hB
  have HB := below_step HB hB
  clear hB
  have hn1 := hn10
  clear hn10
  go_wp2_with fail
  refine (natNorm_v (w := w12) ha (by omega)).mono ?_
  rintro e w13 ⟨n2, rfl, hn20, _, hB⟩
  have ha := ha.below hB
  have hb := hb.below hB
  have hq := hq.below hB
  have hr := hr.below hB
  have hs := hs.below hB
  have ht := ht.below hB
  have hn1 := hn1.below hB
  have HB := below_step HB hB
  clear hB
  have hn2 := hn20
  clear hn20
  go_wp2_with fail
  refine (same_v (w := w13) hn1 hn2 (rfl)).mono ?_
  rintro e w14 ⟨rfl, hB⟩
  have ha := ha.below hB
  have hb := hb.below hB
  have hq := hq.below hB
  have hr := hr.below hB
  have hs := hs.below hB
  have ht := ht.below hB
  have hn1 := hn1.below hB
  have hn2 := hn2.below hB
  have HB := below_step HB hB
  clear hB
  clear hn1
  clear hn2
  go_wp2_with fail
  refine (bitLen_n (w := w14) ha (by omega)).mono ?_
  rintro e w15 ⟨rfl, hB⟩
  have ha := ha.below hB
  have hb := hb.below hB
  have hq := hq.below hB
  have hr := hr.below hB
  have hs := hs.below hB
  have ht := ht.below hB
  have HB := below_step HB hB
  clear hB
  go_wp2_with fail
  refine (natBits_v (w := w15) ha (by omega)).mono ?_
  rintro e w16 ⟨rfl, hB⟩
  have ha := ha.below hB
  have hb := hb.below hB
  have hq := hq.below hB
  have hr := hr.below hB
  have hs := hs.below hB
  have ht := ht.below hB
  have HB := below_step HB hB
  clear hB
  go_wp2_with fail
  refine (cmp_v (w := w16) ha hb).mono ?_
  rintro e w17 ⟨rfl, hB⟩
  have ha := ha.below hB
  have hb := hb.below hB
  have hq := hq.below hB
  have hr := hr.below hB
  have hs := hs.below hB
  have ht := ht.below hB
  have HB := below_step HB hB
  clear hB
  go_wp2_with fail
  refine (natCmp_v (w := w17) ha hb (by omega) (by omega)).mono ?_
  rintro e w18 ⟨rfl, hB⟩
  have ha := ha.below hB
  have hb := hb.below hB
  have hq := hq.below hB
  have hr := hr.below hB
  have hs := hs.below hB
  have ht := ht.below hB
  have HB := below_step HB hB
  clear hB
  go_wp2_with fail
  refine (add_v (w := w18) ha hb (by omega) (by omega)).mono ?_
  rintro e w19 ⟨p1, rfl, hp10, _, hB⟩
  have ha := ha.below hB
  have hb := hb.below hB
  have hq := hq.below hB
  have hr := hr.below hB
  have hs := hs.below hB
  have ht := ht.below hB
  have HB := below_step HB hB
  clear hB
  have hp1 := hp10
  clear hp10
  go_wp2_with fail
  refine (natAdd_v (w := w19) ha hb (by omega) (by omega)).mono ?_
  rintro e w20 ⟨p2, rfl, hp20, _, hB⟩
  have ha := ha.below hB
  have hb := hb.below hB
  have hq := hq.below hB
  have hr := hr.below hB
  have hs := hs.below hB
  have ht := ht.below hB
  have hp1 := hp1.below hB
  have HB := below_step HB hB
  clear hB
  have hp2 := hp20
  clear hp20
  go_wp2_with fail
  refine (same_v (w := w20) hp1 hp2 (rfl)).mono ?_
  rintro e w21 ⟨rfl, hB⟩
  have ha := ha.below hB
  have hb := hb.below hB
  have hq := hq.below hB
  have hr := hr.below hB
  have hs := hs.below hB
  have ht := ht.below hB
  have hp1 := hp1.below hB
  have hp2 := hp2.below hB
  have HB := below_step HB hB
  clear hB
  clear hp1
  clear hp2
  go_wp2_with fail
  refine (sameNum_v (w := w21) (Num.nil _) (Num.nil _)).mono ?_
  rintro e w22 ⟨rfl, hB⟩
  have ha := ha.below hB
  have hb := hb.below hB
  have hq := hq.below hB
  have hr := hr.below hB
  have hs := hs.below hB
  have ht := ht.below hB
  have HB := below_step HB hB
  clear hB
  go_wp2_with fail
  refine (mul_v (w := w22) ha hb (by omega) (by omega) (by omega)).mono ?_
  rintro e w23 ⟨p1, rfl, hp10, _, hB⟩
  have ha := ha.below hB
  have hb := hb.below hB
  have hq := hq.below hB
  have hr := hr.below hB
  have hs := hs.below hB
  have ht := ht.below hB
  have HB := below_step HB hB
  clear hB
  have hp1 := hp10
  clear hp10
  go_wp2_with fail
  refine (natMul_v (w := w23) ha hb (by omega) (by omega)).mono ?_
  rintro e w24 ⟨p2, rfl, hp20, _, hB⟩
  have ha := ha.below hB
  have hb := hb.below hB
  have hq := hq.below hB
  have hr := hr.below hB
  have hs := hs.below hB
  have ht := ht.below hB
  have hp1 := hp1.below hB
  have HB := below_step HB hB
  clear hB
  have hp2 := hp20
  clear hp20
  go_wp2_with fail
  refine (same_v (w := w24) hp1 hp2 (rfl)).mono ?_
  rintro e w25 ⟨rfl, hB⟩
  have ha := ha.below hB
  have hb := hb.below hB
  have hq := hq.below hB
  have hr := hr.below hB
  have hs := hs.below hB
  have ht := ht.below hB
  have hp1 := hp1.below hB
  have hp2 := hp2.below hB
  have HB := below_step HB hB
  clear hB
  clear hp1
  clear hp2
  go_wp2_with fail
  refine (same_v (w := w25) hq hs (rfl)).mono ?_
  rintro e w26 ⟨rfl, hB⟩
  have ha := ha.below hB
  have hb := hb.below hB
  have hq := hq.below hB
  have hr := hr.below hB
  have hs := hs.below hB
  have ht := ht.below hB
  have HB := below_step HB hB
  clear hB
  go_wp2_with fail
  refine (same_v (w := w26) hr ht (rfl)).mono ?_
  rintro e w27 ⟨rfl, hB⟩
  have ha := ha.below hB
  have hb := hb.below hB
  have hq := hq.below hB
  have hr := hr.below hB
  have hs := hs.below hB
  have ht := ht.below hB
  have HB := below_step HB hB
  clear hB
  clear hq
  clear hr
  clear hs
  clear ht
  go_wp2_with fail
  refine (gcd_v (w := w27) ha hb (by omega) (by omega)).mono ?_
  rintro e w28 ⟨p1, rfl, hp10, _, hB⟩
  have ha := ha.below hB
  have hb := hb.below hB
  have HB := below_step HB hB
  clear hB
  have hp1 := hp10
  clear hp10
  go_wp2_with fail
  refine (natGCD_v (w := w28) ha hb (by omega) (by omega)).mono ?_
  rintro e w29 ⟨p2, rfl, hp20, _, hB⟩
  have ha := ha.below hB
  have hb := hb.below hB
  have hp1 := hp1.below hB
  have HB := below_step HB hB
  clear hB
  have hp2 := hp20
  clear hp20
  go_wp2_with fail
  refine (same_v (w := w29) hp1 hp2 (rfl)).mono ?_
  rintro e w30 ⟨rfl, hB⟩
  have ha := ha.below hB
  have hb := hb.below hB
  have hp1 := hp1.below hB
  have hp2 := hp2.below hB
  have HB := below_step HB hB
  clear hB
  clear hp1
  clear hp2
  go_wp2_with fail
  refine (known_v w30).mono ?_
  rintro e w31 ⟨rfl, hB⟩
  have ha := ha.below hB
  have hb := hb.below hB
  have HB := below_step HB hB
  clear hB
  go_wp2_with fail
  go_ret
  exact ⟨rfl, HB⟩

set_option maxRecDepth 20000 in
set_option maxHeartbeats 4000000 in
theorem arith_ge (w : World) (v0 v1 : Value) (l0 l1 : List Nat) (n0 : Num w v0 l0) (n1 : Num w v1 l1) {z2 : Int} (n2 : (Lit.int .u64 z2).wf = true) (h : val (mkn l1) ≤ val (mkn l0)) (hy : 0 < val (mkn l1)) :
    Calls Try.prog 3 #[v0, v1, .int .u64 z2] w fun e w' => e = .returned (.bool true) ∧ Below w.heap.size w w' := by
  go_enter Try.func3, Try.ntmps3
  obtain ⟨n, hn, rfl⟩ := wf_u64 n2
  go_wp2_with fail
  refine (base_v (w := w) n0).mono ?_
  rintro e w1 ⟨a, rfl, ha0, _, hB⟩
  have n0 := n0.below hB
  have n1 := n1.below hB
  have HB := hB
  have ha := ha0
  clear hB ha0
  go_wp2_with fail
  refine (base_v (w := w1) n1).mono ?_
  rintro e w2 ⟨b, rfl, hb0, _, hB⟩
  have n0 := n0.below hB
  have n1 := n1.below hB
  have ha := ha.below hB
  have HB := below_step HB hB
  have hb := hb0
  clear hB hb0
  generalize val (mkn l0) = x at *
  generalize val (mkn l1) = y at *
  go_wp2_with fail
  refine (uint64_w (w := w2) ha).mono ?_
  rintro e w3 ⟨rfl, hB⟩
  have ha := ha.below hB
  have hb := hb.below hB
  have HB := below_step HB hB
  clear hB
  go_wp2_with fail
  refine (natU64_w (w := w3) ha (by omega)).mono ?_
  rintro e w4 ⟨rfl, hB⟩
  have ha := ha.below hB
  have hb := hb.below hB
  have HB := below_step HB hB
  clear hB
  generalize u64Of x = ux at *
  go_wp2_with fail
  refine (subge_v (w := w4) ha hb (by omega) h).mono ?_
  rintro e w5 ⟨d, rfl, hd0, hB⟩
  have ha := ha.below hB
  have hb := hb.below hB
  have HB := below_step HB hB
  clear hB
  have hd := hd0
  clear hd0
  go_wp2_with fail
  refine (natSub_gev (w := w5) ha hb (by omega) (by omega) h).mono ?_
  rintro e w6 ⟨e1, rfl, he10, hB⟩
  have ha := ha.below hB
  have hb := hb.below hB
  have hd := hd.below hB
  have HB := below_step HB hB
  clear hB
  have he1 := he10
  clear he10
  go_wp2_with fail
  refine (div_v (w := w6) ha hb (by omega) hy).mono ?_
  rintro e w7 ⟨q, r, rfl, hq0, hr0, _, _, hB⟩
  have ha := ha.below hB
  have hb := hb.below hB
  have hd := hd.below hB
  have he1 := he1.below hB
  have HB := below_step HB hB
  clear hB
  have hq := hq0
  clear hq0
  have hr := hr0
  clear hr0
  go_wp2_with fail
  refine (natDiv_v (w := w7) ha hb (by omega) (by omega) hy).mono ?_
  rintro e w8 ⟨s, t, rfl, hs0, ht0, _, _, hB⟩
  have ha := ha.below hB
  have hb := hb.below hB
  have hd := hd.below hB
  have he1 := he1.below hB
  have hq := hq.below hB
  have hr := hr.below hB
  have HB := below_step HB hB
  clear hB
  have hs := hs0
  clear hs0
  have ht := ht0
  clear ht0
  go_wp2_with fail
  refine (from_v (w := w8) n hn).mono ?_
  rintro e w9 ⟨f1, rfl, hf10, _, hB⟩
  have ha := ha.below hB
  have hb := hb.below hB
  have hd := hd.below hB
  have he1 := he1.below hB
  have hq := hq.below hB
  have hr := hr.below hB
  have hs := hs.below hB
  have ht := ht.below hB
  have HB := below_step HB hB
  clear hB
  have hf1 := hf10
  clear hf10
  go_wp2_with fail
  refine (natOf_v (w := w9) n hn).mono ?_
  rintro e w10 ⟨f2, rfl, hf20, _, hB⟩
  have ha := ha.below hB
  have hb := hb.below hB
  have hd := hd.below hB
  have he1 := he1.below hB
  have hq := hq.below hB
  have hr := hr.below hB
  have hs := hs.below hB
  have ht := ht.below hB
  have hf1 := hf1.below hB
  have HB := below_step HB hB
  clear hB
  have hf2 := hf20
  clear hf20
  go_wp2_with fail
  refine (same_v (w := w10) hf1 hf2 (rfl)).mono ?_
  rintro e w11 ⟨rfl, hB⟩
  have ha := ha.below hB
  have hb := hb.below hB
  have hd := hd.below hB
  have he1 := he1.below hB
  have hq := hq.below hB
  have hr := hr.below hB
  have hs := hs.below hB
  have ht := ht.below hB
  have hf1 := hf1.below hB
  have hf2 := hf2.below hB
  have HB := below_step HB hB
  clear hB
  clear hf1
  clear hf2
  go_wp2_with fail
  refine (norm_v (w := w11) ha (by omega)).mono ?_
  rintro e w12 ⟨n1, rfl, hn10, _, hB⟩
  have ha := ha.below hB
  have hb := hb.below hB
  have hd := hd.below hB
  have he1 := he1.below hB
  have hq := hq.below hB
  have hr := hr.below hB
  have hs := hs.below hB
  have ht := ht.below hB
  have HB := below_step HB hB
  clear hB
  have hn1 := hn10
  clear hn10
  go_wp2_with fail
  refine (natNorm_v (w := w12) ha (by omega)).mono ?_
  rintro e w13 ⟨n2, rfl, hn20, _, hB⟩
  have ha := ha.below hB
  have hb := hb.below hB
  have hd := hd.below hB
  have he1 := he1.below hB
  have hq := hq.below hB
  have hr := hr.below hB
  have hs := hs.below hB
  have ht := ht.below hB
  have hn1 := hn1.below hB
  have HB := below_step HB hB
  clear hB
  have hn2 := hn20
  clear hn20
  go_wp2_with fail
  refine (same_v (w := w13) hn1 hn2 (rfl)).mono ?_
  rintro e w14 ⟨rfl, hB⟩
  have ha := ha.below hB
  have hb := hb.below hB
  have hd := hd.below hB
  have he1 := he1.below hB
  have hq := hq.below hB
  have hr := hr.below hB
  have hs := hs.below hB
  have ht := ht.below hB
  have hn1 := hn1.below hB
  have hn2 := hn2.below hB
  have HB := below_step HB hB
  clear hB
  clear hn1
  clear hn2
  go_wp2_with fail
  refine (bitLen_n (w := w14) ha (by omega)).mono ?_
  rintro e w15 ⟨rfl, hB⟩
  have ha := ha.below hB
  have hb := hb.below hB
  have hd := hd.below hB
  have he1 := he1.below hB
  have hq := hq.below hB
  have hr := hr.below hB
  have hs := hs.below hB
  have ht := ht.below hB
  have HB := below_step HB hB
  clear hB
  go_wp2_with fail
  refine (natBits_v (w := w15) ha (by omega)).mono ?_
  rintro e w16 ⟨rfl, hB⟩
  have ha := ha.below hB
  have hb := hb.below hB
  have hd := hd.below hB
  have he1 := he1.below hB
  have hq := hq.below hB
  have hr := hr.below hB
  have hs := hs.below hB
  have ht := ht.below hB
  have HB := below_step HB hB
  clear hB
  go_wp2_with fail
  refine (cmp_v (w := w16) ha hb).mono ?_
  rintro e w17 ⟨rfl, hB⟩
  have ha := ha.below hB
  have hb := hb.below hB
  have hd := hd.below hB
  have he1 := he1.below hB
  have hq := hq.below hB
  have hr := hr.below hB
  have hs := hs.below hB
  have ht := ht.below hB
  have HB := below_step HB hB
  clear hB
  go_wp2_with fail
  refine (natCmp_v (w := w17) ha hb (by omega) (by omega)).mono ?_
  rintro e w18 ⟨rfl, hB⟩
  have ha := ha.below hB
  have hb := hb.below hB
  have hd := hd.below hB
  have he1 := he1.below hB
  have hq := hq.below hB
  have hr := hr.below hB
  have hs := hs.below hB
  have ht := ht.below hB
  have HB := below_step HB hB
  clear hB
  go_wp2_with fail
  refine (add_v (w := w18) ha hb (by omega) (by omega)).mono ?_
  rintro e w19 ⟨p1, rfl, hp10, _, hB⟩
  have ha := ha.below hB
  have hb := hb.below hB
  have hd := hd.below hB
  have he1 := he1.below hB
  have hq := hq.below hB
  have hr := hr.below hB
  have hs := hs.below hB
  have ht := ht.below hB
  have HB := below_step HB hB
  clear hB
  have hp1 := hp10
  clear hp10
  go_wp2_with fail
  refine (natAdd_v (w := w19) ha hb (by omega) (by omega)).mono ?_
  rintro e w20 ⟨p2, rfl, hp20, _, hB⟩
  have ha := ha.below hB
  have hb := hb.below hB
  have hd := hd.below hB
  have he1 := he1.below hB
  have hq := hq.below hB
  have hr := hr.below hB
  have hs := hs.below hB
  have ht := ht.below hB
  have hp1 := hp1.below hB
  have HB := below_step HB hB
  clear hB
  have hp2 := hp20
  clear hp20
  go_wp2_with fail
  refine (same_v (w := w20) hp1 hp2 (rfl)).mono ?_
  rintro e w21 ⟨rfl, hB⟩
  have ha := ha.below hB
  have hb := hb.below hB
  have hd := hd.below hB
  have he1 := he1.below hB
  have hq := hq.below hB
  have hr := hr.below hB
  have hs := hs.below hB
  have ht := ht.below hB
  have hp1 := hp1.below hB
  have hp2 := hp2.below hB
  have HB := below_step HB hB
  clear hB
  clear hp1
  clear hp2
  go_wp2_with fail
  refine (same_v (w := w21) hd he1 (rfl)).mono ?_
  rintro e w22 ⟨rfl, hB⟩
  have ha := ha.below hB
  have hb := hb.below hB
  have hd := hd.below hB
  have he1 := he1.below hB
  have hq := hq.below hB
  have hr := hr.below hB
  have hs := hs.below hB
  have ht := ht.below hB
  have HB := below_step HB hB
  clear hB
  clear hd
  clear he1
  go_wp2_with fail
  refine (mul_v (w := w22) ha hb (by omega) (by omega) (by omega)).mono ?_
  rintro e w23 ⟨p1, rfl, hp10, _, hB⟩
  have ha := ha.below hB
  have hb := hb.below hB
  have hq := hq.below hB
  have hr := hr.below hB
  have hs := hs.below hB
  have ht := ht.below hB
  have HB := below_step HB hB
  clear hB
  have hp1 := hp10
  clear hp10
  go_wp2_with fail
  refine (natMul_v (w := w23) ha hb (by omega) (by omega)).mono ?_
  rintro e w24 ⟨p2, rfl, hp20, _, hB⟩
  have ha := ha.below hB
  have hb := hb.below hB
  have hq := hq.below hB
  have hr := hr.below hB
  have hs := hs.below hB
  have ht := ht.below hB
  have hp1 := hp1.below hB
  have HB := below_step HB hB
  clear hB
  have hp2 := hp20
  clear hp20
  go_wp2_with fail
  refine (same_v (w := w24) hp1 hp2 (rfl)).mono ?_
  rintro e w25 ⟨rfl, hB⟩
  have ha := ha.below hB
  have hb := hb.below hB
  have hq := hq.below hB
  have hr := hr.below hB
  have hs := hs.below hB
  have ht := ht.below hB
  have hp1 := hp1.below hB
  have hp2 := hp2.below hB
  have HB := below_step HB hB
  clear hB
  clear hp1
  clear hp2
  go_wp2_with fail
  refine (same_v (w := w25) hq hs (rfl)).mono ?_
  rintro e w26 ⟨rfl, hB⟩
  have ha := ha.below hB
  have hb := hb.below hB
  have hq := hq.below hB
  have hr := hr.below hB
  have hs := hs.below hB
  have ht := ht.below hB
  have HB := below_step HB hB
  clear hB
  go_wp2_with fail
  refine (same_v (w := w26) hr ht (rfl)).mono ?_
  rintro e w27 ⟨rfl, hB⟩
  have ha := ha.below hB
  have hb := hb.below hB
  have hq := hq.below hB
  have hr := hr.below hB
  have hs := hs.below hB
  have ht := ht.below hB
  have HB := below_step HB hB
  clear hB
  clear hq
  clear hr
  clear hs
  clear ht
  go_wp2_with fail
  refine (gcd_v (w := w27) ha hb (by omega) (by omega)).mono ?_
  rintro e w28 ⟨p1, rfl, hp10, _, hB⟩
  have ha := ha.below hB
  have hb := hb.below hB
  have HB := below_step HB hB
  clear hB
  have hp1 := hp10
  clear hp10
  go_wp2_with fail
  refine (natGCD_v (w := w28) ha hb (by omega) (by omega)).mono ?_
  rintro e w29 ⟨p2, rfl, hp20, _, hB⟩
  have ha := ha.below hB
  have hb := hb.below hB
  have hp1 := hp1.below hB
  have HB := below_step HB hB
  clear hB
  have hp2 := hp20
  clear hp20
  go_wp2_with fail
  refine (same_v (w := w29) hp1 hp2 (rfl)).mono ?_
  rintro e w30 ⟨rfl, hB⟩
  have ha := ha.below hB
  have hb := hb.below hB
  have hp1 := hp1.below hB
  have hp2 := hp2.below hB
  have HB := below_step HB hB
  clear hB
  clear hp1
  clear hp2
  go_wp2_with fail
  refine (known_v w30).mono ?_
  rintro e w31 ⟨rfl, hB⟩
  have ha := ha.below hB
  have hb := hb.below hB
  have HB := below_step HB hB
  clear hB
  go_wp2_with fail
  go_ret
  exact ⟨rfl, HB⟩

theorem arith_walk (w : World) (v0 v1 : Value) (l0 l1 : List Nat) (n0 : Num w v0 l0) (n1 : Num w v1 l1) {z2 : Int} (n2 : (Lit.int .u64 z2).wf = true) :
    Calls Try.prog 3 #[v0, v1, .int .u64 z2] w fun e w' => e = .returned (.bool true) ∧ Below w.heap.size w w' := by
  rcases Nat.eq_zero_or_pos (val (mkn l1)) with h0 | h0
  · exact arith_b0 w v0 v1 l0 l1 n0 n1 n2 h0
  · rcases Nat.lt_or_ge (val (mkn l0)) (val (mkn l1)) with h | h
    · exact arith_lt w v0 v1 l0 l1 n0 n1 n2 h h0
    · exact arith_ge w v0 v1 l0 l1 n0 n1 n2 h h0
end Go.Proofs.Yticakmcjiofhoaa

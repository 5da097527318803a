/- The walk of the law BignatDivisors: it returns true and leaves what was there. -/
import Derived.Test.YticakmcjiofhoaaLawg
namespace Go.Proofs.Yticakmcjiofhoaa
open Go.RowKit Dig
set_option linter.unusedVariables false

set_option maxHeartbeats 2000000 in
theorem divisors_a0 (w : World) (v0 v1 v2 : Value) (l0 l1 l2 : List Nat) (n0 : Num w v0 l0) (n1 : Num w v1 l1) (n2 : Num w v2 l2) (h0 : val (mkn l0) = 0) :
    Calls Try.prog 9 #[v0, v1, v2] w fun e w' => e = .returned (.bool true) ∧ Below w.heap.size w w' := by
  go_enter Try.func9, Try.ntmps9
  go_wp2_with fail
  refine (base_v (w := w) n0).mono ?_
  rintro e w1 ⟨a, rfl, ha0, _, hB⟩
  have n0 := n0.below hB
  have n1 := n1.below hB
  have n2 := n2.below hB
  have HB := hB
  have ha := ha0
  clear hB ha0
  go_wp2_with fail
  refine (base_v (w := w1) n1).mono ?_
  rintro e w2 ⟨b, rfl, hb0, _, hB⟩
  have n0 := n0.below hB
  have n1 := n1.below hB
  have n2 := n2.below hB
  have ha := ha.below hB
  have HB := below_step HB hB
  have hb := hb0
  clear hB hb0
  go_wp2_with fail
  refine (base_v (w := w2) n2).mono ?_
  rintro e w3 ⟨c, rfl, hc0, _, hB⟩
  have n0 := n0.below hB
  have n1 := n1.below hB
  have n2 := n2.below hB
  have ha := ha.below hB
  have hb := hb.below hB
  have HB := below_step HB hB
  have hc := hc0
  clear hB hc0
  rw [h0] at ha
  generalize val (mkn l1) = y at *
  generalize val (mkn l2) = z at *
  go_wp2_with fail
  refine (gcd_v (w := w3) ha hb (by omega) (by omega)).mono ?_
  rintro e w4 ⟨g, rfl, hg0, _, hB⟩
  have ha := ha.below hB
  have hb := hb.below hB
  have hc := hc.below hB
  have HB := below_step HB hB
  clear hB
  have hg := hg0
  clear hg0
  rw [Nat.gcd_zero_left] at hg
  go_wp2_with fail
  refine (bitLen_n (w := w4) ha (by omega)).mono ?_
  rintro e w5 ⟨rfl, hB⟩
  have ha := ha.below hB
  have hb := hb.below hB
  have hc := hc.below hB
  have hg := hg.below hB
  have HB := below_step HB hB
  clear hB
  rw [nbits_zero]
  go_wp2_with fail
  refine (add_v (w := w5) ha hb (by omega) (by omega)).mono ?_
  rintro e w6 ⟨s, rfl, hs0, _, hB⟩
  have ha := ha.below hB
  have hb := hb.below hB
  have hc := hc.below hB
  have hg := hg.below hB
  have HB := below_step HB hB
  clear hB
  have hs := hs0
  clear hs0
  rw [Nat.zero_add] at hs
  go_wp2_with fail
  refine (same_v (w := w6) hg hs (rfl)).mono ?_
  rintro e w7 ⟨rfl, hB⟩
  have ha := ha.below hB
  have hb := hb.below hB
  have hc := hc.below hB
  have hg := hg.below hB
  have hs := hs.below hB
  have HB := below_step HB hB
  clear hB
  go_wp2_with fail
  refine (known_v w7).mono ?_
  rintro e w8 ⟨rfl, hB⟩
  have ha := ha.below hB
  have hb := hb.below hB
  have hc := hc.below hB
  have hg := hg.below hB
  have hs := hs.below hB
  have HB := below_step HB hB
  clear hB
  go_wp2_with fail
  go_ret
  exact ⟨rfl, HB⟩

set_option maxHeartbeats 2000000 in
theorem divisors_b0 (w : World) (v0 v1 v2 : Value) (l0 l1 l2 : List Nat) (n0 : Num w v0 l0) (n1 : Num w v1 l1) (n2 : Num w v2 l2) (h0 : 0 < val (mkn l0)) (h1 : val (mkn l1) = 0) :
    Calls Try.prog 9 #[v0, v1, v2] w fun e w' => e = .returned (.bool true) ∧ Below w.heap.size w w' := by
  go_enter Try.func9, Try.ntmps9
  go_wp2_with fail
  refine (base_v (w := w) n0).mono ?_
  rintro e w1 ⟨a, rfl, ha0, _, hB⟩
  have n0 := n0.below hB
  have n1 := n1.below hB
  have n2 := n2.below hB
  have HB := hB
  have ha := ha0
  clear hB ha0
  go_wp2_with fail
  refine (base_v (w := w1) n1).mono ?_
  rintro e w2 ⟨b, rfl, hb0, _, hB⟩
  have n0 := n0.below hB
  have n1 := n1.below hB
  have n2 := n2.below hB
  have ha := ha.below hB
  have HB := below_step HB hB
  have hb := hb0
  clear hB hb0
  go_wp2_with fail
  refine (base_v (w := w2) n2).mono ?_
  rintro e w3 ⟨c, rfl, hc0, _, hB⟩
  have n0 := n0.below hB
  have n1 := n1.below hB
  have n2 := n2.below hB
  have ha := ha.below hB
  have hb := hb.below hB
  have HB := below_step HB hB
  have hc := hc0
  clear hB hc0
  rw [h1] at hb
  generalize val (mkn l0) = x at *
  generalize val (mkn l2) = z at *
  have hnb := (nbits_le x h0).1
  have hnz : ((nbits x : Int) == 0) = false := by rw [beq_eq_false_iff_ne]; omega
  go_wp2_with fail
  refine (gcd_v (w := w3) ha hb (by omega) (by omega)).mono ?_
  rintro e w4 ⟨g, rfl, hg0, _, hB⟩
  have ha := ha.below hB
  have hb := hb.below hB
  have hc := hc.below hB
  have HB := below_step HB hB
  clear hB
  have hg := hg0
  clear hg0
  rw [Nat.gcd_zero_right] at hg
  go_wp2_with fail
  refine (bitLen_n (w := w4) ha (by omega)).mono ?_
  rintro e w5 ⟨rfl, hB⟩
  have ha := ha.below hB
  have hb := hb.below hB
  have hc := hc.below hB
  have hg := hg.below hB
  have HB := below_step HB hB
  clear hB
  go_wp2_with fail
  refine (bitLen_n (w := w5) hb (by omega)).mono ?_
  rintro e w6 ⟨rfl, hB⟩
  have ha := ha.below hB
  have hb := hb.below hB
  have hc := hc.below hB
  have hg := hg.below hB
  have HB := below_step HB hB
  clear hB
  rw [nbits_zero]
  go_wp2_with fail
  refine (add_v (w := w6) ha hb (by omega) (by omega)).mono ?_
  rintro e w7 ⟨s, rfl, hs0, _, hB⟩
  have ha := ha.below hB
  have hb := hb.below hB
  have hc := hc.below hB
  have hg := hg.below hB
  have HB := below_step HB hB
  clear hB
  have hs := hs0
  clear hs0
  rw [Nat.add_zero] at hs
  go_wp2_with fail
  refine (same_v (w := w7) hg hs (rfl)).mono ?_
  rintro e w8 ⟨rfl, hB⟩
  have ha := ha.below hB
  have hb := hb.below hB
  have hc := hc.below hB
  have hg := hg.below hB
  have hs := hs.below hB
  have HB := below_step HB hB
  clear hB
  go_wp2_with fail
  refine (known_v w8).mono ?_
  rintro e w9 ⟨rfl, hB⟩
  have ha := ha.below hB
  have hb := hb.below hB
  have hc := hc.below hB
  have hg := hg.below hB
  have hs := hs.below hB
  have HB := below_step HB hB
  clear hB
  go_wp2_with fail
  go_ret
  exact ⟨rfl, HB⟩

set_option maxHeartbeats 2000000 in
theorem divisors_pos (w : World) (v0 v1 v2 : Value) (l0 l1 l2 : List Nat) (n0 : Num w v0 l0) (n1 : Num w v1 l1) (n2 : Num w v2 l2) (h0 : 0 < val (mkn l0)) (h1 : 0 < val (mkn l1)) :
    Calls Try.prog 9 #[v0, v1, v2] w fun e w' => e = .returned (.bool true) ∧ Below w.heap.size w w' := by
  go_enter Try.func9, Try.ntmps9
  go_wp2_with fail
  refine (base_v (w := w) n0).mono ?_
  rintro e w1 ⟨a, rfl, ha0, _, hB⟩
  have n0 := n0.below hB
  have n1 := n1.below hB
  have n2 := n2.below hB
  have HB := hB
  have ha := ha0
  clear hB ha0
  go_wp2_with fail
  refine (base_v (w := w1) n1).mono ?_
  rintro e w2 ⟨b, rfl, hb0, _, hB⟩
  have n0 := n0.below hB
  have n1 := n1.below hB
  have n2 := n2.below hB
  have ha := ha.below hB
  have HB := below_step HB hB
  have hb := hb0
  clear hB hb0
  go_wp2_with fail
  refine (base_v (w := w2) n2).mono ?_
  rintro e w3 ⟨c, rfl, hc0, _, hB⟩
  have n0 := n0.below hB
  have n1 := n1.below hB
  have n2 := n2.below hB
  have ha := ha.below hB
  have hb := hb.below hB
  have HB := below_step HB hB
  have hc := hc0
  clear hB hc0
  generalize val (mkn l0) = x at *
  generalize val (mkn l1) = y at *
  generalize val (mkn l2) = z at *
  obtain ⟨hgp, hxm, hym, hco, hmz⟩ := gcd_facts (y := y) (z := z) h0
  have hnb := (nbits_le x h0).1
  have hnz : ((nbits x : Int) == 0) = false := by rw [beq_eq_false_iff_ne]; omega
  have hnb2 := (nbits_le y h1).1
  have hnz2 : ((nbits y : Int) == 0) = false := by rw [beq_eq_false_iff_ne]; omega
  go_wp2_with fail
  refine (gcd_v (w := w3) ha hb (by omega) (by omega)).mono ?_
  rintro e w4 ⟨g, rfl, hg0, _, hB⟩
  have ha := ha.below hB
  have hb := hb.below hB
  have hc := hc.below hB
  have HB := below_step HB hB
  clear hB
  have hg := hg0
  clear hg0
  obtain ⟨G, hG⟩ : ∃ G, Nat.gcd x y = G := ⟨_, rfl⟩
  rw [hG] at hg hgp hxm hym hco hmz
  have HG := Lib.hid hG
  have HCO := Lib.hid hco
  have HMZ := Lib.hid hmz
  clear hG hco hmz
  go_wp2_with fail
  refine (bitLen_n (w := w4) ha (by omega)).mono ?_
  rintro e w5 ⟨rfl, hB⟩
  have ha := ha.below hB
  have hb := hb.below hB
  have hc := hc.below hB
  have hg := hg.below hB
  have HB := below_step HB hB
  clear hB
  go_wp2_with fail
  refine (bitLen_n (w := w5) hb (by omega)).mono ?_
  rintro e w6 ⟨rfl, hB⟩
  have ha := ha.below hB
  have hb := hb.below hB
  have hc := hc.below hB
  have hg := hg.below hB
  have HB := below_step HB hB
  clear hB
  go_wp2_with fail
  refine (div_v (w := w6) ha hg.numV (by omega) hgp).mono ?_
  rintro e w7 ⟨p, r, rfl, hp0, hr0, _, _, hB⟩
  have ha := ha.below hB
  have hb := hb.below hB
  have hc := hc.below hB
  have hg := hg.below hB
  have HB := below_step HB hB
  clear hB
  have hp := hp0
  clear hp0
  have hr := hr0
  clear hr0
  rw [hxm] at hr
  obtain ⟨Ar, cr, er⟩ := hr.1.form
  rw [show (dg 0).length = 0 from rfl] at er
  subst er
  clear hr
  go_wp2_with fail
  refine (div_v (w := w7) hb hg.numV (by omega) hgp).mono ?_
  rintro e w8 ⟨q, s, rfl, hq0, hs0, _, _, hB⟩
  have ha := ha.below hB
  have hb := hb.below hB
  have hc := hc.below hB
  have hg := hg.below hB
  have hp := hp.below hB
  have HB := below_step HB hB
  clear hB
  have hq := hq0
  clear hq0
  have hs := hs0
  clear hs0
  rw [hym] at hs
  obtain ⟨As, cs, es⟩ := hs.1.form
  rw [show (dg 0).length = 0 from rfl] at es
  subst es
  clear hs
  go_wp2_with fail
  refine (gcd_v (w := w8) hp.numV hq.numV (by omega) (by omega)).mono ?_
  rintro e w9 ⟨t, rfl, ht0, _, hB⟩
  have ha := ha.below hB
  have hb := hb.below hB
  have hc := hc.below hB
  have hg := hg.below hB
  have hp := hp.below hB
  have hq := hq.below hB
  have HB := below_step HB hB
  clear hB
  have ht := ht0
  clear ht0
  rw [HCO.out] at ht
  go_wp2_with fail
  refine (from_v (w := w9) 1 (by omega)).mono ?_
  rintro e w10 ⟨u, rfl, hu0, _, hB⟩
  have ha := ha.below hB
  have hb := hb.below hB
  have hc := hc.below hB
  have hg := hg.below hB
  have hp := hp.below hB
  have hq := hq.below hB
  have ht := ht.below hB
  have HB := below_step HB hB
  clear hB
  have hu := hu0
  clear hu0
  go_wp2_with fail
  refine (same_v (w := w10) ht hu (rfl)).mono ?_
  rintro e w11 ⟨rfl, hB⟩
  have ha := ha.below hB
  have hb := hb.below hB
  have hc := hc.below hB
  have hg := hg.below hB
  have hp := hp.below hB
  have hq := hq.below hB
  have ht := ht.below hB
  have hu := hu.below hB
  have HB := below_step HB hB
  clear hB
  clear ht
  clear hu
  clear hp
  clear hq
  go_wp2_with fail
  refine (mul_v (w := w11) ha hc (by omega) (by omega) (by omega)).mono ?_
  rintro e w12 ⟨m1, rfl, hm10, _, hB⟩
  have ha := ha.below hB
  have hb := hb.below hB
  have hc := hc.below hB
  have hg := hg.below hB
  have HB := below_step HB hB
  clear hB
  have hm1 := hm10
  clear hm10
  go_wp2_with fail
  refine (mul_v (w := w12) hb hc (by omega) (by omega) (by omega)).mono ?_
  rintro e w13 ⟨m2, rfl, hm20, _, hB⟩
  have ha := ha.below hB
  have hb := hb.below hB
  have hc := hc.below hB
  have hg := hg.below hB
  have hm1 := hm1.below hB
  have HB := below_step HB hB
  clear hB
  have hm2 := hm20
  clear hm20
  go_wp2_with fail
  refine (gcd_v (w := w13) hm1.numV hm2.numV (by omega) (by omega)).mono ?_
  rintro e w14 ⟨m3, rfl, hm30, _, hB⟩
  have ha := ha.below hB
  have hb := hb.below hB
  have hc := hc.below hB
  have hg := hg.below hB
  have hm1 := hm1.below hB
  have hm2 := hm2.below hB
  have HB := below_step HB hB
  clear hB
  have hm3 := hm30
  clear hm30
  rw [HMZ.out] at hm3
  go_wp2_with fail
  refine (mul_v (w := w14) hg.numV hc (by omega) (by omega) (by omega)).mono ?_
  rintro e w15 ⟨m4, rfl, hm40, _, hB⟩
  have ha := ha.below hB
  have hb := hb.below hB
  have hc := hc.below hB
  have hg := hg.below hB
  have hm1 := hm1.below hB
  have hm2 := hm2.below hB
  have hm3 := hm3.below hB
  have HB := below_step HB hB
  clear hB
  have hm4 := hm40
  clear hm40
  go_wp2_with fail
  refine (same_v (w := w15) hm3 hm4 (rfl)).mono ?_
  rintro e w16 ⟨rfl, hB⟩
  have ha := ha.below hB
  have hb := hb.below hB
  have hc := hc.below hB
  have hg := hg.below hB
  have hm1 := hm1.below hB
  have hm2 := hm2.below hB
  have hm3 := hm3.below hB
  have hm4 := hm4.below hB
  have HB := below_step HB hB
  clear hB
  go_wp2_with fail
  refine (known_v w16).mono ?_
  rintro e w17 ⟨rfl, hB⟩
  have ha := ha.below hB
  have hb := hb.below hB
  have hc := hc.below hB
  have hg := hg.below hB
  have hm1 := hm1.below hB
  have hm2 := hm2.below hB
  have hm3 := hm3.below hB
  have hm4 := hm4.below hB
  have HB := below_step HB hB
  clear hB
  go_wp2_with fail
  go_ret
  exact ⟨rfl, HB⟩

theorem divisors_walk (w : World) (v0 v1 v2 : Value) (l0 l1 l2 : List Nat) (n0 : Num w v0 l0) (n1 : Num w v1 l1) (n2 : Num w v2 l2) :
    Calls Try.prog 9 #[v0, v1, v2] w fun e w' => e = .returned (.bool true) ∧ Below w.heap.size w w' := by
  rcases Nat.eq_zero_or_pos (val (mkn l0)) with h0 | h0
  · exact divisors_a0 w v0 v1 v2 l0 l1 l2 n0 n1 n2 h0
  · rcases Nat.eq_zero_or_pos (val (mkn l1)) with h1 | h1
    · exact divisors_b0 w v0 v1 v2 l0 l1 l2 n0 n1 n2 h0 h1
    · exact divisors_pos w v0 v1 v2 l0 l1 l2 n0 n1 n2 h0 h1
end Go.Proofs.Yticakmcjiofhoaa

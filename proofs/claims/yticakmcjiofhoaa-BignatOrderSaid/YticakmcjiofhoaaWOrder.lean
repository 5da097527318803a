/- The walk of the law BignatOrder: it returns true and leaves what was there. -/
import Derived.Test.YticakmcjiofhoaaLawp
namespace Go.Proofs.Yticakmcjiofhoaa
open Go.RowKit Dig
set_option linter.unusedVariables false

set_option maxHeartbeats 2000000 in
theorem order_lt0 (w : World) (v0 v1 : Value) (l0 l1 : List Nat) (n0 : Num w v0 l0) (n1 : Num w v1 l1) (h : val (mkn l0) < val (mkn l1)) (hx : val (mkn l0) = 0) :
    Calls Try.prog 10 #[v0, v1] w fun e w' => e = .returned (.bool true) ∧ Below w.heap.size w w' := by
  go_enter Try.func10, Try.ntmps10
  go_wp2_with fail
  refine (base_v (w := w) n0).mono ?_
  rintro e w1 ⟨a, rfl, ha0, _, hB⟩
  have n0 := n0.below hB
  have n1 := n1.below hB
  have HB := hB
  have ha := ha0
  clear hB ha0
  go_wp2_with fail
  refine (base_v (w := w1) n1).mono ?_
  rintro e w2 ⟨b, rfl, hb0, _, hB⟩
  have n0 := n0.below hB
  have n1 := n1.below hB
  have ha := ha.below hB
  have HB := below_step HB hB
  have hb := hb0
  clear hB hb0
  generalize val (mkn l0) = x at *
  generalize val (mkn l1) = y at *
  subst hx
  go_wp2_with fail
  refine (sublt_v (w := w2) ha hb h).mono ?_
  rintro e w3 ⟨rfl, hB⟩
  have ha := ha.below hB
  have hb := hb.below hB
  have HB := below_step HB hB
  clear hB
  go_wp2_with fail
  refine (add_v (w := w3) ha hb (by omega) (by omega)).mono ?_
  rintro e w4 ⟨s, rfl, hs0, _, hB⟩
  have ha := ha.below hB
  have hb := hb.below hB
  have HB := below_step HB hB
  clear hB
  have hs := hs0
  clear hs0
  go_wp2_with fail
  refine (subge_v (w := w4) hs.numV hb (by omega) (Nat.le_add_left _ _)).mono ?_
  rintro e w5 ⟨d, rfl, hd0, hB⟩
  have ha := ha.below hB
  have hb := hb.below hB
  have hs := hs.below hB
  have HB := below_step HB hB
  clear hB
  have hd := hd0
  clear hd0
  rw [Nat.add_sub_cancel] at hd
  go_wp2_with fail
  refine (bitLen_n (w := w5) ha (by omega)).mono ?_
  rintro e w6 ⟨rfl, hB⟩
  have ha := ha.below hB
  have hb := hb.below hB
  have hs := hs.below hB
  have hd := hd.below hB
  have HB := below_step HB hB
  clear hB
  rw [nbits_zero]
  go_wp2_with fail
  refine (from_v (w := w6) 2 (by omega)).mono ?_
  rintro e w7 ⟨t, rfl, ht0, _, hB⟩
  have ha := ha.below hB
  have hb := hb.below hB
  have hs := hs.below hB
  have hd := hd.below hB
  have HB := below_step HB hB
  clear hB
  have ht := ht0
  clear ht0
  go_wp2_with fail
  refine (pow_v (w := w7) (n := 0) ht.numV (by omega) (by omega) (pow2_bits (by omega))).mono ?_
  rintro e w8 ⟨p, rfl, hp0, hB⟩
  have ha := ha.below hB
  have hb := hb.below hB
  have hs := hs.below hB
  have hd := hd.below hB
  have ht := ht.below hB
  have HB := below_step HB hB
  clear hB
  have hp := hp0
  clear hp0
  go_wp2_with fail
  refine (from_v (w := w8) 2 (by omega)).mono ?_
  rintro e w9 ⟨t2, rfl, ht20, _, hB⟩
  have ha := ha.below hB
  have hb := hb.below hB
  have hs := hs.below hB
  have hd := hd.below hB
  have ht := ht.below hB
  have hp := hp.below hB
  have HB := below_step HB hB
  clear hB
  have ht2 := ht20
  clear ht20
  go_wp2_with fail
  refine (pow_v (w := w9) (n := 0) ht2.numV (by omega) (by omega) (pow2_bits (by omega))).mono ?_
  rintro e w10 ⟨p2, rfl, hp20, hB⟩
  have ha := ha.below hB
  have hb := hb.below hB
  have hs := hs.below hB
  have hd := hd.below hB
  have ht := ht.below hB
  have hp := hp.below hB
  have ht2 := ht2.below hB
  have HB := below_step HB hB
  clear hB
  have hp2 := hp20
  clear hp20
  have hc := cmpI_lt h
  have hc2 := cmpI_gt h
  go_wp2_with fail
  refine (cmp_v (w := w10) ha hb).mono ?_
  rintro e w11 ⟨rfl, hB⟩
  have ha := ha.below hB
  have hb := hb.below hB
  have hs := hs.below hB
  have hd := hd.below hB
  have ht := ht.below hB
  have hp := hp.below hB
  have ht2 := ht2.below hB
  have hp2 := hp2.below hB
  have HB := below_step HB hB
  clear hB
  rw [hc]
  go_wp2_with fail
  refine (cmp_v (w := w11) ha hb).mono ?_
  rintro e w12 ⟨rfl, hB⟩
  have ha := ha.below hB
  have hb := hb.below hB
  have hs := hs.below hB
  have hd := hd.below hB
  have ht := ht.below hB
  have hp := hp.below hB
  have ht2 := ht2.below hB
  have hp2 := hp2.below hB
  have HB := below_step HB hB
  clear hB
  rw [hc]
  go_wp2_with fail
  refine (cmp_v (w := w12) hb ha).mono ?_
  rintro e w13 ⟨rfl, hB⟩
  have ha := ha.below hB
  have hb := hb.below hB
  have hs := hs.below hB
  have hd := hd.below hB
  have ht := ht.below hB
  have hp := hp.below hB
  have ht2 := ht2.below hB
  have hp2 := hp2.below hB
  have HB := below_step HB hB
  clear hB
  rw [hc2]
  go_wp2_with fail
  refine (norm_v (w := w13) ha (by omega)).mono ?_
  rintro e w14 ⟨n0, rfl, hn00, _, hB⟩
  have ha := ha.below hB
  have hb := hb.below hB
  have hs := hs.below hB
  have hd := hd.below hB
  have ht := ht.below hB
  have hp := hp.below hB
  have ht2 := ht2.below hB
  have hp2 := hp2.below hB
  have HB := below_step HB hB
  clear hB
  have hn0 := hn00
  clear hn00
  go_wp2_with fail
  refine (same_v (w := w14) hd hn0 (rfl)).mono ?_
  rintro e w15 ⟨rfl, hB⟩
  have ha := ha.below hB
  have hb := hb.below hB
  have hs := hs.below hB
  have hd := hd.below hB
  have ht := ht.below hB
  have hp := hp.below hB
  have ht2 := ht2.below hB
  have hp2 := hp2.below hB
  have hn0 := hn0.below hB
  have HB := below_step HB hB
  clear hB
  go_wp2_with fail
  refine (cmp_v (w := w15) ha hp.numV).mono ?_
  rintro e w16 ⟨rfl, hB⟩
  have ha := ha.below hB
  have hb := hb.below hB
  have hs := hs.below hB
  have hd := hd.below hB
  have ht := ht.below hB
  have hp := hp.below hB
  have ht2 := ht2.below hB
  have hp2 := hp2.below hB
  have hn0 := hn0.below hB
  have HB := below_step HB hB
  clear hB
  rw [cmpI_lt (show 0 < 2 ^ 0 by omega)]
  go_wp2_with fail
  refine (known_v w16).mono ?_
  rintro e w17 ⟨rfl, hB⟩
  have ha := ha.below hB
  have hb := hb.below hB
  have hs := hs.below hB
  have hd := hd.below hB
  have ht := ht.below hB
  have hp := hp.below hB
  have ht2 := ht2.below hB
  have hp2 := hp2.below hB
  have hn0 := hn0.below hB
  have HB := below_step HB hB
  clear hB
  go_wp2_with fail
  go_ret
  exact ⟨rfl, HB⟩

set_option maxHeartbeats 2000000 in
theorem order_ltp (w : World) (v0 v1 : Value) (l0 l1 : List Nat) (n0 : Num w v0 l0) (n1 : Num w v1 l1) (h : val (mkn l0) < val (mkn l1)) (hx : 0 < val (mkn l0)) :
    Calls Try.prog 10 #[v0, v1] w fun e w' => e = .returned (.bool true) ∧ Below w.heap.size w w' := by
  go_enter Try.func10, Try.ntmps10
  go_wp2_with fail
  refine (base_v (w := w) n0).mono ?_
  rintro e w1 ⟨a, rfl, ha0, _, hB⟩
  have n0 := n0.below hB
  have n1 := n1.below hB
  have HB := hB
  have ha := ha0
  clear hB ha0
  go_wp2_with fail
  refine (base_v (w := w1) n1).mono ?_
  rintro e w2 ⟨b, rfl, hb0, _, hB⟩
  have n0 := n0.below hB
  have n1 := n1.below hB
  have ha := ha.below hB
  have HB := below_step HB hB
  have hb := hb0
  clear hB hb0
  generalize val (mkn l0) = x at *
  generalize val (mkn l1) = y at *
  go_wp2_with fail
  refine (sublt_v (w := w2) ha hb h).mono ?_
  rintro e w3 ⟨rfl, hB⟩
  have ha := ha.below hB
  have hb := hb.below hB
  have HB := below_step HB hB
  clear hB
  go_wp2_with fail
  refine (add_v (w := w3) ha hb (by omega) (by omega)).mono ?_
  rintro e w4 ⟨s, rfl, hs0, _, hB⟩
  have ha := ha.below hB
  have hb := hb.below hB
  have HB := below_step HB hB
  clear hB
  have hs := hs0
  clear hs0
  go_wp2_with fail
  refine (subge_v (w := w4) hs.numV hb (by omega) (Nat.le_add_left _ _)).mono ?_
  rintro e w5 ⟨d, rfl, hd0, hB⟩
  have ha := ha.below hB
  have hb := hb.below hB
  have hs := hs.below hB
  have HB := below_step HB hB
  clear hB
  have hd := hd0
  clear hd0
  rw [Nat.add_sub_cancel] at hd
  go_wp2_with fail
  refine (bitLen_n (w := w5) ha (by omega)).mono ?_
  rintro e w6 ⟨rfl, hB⟩
  have ha := ha.below hB
  have hb := hb.below hB
  have hs := hs.below hB
  have hd := hd.below hB
  have HB := below_step HB hB
  clear hB
  have hnb := nbits_lim ha.lt
  have hlt := nbits_lt x
  obtain ⟨hn1, hge⟩ := nbits_le x hx
  obtain ⟨m, hm⟩ : ∃ m, nbits x = m + 1 := ⟨nbits x - 1, by omega⟩
  rw [hm] at hnb hlt hge ⊢
  rw [Nat.add_sub_cancel] at hge
  clear hm hn1
  go_wp2_with fail
  refine (from_v (w := w6) 2 (by omega)).mono ?_
  rintro e w7 ⟨t, rfl, ht0, _, hB⟩
  have ha := ha.below hB
  have hb := hb.below hB
  have hs := hs.below hB
  have hd := hd.below hB
  have HB := below_step HB hB
  clear hB
  have ht := ht0
  clear ht0
  go_wp2_with fail
  refine (pow_v (w := w7) (n := (m + 1)) ht.numV (by omega) (by omega) (pow2_bits (by omega))).mono ?_
  rintro e w8 ⟨p, rfl, hp0, hB⟩
  have ha := ha.below hB
  have hb := hb.below hB
  have hs := hs.below hB
  have hd := hd.below hB
  have ht := ht.below hB
  have HB := below_step HB hB
  clear hB
  have hp := hp0
  clear hp0
  go_wp2_with fail
  refine (from_v (w := w8) 2 (by omega)).mono ?_
  rintro e w9 ⟨t2, rfl, ht20, _, hB⟩
  have ha := ha.below hB
  have hb := hb.below hB
  have hs := hs.below hB
  have hd := hd.below hB
  have ht := ht.below hB
  have hp := hp.below hB
  have HB := below_step HB hB
  clear hB
  have ht2 := ht20
  clear ht20
  go_wp2_with fail
  refine (pow_v (w := w9) (n := m) ht2.numV (by omega) (by omega) (pow2_bits (by omega))).mono ?_
  rintro e w10 ⟨p2, rfl, hp20, hB⟩
  have ha := ha.below hB
  have hb := hb.below hB
  have hs := hs.below hB
  have hd := hd.below hB
  have ht := ht.below hB
  have hp := hp.below hB
  have ht2 := ht2.below hB
  have HB := below_step HB hB
  clear hB
  have hp2 := hp20
  clear hp20
  have hc := cmpI_lt h
  have hc2 := cmpI_gt h
  go_wp2_with fail
  refine (cmp_v (w := w10) ha hb).mono ?_
  rintro e w11 ⟨rfl, hB⟩
  have ha := ha.below hB
  have hb := hb.below hB
  have hs := hs.below hB
  have hd := hd.below hB
  have ht := ht.below hB
  have hp := hp.below hB
  have ht2 := ht2.below hB
  have hp2 := hp2.below hB
  have HB := below_step HB hB
  clear hB
  rw [hc]
  go_wp2_with fail
  refine (cmp_v (w := w11) ha hb).mono ?_
  rintro e w12 ⟨rfl, hB⟩
  have ha := ha.below hB
  have hb := hb.below hB
  have hs := hs.below hB
  have hd := hd.below hB
  have ht := ht.below hB
  have hp := hp.below hB
  have ht2 := ht2.below hB
  have hp2 := hp2.below hB
  have HB := below_step HB hB
  clear hB
  rw [hc]
  go_wp2_with fail
  refine (cmp_v (w := w12) hb ha).mono ?_
  rintro e w13 ⟨rfl, hB⟩
  have ha := ha.below hB
  have hb := hb.below hB
  have hs := hs.below hB
  have hd := hd.below hB
  have ht := ht.below hB
  have hp := hp.below hB
  have ht2 := ht2.below hB
  have hp2 := hp2.below hB
  have HB := below_step HB hB
  clear hB
  rw [hc2]
  go_wp2_with fail
  refine (norm_v (w := w13) ha (by omega)).mono ?_
  rintro e w14 ⟨n0, rfl, hn00, _, hB⟩
  have ha := ha.below hB
  have hb := hb.below hB
  have hs := hs.below hB
  have hd := hd.below hB
  have ht := ht.below hB
  have hp := hp.below hB
  have ht2 := ht2.below hB
  have hp2 := hp2.below hB
  have HB := below_step HB hB
  clear hB
  have hn0 := hn00
  clear hn00
  go_wp2_with fail
  refine (same_v (w := w14) hd hn0 (rfl)).mono ?_
  rintro e w15 ⟨rfl, hB⟩
  have ha := ha.below hB
  have hb := hb.below hB
  have hs := hs.below hB
  have hd := hd.below hB
  have ht := ht.below hB
  have hp := hp.below hB
  have ht2 := ht2.below hB
  have hp2 := hp2.below hB
  have hn0 := hn0.below hB
  have HB := below_step HB hB
  clear hB
  go_wp2_with fail
  refine (cmp_v (w := w15) ha hp.numV).mono ?_
  rintro e w16 ⟨rfl, hB⟩
  have ha := ha.below hB
  have hb := hb.below hB
  have hs := hs.below hB
  have hd := hd.below hB
  have ht := ht.below hB
  have hp := hp.below hB
  have ht2 := ht2.below hB
  have hp2 := hp2.below hB
  have hn0 := hn0.below hB
  have HB := below_step HB hB
  clear hB
  rw [cmpI_lt (show x < 2 ^ (m + 1) by exact hlt)]
  obtain ⟨hg, _, _⟩ := cmpI_ge hge
  go_wp2_with fail
  refine (cmp_v (w := w16) ha hp2.numV).mono ?_
  rintro e w17 ⟨rfl, hB⟩
  have ha := ha.below hB
  have hb := hb.below hB
  have hs := hs.below hB
  have hd := hd.below hB
  have ht := ht.below hB
  have hp := hp.below hB
  have ht2 := ht2.below hB
  have hp2 := hp2.below hB
  have hn0 := hn0.below hB
  have HB := below_step HB hB
  clear hB
  go_wp2_with fail
  refine (known_v w17).mono ?_
  rintro e w18 ⟨rfl, hB⟩
  have ha := ha.below hB
  have hb := hb.below hB
  have hs := hs.below hB
  have hd := hd.below hB
  have ht := ht.below hB
  have hp := hp.below hB
  have ht2 := ht2.below hB
  have hp2 := hp2.below hB
  have hn0 := hn0.below hB
  have HB := below_step HB hB
  clear hB
  go_wp2_with fail
  go_ret
  exact ⟨rfl, HB⟩

set_option maxHeartbeats 2000000 in
theorem order_ge0 (w : World) (v0 v1 : Value) (l0 l1 : List Nat) (n0 : Num w v0 l0) (n1 : Num w v1 l1) (h : val (mkn l1) ≤ val (mkn l0)) (hx : val (mkn l0) = 0) :
    Calls Try.prog 10 #[v0, v1] w fun e w' => e = .returned (.bool true) ∧ Below w.heap.size w w' := by
  go_enter Try.func10, Try.ntmps10
  go_wp2_with fail
  refine (base_v (w := w) n0).mono ?_
  rintro e w1 ⟨a, rfl, ha0, _, hB⟩
  have n0 := n0.below hB
  have n1 := n1.below hB
  have HB := hB
  have ha := ha0
  clear hB ha0
  go_wp2_with fail
  refine (base_v (w := w1) n1).mono ?_
  rintro e w2 ⟨b, rfl, hb0, _, hB⟩
  have n0 := n0.below hB
  have n1 := n1.below hB
  have ha := ha.below hB
  have HB := below_step HB hB
  have hb := hb0
  clear hB hb0
  generalize val (mkn l0) = x at *
  generalize val (mkn l1) = y at *
  subst hx
  go_wp2_with fail
  refine (subge_v (w := w2) ha hb (by omega) h).mono ?_
  rintro e w3 ⟨d0, rfl, _, hB⟩
  have ha := ha.below hB
  have hb := hb.below hB
  have HB := below_step HB hB
  clear hB
  go_wp2_with fail
  refine (add_v (w := w3) ha hb (by omega) (by omega)).mono ?_
  rintro e w4 ⟨s, rfl, hs0, _, hB⟩
  have ha := ha.below hB
  have hb := hb.below hB
  have HB := below_step HB hB
  clear hB
  have hs := hs0
  clear hs0
  go_wp2_with fail
  refine (subge_v (w := w4) hs.numV hb (by omega) (Nat.le_add_left _ _)).mono ?_
  rintro e w5 ⟨d, rfl, hd0, hB⟩
  have ha := ha.below hB
  have hb := hb.below hB
  have hs := hs.below hB
  have HB := below_step HB hB
  clear hB
  have hd := hd0
  clear hd0
  rw [Nat.add_sub_cancel] at hd
  go_wp2_with fail
  refine (bitLen_n (w := w5) ha (by omega)).mono ?_
  rintro e w6 ⟨rfl, hB⟩
  have ha := ha.below hB
  have hb := hb.below hB
  have hs := hs.below hB
  have hd := hd.below hB
  have HB := below_step HB hB
  clear hB
  rw [nbits_zero]
  go_wp2_with fail
  refine (from_v (w := w6) 2 (by omega)).mono ?_
  rintro e w7 ⟨t, rfl, ht0, _, hB⟩
  have ha := ha.below hB
  have hb := hb.below hB
  have hs := hs.below hB
  have hd := hd.below hB
  have HB := below_step HB hB
  clear hB
  have ht := ht0
  clear ht0
  go_wp2_with fail
  refine (pow_v (w := w7) (n := 0) ht.numV (by omega) (by omega) (pow2_bits (by omega))).mono ?_
  rintro e w8 ⟨p, rfl, hp0, hB⟩
  have ha := ha.below hB
  have hb := hb.below hB
  have hs := hs.below hB
  have hd := hd.below hB
  have ht := ht.below hB
  have HB := below_step HB hB
  clear hB
  have hp := hp0
  clear hp0
  go_wp2_with fail
  refine (from_v (w := w8) 2 (by omega)).mono ?_
  rintro e w9 ⟨t2, rfl, ht20, _, hB⟩
  have ha := ha.below hB
  have hb := hb.below hB
  have hs := hs.below hB
  have hd := hd.below hB
  have ht := ht.below hB
  have hp := hp.below hB
  have HB := below_step HB hB
  clear hB
  have ht2 := ht20
  clear ht20
  go_wp2_with fail
  refine (pow_v (w := w9) (n := 0) ht2.numV (by omega) (by omega) (pow2_bits (by omega))).mono ?_
  rintro e w10 ⟨p2, rfl, hp20, hB⟩
  have ha := ha.below hB
  have hb := hb.below hB
  have hs := hs.below hB
  have hd := hd.below hB
  have ht := ht.below hB
  have hp := hp.below hB
  have ht2 := ht2.below hB
  have HB := below_step HB hB
  clear hB
  have hp2 := hp20
  clear hp20
  obtain ⟨hc, hc1, hc2⟩ := cmpI_ge h
  go_wp2_with fail
  refine (cmp_v (w := w10) ha hb).mono ?_
  rintro e w11 ⟨rfl, hB⟩
  have ha := ha.below hB
  have hb := hb.below hB
  have hs := hs.below hB
  have hd := hd.below hB
  have ht := ht.below hB
  have hp := hp.below hB
  have ht2 := ht2.below hB
  have hp2 := hp2.below hB
  have HB := below_step HB hB
  clear hB
  go_wp2_with fail
  refine (cmp_v (w := w11) ha hb).mono ?_
  rintro e w12 ⟨rfl, hB⟩
  have ha := ha.below hB
  have hb := hb.below hB
  have hs := hs.below hB
  have hd := hd.below hB
  have ht := ht.below hB
  have hp := hp.below hB
  have ht2 := ht2.below hB
  have hp2 := hp2.below hB
  have HB := below_step HB hB
  clear hB
  go_wp2_with fail
  refine (cmp_v (w := w12) hb ha).mono ?_
  rintro e w13 ⟨rfl, hB⟩
  have ha := ha.below hB
  have hb := hb.below hB
  have hs := hs.below hB
  have hd := hd.below hB
  have ht := ht.below hB
  have hp := hp.below hB
  have ht2 := ht2.below hB
  have hp2 := hp2.below hB
  have HB := below_step HB hB
  clear hB
  rw [hc2]
  go_wp2_with fail
  refine (norm_v (w := w13) ha (by omega)).mono ?_
  rintro e w14 ⟨n0, rfl, hn00, _, hB⟩
  have ha := ha.below hB
  have hb := hb.below hB
  have hs := hs.below hB
  have hd := hd.below hB
  have ht := ht.below hB
  have hp := hp.below hB
  have ht2 := ht2.below hB
  have hp2 := hp2.below hB
  have HB := below_step HB hB
  clear hB
  have hn0 := hn00
  clear hn00
  go_wp2_with fail
  refine (same_v (w := w14) hd hn0 (rfl)).mono ?_
  rintro e w15 ⟨rfl, hB⟩
  have ha := ha.below hB
  have hb := hb.below hB
  have hs := hs.below hB
  have hd := hd.below hB
  have ht := ht.below hB
  have hp := hp.below hB
  have ht2 := ht2.below hB
  have hp2 := hp2.below hB
  have hn0 := hn0.below hB
  have HB := below_step HB hB
  clear hB
  go_wp2_with fail
  refine (cmp_v (w := w15) ha hp.numV).mono ?_
  rintro e w16 ⟨rfl, hB⟩
  have ha := ha.below hB
  have hb := hb.below hB
  have hs := hs.below hB
  have hd := hd.below hB
  have ht := ht.below hB
  have hp := hp.below hB
  have ht2 := ht2.below hB
  have hp2 := hp2.below hB
  have hn0 := hn0.below hB
  have HB := below_step HB hB
  clear hB
  rw [cmpI_lt (show 0 < 2 ^ 0 by omega)]
  go_wp2_with fail
  refine (known_v w16).mono ?_
  rintro e w17 ⟨rfl, hB⟩
  have ha := ha.below hB
  have hb := hb.below hB
  have hs := hs.below hB
  have hd := hd.below hB
  have ht := ht.below hB
  have hp := hp.below hB
  have ht2 := ht2.below hB
  have hp2 := hp2.below hB
  have hn0 := hn0.below hB
  have HB := below_step HB hB
  clear hB
  go_wp2_with fail
  go_ret
  exact ⟨rfl, HB⟩

set_option maxHeartbeats 2000000 in
theorem order_gep (w : World) (v0 v1 : Value) (l0 l1 : List Nat) (n0 : Num w v0 l0) (n1 : Num w v1 l1) (h : val (mkn l1) ≤ val (mkn l0)) (hx : 0 < val (mkn l0)) :
    Calls Try.prog 10 #[v0, v1] w fun e w' => e = .returned (.bool true) ∧ Below w.heap.size w w' := by
  go_enter Try.func10, Try.ntmps10
  go_wp2_with fail
  refine (base_v (w := w) n0).mono ?_
  rintro e w1 ⟨a, rfl, ha0, _, hB⟩
  have n0 := n0.below hB
  have n1 := n1.below hB
  have HB := hB
  have ha := ha0
  clear hB ha0
  go_wp2_with fail
  refine (base_v (w := w1) n1).mono ?_
  rintro e w2 ⟨b, rfl, hb0, _, hB⟩
  have n0 := n0.below hB
  have n1 := n1.below hB
  have ha := ha.below hB
  have HB := below_step HB hB
  have hb := hb0
  clear hB hb0
  generalize val (mkn l0) = x at *
  generalize val (mkn l1) = y at *
  go_wp2_with fail
  refine (subge_v (w := w2) ha hb (by omega) h).mono ?_
  rintro e w3 ⟨d0, rfl, _, hB⟩
  have ha := ha.below hB
  have hb := hb.below hB
  have HB := below_step HB hB
  clear hB
  go_wp2_with fail
  refine (add_v (w := w3) ha hb (by omega) (by omega)).mono ?_
  rintro e w4 ⟨s, rfl, hs0, _, hB⟩
  have ha := ha.below hB
  have hb := hb.below hB
  have HB := below_step HB hB
  clear hB
  have hs := hs0
  clear hs0
  go_wp2_with fail
  refine (subge_v (w := w4) hs.numV hb (by omega) (Nat.le_add_left _ _)).mono ?_
  rintro e w5 ⟨d, rfl, hd0, hB⟩
  have ha := ha.below hB
  have hb := hb.below hB
  have hs := hs.below hB
  have HB := below_step HB hB
  clear hB
  have hd := hd0
  clear hd0
  rw [Nat.add_sub_cancel] at hd
  go_wp2_with fail
  refine (bitLen_n (w := w5) ha (by omega)).mono ?_
  rintro e w6 ⟨rfl, hB⟩
  have ha := ha.below hB
  have hb := hb.below hB
  have hs := hs.below hB
  have hd := hd.below hB
  have HB := below_step HB hB
  clear hB
  have hnb := nbits_lim ha.lt
  have hlt := nbits_lt x
  obtain ⟨hn1, hge⟩ := nbits_le x hx
  obtain ⟨m, hm⟩ : ∃ m, nbits x = m + 1 := ⟨nbits x - 1, by omega⟩
  rw [hm] at hnb hlt hge ⊢
  rw [Nat.add_sub_cancel] at hge
  clear hm hn1
  go_wp2_with fail
  refine (from_v (w := w6) 2 (by omega)).mono ?_
  rintro e w7 ⟨t, rfl, ht0, _, hB⟩
  have ha := ha.below hB
  have hb := hb.below hB
  have hs := hs.below hB
  have hd := hd.below hB
  have HB := below_step HB hB
  clear hB
  have ht := ht0
  clear ht0
  go_wp2_with fail
  refine (pow_v (w := w7) (n := (m + 1)) ht.numV (by omega) (by omega) (pow2_bits (by omega))).mono ?_
  rintro e w8 ⟨p, rfl, hp0, hB⟩
  have ha := ha.below hB
  have hb := hb.below hB
  have hs := hs.below hB
  have hd := hd.below hB
  have ht := ht.below hB
  have HB := below_step HB hB
  clear hB
  have hp := hp0
  clear hp0
  go_wp2_with fail
  refine (from_v (w := w8) 2 (by omega)).mono ?_
  rintro e w9 ⟨t2, rfl, ht20, _, hB⟩
  have ha := ha.below hB
  have hb := hb.below hB
  have hs := hs.below hB
  have hd := hd.below hB
  have ht := ht.below hB
  have hp := hp.below hB
  have HB := below_step HB hB
  clear hB
  have ht2 := ht20
  clear ht20
  go_wp2_with fail
  refine (pow_v (w := w9) (n := m) ht2.numV (by omega) (by omega) (pow2_bits (by omega))).mono ?_
  rintro e w10 ⟨p2, rfl, hp20, hB⟩
  have ha := ha.below hB
  have hb := hb.below hB
  have hs := hs.below hB
  have hd := hd.below hB
  have ht := ht.below hB
  have hp := hp.below hB
  have ht2 := ht2.below hB
  have HB := below_step HB hB
  clear hB
  have hp2 := hp20
  clear hp20
  obtain ⟨hc, hc1, hc2⟩ := cmpI_ge h
  go_wp2_with fail
  refine (cmp_v (w := w10) ha hb).mono ?_
  rintro e w11 ⟨rfl, hB⟩
  have ha := ha.below hB
  have hb := hb.below hB
  have hs := hs.below hB
  have hd := hd.below hB
  have ht := ht.below hB
  have hp := hp.below hB
  have ht2 := ht2.below hB
  have hp2 := hp2.below hB
  have HB := below_step HB hB
  clear hB
  go_wp2_with fail
  refine (cmp_v (w := w11) ha hb).mono ?_
  rintro e w12 ⟨rfl, hB⟩
  have ha := ha.below hB
  have hb := hb.below hB
  have hs := hs.below hB
  have hd := hd.below hB
  have ht := ht.below hB
  have hp := hp.below hB
  have ht2 := ht2.below hB
  have hp2 := hp2.below hB
  have HB := below_step HB hB
  clear hB
  go_wp2_with fail
  refine (cmp_v (w := w12) hb ha).mono ?_
  rintro e w13 ⟨rfl, hB⟩
  have ha := ha.below hB
  have hb := hb.below hB
  have hs := hs.below hB
  have hd := hd.below hB
  have ht := ht.below hB
  have hp := hp.below hB
  have ht2 := ht2.below hB
  have hp2 := hp2.below hB
  have HB := below_step HB hB
  clear hB
  rw [hc2]
  go_wp2_with fail
  refine (norm_v (w := w13) ha (by omega)).mono ?_
  rintro e w14 ⟨n0, rfl, hn00, _, hB⟩
  have ha := ha.below hB
  have hb := hb.below hB
  have hs := hs.below hB
  have hd := hd.below hB
  have ht := ht.below hB
  have hp := hp.below hB
  have ht2 := ht2.below hB
  have hp2 := hp2.below hB
  have HB := below_step HB hB
  clear hB
  have hn0 := hn00
  clear hn00
  go_wp2_with fail
  refine (same_v (w := w14) hd hn0 (rfl)).mono ?_
  rintro e w15 ⟨rfl, hB⟩
  have ha := ha.below hB
  have hb := hb.below hB
  have hs := hs.below hB
  have hd := hd.below hB
  have ht := ht.below hB
  have hp := hp.below hB
  have ht2 := ht2.below hB
  have hp2 := hp2.below hB
  have hn0 := hn0.below hB
  have HB := below_step HB hB
  clear hB
  go_wp2_with fail
  refine (cmp_v (w := w15) ha hp.numV).mono ?_
  rintro e w16 ⟨rfl, hB⟩
  have ha := ha.below hB
  have hb := hb.below hB
  have hs := hs.below hB
  have hd := hd.below hB
  have ht := ht.below hB
  have hp := hp.below hB
  have ht2 := ht2.below hB
  have hp2 := hp2.below hB
  have hn0 := hn0.below hB
  have HB := below_step HB hB
  clear hB
  rw [cmpI_lt (show x < 2 ^ (m + 1) by exact hlt)]
  obtain ⟨hg, _, _⟩ := cmpI_ge hge
  go_wp2_with fail
  refine (cmp_v (w := w16) ha hp2.numV).mono ?_
  rintro e w17 ⟨rfl, hB⟩
  have ha := ha.below hB
  have hb := hb.below hB
  have hs := hs.below hB
  have hd := hd.below hB
  have ht := ht.below hB
  have hp := hp.below hB
  have ht2 := ht2.below hB
  have hp2 := hp2.below hB
  have hn0 := hn0.below hB
  have HB := below_step HB hB
  clear hB
  go_wp2_with fail
  refine (known_v w17).mono ?_
  rintro e w18 ⟨rfl, hB⟩
  have ha := ha.below hB
  have hb := hb.below hB
  have hs := hs.below hB
  have hd := hd.below hB
  have ht := ht.below hB
  have hp := hp.below hB
  have ht2 := ht2.below hB
  have hp2 := hp2.below hB
  have hn0 := hn0.below hB
  have HB := below_step HB hB
  clear hB
  go_wp2_with fail
  go_ret
  exact ⟨rfl, HB⟩

theorem order_walk (w : World) (v0 v1 : Value) (l0 l1 : List Nat) (n0 : Num w v0 l0) (n1 : Num w v1 l1) :
    Calls Try.prog 10 #[v0, v1] w fun e w' => e = .returned (.bool true) ∧ Below w.heap.size w w' := by
  rcases Nat.lt_or_ge (val (mkn l0)) (val (mkn l1)) with h | h <;> rcases Nat.eq_zero_or_pos (val (mkn l0)) with hx | hx
  · exact order_lt0 w v0 v1 l0 l1 n0 n1 h hx
  · exact order_ltp w v0 v1 l0 l1 n0 n1 h hx
  · exact order_ge0 w v0 v1 l0 l1 n0 n1 h hx
  · exact order_gep w v0 v1 l0 l1 n0 n1 h hx
end Go.Proofs.Yticakmcjiofhoaa

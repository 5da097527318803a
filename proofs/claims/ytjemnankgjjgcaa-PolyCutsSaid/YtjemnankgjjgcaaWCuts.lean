/- The walk of the law PolyCuts: it returns true and leaves what was there. -/
import Derived.Test.YtjemnankgjjgcaaOf
import Derived.Test.YtjemnankgjjgcaaSzp
import Derived.Test.YtjemnankgjjgcaaPsam
import Derived.Test.YtjemnankgjjgcaaPrfd
import Derived.Test.YtjemnankgjjgcaaPrfe
namespace Go.Proofs.Ytjemnankgjjgcaa
open Go.RowKit Dig
set_option linter.unusedVariables false

namespace Dig
/-- Both parts of a polynomial add up. -/
theorem cut_sum (p : List Rat) (k : Nat) : padd (tr (p.take (k : Int).toNat)) (shr k (tr (((tr p).drop (min k (tr p).length)).take 100))) = tr p ∨ 100 < p.length := by
  rcases Nat.lt_or_ge 100 p.length with h | h
  · exact .inr h
  left
  refine norm_ext (tr_padd _ _) (tr_tr _) fun i => ?_
  have hl := tr_le p
  rw [cf_padd, cf_tr, cf_tr, cf_take, cf_shr, cf_tr, Int.toNat_natCast, cf_take, cf_drop, cf_tr]
  by_cases h1 : i < k
  · rw [if_pos h1, if_pos h1]; grind
  · rw [if_neg h1, if_neg h1]
    have e : (0 : Rat) + (if i - k < 100 then cf p (min k (tr p).length + (i - k)) else 0) = cf p i := by
      rcases Nat.le_total k (tr p).length with h2 | h2
      · rw [Nat.min_eq_left h2, show k + (i - k) = i by omega]
        split
        · grind
        · rw [cf_over (p := p) (by omega)]; grind
      · have h3 : cf p i = 0 := by rw [← cf_tr]; exact cf_over (by omega)
        have h4 : cf p (min k (tr p).length + (i - k)) = 0 := by rw [← cf_tr]; exact cf_over (by omega)
        rw [h3, h4]
        split <;> grind
    exact e
theorem take_len7 {p : List Rat} {n : Nat} (m : Nat) (h : p.length ≤ n) : (p.drop m).length ≤ n := by rw [List.length_drop]; omega
end Dig
set_option maxHeartbeats 16000000 in
theorem cuts_walk (w : World) (v1 : Value) (l1 : List Int) (n1 : Ints w v1 l1) {z : Int} (hwf : (Lit.int .i64 z).wf = true) :
    Calls Try.prog 4 #[v1, .int .i64 z] w (RVal w (.bool true)) := by
  have hz := wf_i64 hwf
  unfold Fits64 at hz
  obtain ⟨hz1, hz2⟩ := hz
  obtain ⟨kk, hk8, ek⟩ := and_low z 3 (by omega)
  have ek : bits .and .i64 z 7 = (kk : Int) := ek
  have hk8 : kk < 8 := hk8
  have O1 := Lib.hid (of_v w v1 l1 n1)
  obtain ⟨A1, c1, rfl⟩ := n1.form
  clear n1 hwf
  go_enter Try.func4, Try.ntmps4
  go_wp2_with fail
  refine (O1.out).mono ?_
  rintro e w1 ⟨p, rfl, hp, hB1⟩
  have hp := hp.fls
  have HB := Lib.hid hB1
  have HP := Lib.hid hp
  have hRS : (shr kk (tr (((tr (ofl l1)).drop (min kk (tr (ofl l1)).length)).take 100))).length ≤ 14 := by
    have := shr_len (n := kk) (tr_len (take_len 100 (take_len7 (min kk (tr (ofl l1)).length) (tr_len (ofl_len l1)))))
    omega
  have HS := Lib.hid ((cut_sum (ofl l1) kk).resolve_right (by have := ofl_len l1; omega))
  have NO := Lib.hid (fun w2 (hr : Below w1.heap.size w1 w2) => normalize_p (w := w2) (hp.keepF hr) (by omega) (by omega) (Nat.le_trans (ofl_len l1) (by omega)))
  have TR := Lib.hid (fun w2 v2 (h : Fls (FV 3) w2 v2 ((tr (ofl l1)).drop (min kk (tr (ofl l1)).length))) => truncate_p (w := w2) (by omega) (by omega) h 100 (by omega) (by omega) (Nat.le_trans (take_len7 _ (tr_len (ofl_len l1))) (by omega)))
  have SH := Lib.hid (fun w2 v2 (h : Fls (CV 3) w2 v2 (tr (((tr (ofl l1)).drop (min kk (tr (ofl l1)).length)).take 100))) => shift_any (w := w2) (n := kk) h.fv (by omega) (by omega) (Nat.le_trans (tr_len (take_len 100 (take_len7 _ (tr_len (ofl_len l1))))) (by omega)) (by have := (tr_len (take_len 100 (take_len7 (min kk (tr (ofl l1)).length) (tr_len (ofl_len l1))))); omega))
  have HL := Lib.hid (show (tr (ofl l1)).length ≤ 7 from tr_len (ofl_len l1))
  clear hp hB1 O1
  go_upto_region 3 with fail
  go_cut [7, 8] from 13 to 78 (fun r e wx => e = .int .i64 0 ∧ Fls (CV 3) wx r (shr kk (tr (((tr (ofl l1)).drop (min kk (tr (ofl l1)).length)).take 100))) ∧ Below w1.heap.size w1 wx)
  case first =>
    generalize shr kk (tr (((tr (ofl l1)).drop (min kk (tr (ofl l1)).length)).take 100)) = RS at *
    go_wp2_with fail
    refine (NO.out _ (Below.refl _ _)).mono ?_
    rintro e w2 ⟨a, rfl, ha, hB2⟩
    have HA := Lib.hid ha
    rcases ha with ⟨rfl, hnil⟩ | ⟨g, ts, rfl, hg, hF, hle, hm, hE⟩
    · have HN := Lib.hid hnil
      clear hnil
      go_wp2_with fail
      refine (NO.out _ hB2).mono ?_
      rintro e w3 ⟨b, rfl, hb, hB3⟩
      have hb := hb.fls.form
      obtain ⟨B3, c3, rfl⟩ := hb
      have HB3 := Lib.hid (below_then hB2 hB3)
      have h0 : (tr (ofl l1)).length = 0 := by rw [HN.out]; rfl
      have HT := Lib.hid (TR.out w3 (.slice none 0 0) (by rw [HN.out, List.drop_nil]; exact Fls.nil _ _))
      rw [h0]
      clear hB2 hB3 h0
      have q1 : min (kk : Int) 0 = 0 := by omega
      go_wp2_with fail
      refine (HT.out).mono ?_
      rintro e w4 ⟨d, rfl, hd, hB4⟩
      have HS4 := Lib.hid (SH.out _ _ hd.fls)
      have HB4 := Lib.hid (below_then HB3.out hB4)
      clear hd hB4
      go_wp2_with fail
      refine (HS4.out).mono ?_
      rintro e w5 ⟨r, rfl, hr, hB5⟩
      have hr := hr.fls
      go_wp2_with fail
      go_meet
      case rel => exact ⟨rfl, hr, below_then HB4.out hB5⟩
    · have hf := HA.out.fls
      obtain ⟨L, hL⟩ : ∃ L, (tr (ofl l1)).length = L := ⟨_, rfl⟩
      obtain ⟨C, hC⟩ : ∃ C, ts.length = C := ⟨_, rfl⟩
      have hd := hf.drop (n := min kk L) (by omega)
      rw [hL] at hle
      rw [hC] at hle hm hf hd
      have hL7 := HL.out
      rw [hL] at TR SH hf hd hL7 ⊢
      have HD := Lib.hid hd
      have HLE := Lib.hid hL
      unfold maxLen at hm
      rw [hC]
      clear hF hE hg HA hf hd hC hL
      go_wp2_with fail
      refine (NO.out _ hB2).mono ?_
      rintro e w3 ⟨b, rfl, hb, hB3⟩
      have hb := hb.fls.form
      obtain ⟨B3, c3, rfl⟩ := hb
      rw [HLE.out]
      have HB3 := Lib.hid (below_then hB2 hB3)
      obtain ⟨m, hmm⟩ : ∃ m, min kk L = m := ⟨_, rfl⟩
      have hml : m ≤ L := by omega
      have q1 : min (kk : Int) (L : Int) = (m : Int) := by omega
      rw [hmm] at TR SH HD
      have hd := (HD.out.below (keeps_CV 3) hB3).fv
      clear HD HL hmm hB3 hB2
      by_cases hCm : C = m
      · obtain rfl : C = m := hCm
        obtain rfl : C = L := by omega
        have HT := Lib.hid (TR.out w3 (.slice (some ⟨g, 0, none⟩) 0 0) (by rw [List.drop_of_length_le (Nat.le_of_eq HLE.out)]; exact ⟨some ⟨g, 0, none⟩, 0, rfl, ⟨Nat.le_refl _, fun e => by cases e⟩, by unfold maxLen; omega, fun h => absurd h (by simp)⟩))
        clear hd
        go_wp2_with fail
        refine (HT.out).mono ?_
        rintro e w4 ⟨d, rfl, hd, hB4⟩
        have HS4 := Lib.hid (SH.out _ _ hd.fls)
        have HB4 := Lib.hid (below_then HB3.out hB4)
        clear hd hB4
        go_wp2_with fail
        refine (HS4.out).mono ?_
        rintro e w5 ⟨r, rfl, hr, hB5⟩
        have hr := hr.fls
        go_wp2_with fail
        go_meet
        case rel => exact ⟨rfl, hr, below_then HB4.out hB5⟩
      · rw [Nat.zero_add] at hd
        have HT := Lib.hid (TR.out w3 _ hd)
        have hCm2 : (C : Nat) ≠ m := hCm
        clear hd
        go_wp2_with fail
        refine (HT.out).mono ?_
        rintro e w4 ⟨d, rfl, hd, hB4⟩
        have HS4 := Lib.hid (SH.out _ _ hd.fls)
        have HB4 := Lib.hid (below_then HB3.out hB4)
        clear hd hB4
        go_wp2_with fail
        refine (HS4.out).mono ?_
        rintro e w5 ⟨r, rfl, hr, hB5⟩
        have hr := hr.fls
        go_wp2_with fail
        go_meet
        case rel => exact ⟨rfl, hr, below_then HB4.out hB5⟩
  case rest =>
    obtain ⟨rfl, hu7, hB⟩ := hcut
    have hp := HP.out.keepF hB
    have HB := below_then HB.out hB
    generalize shr kk (tr (((tr (ofl l1)).drop (min kk (tr (ofl l1)).length)).take 100)) = RS at *
    clear hB NO TR SH HL HP
    go_wp2_with fail
    refine (prefix_p (by omega) hp z hz1 hz2 (Nat.le_trans (fbd_mono (take_len _ (ofl_len l1)) (by omega)) (by decide)) (Nat.le_trans (ofl_len l1) (by omega))).mono ?_
    rintro e y1 ⟨r1, rfl, hr1, hB⟩
    have hp := hp.keepF hB
    have hu7 := hu7.keepC hB
    have HB := below_then HB hB
    clear hB
    go_wp2_with fail
    refine (polyPrefix_r (N := 7) hp (by omega) (ofl_len l1) (by omega) (by omega) (Nat.le_trans (ofl_len l1) (by omega)) z hz1 hz2).mono ?_
    rintro e y2 ⟨r2, rfl, hr2, hB⟩
    have hp := hp.keepF hB
    have hu7 := hu7.keepC hB
    have hr1 := CanF.below hr1 hB
    have HB := below_then HB hB
    clear hB
    go_wp2_with fail
    refine (frac3_t hr1 hr2 (rfl)).mono ?_
    rintro e y3 ⟨rfl, hB⟩
    have hp := hp.keepF hB
    have hu7 := hu7.keepC hB
    have hr1 := CanF.below hr1 hB
    have hr2 := CanF.below hr2 hB
    have HB := below_then HB hB
    clear hB
    clear hr1 hr2
    go_wp2_with fail
    refine (prefix_p (by omega) hp (kk : Int) (by omega) (by omega) (Nat.le_trans (fbd_mono (take_len _ (ofl_len l1)) (by omega)) (by decide)) (Nat.le_trans (ofl_len l1) (by omega))).mono ?_
    rintro e y4 ⟨r3, rfl, hr3, hB⟩
    have hp := hp.keepF hB
    have hu7 := hu7.keepC hB
    have HB := below_then HB hB
    clear hB
    go_wp2_with fail
    refine (polyPrefix_r (N := 7) hp (by omega) (ofl_len l1) (by omega) (by omega) (Nat.le_trans (ofl_len l1) (by omega)) (kk : Int) (by omega) (by omega)).mono ?_
    rintro e y5 ⟨r4, rfl, hr4, hB⟩
    have hp := hp.keepF hB
    have hu7 := hu7.keepC hB
    have hr3 := CanF.below hr3 hB
    have HB := below_then HB hB
    clear hB
    go_wp2_with fail
    refine (frac3_t hr3 hr4 (rfl)).mono ?_
    rintro e y6 ⟨rfl, hB⟩
    have hp := hp.keepF hB
    have hu7 := hu7.keepC hB
    have hr3 := CanF.below hr3 hB
    have hr4 := CanF.below hr4 hB
    have HB := below_then HB hB
    clear hB
    clear hr3 hr4
    go_wp2_with fail
    refine (truncate_p (by omega) (by omega) hp z hz1 hz2 (Nat.le_trans (ofl_len l1) (by omega))).mono ?_
    rintro e y7 ⟨r5, rfl, hr5, hB⟩
    have hr5 := hr5.fls
    have hp := hp.keepF hB
    have hu7 := hu7.keepC hB
    have HB := below_then HB hB
    clear hB
    go_wp2_with fail
    refine (polyTruncate_r hp (by omega) (by omega) (Nat.le_trans (ofl_len l1) (by omega)) z hz1 hz2).mono ?_
    rintro e y8 ⟨r6, rfl, hr6, hB⟩
    have hp := hp.keepF hB
    have hu7 := hu7.keepC hB
    have hr5 := hr5.keepC hB
    have HB := below_then HB hB
    clear hB
    go_wp2_with fail
    refine (same3_t hr5 hr6 (rfl) (Nat.le_trans (tr_len (take_len _ (ofl_len l1))) (by omega))).mono ?_
    rintro e y9 ⟨rfl, hB⟩
    have hp := hp.keepF hB
    have hu7 := hu7.keepC hB
    have hr5 := hr5.keepC hB
    have hr6 := hr6.keepC hB
    have HB := below_then HB hB
    clear hB
    clear hr5 hr6
    go_wp2_with fail
    refine (truncate_p (by omega) (by omega) hp (kk : Int) (by omega) (by omega) (Nat.le_trans (ofl_len l1) (by omega))).mono ?_
    rintro e y10 ⟨r7, rfl, hr7, hB⟩
    have hr7 := hr7.fls
    have hp := hp.keepF hB
    have hu7 := hu7.keepC hB
    have HB := below_then HB hB
    clear hB
    go_wp2_with fail
    refine (polyTruncate_r hp (by omega) (by omega) (Nat.le_trans (ofl_len l1) (by omega)) (kk : Int) (by omega) (by omega)).mono ?_
    rintro e y11 ⟨r8, rfl, hr8, hB⟩
    have hp := hp.keepF hB
    have hu7 := hu7.keepC hB
    have hr7 := hr7.keepC hB
    have HB := below_then HB hB
    clear hB
    go_wp2_with fail
    refine (same3_t hr7 hr8 (rfl) (Nat.le_trans (tr_len (take_len _ (ofl_len l1))) (by omega))).mono ?_
    rintro e y12 ⟨rfl, hB⟩
    have hp := hp.keepF hB
    have hu7 := hu7.keepC hB
    have hr7 := hr7.keepC hB
    have hr8 := hr8.keepC hB
    have HB := below_then HB hB
    clear hB
    clear hr7 hr8
    go_wp2_with fail
    refine (truncate_p (by omega) (by omega) hp (kk : Int) (by omega) (by omega) (Nat.le_trans (ofl_len l1) (by omega))).mono ?_
    rintro e y13 ⟨r9, rfl, hr9, hB⟩
    have hr9 := hr9.fls
    have hp := hp.keepF hB
    have hu7 := hu7.keepC hB
    have HB := below_then HB hB
    clear hB
    go_wp2_with fail
    refine (add_p hr9.fv hu7.fv (by omega) (by omega) (by omega) (by omega) (Nat.le_trans (tr_len (take_len _ (ofl_len l1))) (by omega)) (Nat.le_trans hRS (by omega))).mono ?_
    rintro e y14 ⟨r10, rfl, hr10, hB⟩
    have hr10 := hr10.fls
    have hp := hp.keepF hB
    have hu7 := hu7.keepC hB
    have hr9 := hr9.keepC hB
    have HB := below_then HB hB
    clear hB
    clear hr9
    go_wp2_with fail
    refine (normalize_p hp (by omega) (by omega) (Nat.le_trans (ofl_len l1) (by omega))).mono ?_
    rintro e y15 ⟨r11, rfl, hr11, hB⟩
    have hr11 := hr11.fls
    have hp := hp.keepF hB
    have hu7 := hu7.keepC hB
    have hr10 := hr10.keepC hB
    have HB := below_then HB hB
    clear hB
    go_wp2_with fail
    refine (same3_t hr10 hr11 (HS.out) (Nat.le_trans (padd_len (tr_len (take_len _ (ofl_len l1))) hRS) (by omega))).mono ?_
    rintro e y16 ⟨rfl, hB⟩
    have hp := hp.keepF hB
    have hu7 := hu7.keepC hB
    have hr10 := hr10.keepC hB
    have hr11 := hr11.keepC hB
    have HB := below_then HB hB
    clear hB
    clear hr10 hr11
    go_wp2_with fail
    refine (known3_v _).mono ?_
    rintro e y17 ⟨rfl, hB⟩
    have hp := hp.keepF hB
    have hu7 := hu7.keepC hB
    have HB := below_then HB hB
    clear hB
    go_wp2_with fail
    go_ret
    exact ⟨rfl, HB⟩
end Go.Proofs.Ytjemnankgjjgcaa

/- The contract of the reference's Reader: fail. -/
import Derived.Test.YtkdnmmbnljaahaaRdr
import Derived.Test.YtkdnmmbnljaahaaRdb
namespace Go.Proofs.Ytkdnmmbnljaahaa
open Go.RowKit Dig
set_option linter.unusedVariables false

section
variable {w : World} {g : Nat} {s : RS}
theorem rfail_c (h : Rdr 42 w g s) (e : Int) (he : e = 2 ∨ e = 3 ∨ e = 4) : Calls Try.prog 50 #[.pointer (some ⟨g, 0, none⟩), .int .i64 e] w fun x w' => x = .returned (.tuple #[]) ∧ Rdr 42 w' g ([], e) ∧ w.grownBy w' (some g) := by
  obtain ⟨⟨A, n, c, hh, hb⟩, _⟩ := h
  obtain ⟨c0, c1⟩ := row2_cells hh
  obtain ⟨f0, f1⟩ := row2_frozen hh
  have HH := Lib.hid hh
  have HE := Lib.hid he
  clear hh hb he
  go_enter Try.func50, Try.ntmps50
  go_wp2_with fail
  go_end0
  exact ⟨rfl, ⟨⟨none, 0, 0, row2_put1 (row2_put0 HH.out _) _, Byt.nil _⟩, .inr ⟨HE.out, rfl⟩⟩, grown_put (grown_put (World.grownBy.refl _ _) 0 _) 1 _⟩
end
end Go.Proofs.Ytkdnmmbnljaahaa

/- The contracts of the reference's Reader: Uint. -/
namespace Go.Proofs.Ytkdnmmbnljaahaa
open Go.RowKit Dig
set_option linter.unusedVariables false

/-- The steps of one round of the reference, as the walk writes them. -/
theorem parse_steps2 {k acc cc : Nat} (hk : k ≤ 9) (hcc : cc < 256) (ha : acc < 128 ^ k) :
    IntKind.u64.wrap (bits .and .u8 (cc : Int) 127) = ((cc % 128 : Nat) : Int) ∧ IntKind.u64.wrap (((cc % 128 : Nat) : Int) * 2 ^ (7 * k)) = ((grp k (cc % 128) * 128 ^ k : Nat) : Int) ∧
    bits .or .u64 (acc : Int) ((grp k (cc % 128) * 128 ^ k : Nat) : Int) = ((acc + grp k (cc % 128) * 128 ^ k : Nat) : Int) ∧ True := by
  obtain ⟨h1, h2, h3, h4⟩ := parse_steps hk hcc ha
  refine ⟨?_, ?_, h3, trivial⟩
  · rw [and_low7 cc hcc, IntKind.wrap_u64]; omega
  · rw [Nat.mul_comm 7 k]; exact h2
section
variable {w : World} {g : Nat} {s : RS}
set_option maxRecDepth 20000 in
set_option maxHeartbeats 8000000 in
theorem ruint_c (h : Rdr 42 w g s) (hz : s.1.length ≤ 1000000000) (max : Nat) (hm : max < 18446744073709551616) :
    Calls Try.prog 37 #[.pointer (some ⟨g, 0, none⟩), .int .u64 (max : Int)] w fun e w' => e = .returned (.int .u64 ((uintS max s).1 : Nat)) ∧ Rdr 42 w' g (uintS max s).2 ∧ w.grownBy w' (some g) := by
  have FF := Lib.hid (fun e he => rfail_c h e he)
  have HR := Lib.hid h
  obtain ⟨⟨A, n0, c, hh, hb⟩, _⟩ := h
  obtain ⟨rfl, hnc, hcm⟩ := hb.bounds
  obtain ⟨c0, c1⟩ := row2_cells hh
  obtain ⟨f0, f1⟩ := row2_frozen hh
  have HH := Lib.hid hh
  have HB := Lib.hid hb
  have HM := Lib.hid hm
  have HCM := Lib.hid hcm
  clear hh hb hm hcm
  by_cases h0 : s.2 = 0
  · have hez : (s.2 != 0) = false := by rw [h0]; rfl
    have hs := rs_zero h0
    obtain ⟨ts, hts⟩ : ∃ ts, s.1 = ts := ⟨_, rfl⟩
    rw [hts] at hs hz hnc HB c0 HH
    have H0 := Lib.hid h0
    have HS := Lib.hid hs
    clear h0 hs hts
    go_enter Try.func37, Try.ntmps37
    go_wp2_with fail
    go_loop [5, 6] (fun a j => ∃ k acc : Nat, k ≤ 10 ∧ k ≤ ts.length ∧ j = .int .i64 k ∧ (∃ z : Int, a = .int .u64 z ∧ (k ≤ 9 → z = acc)) ∧ At ts k acc) (fun _ j => 10 - (intOf j).toNat)
    case atStart => exact ⟨0, 0, by omega, Nat.zero_le _, rfl, ⟨0, rfl, fun _ => rfl⟩, At.start ts⟩
    case round =>
      obtain ⟨k, acc, hk, hkl, rfl, ⟨z, rfl, hz9⟩, hA⟩ := hrel
      by_cases hlt : k < 10
      · have hki : (k : Int) < 10 := by omega
        by_cases hll : k < ts.length
        · obtain ⟨b, off, rfl, hbb, hall⟩ := HB.out.cells (by omega)
          have hc := hall k hll
          have hcb := oct_lt (ts.getD k 0)
          obtain ⟨cc, hcc⟩ : ∃ cc, (ts.getD k 0).toNat = cc := ⟨_, rfl⟩
          rw [hcc] at hc hcb
          have hk9 : z = acc := hz9 (by omega)
          subst hk9
          have hkli : (k : Int) < ts.length := by omega
          obtain ⟨e1, e2, e3, e5⟩ := parse_steps2 (show k ≤ 9 by omega) hcb hA.2.2.1
          have HA := Lib.hid hA
          have HC := Lib.hid hcc
          have HT := Lib.hid hll
          have HK := Lib.hid (show k < 10 by omega)
          clear hA hcc hall hz9
          rcases Nat.lt_or_ge cc 128 with h128 | h128
          · have hg : cc % 128 = cc := Nat.mod_eq_of_lt h128
            rw [hg] at e1 e2 e3
            have h128i : ¬ (128 : Int) ≤ cc := by omega
            by_cases hbad : cc = 0 ∧ 0 < k ∨ k = 9 ∧ 1 < cc
            · have HBd := HA.out.bad HK.out HT.out HC.out h128 hbad
              have e := uintS_pu_bad (max := max) HBd (by decide)
              rw [← HS.out] at e
              have HE := Lib.hid e
              have F := Lib.hid (FF.out 2 (by omega))
              rcases hbad with ⟨hc0, hk0⟩ | ⟨hk9, hc1⟩
              · have hb0 : ((cc : Int) == 0) = true := by rw [hc0]; rfl
                have hki0 : (0 : Int) < k := by omega
                clear hc0 hg h128 e HBd e1 e2 e3 hll
                go_wp2_with fail
                refine (F.out).mono ?_
                rintro x w2 ⟨rfl, hR2, hG2⟩
                go_wp2_with fail
                go_ret
                rw [HE.out]
                exact ⟨rfl, hR2, hG2⟩
              · have hb0 : ((cc : Int) == 0) = false := by rw [beq_eq_false_iff_ne]; omega
                have hb9 : ((k : Int) == 9) = true := by rw [hk9]; rfl
                have hc1i : (1 : Int) < cc := by omega
                clear hk9 hc1 hg h128 e HBd e1 e2 e3 hll
                go_wp2_with fail
                refine (F.out).mono ?_
                rintro x w2 ⟨rfl, hR2, hG2⟩
                go_wp2_with fail
                go_ret
                rw [HE.out]
                exact ⟨rfl, hR2, hG2⟩
            · obtain ⟨g1, g2⟩ := HA.out.good HK.out HT.out HC.out h128 hbad
              have hq : grp k cc = cc := grp_small (by omega)
              rw [hq] at e2 e3
              generalize acc + cc * 128 ^ k = n' at *
              generalize hs' : cc * 128 ^ k = s' at *
              have HG2 := Lib.hid g2
              clear g1 g2 hq e1
              by_cases hc0 : cc = 0
              · have hb0 : ((cc : Int) == 0) = true := by rw [hc0]; rfl
                obtain rfl : k = 0 := by omega
                have e3z : bits .or .u64 (acc : Int) (cc : Int) = (n' : Int) := by rw [← e3, ← hs']; simp
                rw [Nat.add_zero] at hc
                have HG2 := Lib.hid (show rd maxU ts = (n', 0, ts.drop 1) from HG2.out)
                have hll0 : ¬ ts = [] := by intro e; rw [e] at hll; simp at hll
                clear hc0 hg h128 hbad e2 e3 hs'
                rcases Nat.lt_or_ge max n' with h4 | h4
                · have e := uintS_pu_large HG2.out h4
                  rw [← HS.out] at e
                  have HE := Lib.hid e
                  have F := Lib.hid (FF.out 4 (by omega))
                  have h4i : (max : Int) < n' := by omega
                  clear h4 e
                  go_wp2_with fail
                  refine (F.out).mono ?_
                  rintro x w2 ⟨rfl, hR2, hG2⟩
                  go_wp2_with fail
                  go_ret
                  rw [HE.out]
                  exact ⟨rfl, hR2, hG2⟩
                · have e := uintS_pu_good HG2.out h4
                  rw [← HS.out] at e
                  have HE := Lib.hid e
                  have HT2 := Lib.hid (HB.out.tail (k := 1) (by omega))
                  unfold tailB at HT2
                  have h4i : ¬ (max : Int) < n' := by omega
                  have hkc : (1 : Int) ≤ ts.length := by omega
                  by_cases hcs : c = 1
                  · rw [if_pos hcs, show c - (1) = 0 by omega] at HT2
                    have hl0 : ts.length - (1) = 0 := by omega
                    rw [hl0] at HT2
                    clear h4 e
                    go_wp2_with fail
                    go_ret
                    rw [HE.out]
                    exact ⟨rfl, Rdr.rest (by have := HH.out; rw [H0.out] at this; exact this) HT2.out (.inl rfl), grown_put (World.grownBy.refl _ _) 0 _⟩
                  · rw [if_neg hcs] at HT2
                    clear h4 e
                    go_wp2_with fail
                    go_ret
                    rw [HE.out]
                    exact ⟨rfl, Rdr.rest (by have := HH.out; rw [H0.out] at this; exact this) HT2.out (.inl rfl), grown_put (World.grownBy.refl _ _) 0 _⟩
              · have hb0 : ((cc : Int) == 0) = false := by rw [beq_eq_false_iff_ne]; omega
                by_cases hk9 : k = 9
                · have hb9 : ((k : Int) == 9) = true := by rw [hk9]; rfl
                  have hc1i : ¬ (1 : Int) < cc := by omega
                  clear hc0 hg h128 hbad hk9 hs'
                  rcases Nat.lt_or_ge max n' with h4 | h4
                  · have e := uintS_pu_large HG2.out h4
                    rw [← HS.out] at e
                    have HE := Lib.hid e
                    have F := Lib.hid (FF.out 4 (by omega))
                    have h4i : (max : Int) < n' := by omega
                    clear h4 e
                    go_wp2_with fail
                    refine (F.out).mono ?_
                    rintro x w2 ⟨rfl, hR2, hG2⟩
                    go_wp2_with fail
                    go_ret
                    rw [HE.out]
                    exact ⟨rfl, hR2, hG2⟩
                  · have e := uintS_pu_good HG2.out h4
                    rw [← HS.out] at e
                    have HE := Lib.hid e
                    have HT2 := Lib.hid (HB.out.tail (k := k + 1) (by omega))
                    unfold tailB at HT2
                    have h4i : ¬ (max : Int) < n' := by omega
                    have hkc : (k : Int) + 1 ≤ ts.length := by omega
                    by_cases hcs : c = k + 1
                    · rw [if_pos hcs, show c - (k + 1) = 0 by omega] at HT2
                      have hl0 : ts.length - (k + 1) = 0 := by omega
                      rw [hl0] at HT2
                      clear h4 e
                      go_wp2_with fail
                      go_ret
                      rw [HE.out]
                      exact ⟨rfl, Rdr.rest (by have := HH.out; rw [H0.out] at this; exact this) HT2.out (.inl rfl), grown_put (World.grownBy.refl _ _) 0 _⟩
                    · rw [if_neg hcs] at HT2
                      clear h4 e
                      go_wp2_with fail
                      go_ret
                      rw [HE.out]
                      exact ⟨rfl, Rdr.rest (by have := HH.out; rw [H0.out] at this; exact this) HT2.out (.inl rfl), grown_put (World.grownBy.refl _ _) 0 _⟩
                · have hb9 : ((k : Int) == 9) = false := by rw [beq_eq_false_iff_ne]; omega
                  clear hc0 hg h128 hbad hk9 hs'
                  rcases Nat.lt_or_ge max n' with h4 | h4
                  · have e := uintS_pu_large HG2.out h4
                    rw [← HS.out] at e
                    have HE := Lib.hid e
                    have F := Lib.hid (FF.out 4 (by omega))
                    have h4i : (max : Int) < n' := by omega
                    clear h4 e
                    go_wp2_with fail
                    refine (F.out).mono ?_
                    rintro x w2 ⟨rfl, hR2, hG2⟩
                    go_wp2_with fail
                    go_ret
                    rw [HE.out]
                    exact ⟨rfl, hR2, hG2⟩
                  · have e := uintS_pu_good HG2.out h4
                    rw [← HS.out] at e
                    have HE := Lib.hid e
                    have HT2 := Lib.hid (HB.out.tail (k := k + 1) (by omega))
                    unfold tailB at HT2
                    have h4i : ¬ (max : Int) < n' := by omega
                    have hkc : (k : Int) + 1 ≤ ts.length := by omega
                    by_cases hcs : c = k + 1
                    · rw [if_pos hcs, show c - (k + 1) = 0 by omega] at HT2
                      have hl0 : ts.length - (k + 1) = 0 := by omega
                      rw [hl0] at HT2
                      clear h4 e
                      go_wp2_with fail
                      go_ret
                      rw [HE.out]
                      exact ⟨rfl, Rdr.rest (by have := HH.out; rw [H0.out] at this; exact this) HT2.out (.inl rfl), grown_put (World.grownBy.refl _ _) 0 _⟩
                    · rw [if_neg hcs] at HT2
                      clear h4 e
                      go_wp2_with fail
                      go_ret
                      rw [HE.out]
                      exact ⟨rfl, Rdr.rest (by have := HH.out; rw [H0.out] at this; exact this) HT2.out (.inl rfl), grown_put (World.grownBy.refl _ _) 0 _⟩
          · have h128i : (128 : Int) ≤ cc := by omega
            have hgc : cc % 128 = cc - 128 := by omega
            have HM9 := Lib.hid (fun (h : k + 1 ≤ 9) => show acc + grp k (cc % 128) * 128 ^ k = acc + (cc - 128) * 128 ^ k by rw [grp_small (.inl (by omega)), hgc])
            have HN := Lib.hid (HA.out.more HK.out HT.out HC.out h128)
            generalize acc + grp k (cc % 128) * 128 ^ k = n' at *
            generalize grp k (cc % 128) * 128 ^ k = s' at *
            generalize cc % 128 = gg at *
            clear hgc h128 e5
            go_wp2_with fail
            go_round
            case rel => exact ⟨k + 1, acc + (cc - 128) * 128 ^ k, by omega, by have := HT.out; omega, by go_num, ⟨_, rfl, fun h => by rw [HM9.out h]⟩, HN.out⟩
            case measure => simp [intOf]; omega
        · have hkl2 : k = ts.length := by omega
          have hb : ¬ (k : Int) < ts.length := by omega
          have hb2 : (ts.length : Int) ≤ k := by omega
          have e := uintS_pu_bad (max := max) (show rd maxU ts = (0, 3, []) by rw [hkl2] at hA; exact hA.short (by omega)) (by decide)
          rw [← HS.out] at e
          have HE := Lib.hid e
          have F := Lib.hid (FF.out 3 (by omega))
          clear e hA hz9 hkl2
          go_wp2_with fail
          refine (F.out).mono ?_
          rintro x w2 ⟨rfl, hR2, hG2⟩
          go_wp2_with fail
          go_ret
          rw [HE.out]
          exact ⟨rfl, hR2, hG2⟩
      · have hk10 : k = 10 := by omega
        have hki : ¬ (k : Int) < 10 := by omega
        have e := uintS_pu_bad (max := max) (show rd maxU ts = (0, 2, []) by rw [hk10] at hA; exact hA.long) (by decide)
        rw [← HS.out] at e
        have HE := Lib.hid e
        have F := Lib.hid (FF.out 2 (by omega))
        clear e hA hz9
        go_wp2_with fail
        refine (F.out).mono ?_
        rintro x w2 ⟨rfl, hR2, hG2⟩
        go_wp2_with fail
        go_ret
        rw [HE.out]
        exact ⟨rfl, hR2, hG2⟩
  · have hez : (s.2 != 0) = true := by rw [bne_iff_ne]; exact h0
    have HE := Lib.hid (uintS_stop (max := max) h0)
    clear h0
    go_enter Try.func37, Try.ntmps37
    go_wp2_with fail
    go_ret
    rw [HE.out]
    exact ⟨rfl, HR.out, World.grownBy.refl _ _⟩
end
end Go.Proofs.Ytkdnmmbnljaahaa

/- The contracts of the reference's Reader: Raw. -/
namespace Go.Proofs.Ytkdnmmbnljaahaa
open Go.RowKit Dig
set_option linter.unusedVariables false

section
variable {w : World} {g : Nat} {s : RS}
set_option maxRecDepth 20000 in
set_option maxHeartbeats 2000000 in
theorem rraw_c (h : Rdr 42 w g s) (hz : s.1.length ≤ 1000000000) (z : Int) (hb1 : -9223372036854775808 ≤ z) (hb2 : z ≤ 9223372036854775807) :
    Calls Try.prog 41 #[.pointer (some ⟨g, 0, none⟩), .int .i64 z] w (RRB 42 g w (rawS z.toNat s)) := by
  have FF := Lib.hid (fun e he => rfail_c h e he)
  have HR := Lib.hid h
  obtain ⟨⟨A, n0, c, hh, hb⟩, _⟩ := h
  obtain ⟨rfl, hnc, hcm⟩ := hb.bounds
  obtain ⟨c0, c1⟩ := row2_cells hh
  obtain ⟨f0, f1⟩ := row2_frozen hh
  have HH := Lib.hid hh
  have HB := Lib.hid hb
  obtain ⟨k, hk⟩ : ∃ k, z.toNat = k := ⟨_, rfl⟩
  have hmax : max z 0 = (k : Int) := by omega
  rw [hk]
  have hgt : (s.1.length : Int) < z ↔ s.1.length < k := by omega
  clear hh hb hk hcm hb1 hb2
  by_cases h0 : s.2 = 0
  · have hez : (s.2 != 0) = false := by rw [h0]; rfl
    rcases Nat.lt_or_ge s.1.length k with h1 | h1
    · have h1i := hgt.2 h1
      have F3 := Lib.hid (FF.out 3 (by omega))
      have HE := Lib.hid (show rawS k s = ([], ([], 3)) by unfold rawS; rw [if_pos h0, if_pos h1])
      clear h1 hz hnc hgt hmax h0
      go_enter Try.func41, Try.ntmps41
      go_wp2_with fail
      refine (F3.out).mono ?_
      rintro x w2 ⟨rfl, hR, hG⟩
      go_wp2_with fail
      go_ret
      rw [HE.out]
      exact ⟨_, rfl, Byt.nil _, hR, hG⟩
    · have h1i : ¬ (s.1.length : Int) < z := fun h => by have := hgt.1 h; omega
      have hkc : (k : Int) ≤ c := by omega
      have hkl : (k : Int) ≤ s.1.length := by omega
      have HE := Lib.hid (show rawS k s = (s.1.take k, (s.1.drop k, s.2)) by unfold rawS; rw [if_pos h0, if_neg (by omega), h0])
      have HC := Lib.hid (HB.out.cut h1)
      have HT := Lib.hid (HB.out.tail h1)
      have HO := Lib.hid (show okR (s.1.drop k, s.2) from .inl h0)
      have HL := Lib.hid h1
      have HZ := Lib.hid hnc
      have HZZ := Lib.hid hz
      clear hz hnc h1 hgt h0
      unfold tailB at HT
      by_cases hcs : c = k
      · skip
        rw [if_pos hcs, show c - k = 0 by omega] at HT
        have hcs2 := hcs.symm
        subst hcs2
        have HB2 := Lib.hid (fun w1 (hB : Below w.heap.size w w1) => show w1.heap[g]? = some (.cells #[.slice A s.1.length k, .int .i64 s.2] 42 (0, 0)) by rw [hB.block g (lt_of_heap HH.out)]; exact HH.out)
        go_enter Try.func41, Try.ntmps41
        clear f0 f1
        go_wp2_with (first | ((with_reducible refine wp_noneB rfl rfl ?_); intro w1 hS hB1; have d0 := (row2_cells (HB2.out _ hB1)).1) | (at_builtin; refine wp_appendB rfl _ _ rfl w.heap.size _ [] rfl hS _ (s.1.take k) rfl (HC.out.below hB1) (by have := HZZ.out; rw [List.length_take]; simp; omega) hB1.size ?_; intro v' w' hv' hg'; have hBw := below_ownB hB1 hg' hS (Nat.le_refl _); have e0 := (row2_cells (HB2.out _ hBw)).1; have g0 := (row2_frozen (HB2.out _ hBw)).1; clear d0))
        go_ret
        rw [HE.out]
        exact ⟨_, rfl, (show Byt w' v' _ by simpa using hv'.byt).but (HB2.out _ hBw) (grown_put (World.grownBy.refl _ _) 0 _), Rdr.rest (HB2.out _ hBw) (HT.out.below hBw) HO.out, grown_put (grown_of_below hBw) 0 _⟩
      · skip
        rw [if_neg hcs] at HT
        have HB2 := Lib.hid (fun w1 (hB : Below w.heap.size w w1) => show w1.heap[g]? = some (.cells #[.slice A s.1.length c, .int .i64 s.2] 42 (0, 0)) by rw [hB.block g (lt_of_heap HH.out)]; exact HH.out)
        go_enter Try.func41, Try.ntmps41
        clear f0 f1
        go_wp2_with (first | ((with_reducible refine wp_noneB rfl rfl ?_); intro w1 hS hB1; have d0 := (row2_cells (HB2.out _ hB1)).1) | (at_builtin; refine wp_appendB rfl _ _ rfl w.heap.size _ [] rfl hS _ (s.1.take k) rfl (HC.out.below hB1) (by have := HZZ.out; rw [List.length_take]; simp; omega) hB1.size ?_; intro v' w' hv' hg'; have hBw := below_ownB hB1 hg' hS (Nat.le_refl _); have e0 := (row2_cells (HB2.out _ hBw)).1; have g0 := (row2_frozen (HB2.out _ hBw)).1; clear d0))
        go_ret
        rw [HE.out]
        exact ⟨_, rfl, (show Byt w' v' _ by simpa using hv'.byt).but (HB2.out _ hBw) (grown_put (World.grownBy.refl _ _) 0 _), Rdr.rest (HB2.out _ hBw) (HT.out.below hBw) HO.out, grown_put (grown_of_below hBw) 0 _⟩
  · have hez : (s.2 != 0) = true := by rw [bne_iff_ne]; exact h0
    have HE := Lib.hid (rawS_stop (n := k) h0)
    clear h0 hz hnc hgt hmax
    go_enter Try.func41, Try.ntmps41
    go_wp2_with fail
    go_ret
    rw [HE.out]
    exact ⟨_, rfl, Byt.nil _, HR.out, World.grownBy.refl _ _⟩
end
end Go.Proofs.Ytkdnmmbnljaahaa

/- The contract of the reference's Reader: Bytes. -/
namespace Go.Proofs.Ytkdnmmbnljaahaa
open Go.RowKit Dig
set_option linter.unusedVariables false

section
variable {w : World} {g : Nat} {s : RS}
set_option maxRecDepth 20000 in
set_option maxHeartbeats 2000000 in
theorem rbytes_c (h : Rdr 42 w g s) (hz : s.1.length ≤ 1000000000) (z : Int) (hb1 : -9223372036854775808 ≤ z) (hb2 : z ≤ 9223372036854775807) :
    Calls Try.prog 38 #[.pointer (some ⟨g, 0, none⟩), .int .i64 z] w (RRB 42 g w (bytesS z.toNat s)) := by
  obtain ⟨k, hk⟩ : ∃ k, z.toNat = k := ⟨_, rfl⟩
  have hk2 : k ≤ 9223372036854775807 := by omega
  have UU := Lib.hid (ruint_c h hz k (by omega))
  have hle := uintS_le k s
  have hln := uintS_len k s
  have hu : ((uintS k s).1 : Int) ≤ 9223372036854775807 := by omega
  have HL := Lib.hid (show (uintS k s).2.1.length ≤ 1000000000 by omega)
  have RR := Lib.hid (fun w2 s2 (hl : s2.1.length ≤ 1000000000) (hR : Rdr 42 w2 g s2) => rraw_c hR hl ((uintS k s).1 : Int) (by omega) hu)
  rw [Int.toNat_natCast] at RR
  have hmax : max z 0 = (k : Int) := by omega
  rw [hk]
  have HE := Lib.hid (show bytesS k s = rawS (uintS k s).1 (uintS k s).2 from rfl)
  have hok := uintS_ok k h.ok
  generalize (uintS k s).1 = n at *
  generalize (uintS k s).2 = s1 at *
  generalize bytesS k s = p at *
  have hkb : (k : Int) ≤ 9223372036854775807 := by omega
  have hki : ((k : Int) < 18446744073709551616) := by omega
  have hl1 : (s1.1.length : Int) ≤ 1000000000 := by have := HL.out; omega
  clear hz hk hk2 hle hln hb1 hb2 h
  go_enter Try.func38, Try.ntmps38
  go_wp2_with fail
  refine (UU.out).mono ?_
  rintro x w2 ⟨rfl, hR, hG⟩
  have FF := Lib.hid (rfail_c hR 3 (by omega))
  have HR := Lib.hid hR
  obtain ⟨⟨A, n0, c, hh, hb⟩, _⟩ := hR
  obtain ⟨rfl, hnc, hcm⟩ := hb.bounds
  obtain ⟨c0, c1⟩ := row2_cells hh
  clear hh hb hcm hki
  by_cases h0 : s1.2 = 0
  · have hez : (s1.2 == 0) = true := by rw [h0]; rfl
    rcases Nat.lt_or_ge s1.1.length n with h1 | h1
    · have h1i : (s1.1.length : Int) < n := by omega
      have HP := Lib.hid (show p = rawS n ([], 3) by rw [HE.out]; unfold rawS; rw [if_pos h0, if_pos h1, if_neg (by decide)])
      clear h1 h0 hok
      go_wp2_with fail
      refine (FF.out).mono ?_
      rintro x w3 ⟨rfl, hR3, hG3⟩
      go_wp2_with fail
      refine (RR.out _ _ (by simp) hR3).mono ?_
      rintro x w4 ⟨r, rfl, hr, hR4, hG4⟩
      go_wp2_with fail
      go_ret
      rw [HP.out]
      exact ⟨_, rfl, hr, hR4, grown_then (grown_then hG hG3) hG4⟩
    · have h1i : ¬ (s1.1.length : Int) < n := by omega
      clear h1 h0 hok
      go_wp2_with fail
      refine (RR.out _ _ HL.out HR.out).mono ?_
      rintro x w4 ⟨r, rfl, hr, hR4, hG4⟩
      go_wp2_with fail
      go_ret
      rw [HE.out]
      exact ⟨_, rfl, hr, hR4, grown_then hG hG4⟩
  · have hez : (s1.2 == 0) = false := by rw [beq_eq_false_iff_ne]; exact h0
    clear h0 hok
    go_wp2_with fail
    refine (RR.out _ _ HL.out HR.out).mono ?_
    rintro x w4 ⟨r, rfl, hr, hR4, hG4⟩
    go_wp2_with fail
    go_ret
    rw [HE.out]
    exact ⟨_, rfl, hr, hR4, grown_then hG hG4⟩
end
end Go.Proofs.Ytkdnmmbnljaahaa

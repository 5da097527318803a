/- The reference's DecodeKey. -/
import Derived.Lib.MinMax
import Derived.Test.YtpbkmkcfhkdjjaaDoorVvn
import Derived.Test.YtpbkmkcfhkdjjaaDoorVlf
import Derived.Test.YtpbkmkcfhkdjjaaDoorVlh
namespace Go.Proofs.YtpbkmkcfhkdjjaaDoor
open Go.RowKit Dig
set_option linter.unusedVariables false

/-- What the reference's DecodeKey answers. -/
def RDecR (w : World) (b : List UInt8) (e : Ending) (w' : World) : Prop :=
  Below w.heap.size w w' ∧ ((∃ u l, e = .returned (.tuple #[u, .bool true]) ∧ OwV w.heap.size w' u l ∧ IsKey b l) ∨ ((∀ l, ¬ IsKey b l) ∧ e = .returned (.tuple #[.slice none 0 0, .bool false])))
theorem getD_get (t : List UInt8) (i : Nat) (h : i < t.length) : t[i]? = some (t.getD i 0) := by
  rw [List.getD_eq_getElem?_getD, List.getElem?_eq_getElem h]
  rfl
theorem toNat_eq_lit {c : UInt8} {k : Nat} (hk : k < 256) (h : c.toNat = k) : c = UInt8.ofNat k := by
  apply UInt8.toNat_inj.1
  rw [h, UInt8.toNat_ofNat']
  omega
set_option maxRecDepth 20000 in
set_option maxHeartbeats 8000000 in
theorem rdecode_c {w : World} {v : Value} {ts : List UInt8} (h : Byt w v ts) (hl : ts.length ≤ 100000) : Calls Tryd.prog 27 #[v] w (RDecR w ts) := by
  have H := Lib.hid h
  obtain ⟨n, hn⟩ : ∃ n, ts.length = n := ⟨_, rfl⟩
  have HN := Lib.hid hn
  have HTS := Lib.hid (show n ≤ 100000 by omega)
  have hni : (n : Int) ≤ 100000 := by omega
  have FV := fun w x h => rvalid_c w x h
  obtain ⟨A, c, rfl⟩ := h.form
  have NC := Lib.hid (show n ≤ c by have := h.bounds.2.1; omega)
  rw [hn] at H ⊢
  clear h hl hn
  go_enter Tryd.func27, Tryd.ntmps27
  go_wp2_with fail
  go_loopw [4, 5] (fun ov iv wr => ∃ (K : Nat) (l1 : List Vl), K ≤ n ∧ iv = .int .i64 (K : Int) ∧ OwV w.heap.size wr ov l1 ∧ RestR ts (ts.drop K) l1 ∧ Below w.heap.size w wr) (fun _ iv _ => n - (intOf iv).toNat)
  case atStart => exact ⟨0, [], Nat.zero_le _, rfl, OwV.nil _ _, ⟨by simp, fun l => by simp⟩, Below.refl _ _⟩
  case round =>
    obtain ⟨K, l1, hKn, rfl, ho, hrr, hB⟩ := hrel
    have RR := Lib.hid hrr
    have BW := Lib.hid hB
    have O1 := Lib.hid ho
    have HKN := Lib.hid hKn
    have L1 : Hid (l1.length ≤ 100000) := Lib.hid (by have := hrr.1; rw [HN.out] at this; have := HTS.out; omega)
    clear hrr hB ho
    by_cases hK : K < n
    case neg =>
      have HK : ¬ (K : Int) < (n : Int) := by omega
      have FIN := Lib.hid (show IsKey ts l1 from (RR.out.2 l1).2 ⟨[], by simp, by rw [show ts.drop K = [] from List.drop_eq_nil_of_le (by rw [HN.out]; omega)]; exact isKey_nil.2 rfl⟩)
      go_wp2_with fail
      go_ret2
      exact ⟨BW.out, .inl ⟨_, l1, rfl, O1.out, FIN.out⟩⟩
    have HK : (K : Int) < (n : Int) := by omega
    have HKL := Lib.hid hK
    obtain ⟨b, off, rfl, hbl, _⟩ := H.out.cells (by rw [HN.out]; omega)
    have CE : Hid (∀ W, Below w.heap.size w W → ∀ j, j < n → W.cell? ⟨b, off + j, none⟩ = some (.int .u8 ((ts.getD j 0).toNat : Int))) := Lib.hid (fun W hW j hj => by
      obtain ⟨b', off', e, _, hc⟩ := (H.out.below hW).cells (by rw [HN.out]; omega)
      cases e
      exact hc j (by rw [HN.out]; exact hj))
    clear hbl
    obtain ⟨K1, hK1⟩ : ∃ q, K + 1 = q := ⟨_, rfl⟩
    have HK1 := Lib.hid hK1
    have hK1i : (K : Int) + 1 = (K1 : Int) := by omega
    obtain ⟨t, ht⟩ : ∃ t, ts.drop K1 = t := ⟨_, rfl⟩
    have HT := Lib.hid ht
    have TL : Hid (t.length + K1 = n) := Lib.hid (by rw [← ht, List.length_drop, HN.out]; omega)
    have TG : Hid (∀ i, i < t.length → t[i]? = some (ts.getD (K1 + i) 0)) := Lib.hid fun i hi => by
      rw [← HT.out, List.getElem?_drop]
      exact getD_get ts _ (by rw [HN.out]; have := TL.out; omega)
    obtain ⟨c0, hc0⟩ : ∃ q, ts.getD K 0 = q := ⟨_, rfl⟩
    have DK : Hid (ts.drop K = c0 :: t) := Lib.hid (by
      rw [← HT.out, ← HK1.out, List.drop_eq_getElem_cons (by rw [HN.out]; exact hK), ← hc0]
      congr 1
      exact Option.some.inj ((List.getElem?_eq_getElem (by rw [HN.out]; exact hK)).symm.trans (getD_get ts K (by rw [HN.out]; exact hK))))
    have hcc := CE.out wr BW.out K hK
    rw [hc0] at hcc
    clear ht hc0 hK
    by_cases h1 : c0.toNat = 1
    · obtain rfl : c0 = 1 := toNat_eq_lit (k := 1) (by omega) h1
      have c00 : wr.cell? ⟨b, off + K, none⟩ = some (.int .u8 1) := hcc
      obtain ⟨K9, hK9⟩ : ∃ q, K + 9 = q := ⟨_, rfl⟩
      have HK9 := Lib.hid hK9
      have hK9i : (K : Int) + 9 = (K9 : Int) := by omega
      by_cases h9 : K9 ≤ n
      · have h9i : ¬ (K9 : Int) > (n : Int) := by omega
        have T8 := Lib.hid (show 8 ≤ t.length by have := TL.out; omega)
        have RN : Hid (RestR ts (ts.drop K9) (l1 ++ [(1, dnI (vW (t.take 8)), [])])) := Lib.hid (by
          have hr := RR.out
          rw [DK.out] at hr
          rcases decV_one (t := t) T8.out with ⟨_, _, _, q1, q2, hx⟩ | ⟨hv, _⟩
          · have h5 := restR_step hr q1 q2 hx
            rw [← DK.out, List.drop_drop, hK9] at h5
            exact h5
          · cases hv)
        have hlt : vW (t.take 8) < 18446744073709551616 := by have := vW_lt (t.take 8); rw [show (t.take 8).length = 8 by rw [List.length_take]; have := T8.out; omega] at this; omega
        obtain ⟨X, hx, hw⟩ := low_bits (vW (t.take 8)) hlt
        obtain ⟨D, hD⟩ : ∃ D, dnI (vW (t.take 8)) = D := ⟨_, rfl⟩
        rw [hD] at hw RN
        obtain ⟨N, hNN⟩ : ∃ N, vW (t.take 8) = N := ⟨_, rfl⟩
        rw [hNN] at hx hlt
        have HX := Lib.hid hx
        have HW := Lib.hid hw
        have HNN := Lib.hid hNN
        clear hx hw hD hNN hlt hcc h1 hK1 hK9
        go_wp2_with fail
        generalize wr = wr0 at *
        go_loopw [6, 7] (fun nv jv wx => ∃ (j m : Nat), j ≤ 8 ∧ m = j + 1 ∧ jv = .int .i64 (m : Int) ∧ nv = .int .u64 (vW (t.take j) : Int) ∧ wx = wr0) (fun _ jv _ => 9 - (intOf jv).toNat)
        case atStart => exact ⟨0, 1, Nat.zero_le _, rfl, rfl, rfl, rfl⟩
        case round =>
          obtain ⟨j, m, hj, hm, rfl, rfl, rfl⟩ := hrel
          by_cases hj8 : j < 8
          · have HJ : (m : Int) < 9 := by omega
            obtain ⟨J, hJ⟩ : ∃ J, K + m = J := ⟨_, rfl⟩
            have hJi : (K : Int) + (m : Int) = (J : Int) := by omega
            have hJn : (J : Int) < (n : Int) := by omega
            have hcj := CE.out _ BW.out J (by omega)
            have hsn : t.take (j + 1) = t.take j ++ [ts.getD J 0] := by
              rw [List.take_add_one, TG.out j (by have := T8.out; omega), show K1 + j = J by have := HK1.out; omega]
              rfl
            have hbv := vW_snoc (t.take j) (ts.getD J 0)
            rw [← hsn] at hbv
            have BV := Lib.hid hbv
            have hlt1 := vW_lt (t.take j)
            have hle : (t.take j).length ≤ 7 := Nat.le_trans (List.length_take_le _ _) (by omega)
            have hlt2 : vW (t.take j) < 256 ^ 7 := Nat.lt_of_lt_of_le hlt1 (Nat.pow_le_pow_right (by omega) hle)
            have hx := (ts.getD J 0).toNat_lt
            generalize (ts.getD J 0).toNat = x at *
            generalize vW (t.take j) = a at *
            have ha : a ≤ 72057594037927935 := by have : (256 : Nat) ^ 7 = 72057594037927936 := by decide
                                                  omega
            have hai : (a : Int) * 256 ≤ 18446744073709551360 := by omega
            have hxi : (x : Int) ≤ 255 := by omega
            have hor : bits .or .u64 ((a : Int) * 256) (x : Int) = ((a * 256 + x : Nat) : Int) := by
              have h1 := u64_or_nat (a * 256) x (by omega) (by omega)
              rw [show ((a * 256 : Nat) : Int) = (a : Int) * 256 by omega] at h1
              rw [h1]
              congr 1
              have h2 := Nat.shiftLeft_add_eq_or_of_lt (i := 8) (b := x) (by omega) a
              rw [Nat.shiftLeft_eq] at h2
              rw [← h2]
            have HMJ := Lib.hid hm
            clear hlt1 hle hlt2 hsn hbv hx ha hj8 hJ hm
            go_wp2_with fail
            go_roundw
            case rel => exact ⟨j + 1, m + 1, by have := HMJ.out; omega, by have := HMJ.out; omega, by go_num, by rw [BV.out, Int.natCast_add, Int.natCast_mul]; rfl, by trivial⟩
            case measure => have := HMJ.out; simp [intOf]; omega
          · have HJ : ¬ (m : Int) < 9 := by omega
            have hj2 : j = 8 := by omega
            subst hj2
            have hx := HX.out
            have hw := HW.out
            rw [HNN.out]
            clear hj hj8 hm
            go_wp2_with fail
            refine (refInt_c _ D).mono ?_
            rintro e w2 ⟨rfl, hB⟩
            have O2 := Lib.hid (O1.out.below hB (Nat.le_refl _))
            have B2 := Lib.hid (below_then BW.out hB)
            clear hB hx hw
            go_wp2_with (first | ((with_reducible refine wp_oneV rfl 43 (1, D, []) rfl ?hx ?_); (case hx => rfl); intro w6 hv hb; have E6 := Lib.hid hv; have B6 := Lib.hid (below_then B2.out hb); have O6 := Lib.hid (O2.out.below hb (Nat.le_refl _)); clear hv hb) | (at_builtin; refine wp_appendV rfl _ _ rfl w.heap.size _ _ rfl O6.out _ _ rfl E6.out (by have := L1.out; simp only [List.length_singleton]; omega) B6.out.size ?_; intro v7 w7 hv hg; have O7 := Lib.hid hv; have B7 := Lib.hid (B6.out.grown hg B6.out.size (fun k hk => (O6.out.block k hk).1)); clear hv hg))
            go_roundw
            case rel => exact ⟨K9, _, h9, by go_num, O7.out, RN.out, B7.out⟩
            case measure => have := HK9.out; simp [intOf]; omega
      · have h9i : (K9 : Int) > (n : Int) := by omega
        have NO := Lib.hid (show ∀ l, ¬ IsKey ts l from fun l h => by
          obtain ⟨l', _, h2⟩ := (RR.out.2 l).1 h
          rw [DK.out] at h2
          have := (isKey_one.1 h2).1
          have := TL.out
          omega)
        clear hcc h1 hK1 hK9
        go_wp2_with fail
        go_ret2
        exact ⟨BW.out, .inr ⟨NO.out, rfl⟩⟩
    · by_cases h2 : c0.toNat = 2
      · obtain rfl : c0 = 2 := toNat_eq_lit (k := 2) (by omega) h2
        have c00 : wr.cell? ⟨b, off + K, none⟩ = some (.int .u8 2) := hcc
        have BT : Hid (∀ W m, Below w.heap.size w W → m ≤ t.length → Byt W (.slice (tailB (some ⟨b, off, none⟩) c K1) m (c - K1)) (t.take m)) := Lib.hid (fun W m hW hm => by
          have h5 := ((H.out.below hW).tail (k := K1) (by have := TL.out; omega))
          rw [HT.out] at h5
          exact h5.cut (by have := TL.out; omega))
        clear hcc h1 h2 hK1
        go_wp2_with fail
        clear c00
        generalize wr = wr0 at *
        go_loopw [8] (fun ev wx => ∃ E : Nat, K1 ≤ E ∧ E ≤ n ∧ ev = .int .i64 (E : Int) ∧ (∀ i, i < E - K1 → t[i]? ≠ some 0) ∧ wx = wr0) (fun ev _ => n - (intOf ev).toNat)
        case atStart => exact ⟨K1, Nat.le_refl _, by have := HK1.out; have := HKL.out; omega, rfl, fun i hi => by omega, rfl⟩
        case round =>
          obtain ⟨E, hE1, hEn, rfl, hz, rfl⟩ := hrel
          have HZ := Lib.hid hz
          clear hz
          obtain ⟨M, hM⟩ : ∃ M, E - K1 = M := ⟨_, rfl⟩
          have HM := Lib.hid hM
          have hmin : min (E : Int) (n : Int) = (E : Int) := by omega
          have HE := Lib.hid (show K1 ≤ E ∧ E ≤ n ∧ n ≤ c from ⟨hE1, hEn, NC.out⟩)
          by_cases hE : E < n
          · have hEi : (E : Int) < (n : Int) := by omega
            have hEg : ¬ ((E : Int) ≥ (n : Int)) := by omega
            have hEN : ¬ (n ≤ E) := by omega
            have hce := CE.out _ BW.out E hE
            have hte := TG.out M (by have := TL.out; omega)
            rw [show K1 + M = E by omega] at hte
            have HTE := Lib.hid hte
            generalize ts.getD E 0 = cE at *
            by_cases hcz : cE.toNat = 0
            · obtain rfl : cE = 0 := toNat_eq_lit (k := 0) (by omega) hcz
              have c01 := (show _ = some (Value.int .u8 0) from hce)
              have D2 := Lib.hid (decV_two HTE.out (by rw [← HM.out]; exact HZ.out))
              clear hcz hce hte hM
              go_wp2_with (first | ((with_reducible refine wp_midC rfl 65 (.tmp 67) (.tmp 71) (A := some ⟨b, off, none⟩) (n := n) (c := c) (k := K1) (m := E) rfl ?hx rfl rfl ?hk ?hm ?hn ?_); (case hx => rfl); (case hk => exact HE.out.1); (case hm => exact HE.out.2.1); (case hn => exact HE.out.2.2); rw [HM.out]) | ((with_reducible refine wp_stringB rfl (.tmp 72) rfl ?u (t.take M) ?hx ?ht ?_); (case u => exact .slice (tailB (some ⟨b, off, none⟩) c K1) M (c - K1)); (case hx => rfl); (case ht => exact BT.out _ _ BW.out (by have := HM.out; have := HE.out; have := TL.out; omega))))
              refine (refStr_c _ (t.take M)).mono ?_
              rintro e w2 ⟨rfl, hB⟩
              have O2 := Lib.hid (O1.out.below hB (Nat.le_refl _))
              have B2 := Lib.hid (below_then BW.out hB)
              clear hB
              go_wp2_with (first | ((with_reducible refine wp_allocV 9 rfl rfl rfl ?_); intro w3 hv hb; have V9 := Lib.hid hv; have B9 := Lib.hid hb; clear hv hb) | ((with_reducible refine wp_storeV rfl 9 74 rfl w2.heap.size (2, 0, t.take M) (0, 0, []) ?hx ?hy V9.out ?_); (case hx => rfl); (case hy => rfl); intro w4 hv hb; have V9 := Lib.hid hv; have G9 := Lib.hid hb; clear hv hb; have B3 := Lib.hid (below_then B2.out (below_store (B := w2.heap.size) B9.out G9.out (Nat.le_refl _) B9.out.size)); have O3 := Lib.hid (O2.out.below (below_store (B := w2.heap.size) B9.out G9.out (Nat.le_refl _) B9.out.size) (Nat.le_refl _))) | ((with_reducible refine wp_loadG ?hw 9 rfl w2.heap.size (0) (2, 0, t.take M) ?hx V9.out.range ?_); (case hw => rfl); (case hx => rfl)))
              refine (FV _ (2, 0, t.take M) (by have := HTS.out; have := HN.out; have := TL.out; have := List.length_take_le M t; show (t.take M).length ≤ 1000000; rw [List.length_take]; omega)).mono ?_
              rintro e w5 ⟨rfl, hB⟩
              have V9 := Lib.hid (V9.out.below hB)
              have BZ := Lib.hid (below_then B3.out hB)
              have OZ := Lib.hid (O3.out.below hB (Nat.le_refl _))
              clear hB
              rcases D2.out with ⟨hv, hok, hov, hm1, hml, hx⟩ | ⟨hv, hno⟩
              · have RN : Hid (RestR ts (ts.drop (E + 1)) (l1 ++ [(2, 0, t.take M)])) := Lib.hid (by
                  have hr := RR.out
                  rw [DK.out] at hr
                  have h5 := restR_step hr hm1 hml hx
                  rw [← DK.out, List.drop_drop, show K + (M + 2) = E + 1 by have := HM.out; have := HK1.out; have := HE.out; omega] at h5
                  exact h5)
                rw [hv]
                clear hv hok hov hm1 hml hx D2
                go_wp2_with (first | ((with_reducible refine wp_loadV rfl 9 rfl w2.heap.size (0) (2, 0, t.take M) ?hx V9.out.range ?_); (case hx => rfl)) | ((with_reducible refine wp_oneV rfl 85 (2, 0, t.take M) rfl ?hx ?_); (case hx => rfl); intro w6 hv hb; have E6 := Lib.hid hv; have B6 := Lib.hid (below_then BZ.out hb); have O6 := Lib.hid (OZ.out.below hb (Nat.le_refl _)); clear hv hb) | (at_builtin; refine wp_appendV rfl _ _ rfl w.heap.size _ _ rfl O6.out _ _ rfl E6.out (by have := L1.out; simp only [List.length_singleton]; omega) B6.out.size ?_; intro v7 w7 hv hg; have O7 := Lib.hid hv; have B7 := Lib.hid (B6.out.grown hg B6.out.size (fun k hk => (O6.out.block k hk).1)); clear hv hg))
                go_roundw
                case rel => exact ⟨E + 1, _, hE, by go_num, O7.out, RN.out, B7.out⟩
                case measure => have := HE.out; have := HK1.out; simp [intOf]; omega
              · have NO := Lib.hid (show ∀ l, ¬ IsKey ts l from fun l h => by
                  obtain ⟨l', _, h2⟩ := (RR.out.2 l).1 h
                  rw [DK.out] at h2
                  exact hno l' h2)
                rw [hv]
                clear hv hno D2
                go_wp2_with fail
                go_ret2
                exact ⟨BZ.out, .inr ⟨NO.out, rfl⟩⟩
            · have q1 : ((cE.toNat : Int) == 0) = false := by rw [beq_eq_false_iff_ne]; omega
              have q2 : ((cE.toNat : Int) != 0) = true := by rw [bne, q1]; rfl
              have HQ : Hid (cE ≠ 0) := Lib.hid (fun e => hcz (by rw [e]; rfl))
              clear hcz hte hM
              go_wp2_with fail
              go_roundw
              case rel =>
                refine ⟨E + 1, by omega, by omega, by go_num, fun i hi => ?_, by trivial⟩
                rcases Nat.lt_or_ge i (E - K1) with h | h
                · exact HZ.out i h
                · rw [show i = M by have := HM.out; omega, HTE.out]
                  intro e
                  exact HQ.out (Option.some.inj e)
              case measure => simp [intOf]; omega
          · have hEi : ¬ (E : Int) < (n : Int) := by omega
            have hEN : n ≤ E := by omega
            have NO := Lib.hid (show ∀ l, ¬ IsKey ts l from fun l h => by
              obtain ⟨l', _, h2⟩ := (RR.out.2 l).1 h
              rw [DK.out] at h2
              refine isKey_two_none (fun i hi => HZ.out i ?_) h2
              have := TL.out
              omega)
            clear hM
            go_wp2_with (first | ((with_reducible refine wp_midC rfl 65 (.tmp 67) (.tmp 71) (A := some ⟨b, off, none⟩) (n := n) (c := c) (k := K1) (m := E) rfl ?hx rfl rfl ?hk ?hm ?hn ?_); (case hx => rfl); (case hk => exact HE.out.1); (case hm => exact HE.out.2.1); (case hn => exact HE.out.2.2); rw [HM.out]) | ((with_reducible refine wp_stringB rfl (.tmp 72) rfl ?u (t.take M) ?hx ?ht ?_); (case u => exact .slice (tailB (some ⟨b, off, none⟩) c K1) M (c - K1)); (case hx => rfl); (case ht => exact BT.out _ _ BW.out (by have := HM.out; have := HE.out; have := TL.out; omega))))
            refine (refStr_c _ (t.take M)).mono ?_
            rintro e w2 ⟨rfl, hB⟩
            have O2 := Lib.hid (O1.out.below hB (Nat.le_refl _))
            have B2 := Lib.hid (below_then BW.out hB)
            clear hB
            go_wp2_with (first | ((with_reducible refine wp_allocV 9 rfl rfl rfl ?_); intro w3 hv hb; have V9 := Lib.hid hv; have B9 := Lib.hid hb; clear hv hb) | ((with_reducible refine wp_storeV rfl 9 74 rfl w2.heap.size (2, 0, t.take M) (0, 0, []) ?hx ?hy V9.out ?_); (case hx => rfl); (case hy => rfl); intro w4 hv hb; have V9 := Lib.hid hv; have G9 := Lib.hid hb; clear hv hb; have B3 := Lib.hid (below_then B2.out (below_store (B := w2.heap.size) B9.out G9.out (Nat.le_refl _) B9.out.size)); have O3 := Lib.hid (O2.out.below (below_store (B := w2.heap.size) B9.out G9.out (Nat.le_refl _) B9.out.size) (Nat.le_refl _))))
            go_ret2
            exact ⟨B3.out, .inr ⟨NO.out, rfl⟩⟩
      · have q1 : ((c0.toNat : Int) == 1) = false := by rw [beq_eq_false_iff_ne]; omega
        have q2 : ((c0.toNat : Int) == 2) = false := by rw [beq_eq_false_iff_ne]; omega
        have NO := Lib.hid (show ∀ l, ¬ IsKey ts l from fun l h => by
          obtain ⟨l', _, h3⟩ := (RR.out.2 l).1 h
          rw [DK.out] at h3
          exact isKey_bad (fun e => h1 (by rw [e]; rfl)) (fun e => h2 (by rw [e]; rfl)) h3)
        clear h1 h2 hK1
        go_wp2_with fail
        go_ret2
        exact ⟨BW.out, .inr ⟨NO.out, rfl⟩⟩
end Go.Proofs.YtpbkmkcfhkdjjaaDoor

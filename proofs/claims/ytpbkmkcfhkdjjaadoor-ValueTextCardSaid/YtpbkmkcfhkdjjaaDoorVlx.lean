/- The reference's Format. -/
import Derived.Test.YtpbkmkcfhkdjjaaDoorVvi
import Derived.Test.YtpbkmkcfhkdjjaaDoorVlh
import Derived.Test.YtpbkmkcfhkdjjaaDoorQrd
namespace Go.Proofs.YtpbkmkcfhkdjjaaDoor
open Go.RowKit Dig
set_option linter.unusedVariables false

theorem fr_self (q : Rat) : fr (decide (q.num < 0)) q.num.natAbs q.den = q := by
  unfold fr
  have : sg (decide (q.num < 0)) q.num.natAbs = q.num := by
    unfold sg
    by_cases h : q.num < 0 <;> simp [h] <;> omega
  rw [this, Rat.mkRat_self]
theorem frz_one (n : Int) : (frz n 1).num = n ∧ (frz n 1).den = 1 := by
  unfold frz
  rcases Nat.eq_zero_or_pos n.natAbs with h | h
  · obtain rfl : n = 0 := by omega
    exact ⟨rfl, rfl⟩
  · obtain ⟨e1, e2, e3⟩ := fr_parts (decide (n < 0) != decide ((1 : Int) < 0)) (n := n.natAbs) (d := (1 : Int).natAbs) (by omega) (by decide)
    rw [show (1 : Int).natAbs = 1 from rfl, Nat.gcd_one_right] at e2 e3
    rw [Nat.div_one] at e2 e3
    refine ⟨?_, e3⟩
    rw [show (1 : Int).natAbs = 1 from rfl] at e1
    rw [show (1 : Int).natAbs = 1 from rfl]
    generalize (fr (decide (n < 0) != decide ((1 : Int) < 0)) n.natAbs 1).num = q at e1 e2
    by_cases hn : n < 0
    · have : q < 0 := by
        have e4 : decide (q < 0) = true := by rw [e1]; simp [hn]
        exact of_decide_eq_true e4
      omega
    · have : ¬ q < 0 := by
        have e4 : decide (q < 0) = false := by rw [e1]; simp [hn]
        exact of_decide_eq_false e4
      omega
theorem ftext_one (n : Int) : ftext (frz n 1) = intT n := by
  obtain ⟨h1, h2⟩ := frz_one n
  unfold ftext intT
  rw [h1, h2, if_pos rfl, List.append_nil]
set_option maxHeartbeats 2000000 in
theorem whole_c (w : World) (n : Int) (h : Fits64 n) : Calls Tryd.prog 41 #[.int .i64 n] w (RCanF w (frz n 1) 2) := by
  have R0 := Lib.hid (Fcl.new w false (.slice none 0 0) (.slice none 0 0))
  have hB0 : Below w.heap.size w (w.alloc (.cells #[.bool false, .slice none 0 0, .slice none 0 0] 66)) := (Below.refl _ _).alloc (Nat.le_refl _) _
  have FN := Lib.hid (fun w1 => fracNew_v w1 n 1 h (by unfold Fits64; omega) (by decide))
  clear h
  go_enter Tryd.func41, Tryd.ntmps41
  go_wp2_with fail
  refine (FN.out _).mono ?_
  rintro e w1 ⟨z, rfl, hz, hB1⟩
  have R1 := R0.out.below hB1
  have hB1 := below_then hB0 hB1
  obtain ⟨b, C, o, r, C', o', r', rfl, hb, hvx, hvy⟩ := hz.parts
  obtain ⟨w2, g1, ew2, eg2, hB2, hF1⟩ := var1 w1 b (.slice C o r) (.slice C' o' r')
  have R2 := R1.below hB2
  have hvx := hvx.below hB2
  have hvy := hvy.below hB2
  have hB2 := below_then hB1 hB2
  obtain ⟨k0, k1, k2⟩ := R2.cells
  obtain ⟨f0, f1, f2⟩ := R2.frozen
  obtain ⟨d0, d1, d2⟩ := hF1.cells
  go_wp2_with fail
  refine bodyPost_ret (v := .agg #[.bool b, .slice C o r, .slice C' o' r']) (by rw [results_one rfl]; go_simp) rfl ?_
  exact RCanF.stored hb hvx hvy R2 hB2 (Nat.le_refl _) (.bool b)
theorem qs_one (c : UInt8) : qs [c] = if c = 39 then [39, 39] else [c] := by
  split
  · rename_i h
    rw [h]
    rfl
  · rename_i h
    rw [qs_cons _ h]
    rfl
theorem byte_at {s : List UInt8} {j : Nat} {c : UInt8} (h : s[j]? = some c) : (⟨s.toArray⟩ : ByteArray).extract j (j + 1) = ⟨[c].toArray⟩ := by
  obtain ⟨hl, he⟩ := List.getElem?_eq_some_iff.1 h
  apply ByteArray.ext
  rw [ByteArray.data_extract]
  apply Array.ext'
  rw [Array.toList_extract]
  simp only [List.extract]
  rw [show j + 1 - j = 1 by omega, List.drop_eq_getElem_cons hl, he]
  rfl
set_option maxRecDepth 20000 in
set_option maxHeartbeats 4000000 in
theorem rformat_c (w : World) (x : Vl) (h1 : -9223372036854775808 ≤ x.2.1) (h2 : x.2.1 ≤ 9223372036854775807) (hl : x.2.2.length ≤ 1000000) :
    Calls Tryd.prog 29 #[vV x] w (RVal w (.string ⟨(if vldB x then fmtV x else []).toArray⟩)) := by
  have HL := Lib.hid hl
  have H1 := Lib.hid h1
  have H2 := Lib.hid h2
  have FV := fun w => rvalid_c w x HL.out
  clear hl h1 h2
  cases hv : vldB x with
  | false =>
    rw [hv] at FV
    rw [if_neg (by simp)]
    clear hv
    go_enter Tryd.func29, Tryd.ntmps29
    go_wp2_with (first | ((with_reducible refine wp_boxV 1 rfl rfl 0 rfl x ?hx ?_); (case hx => rfl); intro w1 hv hb; have V1 := Lib.hid hv; have B1 := Lib.hid hb; clear hv hb) | ((with_reducible refine wp_loadV rfl 1 rfl w.heap.size (0) x ?hx V1.out.range ?_); (case hx => rfl)))
    refine (FV _).mono ?_
    rintro e w2 ⟨rfl, hB2⟩
    have BB := Lib.hid (below_then B1.out hB2)
    clear hB2
    go_wp2_with fail
    go_ret
    exact ⟨rfl, BB.out⟩
  | true =>
    rw [hv] at FV
    rw [if_pos rfl]
    have hvv := (vldB_iff x).1 hv
    clear hv
    obtain ⟨t, n, s⟩ := x
    rcases hvv with ⟨e1, e2⟩ | ⟨e1, e2, e3, e4⟩
    · obtain rfl : t = 1 := e1
      obtain rfl : s = [] := e2
      show Calls Tryd.prog 29 #[vV (1, n, [])] w (RVal w (.string ⟨(intT n).toArray⟩))
      have FW := Lib.hid (fun w1 => whole_c w1 n ⟨H1.out, H2.out⟩)
      rw [← ftext_one n]
      go_enter Tryd.func29, Tryd.ntmps29
      go_wp2_with (first | ((with_reducible refine wp_boxV 1 rfl rfl 0 rfl (1, n, []) ?hx ?_); (case hx => rfl); intro w1 hv hb; have V1 := Lib.hid hv; have B1 := Lib.hid hb; clear hv hb) | ((with_reducible refine wp_loadV rfl 1 rfl w.heap.size (0) (1, n, []) ?hx V1.out.range ?_); (case hx => rfl)))
      refine (FV _).mono ?_
      rintro e w2 ⟨rfl, hB2⟩
      have BB := Lib.hid (below_then B1.out hB2)
      have V2 := Lib.hid (V1.out.below hB2)
      have c0 : w2.cell? ⟨w.heap.size, 0, none⟩ = some (.int .i64 1) := V2.out.cells.1
      have c1 : w2.cell? ⟨w.heap.size, 1, none⟩ = some (.int .i64 n) := V2.out.cells.2.1
      clear hB2 V1 B1
      go_wp2_with fail
      refine (FW.out _).mono ?_
      rintro e w3 ⟨u, rfl, hu, hB3⟩
      have BC := Lib.hid (below_then BB.out hB3)
      have hf : FracV w3 u (frz n 1) 2 := by
        obtain ⟨vn, vd, e, hn, hd⟩ := hu
        exact ⟨_, vn, vd, _, _, e, hn.numV, hd.numV, fr_self _⟩
      have FF := Lib.hid (fracFormat_v hf (by omega) (by omega))
      clear hB3 c0 c1 hu hf
      go_wp2_with fail
      refine (FF.out).mono ?_
      rintro e w4 ⟨rfl, hB4⟩
      have BD := Lib.hid (below_then BC.out hB4)
      clear hB4
      go_wp2_with fail
      go_ret
      exact ⟨rfl, BD.out⟩
    · obtain rfl : t = 2 := e1
      obtain rfl : n = 0 := e2
      show Calls Tryd.prog 29 #[vV (2, 0, s)] w (RVal w (.string ⟨(strT s).toArray⟩))
      obtain ⟨L, eL⟩ : ∃ q, s.length = q := ⟨_, rfl⟩
      have EL := Lib.hid eL
      have L64 := Lib.hid (show L ≤ 64 by rw [← eL]; exact e3)
      have hli : (L : Int) ≤ 64 := by have := L64.out; omega
      have hsz : (⟨s.toArray⟩ : ByteArray).size = L := by rw [← eL]; rfl
      clear e3 e4 eL
      go_enter Tryd.func29, Tryd.ntmps29
      go_wp2_with (first | ((with_reducible refine wp_boxV 1 rfl rfl 0 rfl (2, 0, s) ?hx ?_); (case hx => rfl); intro w1 hv hb; have V1 := Lib.hid hv; have B1 := Lib.hid hb; clear hv hb) | ((with_reducible refine wp_loadV rfl 1 rfl w.heap.size (0) (2, 0, s) ?hx V1.out.range ?_); (case hx => rfl)))
      refine (FV _).mono ?_
      rintro e w2 ⟨rfl, hB2⟩
      have BB := Lib.hid (below_then B1.out hB2)
      have V2 := Lib.hid (V1.out.below hB2)
      have c0 : w2.cell? ⟨w.heap.size, 0, none⟩ = some (.int .i64 2) := V2.out.cells.1
      clear hB2 V1 B1
      go_wp2_with fail
      clear c0
      go_loopw [3, 4] (fun sv iv wr => ∃ j : Nat, j ≤ L ∧ iv = .int .i64 (j : Int) ∧ sv = .string ⟨(39 :: qs (s.take j)).toArray⟩ ∧ wr = w2) (fun _ iv _ => L - (intOf iv).toNat)
      case atStart => exact ⟨0, Nat.zero_le _, rfl, rfl, rfl⟩
      case round =>
        obtain ⟨j, hj, rfl, rfl, rfl⟩ := hrel
        have c2 := V2.out.cells.2.2
        dsimp only at c2
        by_cases h1 : j < L
        · have h1i : (j : Int) < (L : Int) := by omega
          obtain ⟨c, hc⟩ : ∃ c, s[j]? = some c := ⟨s[j]'(by rw [EL.out]; exact h1), List.getElem?_eq_getElem _⟩
          have HC := Lib.hid hc
          have kg : ∀ h : j < (⟨s.toArray⟩ : ByteArray).size, (⟨s.toArray⟩ : ByteArray)[j]'h = c := fun h => by
            obtain ⟨hl, he⟩ := List.getElem?_eq_some_iff.1 HC.out
            exact (List.getElem_toArray (xs := s) (i := j) (h := by simpa using hl)).trans he
          have kx := byte_at hc
          obtain ⟨P, hP⟩ : ∃ P, (39 :: qs (s.take j)) = P := ⟨_, rfl⟩
          have HP := Lib.hid hP
          rw [hP]
          have hPl : P.length ≤ 200 := by
            have h3 := (qs_length (s.take j)).2
            have h4 := List.length_take_le j s
            have := L64.out
            rw [← hP, List.length_cons]
            omega
          have hT : qs (s.take (j + 1)) = qs (s.take j) ++ qs [c] := by
            rw [List.take_add_one, hc, qs_append]
            rfl
          rw [qs_one] at hT
          by_cases hq : c.toNat = 39
          · have hc39 : c = 39 := UInt8.toNat_inj.1 hq
            subst hc39
            rw [if_pos rfl] at hT
            have HT := Lib.hid hT
            clear hP hc hq hT
            go_wp2_with fail
            go_roundw
            case rel =>
              refine ⟨j + 1, by omega, by go_num, ?_, by trivial⟩
              rw [HT.out]
              show Value.string (((⟨P.toArray⟩ : ByteArray) ++ ⟨[39].toArray⟩) ++ ⟨[39].toArray⟩) = _
              rw [ByteArray.mk_append_mk, ByteArray.mk_append_mk, ← HP.out]
              simp
            case measure => simp [intOf]; omega
          · have hq1 : ((c.toNat : Int) == 39) = false := by rw [beq_eq_false_iff_ne]; omega
            rw [if_neg (fun e => hq (by rw [e]; rfl))] at hT
            have HT := Lib.hid hT
            clear hP hc hT
            go_wp2_with fail
            go_roundw
            case rel =>
              refine ⟨j + 1, by omega, by go_num, ?_, by trivial⟩
              rw [HT.out]
              show Value.string ((⟨P.toArray⟩ : ByteArray) ++ ⟨[c].toArray⟩) = _
              rw [ByteArray.mk_append_mk, ← HP.out]
              rfl
            case measure => simp [intOf]; omega
        · have h1i : ¬ (j : Int) < (L : Int) := by omega
          have hT : s.take j = s := List.take_of_length_le (by rw [EL.out]; omega)
          rw [hT]
          have hPl : (39 :: qs s).length ≤ 200 := by
            have h3 := (qs_length s).2
            have := L64.out
            rw [List.length_cons]
            have := EL.out
            omega
          obtain ⟨P, hP⟩ : ∃ P, (39 :: qs s) = P := ⟨_, rfl⟩
          have HP := Lib.hid hP
          rw [hP] at hPl ⊢
          have E := Lib.hid (show strT s = P ++ [39] by rw [← hP]; rfl)
          clear hT hP
          go_wp2_with fail
          go_ret
          refine ⟨?_, BB.out⟩
          rw [E.out]
          show Ending.returned (Value.string ((⟨P.toArray⟩ : ByteArray) ++ ⟨[39].toArray⟩)) = _
          rw [ByteArray.mk_append_mk]
end Go.Proofs.YtpbkmkcfhkdjjaaDoor

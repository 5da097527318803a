/- Stage 8: what the laws make of their arguments: valid, valids, fits. -/
import Derived.Laws.Bits128
import Derived.Test.YtpbkmkcfhkdjjaaDoorVvh
import Derived.Test.YtpbkmkcfhkdjjaaDoorVvj
import Derived.Test.YtpbkmkcfhkdjjaaDoorVlh
namespace Go.Proofs.YtpbkmkcfhkdjjaaDoor
open Go.RowKit Dig
set_option linter.unusedVariables false

/-- A printable byte of any byte. -/
def mkC (c : UInt8) : UInt8 := oct (32 + c.toNat % 95)
/-- A valid value of any value. -/
def mkV (v : Vl) : Vl := if v.1 % 2 = 0 then (1, v.2.1, []) else (2, 0, (v.2.2.take 64).map mkC)
theorem mkC_nat (c : UInt8) : (mkC c).toNat = 32 + c.toNat % 95 := oct_toNat (by omega)
theorem mkV_ok {v : Vl} (h : OkVl v) : okV (mkV v) ∧ OkVl (mkV v) ∧ (mkV v).2.2.length ≤ 64 := by
  unfold mkV
  split
  · exact ⟨⟨.inl ⟨rfl, rfl⟩, h.2.1⟩, ⟨⟨show (-9223372036854775808 : Int) ≤ 1 by decide, show (1 : Int) ≤ 9223372036854775807 by decide⟩, h.2.1, by simp⟩, Nat.zero_le _⟩
  · have hl : ((v.2.2.take 64).map mkC).length ≤ 64 := by
      rw [List.length_map, List.length_take]
      exact Nat.min_le_left _ _
    refine ⟨⟨.inr ⟨rfl, rfl, hl, fun c hc => ?_⟩, show (-9223372036854775808 : Int) ≤ 0 by decide, show (0 : Int) ≤ 9223372036854775807 by decide⟩, ⟨⟨show (-9223372036854775808 : Int) ≤ 2 by decide, show (2 : Int) ≤ 9223372036854775807 by decide⟩, ⟨show (-9223372036854775808 : Int) ≤ 0 by decide, show (0 : Int) ≤ 9223372036854775807 by decide⟩, Nat.le_trans hl (by decide)⟩, hl⟩
    obtain ⟨d, _, rfl⟩ := List.mem_map.1 hc
    have := mkC_nat d
    unfold okC
    omega
theorem and_one (t : Int) : bits .and .i64 t 1 = t % 2 := by
  have h1 : (BitVec.ofInt 64 1).toNat = 2 ^ 1 - 1 := by decide
  have key : (BitVec.ofInt 64 t &&& BitVec.ofInt 64 1).toNat = (t % ((2 ^ 64 : Nat) : Int)).toNat % 2 ^ 1 := by
    rw [BitVec.toNat_and, BitVec.toNat_ofInt, h1, Nat.and_two_pow_sub_one_eq_mod]
  show IntKind.i64.wrap ((BitVec.ofInt 64 t &&& BitVec.ofInt 64 1).toNat : Nat) = t % 2
  rw [key, IntKind.wrap_i64]
  omega
set_option maxRecDepth 20000 in
set_option maxHeartbeats 4000000 in
theorem mkv_c (w : World) (x : Vl) (hl : x.2.2.length ≤ 1000000) : Calls Tryd.prog 13 #[vV x] w (RVal w (vV (mkV x))) := by
  obtain ⟨t, n, s⟩ := x
  have hb := and_one t
  by_cases ht : t % 2 = 0
  · have E : mkV (t, n, s) = (1, n, []) := if_pos ht
    rw [E]
    rw [ht] at hb
    clear hl ht E
    go_enter Tryd.func13, Tryd.ntmps13
    go_wp2_with (first | ((with_reducible refine wp_boxV 1 rfl rfl 0 rfl (t, n, s) ?hx ?_); (case hx => rfl); intro w1 hv hb; have V1 := Lib.hid hv; have B1 := Lib.hid hb; clear hv hb) | ((with_reducible refine wp_allocV 2 rfl rfl rfl ?_); intro w2 hv hb; have V2 := Lib.hid hv; have B2 := Lib.hid hb; clear hv hb; have V1 := Lib.hid (V1.out.below B2.out); have BW := Lib.hid (below_then B1.out B2.out); have c0 : w2.cell? ⟨w.heap.size, 0, none⟩ = some (.int .i64 t) := V1.out.cells.1; have c1 : w2.cell? ⟨w.heap.size, 1, none⟩ = some (.int .i64 n) := V1.out.cells.2.1) | ((with_reducible refine wp_storeV rfl 2 11 rfl w1.heap.size (1, n, []) (0, 0, []) ?hx ?hy V2.out ?_); (case hx => rfl); (case hy => rfl); intro w3 hv hb; have V2 := Lib.hid hv; have G2 := Lib.hid hb; clear hv hb))
    refine bodyPost_ret (v := vV (1, n, [])) (by rw [res_one (p := 2) rfl _ rfl V2.out]) rfl ?_
    exact ⟨rfl, below_store BW.out G2.out B1.out.size (Nat.le_trans B1.out.size B2.out.size)⟩
  · have hb2 : (bits .and .i64 t 1 == 0) = false := by rw [hb, beq_eq_false_iff_ne]; exact ht
    have E : mkV (t, n, s) = (2, 0, (s.take 64).map mkC) := if_neg ht
    rw [E]
    obtain ⟨R, hR⟩ : ∃ q, (s.take 64).map mkC = q := ⟨_, rfl⟩
    have HR := Lib.hid hR
    rw [hR]
    clear hR
    have hli : (s.length : Int) ≤ 1000000 := by have : s.length ≤ 1000000 := hl; omega
    obtain ⟨L, eL⟩ : ∃ q, s.length = q := ⟨_, rfl⟩
    have EL := Lib.hid eL
    have hsz : (⟨s.toArray⟩ : ByteArray).size = L := by rw [← eL]; rfl
    rw [eL] at hli
    clear hl ht E hb eL
    go_enter Tryd.func13, Tryd.ntmps13
    go_wp2_with (first | ((with_reducible refine wp_boxV 1 rfl rfl 0 rfl (t, n, s) ?hx ?_); (case hx => rfl); intro w1 hv hb; have V1 := Lib.hid hv; have B1 := Lib.hid hb; clear hv hb) | ((with_reducible refine wp_allocV 2 rfl rfl rfl ?_); intro w2 hv hb; have V2 := Lib.hid hv; have B2 := Lib.hid hb; clear hv hb; have V1 := Lib.hid (V1.out.below B2.out); have BW := Lib.hid (below_then B1.out B2.out); have c0 : w2.cell? ⟨w.heap.size, 0, none⟩ = some (.int .i64 t) := V1.out.cells.1))
    have SV := Lib.hid (show Below w.heap.size w w2 ∧ VarV w2 w.heap.size (t, n, s) ∧ VarV w2 w1.heap.size (0, 0, []) from ⟨BW.out, V1.out, V2.out⟩)
    have Z1 := Lib.hid B1.out.size
    clear BW V1 V2 B1 B2 c0 hb2
    go_loopw [3, 4] (fun sv iv wr => ∃ j : Nat, j ≤ L ∧ j ≤ 64 ∧ iv = .int .i64 (j : Int) ∧ sv = .string ⟨((s.take j).map mkC).toArray⟩ ∧ (Below w.heap.size w wr ∧ VarV wr w.heap.size (t, n, s) ∧ VarV wr w1.heap.size (0, 0, []))) (fun _ iv _ => L - (intOf iv).toNat)
    case atStart => exact ⟨0, Nat.zero_le _, Nat.zero_le _, rfl, rfl, SV.out⟩
    case round =>
      obtain ⟨j, hj, hj64, rfl, rfl, hS⟩ := hrel
      have HS := Lib.hid hS
      have c2 : wr.cell? ⟨w.heap.size, 2, none⟩ = some (.string ⟨s.toArray⟩) := hS.2.1.cells.2.2
      obtain ⟨P, hP⟩ : ∃ P, (s.take j).map mkC = P := ⟨_, rfl⟩
      have HP := Lib.hid hP
      rw [hP]
      have hPl : P.length ≤ 64 := by rw [← hP, List.length_map, List.length_take]; omega
      clear hS hP
      by_cases h1 : j < L
      · have h1i : (j : Int) < (L : Int) := by omega
        by_cases h2 : j < 64
        · have h2i : (j : Int) < 64 := by omega
          obtain ⟨c, hc⟩ : ∃ c, s[j]? = some c := ⟨s[j]'(by rw [EL.out]; exact h1), List.getElem?_eq_getElem _⟩
          have HC := Lib.hid hc
          have kg : ∀ h : j < (⟨s.toArray⟩ : ByteArray).size, (⟨s.toArray⟩ : ByteArray)[j]'h = c := fun h => by
            obtain ⟨hl, he⟩ := List.getElem?_eq_some_iff.1 HC.out
            exact (List.getElem_toArray (xs := s) (i := j) (h := by simpa using hl)).trans he
          clear hc
          have k1 : ¬ (P.length + 1 > 9223372036854775807) := by omega
          have hm : ((32 + (c.toNat : Int) % 95) : Int) = ((mkC c).toNat : Int) := by rw [mkC_nat]; omega
          have HM := Lib.hid hm
          clear hm
          go_wp2_with ((with_reducible refine wp_stringB rfl (.tmp 30) rfl ?u [mkC c] ?hx ?ht ?_); (case u => exact .slice (some ⟨wr.heap.size, 0, none⟩) 1 1); (case hx => rfl); (case ht => exact Byt.one wr _ (mkC c) HM.out))
          go_roundw
          case rel =>
            refine ⟨j + 1, by omega, by omega, by go_num, ?_, below_then HS.out.1 (one_below wr _), HS.out.2.1.below (one_below wr _), HS.out.2.2.below (one_below wr _)⟩
            show Value.string ((⟨P.toArray⟩ : ByteArray) ++ ⟨[mkC c].toArray⟩) = _
            rw [ByteArray.mk_append_mk, ← HP.out, List.take_add_one, HC.out, List.map_append]
            rfl
          case measure => simp [intOf]; omega
        · have h2i : ¬ (j : Int) < 64 := by omega
          have V2 := Lib.hid HS.out.2.2
          go_wp2_with (((with_reducible refine wp_storeV rfl 2 34 rfl w1.heap.size (2, 0, P) (0, 0, []) ?hx ?hy V2.out ?_); (case hx => rfl); (case hy => rfl); intro w9 hv hb; have V2 := Lib.hid hv; have G2 := Lib.hid hb; clear hv hb))
          have hE : P = R := by rw [← HR.out, ← HP.out, show j = 64 by omega]
          refine bodyPost_ret (v := vV (2, 0, P)) (by rw [res_one (p := 2) rfl _ rfl V2.out]) rfl ?_
          rw [hE]
          exact ⟨rfl, below_store HS.out.1 G2.out Z1.out HS.out.1.size⟩
      · have h1i : ¬ (j : Int) < (L : Int) := by omega
        have V2 := Lib.hid HS.out.2.2
        go_wp2_with (((with_reducible refine wp_storeV rfl 2 34 rfl w1.heap.size (2, 0, P) (0, 0, []) ?hx ?hy V2.out ?_); (case hx => rfl); (case hy => rfl); intro w9 hv hb; have V2 := Lib.hid hv; have G2 := Lib.hid hb; clear hv hb))
        have hE : P = R := by rw [← HR.out, ← HP.out, show s.take j = s from List.take_of_length_le (by rw [EL.out]; omega), show s.take 64 = s from List.take_of_length_le (by rw [EL.out]; omega)]
        refine bodyPost_ret (v := vV (2, 0, P)) (by rw [res_one (p := 2) rfl _ rfl V2.out]) rfl ?_
        rw [hE]
        exact ⟨rfl, below_store HS.out.1 G2.out Z1.out HS.out.1.size⟩
theorem wp_oneV {w : World} {ops : Array Oper} {rest : List Oper} {o : Oper} {a : Act} {Q : Exit → Act → World → Prop} (hgd : o.guard = none) (t : Tmp) (x : Vl) (ho : o.op = .buildSlice 22 1 #[(0, .tmp t)]) (hx : a.eval (.tmp t) = vV x)
    (h : ∀ w', Vls w' (.slice (some ⟨w.heap.size, 0, none⟩) 1 1) [x] → Below w.heap.size w w' → wpList Tryd.prog ops Q rest (a.put o.dst (.slice (some ⟨w.heap.size, 0, none⟩) 1 1)) w') : wpList Tryd.prog ops Q (o :: rest) a w := by
  refine wpList_plain hgd fun K hK => ?_
  have hrun := exec_oneV (w := w) (ev := a.eval) (o := o) (x := x) t ho hx
  unfold Oper.wp
  rw [hrun]
  exact hK _ _ (h _ (vls_one w x) (one_below w _))
set_option maxRecDepth 20000 in
set_option maxHeartbeats 4000000 in
theorem valids_c {w : World} {v : Value} {l : List Vl} (h : Vls w v l) (hl : l.length ≤ 1000) (ho : ∀ y ∈ l, y.2.2.length ≤ 1000000) : Calls Tryd.prog 16 #[v] w fun e w' => ∃ u, e = .returned u ∧ OwV w.heap.size w' u (l.map mkV) ∧ Below w.heap.size w w' := by
  obtain ⟨A, c, rfl⟩ := h.form
  have HA := Lib.hid h
  have HO := Lib.hid ho
  have HLL := Lib.hid hl
  have MV := fun w x h => mkv_c w x h
  obtain ⟨R, hR⟩ : ∃ r, l.map mkV = r := ⟨_, rfl⟩
  have HR := Lib.hid hR
  rw [hR]
  obtain ⟨n, hn⟩ : ∃ q, l.length = q := ⟨_, rfl⟩
  have HN := Lib.hid hn
  have hli : (n : Int) ≤ 1000 := by omega
  have HL := Lib.hid (show n ≤ 1000 by omega)
  rw [hn]
  clear h ho hl hR hn
  go_enter Tryd.func16, Tryd.ntmps16
  go_wp2_with fail
  go_loopw [3, 4] (fun ov iv wr => ∃ j : Nat, j ≤ n ∧ iv = .int .i64 (j : Int) ∧ OwV w.heap.size wr ov ((l.take j).map mkV) ∧ Below w.heap.size w wr) (fun _ iv _ => n - (intOf iv).toNat)
  case atStart => exact ⟨0, Nat.zero_le _, rfl, OwV.nil _ _, Below.refl _ _⟩
  case round =>
    obtain ⟨j, hjn, rfl, hO, hB⟩ := hrel
    have BW := Lib.hid hB
    have OW := Lib.hid hO
    clear hB hO
    by_cases hj : j < n
    · have HJ : (j : Int) < (n : Int) := by omega
      obtain ⟨x, hx⟩ : ∃ x, l[j]? = some x := ⟨l[j]'(by rw [HN.out]; exact hj), List.getElem?_eq_getElem _⟩
      have HX := Lib.hid hx
      have FX := Lib.hid (HO.out x (List.mem_of_getElem? hx))
      have hal := HA.out.below BW.out
      obtain ⟨b1, o1, eA, hb1, hr1⟩ := hal.at (j := j) (by rw [HN.out]; exact hj)
      rw [(List.getElem?_eq_some_iff.1 hx).2] at hr1
      subst eA
      have RA := Lib.hid hr1
      have LT : Hid (((l.take j).map mkV).length + [mkV x].length ≤ 1000000) := Lib.hid (by
        have h2 : (l.take j).length ≤ j := List.length_take_le _ _
        have := HL.out
        rw [List.length_map, List.length_singleton]
        omega)
      clear hal hr1 hb1 hx
      go_wp2_with (((with_reducible refine wp_loadV rfl 14 rfl b1 (o1 + j * 3) x ?hx RA.out ?_); (case hx => rfl)))
      refine (MV _ x FX.out).mono ?_
      rintro e w2 ⟨rfl, hB2⟩
      have B2 := Lib.hid (below_then BW.out hB2)
      have O2 := Lib.hid (OW.out.below hB2 (Nat.le_refl _))
      clear hB2
      go_wp2_with (first | ((with_reducible refine wp_oneV rfl 16 (mkV x) rfl ?hx ?_); (case hx => rfl); intro w3 hv hb; have E3 := Lib.hid hv; have B3 := Lib.hid (below_then B2.out hb); have O3 := Lib.hid (O2.out.below hb (Nat.le_refl _)); clear hv hb) | (at_builtin; refine wp_appendV rfl _ _ rfl w.heap.size _ _ rfl O3.out _ _ rfl E3.out LT.out B3.out.size ?_; intro v4 w4 hv hg; have O4 := Lib.hid hv; have B4 := Lib.hid (B3.out.grown hg B3.out.size (fun k hk => (O3.out.block k hk).1)); clear hv hg))
      go_roundw
      case rel =>
        refine ⟨j + 1, by omega, by go_num, ?_, B4.out⟩
        have := O4.out
        rwa [show (l.take (j + 1)).map mkV = (l.take j).map mkV ++ [mkV x] from by rw [List.take_add_one, HX.out, List.map_append]; rfl]
      case measure => simp [intOf]; omega
    · have HJ : ¬ (j : Int) < (n : Int) := by omega
      have E := Lib.hid (show (l.take j).map mkV = R by rw [← HR.out, show l.take j = l from List.take_of_length_le (by rw [HN.out]; omega)])
      go_wp2_with fail
      go_ret
      exact ⟨_, rfl, by rw [← E.out]; exact OW.out, BW.out⟩
/-- Whether a list is small enough. -/
def fitB (l : List Vl) : Bool := decide (l.length ≤ 8) && l.all fun y => decide (y.2.2.length ≤ 80)
theorem fitB_iff (l : List Vl) : fitB l = true ↔ l.length ≤ 8 ∧ ∀ y ∈ l, y.2.2.length ≤ 80 := by
  unfold fitB
  simp [List.all_eq_true]
set_option maxRecDepth 20000 in
set_option maxHeartbeats 4000000 in
theorem fits_c {w : World} {v : Value} {l : List Vl} (h : Vls w v l) (ho : ∀ y ∈ l, OkVl y) : Calls Tryd.prog 10 #[v] w (RVal w (.bool (fitB l))) := by
  obtain ⟨A, c, rfl⟩ := h.form
  have HA := Lib.hid h
  obtain ⟨R, hR⟩ : ∃ r, fitB l = r := ⟨_, rfl⟩
  have HR := Lib.hid hR
  rw [hR]
  obtain ⟨n, hn⟩ : ∃ q, l.length = q := ⟨_, rfl⟩
  have HN := Lib.hid hn
  rw [hn]
  by_cases h8 : n ≤ 8
  · have h8i : ¬ (n : Int) > 8 := by omega
    have hli : (n : Int) ≤ 8 := by omega
    have HL := Lib.hid h8
    clear h ho hR hn h8
    go_enter Tryd.func10, Tryd.ntmps10
    go_wp2_with fail
    go_loopw [3] (fun iv wr => ∃ j : Nat, j ≤ n ∧ iv = .int .i64 (j : Int) ∧ wr = w ∧ ∀ y ∈ l.take j, y.2.2.length ≤ 80) (fun iv _ => n - (intOf iv).toNat)
    case atStart => exact ⟨0, Nat.zero_le _, rfl, rfl, fun y hy => (List.not_mem_nil hy).elim⟩
    case round =>
      obtain ⟨j, hjn, rfl, rfl, hV⟩ := hrel
      have AV := Lib.hid hV
      clear hV
      by_cases hj : j < n
      · have HJ : (j : Int) < (n : Int) := by omega
        obtain ⟨x, hx⟩ : ∃ x, l[j]? = some x := ⟨l[j]'(by rw [HN.out]; exact hj), List.getElem?_eq_getElem _⟩
        have HX := Lib.hid hx
        obtain ⟨b1, o1, eA, hb1, hr1⟩ := HA.out.at (j := j) (by rw [HN.out]; exact hj)
        rw [(List.getElem?_eq_some_iff.1 hx).2] at hr1
        subst eA
        have c2 : wr.cell? ⟨b1, o1 + j * 3 + 2, none⟩ = some (.string ⟨x.2.2.toArray⟩) := (range_cells hr1).2.2
        obtain ⟨s, hs⟩ : ∃ s, x.2.2 = s := ⟨_, rfl⟩
        have HSX := Lib.hid hs
        rw [hs] at c2
        clear hr1 hb1 hx hs
        by_cases h80 : s.length ≤ 80
        · have h80i : ¬ (s.length : Int) > 80 := by omega
          have H80 := Lib.hid h80
          clear h80
          go_wp2_with fail
          go_roundw
          case rel =>
            refine ⟨j + 1, by omega, by go_num, trivial, fun y hy => ?_⟩
            rw [List.take_add_one, HX.out] at hy
            rcases List.mem_append.1 hy with h | h
            · exact AV.out y h
            · rw [show y = x by simpa using h, HSX.out]
              exact H80.out
          case measure => simp [intOf]; omega
        · have h80i : (s.length : Int) > 80 := by omega
          have E := Lib.hid (show R = false by
            rw [← HR.out]
            cases hf : fitB l with
            | false => rfl
            | true => exact absurd (((fitB_iff l).1 hf).2 x (List.mem_of_getElem? HX.out)) (by rw [HSX.out]; exact h80))
          clear h80
          go_wp2_with fail
          go_ret
          exact ⟨by rw [E.out]; rfl, Below.refl _ _⟩
      · have HJ : ¬ (j : Int) < (n : Int) := by omega
        have E := Lib.hid (show R = true by
          rw [← HR.out]
          refine (fitB_iff l).2 ⟨by rw [HN.out]; exact HL.out, fun y hy => AV.out y ?_⟩
          rw [show l.take j = l from List.take_of_length_le (by rw [HN.out]; omega)]
          exact hy)
        go_wp2_with fail
        go_ret
        exact ⟨by rw [E.out]; rfl, Below.refl _ _⟩
  · have h8i : (n : Int) > 8 := by omega
    have E := Lib.hid (show R = false by
      rw [← HR.out]
      cases hf : fitB l with
      | false => rfl
      | true => exact absurd ((fitB_iff l).1 hf).1 (by rw [HN.out]; exact h8))
    clear h ho hR hn h8
    go_enter Tryd.func10, Tryd.ntmps10
    go_wp2_with fail
    go_ret
    exact ⟨by rw [E.out]; rfl, Below.refl _ _⟩
end Go.Proofs.YtpbkmkcfhkdjjaaDoor

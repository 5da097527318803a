/- Package value as landed: decodeValue, DecodeKey. -/
import Derived.Test.YtpbkmkcfhkdjjaaDoorVvl
namespace Go.Proofs.YtpbkmkcfhkdjjaaDoor
open Go.RowKit Dig
set_option linter.unusedVariables false

theorem wp_litZ {w : World} {ops : Array Oper} {rest : List Oper} {o : Oper} {a : Act} {Q : Exit → Act → World → Prop} (hg : o.guard = none) (x : Operand) (ho : o.op = .buildSlice 33 1 #[(0, x)]) (hx : a.eval x = .int .u8 0)
    (h : ∀ w', w'.cell? ⟨w.heap.size, 0, none⟩ = some (.int .u8 0) → Below w.heap.size w w' → wpList Tryd.prog ops Q rest (a.put o.dst (.slice (some ⟨w.heap.size, 0, none⟩) 1 1)) w') : wpList Tryd.prog ops Q (o :: rest) a w := by
  refine wpList_plain hg fun K hK => ?_
  have hrun := exec_litB (w := w) (ev := a.eval) (o := o) x 0 0 rfl ho hx
  unfold Oper.wp
  rw [hrun]
  exact hK _ _ (h _ (cell_of_row _ _ 0 _ _ (0, 0) (heap_alloc_new w _)) (one_below w _))
/-- What decodeValue finds at the front of b. -/
def DecV (b : List UInt8) (x : Vl) (n : Nat) : Prop :=
  (vldB x = true ∧ okV x ∧ OkVl x ∧ 1 ≤ n ∧ n ≤ b.length ∧ ∀ l, IsKey b l ↔ ∃ l', l = x :: l' ∧ IsKey (b.drop n) l') ∨ (vldB x = false ∧ ∀ l, ¬ IsKey b l)
/-- What decodeValue answers. -/
def DecE (w : World) (b : List UInt8) (e : Ending) (w' : World) : Prop := ∃ (x : Vl) (m : Nat), e = .returned (.tuple #[vV x, .int .i64 (m : Int)]) ∧ DecV b x m ∧ x.2.2.length ≤ 1000000 ∧ Below w.heap.size w w'
theorem okVl_of {x : Vl} (h : okV x) : OkVl x := by
  obtain ⟨t, n, s⟩ := x
  refine ⟨?_, h.2, ?_⟩
  · rcases h.1 with ⟨e, _⟩ | ⟨e, _⟩
    · obtain rfl : t = 1 := e
      exact ⟨show (-9223372036854775808 : Int) ≤ 1 by decide, show (1 : Int) ≤ 9223372036854775807 by decide⟩
    · obtain rfl : t = 2 := e
      exact ⟨show (-9223372036854775808 : Int) ≤ 2 by decide, show (2 : Int) ≤ 9223372036854775807 by decide⟩
  · rcases h.1 with ⟨_, e⟩ | ⟨_, _, e, _⟩
    · obtain rfl : s = [] := e
      exact Nat.zero_le _
    · exact Nat.le_trans (show s.length ≤ 64 from e) (by decide)
theorem decV_one {t : List UInt8} (h : 8 ≤ t.length) : DecV (1 :: t) (1, dnI (vW (t.take 8)), []) 9 := by
  have hk : (t.take 8).length = 8 := by rw [List.length_take]; omega
  have hlt := vW_lt (t.take 8)
  rw [hk] at hlt
  have ok : okV (1, dnI (vW (t.take 8)), []) := ⟨.inl ⟨rfl, rfl⟩, (dnI_range hlt).1, (dnI_range hlt).2⟩
  refine .inl ⟨(vldB_iff _).2 ok.1, ok, okVl_of ok, by decide, by rw [List.length_cons]; omega, fun l => ?_⟩
  rw [isKey_one]
  constructor
  · rintro ⟨_, l', e, h2⟩
    exact ⟨l', e, h2⟩
  · rintro ⟨l', e, h2⟩
    exact ⟨h, l', e, h2⟩
theorem decV_two {t : List UInt8} {k : Nat} (hk : t[k]? = some 0) (hn : ∀ i, i < k → t[i]? ≠ some 0) : DecV (2 :: t) (2, 0, t.take k) (k + 2) := by
  have hlt := (List.getElem?_eq_some_iff.1 hk).1
  cases hv : vldB (2, 0, t.take k) with
  | true =>
    have hvv := (vldB_iff _).1 hv
    have ok : okV (2, 0, t.take k) := ⟨hvv, show (-9223372036854775808 : Int) ≤ 0 by decide, show (0 : Int) ≤ 9223372036854775807 by decide⟩
    refine .inl ⟨hv, ok, okVl_of ok, by omega, by rw [List.length_cons]; omega, fun l => ?_⟩
    rw [isKey_two_at hk hn]
    constructor
    · rintro ⟨_, l', e, h2⟩
      exact ⟨l', e, h2⟩
    · rintro ⟨l', e, h2⟩
      exact ⟨hvv, l', e, h2⟩
  | false =>
    refine .inr ⟨hv, fun l h => ?_⟩
    rw [isKey_two_at hk hn] at h
    rw [(vldB_iff _).2 h.1] at hv
    cases hv
theorem decV_no {b : List UInt8} (h : ∀ l, ¬ IsKey b l) (n : Nat) : DecV b (0, 0, []) n := .inr ⟨by decide, h⟩
set_option maxRecDepth 20000 in
set_option maxHeartbeats 8000000 in
theorem decodeValue_c {w : World} {b off n c : Nat} {c0 : UInt8} {t : List UInt8} (h : Byt w (.slice (some ⟨b, off, none⟩) n c) (c0 :: t)) (hl : t.length ≤ 999999) : Calls Tryd.prog 39 #[.slice (some ⟨b, off, none⟩) n c] w (DecE w (c0 :: t)) := by
  have hb := h.bounds
  have H := Lib.hid h
  obtain ⟨b', off', e, hbl, hcells⟩ := h.cells (by simp)
  obtain ⟨rfl, rfl⟩ : b = b' ∧ off = off' := by
    injection e with e
    injection e with e1 e2
    exact ⟨e1, e2⟩
  have hc0 := hcells 0 (by simp)
  rw [Nat.add_zero] at hc0
  have HC0 := Lib.hid (show w.cell? ⟨b, off, none⟩ = some (.int .u8 (c0.toNat : Int)) from hc0)
  have HBL := Lib.hid hbl
  have hn : t.length + 1 = n := by have := hb.1; rw [List.length_cons] at this; omega
  have N1 := Lib.hid (show 1 ≤ n ∧ n ≤ c by omega)
  have HT := Lib.hid hl
  have HNT := Lib.hid hn
  have TB : Hid (∀ w', Below w.heap.size w w' → Byt w' (.slice (tailB (some ⟨b, off, none⟩) c 1) (n - 1) (c - 1)) t) := Lib.hid fun w' hB => (H.out.below hB).tail (by omega)
  clear h hcells hc0 hbl e
  have hni : (n : Int) ≤ 1000000 := by omega
  have hnp : 0 < n := by omega
  by_cases h1 : c0 = 1
  · subst h1
    by_cases h9 : 8 < n
    · have h9i : (n : Int) > 8 := by omega
      have N9 := Lib.hid (show 9 ≤ n ∧ n ≤ c by omega)
      have D1 := Lib.hid (decV_one (t := t) (by omega))
      have DI := Lib.hid (fun w' (hB : Below w.heap.size w w') => decodeInt_c (((TB.out w' hB).cut (k := 8) (by omega))) (by rw [List.length_take]; omega))
      clear hb hl hn h9
      go_enter Tryd.func39, Tryd.ntmps39
      go_wp2_with (first | ((with_reducible refine wp_allocV 2 rfl rfl rfl ?_); intro w1 hv hb; have V2 := Lib.hid hv; have B2 := Lib.hid hb; clear hv hb; have k0 : w1.cell? ⟨b, off, none⟩ = some (.int .u8 1) := (B2.out.cell (p := ⟨b, off, none⟩) HBL.out).trans HC0.out) | ((with_reducible refine wp_midC rfl 17 (.const (.int .i64 1)) (.const (.int .i64 9)) (A := some ⟨b, off, none⟩) (n := n) (c := c) (k := 1) (m := 9) rfl ?hx rfl rfl ?hk ?hm ?hn ?_); (case hx => rfl); (case hk => decide); (case hm => exact N9.out.1); (case hn => exact N9.out.2)))
      refine (DI.out _ B2.out).mono ?_
      rintro e w2 ⟨rfl, rfl⟩
      go_wp2_with fail
      refine (newInt_c _ _).mono ?_
      rintro e w3 ⟨rfl, hB⟩
      have V2 := Lib.hid (V2.out.below hB)
      have BW := Lib.hid (below_then B2.out hB)
      clear hB
      go_wp2_with (((with_reducible refine wp_storeV rfl 2 20 rfl w.heap.size (1, dnI (vW (t.take 8)), []) (0, 0, []) ?hx ?hy V2.out ?_); (case hx => rfl); (case hy => rfl); intro w4 hv hb; have V2 := Lib.hid hv; have G2 := Lib.hid hb; clear hv hb))
      refine bodyPost_ret (v := .tuple #[vV (1, dnI (vW (t.take 8)), []), .int .i64 9]) (by rw [res_two (p := 2) (u := 3) rfl _ rfl V2.out]; rfl) rfl ?_
      exact ⟨_, 9, rfl, D1.out, Nat.zero_le _, below_store BW.out G2.out (Nat.le_refl _) BW.out.size⟩
    · have h9i : ¬ (n : Int) > 8 := by omega
      have D0 := Lib.hid (decV_no (b := 1 :: t) (fun l h => by have := (isKey_one.1 h).1; omega) 0)
      clear hb hl hn h9
      go_enter Tryd.func39, Tryd.ntmps39
      go_wp2_with (first | ((with_reducible refine wp_allocV 2 rfl rfl rfl ?_); intro w1 hv hb; have V2 := Lib.hid hv; have B2 := Lib.hid hb; clear hv hb; have k0 : w1.cell? ⟨b, off, none⟩ = some (.int .u8 1) := (B2.out.cell (p := ⟨b, off, none⟩) HBL.out).trans HC0.out) | ((with_reducible refine wp_storeV rfl 2 41 rfl w.heap.size (0, 0, []) (0, 0, []) ?hx ?hy V2.out ?_); (case hx => rfl); (case hy => rfl); intro w4 hv hb; have V2 := Lib.hid hv; have G2 := Lib.hid hb; clear hv hb))
      refine bodyPost_ret (v := .tuple #[vV (0, 0, []), .int .i64 0]) (by rw [res_two (p := 2) (u := 3) rfl _ rfl V2.out]; rfl) rfl ?_
      exact ⟨_, 0, rfl, D0.out, Nat.zero_le _, below_store B2.out G2.out (Nat.le_refl _) B2.out.size⟩
  · by_cases h2 : c0 = 2
    · subst h2
      obtain ⟨o', eT⟩ := tailB_some (b := b) (off := off) (c := c) (k := 1)
      have CC := Lib.hid (fun w' g (hB : Below w.heap.size w w') (hz : w'.cell? ⟨g, 0, none⟩ = some (.int .u8 0)) => cut0_c (w := w') (d := 1) (by have := TB.out w' hB; rw [eT] at this; exact this) (by omega) hz)
      have ET := Lib.hid eT
      clear hb hl hn h1
      go_enter Tryd.func39, Tryd.ntmps39
      go_wp2_with (first | ((with_reducible refine wp_allocV 2 rfl rfl rfl ?_); intro w1 hv hb; have V2 := Lib.hid hv; have B2 := Lib.hid hb; clear hv hb; have k0 : w1.cell? ⟨b, off, none⟩ = some (.int .u8 2) := (B2.out.cell (p := ⟨b, off, none⟩) HBL.out).trans HC0.out) | ((with_reducible refine wp_fromC rfl 27 (.const (.int .i64 1)) (A := some ⟨b, off, none⟩) (n := n) (c := c) (k := 1) rfl ?hx rfl ?hk ?hn ?_); (case hx => rfl); (case hk => exact N1.out.1); (case hn => exact N1.out.2)) | ((with_reducible refine wp_litZ rfl (.const (.int .u8 0)) rfl rfl ?_); intro w2 hz hb; have Z2 := Lib.hid hz; have BZ := Lib.hid hb; clear hz hb))
      refine (CC.out _ _ (below_then B2.out BZ.out) Z2.out).mono ?_
      rintro e w3 ⟨hr, hB⟩
      have V2 := Lib.hid ((V2.out.below BZ.out).below hB)
      have BW := Lib.hid (below_then (below_then B2.out BZ.out) hB)
      rcases hr with ⟨k, u4, r4, hk, a1, a2, rfl, hu⟩ | ⟨hno, u4, r4, rfl⟩
      · have U4 := Lib.hid (hu.below hB)
        have D2 := Lib.hid (decV_two a1 a2)
        have HK := Lib.hid hk
        obtain ⟨A4, c4, rfl⟩ := hu.form
        have e4 : (t.take k).length = k := by rw [List.length_take]; omega
        rw [e4] at U4 ⊢
        have hki : (k : Int) ≤ 1000000 := by have := HT.out; omega
        clear hB hu a1 a2 hk
        go_wp2_with ((with_reducible refine wp_stringB rfl (.tmp 35) rfl ?u (t.take k) ?hx ?ht ?_); (case u => exact .slice A4 k c4); (case hx => rfl); (case ht => exact U4.out))
        refine (newString_c _ _).mono ?_
        rintro e w5 ⟨rfl, hB⟩
        have V2 := Lib.hid (V2.out.below hB)
        have BW := Lib.hid (below_then BW.out hB)
        clear hB
        go_wp2_with (((with_reducible refine wp_storeV rfl 2 37 rfl w.heap.size (2, 0, t.take k) (0, 0, []) ?hx ?hy V2.out ?_); (case hx => rfl); (case hy => rfl); intro w6 hv hb; have V2 := Lib.hid hv; have G2 := Lib.hid hb; clear hv hb))
        refine bodyPost_ret (v := .tuple #[vV (2, 0, t.take k), .int .i64 ((k + 2 : Nat) : Int)]) (by rw [res_two (p := 2) (u := 3) rfl _ rfl V2.out]; rfl) rfl ?_
        exact ⟨_, k + 2, rfl, D2.out, by show (t.take k).length ≤ 1000000; rw [e4]; have := HT.out; have := HK.out; omega, below_store BW.out G2.out (Nat.le_refl _) BW.out.size⟩
      · have D0 := Lib.hid (decV_no (b := 2 :: t) (fun l h => isKey_two_none hno h) 0)
        clear hB hno
        go_wp2_with (((with_reducible refine wp_storeV rfl 2 41 rfl w.heap.size (0, 0, []) (0, 0, []) ?hx ?hy V2.out ?_); (case hx => rfl); (case hy => rfl); intro w6 hv hb; have V2 := Lib.hid hv; have G2 := Lib.hid hb; clear hv hb))
        refine bodyPost_ret (v := .tuple #[vV (0, 0, []), .int .i64 0]) (by rw [res_two (p := 2) (u := 3) rfl _ rfl V2.out]; rfl) rfl ?_
        exact ⟨_, 0, rfl, D0.out, Nat.zero_le _, below_store BW.out G2.out (Nat.le_refl _) BW.out.size⟩
    · have D0 := Lib.hid (decV_no (b := c0 :: t) (fun l h => isKey_bad h1 h2 h) 0)
      have e1 : ((c0.toNat : Int) == 1) = false := by
        rw [beq_eq_false_iff_ne]
        intro e
        exact h1 (UInt8.toNat_inj.1 (show c0.toNat = 1 by omega))
      have e2 : ((c0.toNat : Int) == 2) = false := by
        rw [beq_eq_false_iff_ne]
        intro e
        exact h2 (UInt8.toNat_inj.1 (show c0.toNat = 2 by omega))
      clear hb hl hn h1 h2
      go_enter Tryd.func39, Tryd.ntmps39
      go_wp2_with (first | ((with_reducible refine wp_allocV 2 rfl rfl rfl ?_); intro w1 hv hb; have V2 := Lib.hid hv; have B2 := Lib.hid hb; clear hv hb; have k0 : w1.cell? ⟨b, off, none⟩ = some (.int .u8 (c0.toNat : Int)) := (B2.out.cell (p := ⟨b, off, none⟩) HBL.out).trans HC0.out) | ((with_reducible refine wp_storeV rfl 2 41 rfl w.heap.size (0, 0, []) (0, 0, []) ?hx ?hy V2.out ?_); (case hx => rfl); (case hy => rfl); intro w4 hv hb; have V2 := Lib.hid hv; have G2 := Lib.hid hb; clear hv hb))
      refine bodyPost_ret (v := .tuple #[vV (0, 0, []), .int .i64 0]) (by rw [res_two (p := 2) (u := 3) rfl _ rfl V2.out]; rfl) rfl ?_
      exact ⟨_, 0, rfl, D0.out, Nat.zero_le _, below_store B2.out G2.out (Nat.le_refl _) B2.out.size⟩
end Go.Proofs.YtpbkmkcfhkdjjaaDoor

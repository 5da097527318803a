/- The walk of the law RationalText: it returns true and leaves what was there. -/
import Derived.Test.YtgjhgpfjeoeojaaGreatDoorBown
import Derived.Test.YtgjhgpfjeoeojaaGreatDoorKnow2
import Derived.Test.YtgjhgpfjeoeojaaGreatDoorRefL
import Derived.Test.YtgjhgpfjeoeojaaGreatDoorPlans
import Derived.Test.YtgjhgpfjeoeojaaGreatDoorRefX
namespace Go.Proofs.YtgjhgpfjeoeojaaGreatDoor
set_option linter.unusedSimpArgs false
open Go.RowKit Dig
set_option linter.unusedVariables false

theorem dtext_facts (n : Nat) : (∀ c ∈ dtext n, isDig c = true) ∧ dec (dtext n) = n ∧ 0 < (dtext n).length := by
  obtain ⟨h1, h2, _⟩ := dtext_spec n
  refine ⟨h1, h2, ?_⟩
  rcases Nat.eq_zero_or_pos (dtext n).length with h0 | h0
  · have := List.eq_nil_of_length_eq_zero h0
    unfold dtext at this
    split at this
    · cases this
    · obtain ⟨_, _, c, t, e, _⟩ := dtextF_spec n n (Nat.le_refl _) (by omega)
      rw [e] at this
      cases this
  · exact h0
theorem frac_bounds {w : World} {v : Value} {q : Rat} (h : FracV w v q 4) : q.num.natAbs < 4294967296 ^ 4 ∧ q.den < 4294967296 ^ 4 := by
  obtain ⟨neg, vn, vd, n, d, _, hn, hd, rfl⟩ := h
  by_cases h0 : n = 0 ∨ d = 0
  · rw [(fr_eq_zero neg n d).2 h0]
    exact ⟨by decide, by decide⟩
  · obtain ⟨e1, e2⟩ := fr_num neg (n := n) (d := d) (by omega)
    rw [e1, e2]
    have hs : ∀ m : Nat, (sg neg m).natAbs = m := by intro m; unfold sg; cases neg <;> simp
    rw [hs]
    exact ⟨Nat.lt_of_le_of_lt (Nat.div_le_self _ _) hn.lt, Nat.lt_of_le_of_lt (Nat.div_le_self _ _) hd.lt⟩
theorem text_size {w : World} {v : Value} {q : Rat} {t : ByteArray} (h : FracV w v q 4) (ht : chars t = ftext q) : t.size ≤ 120 := by
  obtain ⟨h1, h2⟩ := frac_bounds h
  have k1 := dtext_length _ 4 h1 (by omega)
  have k2 := dtext_length _ 4 h2 (by omega)
  have hl := chars_length t
  rw [ht] at hl
  rw [← hl]
  unfold ftext
  simp only [List.length_append]
  split <;> split <;> simp <;> omega
theorem dtext_ok (n : Nat) : okd (dtext n) = true ∧ dec (dtext n) = n ∧ (∀ c ∈ dtext n, isSep c = false) ∧ (dtext n).head? ≠ some 45 := by
  obtain ⟨h1, h2, h3⟩ := dtext_facts n
  refine ⟨okd_of h1 h3, h2, fun c hc => ?_, fun h => ?_⟩
  · cases hs : isSep c with
    | false => rfl
    | true => have := h1 c hc; rw [isDig_sep hs] at this; cases this
  · have := h1 45 (List.mem_of_mem_head? h)
    cases this
theorem ftext_sign (q : Rat) : signOf (ftext q) = decide (q.num < 0) ∧ restOf (ftext q) = dtext q.num.natAbs ++ (if q.den = 1 then [] else 47 :: dtext q.den) := by
  obtain ⟨h1, _, _, h4⟩ := dtext_ok q.num.natAbs
  have hne : dtext q.num.natAbs ≠ [] := fun e => by rw [e] at h1; cases h1
  by_cases h : q.num < 0
  · have hs : signOf (ftext q) = true := by unfold signOf ftext; rw [if_pos h]; rfl
    refine ⟨by rw [hs]; simp [h], ?_⟩
    unfold restOf
    rw [hs, if_pos rfl]
    unfold ftext
    rw [if_pos h]
    rfl
  · have hs : signOf (ftext q) = false := by
      unfold signOf ftext
      rw [if_neg h, List.nil_append]
      cases hd : dtext q.num.natAbs with
      | nil => exact absurd hd hne
      | cons c t =>
        rw [hd] at h4
        simpa using h4
    refine ⟨by rw [hs]; simp [h], ?_⟩
    unfold restOf
    rw [hs, if_neg (by decide)]
    unfold ftext
    rw [if_neg h, List.nil_append]
theorem ftext_body (q : Rat) : bodyOf (restOf (ftext q)) = (true, q.num.natAbs, q.den) := by
  rw [(ftext_sign q).2]
  obtain ⟨h1, h2, h3, _⟩ := dtext_ok q.num.natAbs
  obtain ⟨k1, k2, k3, _⟩ := dtext_ok q.den
  by_cases h : q.den = 1
  · rw [if_pos h, List.append_nil, body_none h3, h1, h2, h]
  · rw [if_neg h, body_slash rfl h3, h1, k1, h2, k2]
    rfl
theorem ftext_parse (q : Rat) : ferr (ftext q) = 0 ∧ fval (ftext q) = q := by
  refine ⟨?_, ?_⟩
  · unfold ferr
    rw [ftext_body q]
    simp [q.den_nz]
  · unfold fval
    rw [ftext_body q, (ftext_sign q).1]
    exact fr_self q
theorem ferr_two {l : List UInt8} (h : ferr l ≠ 0) : ferr l = 2 ∨ ferr l = 20 := by
  unfold ferr at *
  split
  · exact .inl rfl
  · split
    · exact .inr rfl
    · rename_i h1 h2; rw [if_neg h1, if_neg h2] at h; exact absurd rfl h
theorem mkn_len_le (l : List Nat) : (mkn l).length ≤ l.length := by simp [mkn]; omega
theorem exec_eqStr {ev : Operand → Value} {o : Oper} {w : World} (t s : Tmp) (x : ByteArray) (ho : o.op = .binOp .eql 9 (.tmp t) (.tmp s) 9) (hx : ev (.tmp t) = .string x) (hy : ev (.tmp s) = .string x) :
    (execOp ev o).run Tryz.prog w = .ok (.value (.bool true)) w := by
  unfold execOp
  simp only [ho, hx, hy]
  go_simp
set_option maxHeartbeats 4000000 in
theorem text_long (w : World) (v1 v2 : Value) (s : ByteArray) (l1 l2 : List Nat) {pa : Bool} (n1 : Num w v1 l1) (n2 : Num w v2 l2) (hl : 4 < l1.length ∨ 4 < l2.length ∨ 60 < s.size) :
    Calls Tryz.prog 4 #[.bool pa, v1, v2, .string s] w (RVal w (.bool true)) := by
  obtain ⟨A1, c1, rfl⟩ := n1.form
  obtain ⟨A2, c2, rfl⟩ := n2.form
  generalize l1.length = m1 at *
  generalize l2.length = m2 at *
  by_cases h1 : 4 < m1
  · have e1 : ((4 : Int) < m1) = True := by simp; omega

    go_enter Tryz.func4, Tryz.ntmps4
    go_wp2_with fail
    go_ret
    exact ⟨rfl, Below.refl _ _⟩
  by_cases h2 : 4 < m2
  · have e1 : ((4 : Int) < m1) = False := by simp; omega
    have e2 : ((4 : Int) < m2) = True := by simp; omega

    go_enter Tryz.func4, Tryz.ntmps4
    go_wp2_with fail
    go_ret
    exact ⟨rfl, Below.refl _ _⟩
  · have e1 : ((4 : Int) < m1) = False := by simp; omega
    have e2 : ((4 : Int) < m2) = False := by simp; omega
    have e3 : ((60 : Int) < s.size) = True := by simp; omega

    go_enter Tryz.func4, Tryz.ntmps4
    go_wp2_with fail
    go_ret
    exact ⟨rfl, Below.refl _ _⟩
set_option maxRecDepth 20000 in
set_option maxHeartbeats 64000000 in
theorem text_short (w : World) (v1 v2 : Value) (s : ByteArray) (l1 l2 : List Nat) {pa : Bool} (n1 : Num w v1 l1) (n2 : Num w v2 l2) (hl1 : l1.length ≤ 4) (hl2 : l2.length ≤ 4) (hs : s.size ≤ 60) (hM : MaxL w) :
    Calls Tryz.prog 4 #[.bool pa, v1, v2, .string s] w (RVal w (.bool true)) := by
  have RW1 := Lib.hid (raw_v w pa v1 v2 l1 l2 n1 n2)
  obtain ⟨A1, c1, rfl⟩ := n1.form
  obtain ⟨A2, c2, rfl⟩ := n2.form
  have e1 : ((4 : Int) < l1.length) = False := by simp; omega
  have e2 : ((4 : Int) < l2.length) = False := by simp; omega
  have e3 : ((60 : Int) < s.size) = False := by simp; omega
  have y1 := Nat.le_trans (mkn_len_le l1) hl1
  have y2 := Nat.le_trans (mkn_len_le l2) hl2
  obtain ⟨x1, hx1⟩ : ∃ x, mkn l1 = x := ⟨_, rfl⟩
  obtain ⟨x2, hx2⟩ : ∃ x, mkn l2 = x := ⟨_, rfl⟩
  rw [hx1, hx2] at RW1
  rw [hx1] at y1
  rw [hx2] at y2
  clear hx1 hx2
  generalize l1.length = m1 at *
  generalize l2.length = m2 at *
  have Y1 := Lib.hid y1
  have Y2 := Lib.hid y2
  clear n1 n2 y1 y2
  go_enter Tryz.func4, Tryz.ntmps4
  go_wp2_with fail
  refine (RW1.out).mono ?_
  rintro e w1 ⟨vn, vd, rfl, hv1, hv2, hB1⟩
  clear RW1 e1 e2 e3 hl1 hl2
  obtain ⟨B1, j1, rfl⟩ := hv1.form
  obtain ⟨B2, j2, rfl⟩ := hv2.form
  have hfa : FracV w1 (.agg #[.bool pa, .slice B1 x1.length j1, .slice B2 x2.length j2]) (fr pa (val x1) (val x2)) 4 := FracV.of ⟨_, hv1, rfl, Y1.out⟩ ⟨_, hv2, rfl, Y2.out⟩
  generalize fr pa (val x1) (val x2) = q at *
  clear hv1 hv2 Y1 Y2
  generalize x1.length = i1 at *
  generalize x2.length = i2 at *
  obtain ⟨W, g0, ew, eg, hBW, hF0⟩ := var1 w1 pa (.slice B1 i1 j1) (.slice B2 i2 j2)
  have hfa := hfa.below hBW
  have HB := below_then hB1 hBW
  clear hB1 hBW
  have FF1 := fun w1 (h : FracV w1 (.agg #[.bool pa, .slice B1 i1 j1, .slice B2 i2 j2]) q 4) => formatf_v h (by omega) (by omega)
  have FF2 := fun w1 (h : FracV w1 (.agg #[.bool pa, .slice B1 i1 j1, .slice B2 i2 j2]) q 4) => fracFormat_v h (by omega) (by omega)
  obtain ⟨tx, htx⟩ : ∃ t : ByteArray, ⟨(ftext q).toArray⟩ = t := ⟨_, rfl⟩
  have hch : chars tx = ftext q := by rw [← htx, chars_mk]
  have HTX : ferr (chars tx) = 0 ∧ tx.size ≤ 120 ∧ fval (chars tx) = q := ⟨by rw [hch]; exact (ftext_parse q).1, text_size hfa hch, by rw [hch]; exact (ftext_parse q).2⟩
  rw [htx] at FF1 FF2
  have FF1 := Lib.hid FF1
  have FF2 := Lib.hid FF2
  have HTX := Lib.hid HTX
  clear htx hch
  by_cases hz : ferr (chars s) = 0
  · skip
    have PA := Lib.hid (fun w1 (hB : Below w.heap.size w w1) => (parsef_v w1 s (by omega) (hM.below hB)).mono fun e w' h => h.1 hz)
    have PB := Lib.hid (fun w1 (_ : Below w.heap.size w w1) => (fracParse_v w1 s (by omega)).mono fun e w' h => h.1 hz)
    clear hz
    go_wp2_with fail
    refine (PA.out _ HB).mono ?_
    rintro e w4 ⟨v1, rfl, hb, hB⟩
    obtain ⟨b1, C1, x1, y1, C1', x1', y1', rfl, _, _, _⟩ := hb.parts
    obtain ⟨W4, g1, ew1, eg1, hBW, hF1⟩ := var1 w4 b1 (.slice C1 x1 y1) (.slice C1' x1' y1')
    have hb := hb.below hBW
    have hB := below_then hB hBW
    clear hBW
    have hfa := hfa.below hB
    have hF0 := hF0.below hB
    have HB := below_then HB hB
    clear hB
    go_wp2_with fail
    refine (PB.out _ HB).mono ?_
    rintro e w5 ⟨v2, rfl, hc, hB⟩
    obtain ⟨b2, C2, x2, y2, C2', x2', y2', rfl, _, _, _⟩ := hc.parts
    obtain ⟨W5, g2, ew2, eg2, hBW, hF2⟩ := var1 w5 b2 (.slice C2 x2 y2) (.slice C2' x2' y2')
    have hc := hc.below hBW
    have hB := below_then hB hBW
    clear hBW
    have hfa := hfa.below hB
    have hF0 := hF0.below hB
    have hF1 := hF1.below hB
    have hb := hb.below hB
    have HB := below_then HB hB
    clear hB
    have FM := Lib.hid (FF1.out _ hfa)
    obtain ⟨c0, c1, c2⟩ := hF0.cells
    go_wp2_with fail
    refine (FM.out).mono ?_
    rintro e w6 ⟨rfl, hB⟩
    clear c0 c1 c2 FM
    have hfa := hfa.below hB
    have hF0 := hF0.below hB
    have hF1 := hF1.below hB
    have hF2 := hF2.below hB
    have hb := hb.below hB
    have hc := hc.below hB
    have HB := below_then HB hB
    clear hB
    have PD := Lib.hid (fun w1 (hB : Below w.heap.size w w1) => (parsef_v w1 tx HTX.out.2.1 (hM.below hB)).mono fun e w' h => h.1 HTX.out.1)
    go_wp2_with fail
    refine (PD.out _ HB).mono ?_
    rintro e w7 ⟨v3, rfl, hd, hB⟩
    obtain ⟨b3, C3, x3, y3, C3', x3', y3', rfl, _, _, _⟩ := hd.parts
    obtain ⟨W7, g3, ew3, eg3, hBW, hF3⟩ := var1 w7 b3 (.slice C3 x3 y3) (.slice C3' x3' y3')
    have hd := hd.below hBW
    have hB := below_then hB hBW
    clear hBW
    have hfa := hfa.below hB
    have hF0 := hF0.below hB
    have hF1 := hF1.below hB
    have hF2 := hF2.below hB
    have hb := hb.below hB
    have hc := hc.below hB
    have HB := below_then HB hB
    clear hB
    rw [HTX.out.2.2] at hd
    clear PA PB PD
    go_wp2_with fail
    generalize W7 = w8 at *
    refine wp_region_plan (S := fun w' => Below w8.heap.size w8 w') [(0, true), (1, true), (2, false), (3, true), (4, true), (5, true), (6, true), (7, false), (8, true), (9, true), (10, true), (11, true), (12, true), (13, true), (14, true), (15, true), (16, true), (17, true), (18, true), (19, true), (20, true), (21, false), (22, false), (23, true), (24, true), (25, false), (26, true), (27, true)] (by kernel_rfl) (by kernel_rfl) (by kernel_rfl) (by kernel_rfl) (fun _ _ d _ _ h => by cases d <;> exact h) (Below.refl _ _).drew ?_
    have hK : Below w8.heap.size w8 w8.drew := (Below.refl _ _).drew
    refine wkS_take (some 51) (.string tx) (by kernel_rfl) (by kernel_rfl) (by kernel_rfl) (fun w hS => by kernel_rfl) ?_
    simp only [put_lit, put_non, List.set_cons_zero, List.set_cons_succ]
    refine wkS_take (some 52) (.agg #[.bool pa, .slice B1 i1 j1, .slice B2 i2 j2]) (by kernel_rfl) (by kernel_rfl) (by kernel_rfl) (fun w hS => exec_load3 9 (hF0.below hS) (by kernel_rfl) (by kernel_rfl)) ?_
    simp only [put_lit, put_non, List.set_cons_zero, List.set_cons_succ]
    refine wkS_call (some 53) 34 #[.agg #[.bool pa, .slice B1 i1 j1, .slice B2 i2 j2]] (by kernel_rfl) (by kernel_rfl) (by kernel_rfl) (fun w => by kernel_rfl) ?_
    refine (FF2.out _ (hfa.below hK)).mono ?_
    rintro e u1 ⟨rfl, hB⟩
    refine ⟨_, rfl, below_then hK hB, ?_⟩
    have hK := below_then hK hB
    clear hB
    simp only [put_lit, put_non, List.set_cons_zero, List.set_cons_succ]
    refine wkS_take (some 54) (.bool true) (by kernel_rfl) (by kernel_rfl) (by kernel_rfl) (fun w hS => exec_eqStr 51 53 tx (by kernel_rfl) (by kernel_rfl) (by kernel_rfl)) ?_
    simp only [put_lit, put_non, List.set_cons_zero, List.set_cons_succ]
    refine wkS_take (some 55) (.bool true) (by kernel_rfl) (by kernel_rfl) (by kernel_rfl) (fun w hS => by kernel_rfl) ?_
    simp only [put_lit, put_non, List.set_cons_zero, List.set_cons_succ]
    refine wkS_take (some 56) (.agg #[.bool b1, .slice C1 x1 y1, .slice C1' x1' y1']) (by kernel_rfl) (by kernel_rfl) (by kernel_rfl) (fun w hS => exec_load3 10 (hF1.below hS) (by kernel_rfl) (by kernel_rfl)) ?_
    simp only [put_lit, put_non, List.set_cons_zero, List.set_cons_succ]
    refine wkS_take (some 57) (.agg #[.bool b2, .slice C2 x2 y2, .slice C2' x2' y2']) (by kernel_rfl) (by kernel_rfl) (by kernel_rfl) (fun w hS => exec_load3 12 (hF2.below hS) (by kernel_rfl) (by kernel_rfl)) ?_
    simp only [put_lit, put_non, List.set_cons_zero, List.set_cons_succ]
    refine wkS_call (some 58) 11 #[.agg #[.bool b1, .slice C1 x1 y1, .slice C1' x1' y1'], .agg #[.bool b2, .slice C2 x2 y2, .slice C2' x2' y2']] (by kernel_rfl) (by kernel_rfl) (by kernel_rfl) (fun w => by kernel_rfl) ?_
    refine (same_ft (hb.below hK) (hc.below hK) (rfl)).mono ?_
    rintro e u2 ⟨rfl, hB⟩
    refine ⟨_, rfl, below_then hK hB, ?_⟩
    have hK := below_then hK hB
    clear hB
    simp only [put_lit, put_non, List.set_cons_zero, List.set_cons_succ]
    refine wkS_take (some 59) (.bool true) (by kernel_rfl) (by kernel_rfl) (by kernel_rfl) (fun w hS => by kernel_rfl) ?_
    simp only [put_lit, put_non, List.set_cons_zero, List.set_cons_succ]
    refine wkS_take (some 60) (.bool true) (by kernel_rfl) (by kernel_rfl) (by kernel_rfl) (fun w hS => by kernel_rfl) ?_
    simp only [put_lit, put_non, List.set_cons_zero, List.set_cons_succ]
    refine wkS_take (some 61) (.int .i64 0) (by kernel_rfl) (by kernel_rfl) (by kernel_rfl) (fun w hS => by kernel_rfl) ?_
    simp only [put_lit, put_non, List.set_cons_zero, List.set_cons_succ]
    refine wkS_take (some 62) (.int .i64 0) (by kernel_rfl) (by kernel_rfl) (by kernel_rfl) (fun w hS => by kernel_rfl) ?_
    simp only [put_lit, put_non, List.set_cons_zero, List.set_cons_succ]
    refine wkS_take (some 63) (.bool true) (by kernel_rfl) (by kernel_rfl) (by kernel_rfl) (fun w hS => by kernel_rfl) ?_
    simp only [put_lit, put_non, List.set_cons_zero, List.set_cons_succ]
    refine wkS_take (some 64) (.bool true) (by kernel_rfl) (by kernel_rfl) (by kernel_rfl) (fun w hS => by kernel_rfl) ?_
    simp only [put_lit, put_non, List.set_cons_zero, List.set_cons_succ]
    refine wkS_take (some 65) (.bool true) (by kernel_rfl) (by kernel_rfl) (by kernel_rfl) (fun w hS => by kernel_rfl) ?_
    simp only [put_lit, put_non, List.set_cons_zero, List.set_cons_succ]
    refine wkS_take (some 66) (.int .i64 0) (by kernel_rfl) (by kernel_rfl) (by kernel_rfl) (fun w hS => by kernel_rfl) ?_
    simp only [put_lit, put_non, List.set_cons_zero, List.set_cons_succ]
    refine wkS_take (some 67) (.bool true) (by kernel_rfl) (by kernel_rfl) (by kernel_rfl) (fun w hS => by kernel_rfl) ?_
    simp only [put_lit, put_non, List.set_cons_zero, List.set_cons_succ]
    refine wkS_take (some 68) (.bool true) (by kernel_rfl) (by kernel_rfl) (by kernel_rfl) (fun w hS => by kernel_rfl) ?_
    simp only [put_lit, put_non, List.set_cons_zero, List.set_cons_succ]
    refine wkS_take (some 69) (.bool true) (by kernel_rfl) (by kernel_rfl) (by kernel_rfl) (fun w hS => by kernel_rfl) ?_
    simp only [put_lit, put_non, List.set_cons_zero, List.set_cons_succ]
    refine wkS_take (some 70) (.agg #[.bool b3, .slice C3 x3 y3, .slice C3' x3' y3']) (by kernel_rfl) (by kernel_rfl) (by kernel_rfl) (fun w hS => exec_load3 15 (hF3.below hS) (by kernel_rfl) (by kernel_rfl)) ?_
    simp only [put_lit, put_non, List.set_cons_zero, List.set_cons_succ]
    refine wkS_take (some 71) (.agg #[.bool pa, .slice B1 i1 j1, .slice B2 i2 j2]) (by kernel_rfl) (by kernel_rfl) (by kernel_rfl) (fun w hS => exec_load3 9 (hF0.below hS) (by kernel_rfl) (by kernel_rfl)) ?_
    simp only [put_lit, put_non, List.set_cons_zero, List.set_cons_succ]
    refine wkS_call (some 72) 12 #[.agg #[.bool pa, .slice B1 i1 j1, .slice B2 i2 j2]] (by kernel_rfl) (by kernel_rfl) (by kernel_rfl) (fun w => by kernel_rfl) ?_
    refine (normf_v (hfa.below hK) (by omega) (by omega)).mono ?_
    rintro e u3 ⟨r1, rfl, hr1, hB⟩
    refine ⟨r1, rfl, below_then hK hB, ?_⟩
    have hK := below_then hK hB
    clear hB
    simp only [put_lit, put_non, List.set_cons_zero, List.set_cons_succ]
    refine wkS_call (some 73) 11 #[.agg #[.bool b3, .slice C3 x3 y3, .slice C3' x3' y3'], r1] (by kernel_rfl) (by kernel_rfl) (by kernel_rfl) (fun w => by kernel_rfl) ?_
    refine (same_ft (hd.below hK) hr1 (rfl)).mono ?_
    rintro e u4 ⟨rfl, hB⟩
    refine ⟨_, rfl, below_then hK hB, ?_⟩
    have hK := below_then hK hB
    have hr1 := hr1.below hB
    clear hB
    simp only [put_lit, put_non, List.set_cons_zero, List.set_cons_succ]
    refine wkS_take (some 74) (.bool true) (by kernel_rfl) (by kernel_rfl) (by kernel_rfl) (fun w hS => by kernel_rfl) ?_
    simp only [put_lit, put_non, List.set_cons_zero, List.set_cons_succ]
    refine wkS_take (some 75) (.bool true) (by kernel_rfl) (by kernel_rfl) (by kernel_rfl) (fun w hS => by kernel_rfl) ?_
    simp only [put_lit, put_non, List.set_cons_zero, List.set_cons_succ]
    clear hr1
    refine wkS_call (some 76) 30 #[] (by kernel_rfl) (by kernel_rfl) (by kernel_rfl) (fun w => by kernel_rfl) ?_
    refine (known2_v _ (hM.below (below_then HB hK))).mono ?_
    rintro e u5 ⟨rfl, hB⟩
    refine ⟨_, rfl, below_then hK hB, ?_⟩
    have hK := below_then hK hB
    clear hB
    simp only [put_lit, put_non, List.set_cons_zero, List.set_cons_succ]
    refine wkS_take (some 77) (.bool true) (by kernel_rfl) (by kernel_rfl) (by kernel_rfl) (fun w hS => by kernel_rfl) ?_
    simp only [put_lit, put_non, List.set_cons_zero, List.set_cons_succ]
    refine wkS_take (some 8) (.bool true) (by kernel_rfl) (by kernel_rfl) (by kernel_rfl) (fun w hS => by kernel_rfl) ?_
    simp only [put_lit, put_non, List.set_cons_zero, List.set_cons_succ]
    refine wkS_done ?_
    go_wp2_with fail
    go_ret
    exact ⟨rfl, below_then HB hK⟩
  · skip
    have PA := fun w1 (hB : Below w.heap.size w w1) => (parsef_v w1 s (by omega) (hM.below hB)).mono fun e w' h => h.2 hz
    have PB := fun w1 (_ : Below w.heap.size w w1) => (fracParse_v w1 s (by omega)).mono fun e w' h => h.2 hz
    have hz3 := ferr_two hz
    clear hz
    generalize ferr (chars s) = z at *
    have PA := Lib.hid PA
    have PB := Lib.hid PB
    have hz := Lib.hid hz3
    clear hz3
    go_wp2_with fail
    refine (PA.out _ HB).mono ?_
    rintro e w4 ⟨rfl, hB⟩
    have hBW : Below w4.heap.size w4 (w4.alloc (.cells #[.bool false, .slice none 0 0, .slice none 0 0] 25)) := (Below.refl _ _).alloc (Nat.le_refl _) _
    have hF1 := Fcl.new w4 false (.slice none 0 0) (.slice none 0 0)
    have hB := below_then hB hBW
    clear hBW
    have hfa := hfa.below hB
    have hF0 := hF0.below hB
    have HB := below_then HB hB
    clear hB
    go_wp2_with fail
    generalize hW4 : w4.alloc (.cells #[.bool false, .slice none 0 0, .slice none 0 0] 25) = W4 at *
    generalize hg1 : w4.heap.size = g1 at *
    clear hW4 hg1
    refine (PB.out _ HB).mono ?_
    rintro e w5 ⟨rfl, hB⟩
    have hBW : Below w5.heap.size w5 (w5.alloc (.cells #[.bool false, .slice none 0 0, .slice none 0 0] 25)) := (Below.refl _ _).alloc (Nat.le_refl _) _
    have hF2 := Fcl.new w5 false (.slice none 0 0) (.slice none 0 0)
    have hB := below_then hB hBW
    clear hBW
    have hfa := hfa.below hB
    have hF0 := hF0.below hB
    have hF1 := hF1.below hB
    have HB := below_then HB hB
    clear hB
    have FM := Lib.hid (FF1.out _ hfa)
    obtain ⟨c0, c1, c2⟩ := hF0.cells
    go_wp2_with fail
    generalize hW5 : w5.alloc (.cells #[.bool false, .slice none 0 0, .slice none 0 0] 25) = W5 at *
    generalize hg2 : w5.heap.size = g2 at *
    clear hW5 hg2
    refine (FM.out).mono ?_
    rintro e w6 ⟨rfl, hB⟩
    clear c0 c1 c2 FM
    have hfa := hfa.below hB
    have hF0 := hF0.below hB
    have hF1 := hF1.below hB
    have hF2 := hF2.below hB
    have HB := below_then HB hB
    clear hB
    have PD := Lib.hid (fun w1 (hB : Below w.heap.size w w1) => (parsef_v w1 tx HTX.out.2.1 (hM.below hB)).mono fun e w' h => h.1 HTX.out.1)
    go_wp2_with fail
    refine (PD.out _ HB).mono ?_
    rintro e w7 ⟨v3, rfl, hd, hB⟩
    obtain ⟨b3, C3, x3, y3, C3', x3', y3', rfl, _, _, _⟩ := hd.parts
    obtain ⟨W7, g3, ew3, eg3, hBW, hF3⟩ := var1 w7 b3 (.slice C3 x3 y3) (.slice C3' x3' y3')
    have hd := hd.below hBW
    have hB := below_then hB hBW
    clear hBW
    have hfa := hfa.below hB
    have hF0 := hF0.below hB
    have hF1 := hF1.below hB
    have hF2 := hF2.below hB
    have HB := below_then HB hB
    clear hB
    rw [HTX.out.2.2] at hd
    clear PA PB PD
    go_wp2_with fail
    generalize W7 = w8 at *
    have hz := hz.out
    refine wp_region_plan (S := fun w' => Below w8.heap.size w8 w') [(0, true), (1, true), (2, false), (3, true), (4, true), (5, true), (6, true), (7, false), (8, true), (9, true), (10, true), (11, true), (12, true), (13, true), (14, true), (15, true), (16, true), (17, true), (18, true), (19, true), (20, true), (21, false), (22, false), (23, true), (24, true), (25, false), (26, true), (27, true)] (by kernel_rfl) (by kernel_rfl) (by kernel_rfl) (by kernel_rfl) (fun _ _ d _ _ h => by cases d <;> exact h) (Below.refl _ _).drew ?_
    have hK : Below w8.heap.size w8 w8.drew := (Below.refl _ _).drew
    refine wkS_take (some 51) (.string tx) (by kernel_rfl) (by kernel_rfl) (by kernel_rfl) (fun w hS => by kernel_rfl) ?_
    simp only [put_lit, put_non, List.set_cons_zero, List.set_cons_succ]
    refine wkS_take (some 52) (.agg #[.bool pa, .slice B1 i1 j1, .slice B2 i2 j2]) (by kernel_rfl) (by kernel_rfl) (by kernel_rfl) (fun w hS => exec_load3 9 (hF0.below hS) (by kernel_rfl) (by kernel_rfl)) ?_
    simp only [put_lit, put_non, List.set_cons_zero, List.set_cons_succ]
    refine wkS_call (some 53) 34 #[.agg #[.bool pa, .slice B1 i1 j1, .slice B2 i2 j2]] (by kernel_rfl) (by kernel_rfl) (by kernel_rfl) (fun w => by kernel_rfl) ?_
    refine (FF2.out _ (hfa.below hK)).mono ?_
    rintro e u1 ⟨rfl, hB⟩
    refine ⟨_, rfl, below_then hK hB, ?_⟩
    have hK := below_then hK hB
    clear hB
    simp only [put_lit, put_non, List.set_cons_zero, List.set_cons_succ]
    refine wkS_take (some 54) (.bool true) (by kernel_rfl) (by kernel_rfl) (by kernel_rfl) (fun w hS => exec_eqStr 51 53 tx (by kernel_rfl) (by kernel_rfl) (by kernel_rfl)) ?_
    simp only [put_lit, put_non, List.set_cons_zero, List.set_cons_succ]
    refine wkS_take (some 55) (.bool true) (by kernel_rfl) (by kernel_rfl) (by kernel_rfl) (fun w hS => by kernel_rfl) ?_
    simp only [put_lit, put_non, List.set_cons_zero, List.set_cons_succ]
    refine wkS_take (some 56) (.agg #[.bool false, .slice none 0 0, .slice none 0 0]) (by kernel_rfl) (by kernel_rfl) (by kernel_rfl) (fun w hS => exec_load3 10 (hF1.below hS) (by kernel_rfl) (by kernel_rfl)) ?_
    simp only [put_lit, put_non, List.set_cons_zero, List.set_cons_succ]
    refine wkS_take (some 57) (.agg #[.bool false, .slice none 0 0, .slice none 0 0]) (by kernel_rfl) (by kernel_rfl) (by kernel_rfl) (fun w hS => exec_load3 12 (hF2.below hS) (by kernel_rfl) (by kernel_rfl)) ?_
    simp only [put_lit, put_non, List.set_cons_zero, List.set_cons_succ]
    refine wkS_call (some 58) 11 #[.agg #[.bool false, .slice none 0 0, .slice none 0 0], .agg #[.bool false, .slice none 0 0, .slice none 0 0]] (by kernel_rfl) (by kernel_rfl) (by kernel_rfl) (fun w => by kernel_rfl) ?_
    refine (same_zero _).mono ?_
    rintro e u2 ⟨rfl, hB⟩
    refine ⟨_, rfl, below_then hK hB, ?_⟩
    have hK := below_then hK hB
    clear hB
    simp only [put_lit, put_non, List.set_cons_zero, List.set_cons_succ]
    refine wkS_take (some 59) (.bool true) (by kernel_rfl) (by kernel_rfl) (by kernel_rfl) (fun w hS => by kernel_rfl) ?_
    simp only [put_lit, put_non, List.set_cons_zero, List.set_cons_succ]
    refine wkS_take (some 60) (.bool true) (by kernel_rfl) (by kernel_rfl) (by kernel_rfl) (fun w hS => by kernel_rfl) ?_
    simp only [put_lit, put_non, List.set_cons_zero, List.set_cons_succ]
    refine wkS_take (some 61) (.int .i64 z) (by kernel_rfl) (by kernel_rfl) (by kernel_rfl) (fun w hS => by kernel_rfl) ?_
    simp only [put_lit, put_non, List.set_cons_zero, List.set_cons_succ]
    refine wkS_take (some 62) (.int .i64 z) (by kernel_rfl) (by kernel_rfl) (by kernel_rfl) (fun w hS => by kernel_rfl) ?_
    simp only [put_lit, put_non, List.set_cons_zero, List.set_cons_succ]
    refine wkS_take (some 63) (.bool true) (by kernel_rfl) (by kernel_rfl) (by kernel_rfl) (fun w hS => by rcases hz with rfl | rfl <;> kernel_rfl) ?_
    simp only [put_lit, put_non, List.set_cons_zero, List.set_cons_succ]
    refine wkS_take (some 64) (.bool true) (by kernel_rfl) (by kernel_rfl) (by kernel_rfl) (fun w hS => by kernel_rfl) ?_
    simp only [put_lit, put_non, List.set_cons_zero, List.set_cons_succ]
    refine wkS_take (some 65) (.bool true) (by kernel_rfl) (by kernel_rfl) (by kernel_rfl) (fun w hS => by kernel_rfl) ?_
    simp only [put_lit, put_non, List.set_cons_zero, List.set_cons_succ]
    refine wkS_take (some 66) (.int .i64 0) (by kernel_rfl) (by kernel_rfl) (by kernel_rfl) (fun w hS => by kernel_rfl) ?_
    simp only [put_lit, put_non, List.set_cons_zero, List.set_cons_succ]
    refine wkS_take (some 67) (.bool true) (by kernel_rfl) (by kernel_rfl) (by kernel_rfl) (fun w hS => by kernel_rfl) ?_
    simp only [put_lit, put_non, List.set_cons_zero, List.set_cons_succ]
    refine wkS_take (some 68) (.bool true) (by kernel_rfl) (by kernel_rfl) (by kernel_rfl) (fun w hS => by kernel_rfl) ?_
    simp only [put_lit, put_non, List.set_cons_zero, List.set_cons_succ]
    refine wkS_take (some 69) (.bool true) (by kernel_rfl) (by kernel_rfl) (by kernel_rfl) (fun w hS => by kernel_rfl) ?_
    simp only [put_lit, put_non, List.set_cons_zero, List.set_cons_succ]
    refine wkS_take (some 70) (.agg #[.bool b3, .slice C3 x3 y3, .slice C3' x3' y3']) (by kernel_rfl) (by kernel_rfl) (by kernel_rfl) (fun w hS => exec_load3 15 (hF3.below hS) (by kernel_rfl) (by kernel_rfl)) ?_
    simp only [put_lit, put_non, List.set_cons_zero, List.set_cons_succ]
    refine wkS_take (some 71) (.agg #[.bool pa, .slice B1 i1 j1, .slice B2 i2 j2]) (by kernel_rfl) (by kernel_rfl) (by kernel_rfl) (fun w hS => exec_load3 9 (hF0.below hS) (by kernel_rfl) (by kernel_rfl)) ?_
    simp only [put_lit, put_non, List.set_cons_zero, List.set_cons_succ]
    refine wkS_call (some 72) 12 #[.agg #[.bool pa, .slice B1 i1 j1, .slice B2 i2 j2]] (by kernel_rfl) (by kernel_rfl) (by kernel_rfl) (fun w => by kernel_rfl) ?_
    refine (normf_v (hfa.below hK) (by omega) (by omega)).mono ?_
    rintro e u3 ⟨r1, rfl, hr1, hB⟩
    refine ⟨r1, rfl, below_then hK hB, ?_⟩
    have hK := below_then hK hB
    clear hB
    simp only [put_lit, put_non, List.set_cons_zero, List.set_cons_succ]
    refine wkS_call (some 73) 11 #[.agg #[.bool b3, .slice C3 x3 y3, .slice C3' x3' y3'], r1] (by kernel_rfl) (by kernel_rfl) (by kernel_rfl) (fun w => by kernel_rfl) ?_
    refine (same_ft (hd.below hK) hr1 (rfl)).mono ?_
    rintro e u4 ⟨rfl, hB⟩
    refine ⟨_, rfl, below_then hK hB, ?_⟩
    have hK := below_then hK hB
    have hr1 := hr1.below hB
    clear hB
    simp only [put_lit, put_non, List.set_cons_zero, List.set_cons_succ]
    refine wkS_take (some 74) (.bool true) (by kernel_rfl) (by kernel_rfl) (by kernel_rfl) (fun w hS => by kernel_rfl) ?_
    simp only [put_lit, put_non, List.set_cons_zero, List.set_cons_succ]
    refine wkS_take (some 75) (.bool true) (by kernel_rfl) (by kernel_rfl) (by kernel_rfl) (fun w hS => by kernel_rfl) ?_
    simp only [put_lit, put_non, List.set_cons_zero, List.set_cons_succ]
    clear hr1
    refine wkS_call (some 76) 30 #[] (by kernel_rfl) (by kernel_rfl) (by kernel_rfl) (fun w => by kernel_rfl) ?_
    refine (known2_v _ (hM.below (below_then HB hK))).mono ?_
    rintro e u5 ⟨rfl, hB⟩
    refine ⟨_, rfl, below_then hK hB, ?_⟩
    have hK := below_then hK hB
    clear hB
    simp only [put_lit, put_non, List.set_cons_zero, List.set_cons_succ]
    refine wkS_take (some 77) (.bool true) (by kernel_rfl) (by kernel_rfl) (by kernel_rfl) (fun w hS => by kernel_rfl) ?_
    simp only [put_lit, put_non, List.set_cons_zero, List.set_cons_succ]
    refine wkS_take (some 8) (.bool true) (by kernel_rfl) (by kernel_rfl) (by kernel_rfl) (fun w hS => by kernel_rfl) ?_
    simp only [put_lit, put_non, List.set_cons_zero, List.set_cons_succ]
    refine wkS_done ?_
    go_wp2_with fail
    go_ret
    exact ⟨rfl, below_then HB hK⟩
theorem text_walk (w : World) (v1 v2 : Value) (l1 l2 : List Nat) {pa : Bool} {s : ByteArray} (n1 : Num w v1 l1) (n2 : Num w v2 l2) (_ : s.size ≤ maxLen) (hM : MaxL w) :
    Calls Tryz.prog 4 #[.bool pa, v1, v2, .string s] w (RVal w (.bool true)) := by
  by_cases h : l1.length ≤ 4 ∧ l2.length ≤ 4 ∧ s.size ≤ 60
  · exact text_short w v1 v2 s l1 l2 n1 n2 h.1 h.2.1 h.2.2 hM
  · exact text_long w v1 v2 s l1 l2 n1 n2 (by omega)
end Go.Proofs.YtgjhgpfjeoeojaaGreatDoor

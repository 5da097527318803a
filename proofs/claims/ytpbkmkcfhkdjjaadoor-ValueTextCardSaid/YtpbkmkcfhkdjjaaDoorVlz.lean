/- The reference's Parse. -/
import Derived.Deep.DeepCutAuto
import Derived.Test.YtpbkmkcfhkdjjaaDoorVly
import Derived.Test.YtpbkmkcfhkdjjaaDoorVvj
namespace Go.Proofs.YtpbkmkcfhkdjjaaDoor
set_option linter.unusedSimpArgs false
open Go.RowKit Dig
set_option linter.unusedVariables false

/-- The result's variable and Parse's own. -/
def PS (w W : World) (g : Nat) (x : Vl) : Prop := Below w.heap.size w W ∧ w.heap.size < g ∧ VarV W w.heap.size (0, 0, []) ∧ VarV W g x
section
variable {w W W2 : World} {g : Nat} {t n : Int} {p : List UInt8} {x : Vl}
theorem PS.after (h : PS w W g x) (hB : Below W.heap.size W W2) : PS w W2 g x := ⟨below_then h.1 hB, h.2.1, h.2.2.1.below hB, h.2.2.2.below hB⟩
theorem PS.putS (h : PS w W g (t, n, p)) (r : List UInt8) : PS w (W.setCell ⟨g, 2, none⟩ (.string ⟨r.toArray⟩)) g (t, n, r) :=
  ⟨h.1.setCell (p := ⟨g, 2, none⟩) (Nat.le_of_lt h.2.1) _, h.2.1, h.2.2.1.far (by have := h.2.1; omega) _, h.2.2.2.put.1 r⟩
theorem PS.putI (h : PS w W g (t, n, p)) (k : Int) : PS w (W.setCell ⟨g, 1, none⟩ (.int .i64 k)) g (t, k, p) :=
  ⟨h.1.setCell (p := ⟨g, 1, none⟩) (Nat.le_of_lt h.2.1) _, h.2.1, h.2.2.1.far (by have := h.2.1; omega) _, h.2.2.2.put.2.1 k⟩
theorem PS.putT (h : PS w W g (t, n, p)) (k : Int) : PS w (W.setCell ⟨g, 0, none⟩ (.int .i64 k)) g (k, n, p) :=
  ⟨h.1.setCell (p := ⟨g, 0, none⟩) (Nat.le_of_lt h.2.1) _, h.2.1, h.2.2.1.far (by have := h.2.1; omega) _, h.2.2.2.put.2.2 k⟩
end
theorem unq_q (r : List UInt8) : unq (39 :: r) = 39 :: unq (r.drop 1) := by
  cases r with
  | nil => rfl
  | cons d q =>
    show (if (39 : UInt8) = 39 then 39 :: unq q else _) = _
    rw [if_pos rfl]
    rfl
theorem str_at {s : List UInt8} {j : Nat} {c : UInt8} (hc : s[j]? = some c) : ∀ h : j < (⟨s.toArray⟩ : ByteArray).size, (⟨s.toArray⟩ : ByteArray)[j]'h = c := fun h => by
  obtain ⟨hl, he⟩ := List.getElem?_eq_some_iff.1 hc
  exact (List.getElem_toArray (xs := s) (i := j) (h := by simpa using hl)).trans he
set_option maxRecDepth 20000 in
set_option maxHeartbeats 8000000 in
theorem rparse_c (w : World) (s : List UInt8) (hl : s.length ≤ 1000000) : Calls Tryd.prog 31 #[.string ⟨s.toArray⟩] w fun e w' => Below w.heap.size w w' ∧ RParseR s e := by
  obtain ⟨L, eL⟩ : ∃ q, s.length = q := ⟨_, rfl⟩
  have EL := Lib.hid eL
  have hsz : (⟨s.toArray⟩ : ByteArray).size = L := by rw [← eL]; rfl
  by_cases h130 : L ≤ 130
  case neg =>
    have hLi : (L : Int) > 130 := by omega
    have hLj : (L : Int) ≤ 1000000 := by omega
    have NO := Lib.hid (show ∀ v, ¬ IsTxt s v from fun v h => by have := (txt_len h).2; omega)
    clear hl eL h130
    go_enter Tryd.func31, Tryd.ntmps31
    go_wp2_with (first | ((with_reducible refine wp_allocV 2 rfl rfl rfl ?_); intro w1 hv hb; have V2 := Lib.hid hv; have B2 := Lib.hid hb; clear hv hb) | ((with_reducible refine wp_storeV rfl 2 14 rfl w.heap.size (0, 0, []) (0, 0, []) ?hx ?hy V2.out ?_); (case hx => rfl); (case hy => rfl); intro w2 hv hb; have V2 := Lib.hid hv; have G2 := Lib.hid hb; clear hv hb))
    refine bodyPost_ret (v := .tuple #[vV (0, 0, []), .bool false]) (by rw [res_two (p := 2) (u := 3) rfl _ rfl V2.out]; rfl) rfl ?_
    exact ⟨below_store B2.out G2.out (Nat.le_refl _) B2.out.size, .inr ⟨NO.out, rfl⟩⟩
  have L130 := Lib.hid h130
  have hLi : ¬ (L : Int) > 130 := by omega
  have hLj : (L : Int) ≤ 130 := by omega
  cases hs : s with
  | nil =>
    subst hs
    obtain rfl : L = 0 := by rw [← eL]; rfl
    have NO := Lib.hid (show ∀ v, ¬ IsTxt [] v from fun v h => by have := (txt_len h).1; simp at this)
    clear hl eL h130
    go_enter Tryd.func31, Tryd.ntmps31
    go_wp2_with (first | ((with_reducible refine wp_allocV 2 rfl rfl rfl ?_); intro w1 hv hb; have V2 := Lib.hid hv; have B2 := Lib.hid hb; clear hv hb) | ((with_reducible refine wp_storeV rfl 2 14 rfl w.heap.size (0, 0, []) (0, 0, []) ?hx ?hy V2.out ?_); (case hx => rfl); (case hy => rfl); intro w2 hv hb; have V2 := Lib.hid hv; have G2 := Lib.hid hb; clear hv hb))
    refine bodyPost_ret (v := .tuple #[vV (0, 0, []), .bool false]) (by rw [res_two (p := 2) (u := 3) rfl _ rfl V2.out]; rfl) rfl ?_
    exact ⟨below_store B2.out G2.out (Nat.le_refl _) B2.out.size, .inr ⟨NO.out, rfl⟩⟩
  | cons c0 r =>
    rw [← hs]
    have hs0 : s[0]? = some c0 := by rw [hs]; rfl
    have HS0 := Lib.hid hs
    have NE := Lib.hid (show s ≠ [] by rw [hs]; simp)
    have hne : (s == []) = false := beq_eq_false_iff_ne.2 (by rw [hs]; simp)
    have hL0 : (0 : Int) < (L : Int) := by have : L = r.length + 1 := by rw [← eL, hs]; rfl
                                           omega
    have RL : Hid (L = r.length + 1) := Lib.hid (by rw [← eL, hs]; rfl)
    have k0 := str_at hs0
    clear hl eL h130 hs hs0
    by_cases hq : c0.toNat = 39
    · have hc39 : c0 = 39 := UInt8.toNat_inj.1 hq
      subst hc39
      have CA := Lib.hid (show ∀ v, IsTxt s v → v = (2, 0, unq (r.take (r.length - 1))) from fun v h => cand_str (by rw [HS0.out] at h; exact h))
      obtain ⟨m, hm⟩ : ∃ m, r.take (r.length - 1) = m := ⟨_, rfl⟩
      rw [hm] at CA
      have ML : Hid (m.length = L - 2) := Lib.hid (by rw [← hm, List.length_take]; have := RL.out; omega)
      have MS : Hid (∀ i, i < m.length → s[i + 1]? = m[i]?) := Lib.hid (fun i hi => by
        rw [HS0.out, List.getElem?_cons_succ, ← hm, List.getElem?_take_of_lt (by rw [← hm, List.length_take] at hi; omega)])
      clear hq hm
      go_enter Tryd.func31, Tryd.ntmps31
      go_wp2_with (first | ((with_reducible refine wp_allocV 2 rfl rfl rfl ?_); intro w1 hv hb; have V2 := Lib.hid hv; have B2 := Lib.hid hb; clear hv hb; have NE1 := Lib.hid (show w.heap.size < w1.heap.size from V2.out.lt)) | ((with_reducible refine wp_allocV 4 rfl rfl rfl ?_); intro w2 hv hb; have V4 := Lib.hid hv; have B4 := Lib.hid hb; clear hv hb; have V2 := Lib.hid (V2.out.below B4.out); have BW := Lib.hid (below_then B2.out B4.out)) | ((with_reducible refine wp_storeV rfl 4 15 rfl w1.heap.size (0, 0, []) (0, 0, []) ?hx ?hy V4.out ?_); (case hx => rfl); (case hy => rfl); intro w3 hv hb; have V4 := Lib.hid hv; have G4 := Lib.hid hb; clear hv hb; have PS3 := Lib.hid (show PS w w3 w1.heap.size (0, 0, []) from ⟨below_store BW.out G4.out (Nat.le_of_lt NE1.out) BW.out.size, NE1.out, V2.out.keepB (G4.out.block w.heap.size V2.out.lt (fun e => by have := NE1.out; injection e with e; omega)), V4.out⟩); have c0' : w3.cell? ⟨w1.heap.size, 0, none⟩ = some (.int .i64 0) := V4.out.cells.1; have f0' : w3.frozen? ⟨w1.heap.size, 0, none⟩ = false := V4.out.frozen 0))
      have PS4 := Lib.hid (PS3.out.putT 2)
      generalize w3.setCell ⟨w1.heap.size, 0, none⟩ (.int .i64 2) = w4 at PS4 ⊢
      clear PS3 V2 V4 B2 B4 G4 BW c0' f0' k0
      go_loopw [5] (fun iv wr => ∃ (i : Nat) (P : List UInt8), 1 ≤ i ∧ (i ≤ L ∨ i = 1) ∧ iv = .int .i64 (i : Int) ∧ P ++ unq (m.drop (i - 1)) = unq m ∧ PS w wr w1.heap.size (2, 0, P)) (fun iv _ => L - (intOf iv).toNat)
      case atStart => exact ⟨1, [], Nat.le_refl _, .inr rfl, rfl, rfl, PS4.out⟩
      case round =>
        obtain ⟨i, P, hi1, hiL, rfl, hP, hS⟩ := hrel
        have HP := Lib.hid hP
        have HS := Lib.hid hS
        have PLm : Hid (P.length ≤ 130) := Lib.hid (by
          have h3 := congrArg List.length hP
          rw [List.length_append] at h3
          have := unq_length m
          have := ML.out
          have := L130.out
          omega)
        have hi3 : (i : Int) ≤ 200 := by have := L130.out; omega
        clear hP hS
        by_cases hi : i + 1 < L
        · have hii : (i : Int) + 1 < (L : Int) := by omega
          have hij : (i : Int) < (L : Int) := by omega
          obtain ⟨c, hc⟩ : ∃ c, s[i]? = some c := ⟨s[i]'(by rw [EL.out]; omega), List.getElem?_eq_getElem _⟩
          have HC := Lib.hid hc
          have ki := str_at hc
          have MD : Hid (m.drop (i - 1) = c :: m.drop i) := Lib.hid (by
            have h5 := MS.out (i - 1) (by rw [ML.out]; omega)
            rw [show i - 1 + 1 = i by omega, hc] at h5
            obtain ⟨h6, h7⟩ := List.getElem?_eq_some_iff.1 h5.symm
            rw [List.drop_eq_getElem_cons h6, h7, show i - 1 + 1 = i by omega])
          have HI := Lib.hid hi
          have SI : Hid (i + 1 ≤ (⟨s.toArray⟩ : ByteArray).size) := Lib.hid (by rw [hsz]; omega)
          clear hc hi
          go_upto_region 9 with fail
          refine hk_begin (S := fun W => True) 10 (by kernel_rfl) (by kernel_rfl) ?_
          have HS : Hid (PS w wr.drew w1.heap.size (2, 0, P)) := Lib.hid ⟨HS.out.1.drew, HS.out.2⟩
          generalize wr.drew = wd at *
          refine hk_take (i := 0) (some 27) (.pointer (some ⟨w1.heap.size, 2, none⟩)) (by kernel_rfl) (by kernel_rfl) (by kernel_rfl) (by kernel_rfl) (by kernel_rfl) (by kernel_rfl) (fun W hS => by kernel_rfl) (fun _ _ d _ _ h => by cases d <;> exact h) trivial ?_
          simp only [put_lit, put_non, List.set_cons_zero, List.set_cons_succ]
          refine hk_take (i := 2) (some 29) (.string ⟨s.toArray⟩) (by kernel_rfl) (by kernel_rfl) (by kernel_rfl) (by kernel_rfl) (by kernel_rfl) (by kernel_rfl) (fun W hS => by kernel_rfl) (fun _ _ d _ _ h => by cases d <;> exact h) trivial ?_
          simp only [put_lit, put_non, List.set_cons_zero, List.set_cons_succ]
          refine hk_take (i := 3) (some 30) (.int .i64 (i : Int)) (by kernel_rfl) (by kernel_rfl) (by kernel_rfl) (by kernel_rfl) (by kernel_rfl) (by kernel_rfl) (fun W hS => by kernel_rfl) (fun _ _ d _ _ h => by cases d <;> exact h) trivial ?_
          simp only [put_lit, put_non, List.set_cons_zero, List.set_cons_succ]
          refine hk_take (i := 4) (some 31) (.int .i64 (i : Int)) (by kernel_rfl) (by kernel_rfl) (by kernel_rfl) (by kernel_rfl) (by kernel_rfl) (by kernel_rfl) (fun W hS => by kernel_rfl) (fun _ _ d _ _ h => by cases d <;> exact h) trivial ?_
          simp only [put_lit, put_non, List.set_cons_zero, List.set_cons_succ]
          refine hk_take (i := 5) (some 32) (.int .i64 ((i + 1 : Nat) : Int)) (by kernel_rfl) (by kernel_rfl) (by kernel_rfl) (by kernel_rfl) (by kernel_rfl) (by kernel_rfl) (fun W hS => exec_add1 31 i (by kernel_rfl) (by kernel_rfl) (by kernel_rfl) (by have := HI.out; have := L130.out; omega)) (fun _ _ d _ _ h => by cases d <;> exact h) trivial ?_
          simp only [put_lit, put_non, List.set_cons_zero, List.set_cons_succ]
          refine hk_take (i := 6) (some 33) (.string ⟨[c].toArray⟩) (by kernel_rfl) (by kernel_rfl) (by kernel_rfl) (by kernel_rfl) (by kernel_rfl) (by kernel_rfl) (fun W hS => (exec_subS 29 30 32 ⟨s.toArray⟩ i (i + 1) (by kernel_rfl) (by kernel_rfl) (by kernel_rfl) (by kernel_rfl) (by omega) SI.out).trans (by rw [byte_at HC.out])) (fun _ _ d _ _ h => by cases d <;> exact h) trivial ?_
          simp only [put_lit, put_non, List.set_cons_zero, List.set_cons_succ]
          refine hk_one (i := 1) (by kernel_rfl) ?_
          refine op_do (some 28) (.string ⟨P.toArray⟩) wd (by kernel_rfl) (by kernel_rfl) (by kernel_rfl) (exec_loadCell 9 (.tmp 27) ⟨w1.heap.size, 2, none⟩ _ _ (by kernel_rfl) (by kernel_rfl) HS.out.2.2.2.cells.2.2 Tryd.underlying9 rfl) ?_
          refine ⟨trivial, ?_⟩
          simp only [put_lit, put_non, List.set_cons_zero, List.set_cons_succ]
          refine hk_take (i := 7) (some 34) (.string ⟨(P ++ [c]).toArray⟩) (by kernel_rfl) (by kernel_rfl) (by kernel_rfl) (by kernel_rfl) (by kernel_rfl) (by kernel_rfl) (fun W hS => (exec_cat 28 33 ⟨P.toArray⟩ ⟨[c].toArray⟩ (by kernel_rfl) (by kernel_rfl) (by kernel_rfl) (show P.length ≤ 1000 by have := PLm.out; omega) (show 1 ≤ 1000 by decide)).trans (by rw [ByteArray.mk_append_mk])) (fun _ _ d _ _ h => by cases d <;> exact h) trivial ?_
          simp only [put_lit, put_non, List.set_cons_zero, List.set_cons_succ]
          refine hk_take (i := 8) (some 35) (.pointer (some ⟨w1.heap.size, 2, none⟩)) (by kernel_rfl) (by kernel_rfl) (by kernel_rfl) (by kernel_rfl) (by kernel_rfl) (by kernel_rfl) (fun W hS => by kernel_rfl) (fun _ _ d _ _ h => by cases d <;> exact h) trivial ?_
          simp only [put_lit, put_non, List.set_cons_zero, List.set_cons_succ]
          refine hk_one (i := 9) (by kernel_rfl) ?_
          refine op_skip none (wd.setCell ⟨w1.heap.size, 2, none⟩ (.string ⟨(P ++ [c]).toArray⟩)) (by kernel_rfl) (by kernel_rfl) (by kernel_rfl) (exec_storeS 35 34 (by kernel_rfl) (by kernel_rfl) (by kernel_rfl) (HS.out.2.2.2.frozen 2) HS.out.2.2.2.cells.2.2) ?_
          have PS5 := Lib.hid (HS.out.putS (P ++ [c]))
          generalize wd.setCell ⟨w1.heap.size, 2, none⟩ (.string ⟨(P ++ [c]).toArray⟩) = w5 at PS5 ⊢
          refine ⟨trivial, ?_⟩
          simp only [put_lit, put_non, List.set_cons_zero, List.set_cons_succ]
          refine hk_done (by kernel_rfl) ?_
          rw [MD.out] at HP
          by_cases hq : c.toNat = 39
          · have hc39 : c = 39 := UInt8.toNat_inj.1 hq
            subst hc39
            clear hq
            go_wp2_with fail
            go_roundw
            case rel =>
              refine ⟨i + 2, P ++ [39], by omega, by have := HI.out; omega, by go_num, ?_, PS5.out⟩
              have h6 := HP.out
              rw [unq_q, List.drop_drop] at h6
              rw [List.append_assoc, show i + 2 - 1 = 1 + i by omega] at *
              first | exact h6 | (rw [Nat.add_comm 1 i]; exact h6) | (rw [Nat.add_comm i 1] at h6; exact h6)
            case measure => have := HI.out; simp [intOf]; omega
          · have hq1 : ((c.toNat : Int) == 39) = false := by rw [beq_eq_false_iff_ne]; omega
            have hcn : c ≠ 39 := fun e => hq (by rw [e]; rfl)
            have HQ := Lib.hid hcn
            clear hcn
            go_wp2_with fail
            go_roundw
            case rel =>
              refine ⟨i + 1, P ++ [c], by omega, by have := HI.out; omega, by go_num, ?_, PS5.out⟩
              have h6 := HP.out
              rw [unq_one HQ.out] at h6
              rw [List.append_assoc, show i + 1 - 1 = i by omega]
              exact h6
            case measure => have := HI.out; simp [intOf]; omega
        · have hii : ¬ (i : Int) + 1 < (L : Int) := by omega
          have EP : Hid (P = unq m) := Lib.hid (by
            have h6 := HP.out
            rw [List.drop_eq_nil_of_le (by rw [ML.out]; omega)] at h6
            have h7 : P ++ [] = unq m := h6
            rwa [List.append_nil] at h7)
          have CB := Lib.hid (show ∀ v, IsTxt s v → v = (2, 0, P) from fun v h => by rw [EP.out]; exact CA.out v h)
          have h1 : (-9223372036854775808 : Int) ≤ ((2, 0, P) : Vl).2.1 := show (-9223372036854775808 : Int) ≤ 0 by decide
          have h2 : ((2, 0, P) : Vl).2.1 ≤ 9223372036854775807 := show (0 : Int) ≤ 9223372036854775807 by decide
          have h3 : ((2, 0, P) : Vl).2.2.length ≤ 1000000 := show P.length ≤ 1000000 by have := PLm.out; omega
          clear hi
          have V4 := Lib.hid HS.out.2.2.2
          have V2 := Lib.hid HS.out.2.2.1
          have BW := Lib.hid HS.out.1
          have FF := Lib.hid (fun W => (show Calls Tryd.prog 29 #[vV (2, 0, P)] W (RVal W (.string ⟨(fmtR (2, 0, P)).toArray⟩)) from rformat_c W (2, 0, P) h1 h2 h3))
          have TY := Lib.hid (fun (h : fmtR (2, 0, P) = s) => txt_of NE.out h1 h2 h)
          have TN := Lib.hid (fun v (h : IsTxt s v) => (show fmtR (2, 0, P) = s by rw [← CB.out v h]; exact of_txt h))
          clear h1 h2 h3
          generalize fmtR (2, 0, P) = F at FF TY TN
          go_wp2_with (((with_reducible refine wp_loadV rfl 4 rfl w1.heap.size (0) (2, 0, P) ?hx V4.out.range ?_); (case hx => rfl)))
          refine (FF.out _).mono ?_
          rintro e w8 ⟨rfl, hB⟩
          have V4 := Lib.hid (V4.out.below hB)
          have V2 := Lib.hid (V2.out.below hB)
          have BW := Lib.hid (below_then BW.out hB)
          clear hB FF
          by_cases hF : F = s
          · have TX := Lib.hid (TY.out hF)
            have e1 : (F == s) = true := beq_iff_eq.2 hF
            have e2 : (F != s) = false := by rw [bne, e1]; rfl
            subst hF
            go_wp2_with (first | ((with_reducible refine wp_loadV rfl 4 rfl w1.heap.size (0) (2, 0, P) ?hx V4.out.range ?_); (case hx => rfl)) | ((with_reducible refine wp_storeV rfl 2 86 rfl w.heap.size (2, 0, P) (0, 0, []) ?hx ?hy V2.out ?_); (case hx => rfl); (case hy => rfl); intro w9 hv hb; have V2 := Lib.hid hv; have G2 := Lib.hid hb; clear hv hb))
            refine bodyPost_ret (v := .tuple #[vV (2, 0, P), .bool true]) (by rw [res_two (p := 2) (u := 3) rfl _ rfl V2.out]; rfl) rfl ?_
            exact ⟨below_store BW.out G2.out (Nat.le_refl _) BW.out.size, .inl ⟨_, TX.out, rfl⟩⟩
          · have NO := Lib.hid (show ∀ v, ¬ IsTxt s v from fun v h => hF (TN.out v h))
            have e1 : (F == s) = false := beq_eq_false_iff_ne.2 hF
            have e2 : (F != s) = true := by rw [bne, e1]; rfl
            clear hF
            go_wp2_with (((with_reducible refine wp_storeV rfl 2 85 rfl w.heap.size (0, 0, []) (0, 0, []) ?hx ?hy V2.out ?_); (case hx => rfl); (case hy => rfl); intro w9 hv hb; have V2 := Lib.hid hv; have G2 := Lib.hid hb; clear hv hb))
            refine bodyPost_ret (v := .tuple #[vV (0, 0, []), .bool false]) (by rw [res_two (p := 2) (u := 3) rfl _ rfl V2.out]; rfl) rfl ?_
            exact ⟨below_store BW.out G2.out (Nat.le_refl _) BW.out.size, .inr ⟨NO.out, rfl⟩⟩
    · have hq1 : ((c0.toNat : Int) == 39) = false := by rw [beq_eq_false_iff_ne]; omega
      have CA := Lib.hid (show ∀ v, IsTxt s v → v = (1, candN s, []) from fun v h => by
        rw [HS0.out] at h ⊢
        exact cand_num (fun e => hq (by rw [e]; rfl)) h)
      go_enter Tryd.func31, Tryd.ntmps31
      go_wp2_with (first | ((with_reducible refine wp_allocV 2 rfl rfl rfl ?_); intro w1 hv hb; have V2 := Lib.hid hv; have B2 := Lib.hid hb; clear hv hb; have NE1 := Lib.hid (show w.heap.size < w1.heap.size from V2.out.lt)) | ((with_reducible refine wp_allocV 4 rfl rfl rfl ?_); intro w2 hv hb; have V4 := Lib.hid hv; have B4 := Lib.hid hb; clear hv hb; have V2 := Lib.hid (V2.out.below B4.out); have BW := Lib.hid (below_then B2.out B4.out)) | ((with_reducible refine wp_storeV rfl 4 15 rfl w1.heap.size (0, 0, []) (0, 0, []) ?hx ?hy V4.out ?_); (case hx => rfl); (case hy => rfl); intro w3 hv hb; have V4 := Lib.hid hv; have G4 := Lib.hid hb; clear hv hb; have PS3 := Lib.hid (show PS w w3 w1.heap.size (0, 0, []) from ⟨below_store BW.out G4.out (Nat.le_of_lt NE1.out) BW.out.size, NE1.out, V2.out.keepB (G4.out.block w.heap.size V2.out.lt (fun e => by have := NE1.out; injection e with e; omega)), V4.out⟩); have c0' : w3.cell? ⟨w1.heap.size, 0, none⟩ = some (.int .i64 0) := V4.out.cells.1; have f0' : w3.frozen? ⟨w1.heap.size, 0, none⟩ = false := V4.out.frozen 0))
      have PS4 := Lib.hid (PS3.out.putT 1)
      generalize w3.setCell ⟨w1.heap.size, 0, none⟩ (.int .i64 1) = w4 at PS4 ⊢
      clear PS3 V2 V4 B2 B4 G4 BW c0' f0' hq hq1
      go_loopw [6] (fun iv wr => ∃ i : Nat, i ≤ L ∧ iv = .int .i64 (i : Int) ∧ PS w wr w1.heap.size (1, IntKind.i64.wrap (negD (s.take i)), [])) (fun iv _ => L - (intOf iv).toNat)
      case atStart => exact ⟨0, Nat.zero_le _, rfl, PS4.out⟩
      case round =>
        obtain ⟨i, hiL, rfl, hS⟩ := hrel
        have HS := Lib.hid hS
        have hi3 : (i : Int) ≤ 200 := by have := L130.out; omega
        clear hS
        by_cases hi : i < L
        · have hii : (i : Int) < (L : Int) := by omega
          obtain ⟨c, hc⟩ : ∃ c, s[i]? = some c := ⟨s[i]'(by rw [EL.out]; omega), List.getElem?_eq_getElem _⟩
          have HC := Lib.hid hc
          have ki := str_at hc
          have SN : Hid (negD (s.take (i + 1)) = if isDig c = true then 10 * negD (s.take i) - ((c.toNat : Int) - 48) else negD (s.take i)) := Lib.hid (by
            rw [List.take_add_one, hc]
            exact negD_snoc _ c)
          clear hc
          rcases (by omega : c.toNat < 48 ∨ (48 ≤ c.toNat ∧ c.toNat ≤ 57) ∨ 57 < c.toNat) with hd | hd | hd
          · have hd1 : ¬ (48 : Int) ≤ (c.toNat : Int) := by omega
            have hd2 : ¬ 48 ≤ c.toNat := by omega
            have ND : Hid (negD (s.take (i + 1)) = negD (s.take i)) := Lib.hid (by rw [SN.out, if_neg (by unfold isDig; simp; omega)])
            clear hd SN
            go_wp2_with fail
            go_roundw
            case rel => exact ⟨i + 1, by omega, by go_num, by rw [ND.out]; exact HS.out⟩
            case measure => simp [intOf]; omega
          · have hd1 : (48 : Int) ≤ (c.toNat : Int) := by omega
            have hd2 : (c.toNat : Int) ≤ 57 := by omega
            have hd3 : 48 ≤ c.toNat := by omega
            have hd4 : c.toNat ≤ 57 := by omega
            have HD := Lib.hid hd
            have WS := Lib.hid (wrap_step (negD (s.take i)) ((c.toNat - 48 : Nat) : Int))
            have ND : Hid (negD (s.take (i + 1)) = 10 * negD (s.take i) - ((c.toNat - 48 : Nat) : Int)) := Lib.hid (by rw [SN.out, if_pos (by unfold isDig; simp; omega)]; omega)
            rw [← ND.out] at WS
            clear hd SN ND
            obtain ⟨D2, hD2⟩ : ∃ q, IntKind.i64.wrap (negD (s.take (i + 1))) = q := ⟨_, rfl⟩
            have HD2 := Lib.hid hD2
            rw [hD2] at WS
            clear hD2
            generalize IntKind.i64.wrap (negD (s.take i)) = D1 at WS HS
            go_upto_region 17 with fail
            refine hk_begin (S := fun W => True) 11 (by kernel_rfl) (by kernel_rfl) ?_
            have HS : Hid (PS w wr.drew w1.heap.size (1, D1, [])) := Lib.hid ⟨HS.out.1.drew, HS.out.2⟩
            generalize wr.drew = wd at *
            refine hk_take (i := 0) (some 59) (.pointer (some ⟨w1.heap.size, 1, none⟩)) (by kernel_rfl) (by kernel_rfl) (by kernel_rfl) (by kernel_rfl) (by kernel_rfl) (by kernel_rfl) (fun W hS => by kernel_rfl) (fun _ _ d _ _ h => by cases d <;> exact h) trivial ?_
            simp only [put_lit, put_non, List.set_cons_zero, List.set_cons_succ]
            refine hk_take (i := 3) (some 62) (.string ⟨s.toArray⟩) (by kernel_rfl) (by kernel_rfl) (by kernel_rfl) (by kernel_rfl) (by kernel_rfl) (by kernel_rfl) (fun W hS => by kernel_rfl) (fun _ _ d _ _ h => by cases d <;> exact h) trivial ?_
            simp only [put_lit, put_non, List.set_cons_zero, List.set_cons_succ]
            refine hk_take (i := 4) (some 63) (.int .i64 (i : Int)) (by kernel_rfl) (by kernel_rfl) (by kernel_rfl) (by kernel_rfl) (by kernel_rfl) (by kernel_rfl) (fun W hS => by kernel_rfl) (fun _ _ d _ _ h => by cases d <;> exact h) trivial ?_
            simp only [put_lit, put_non, List.set_cons_zero, List.set_cons_succ]
            refine hk_take (i := 5) (some 64) (.int .u8 (c.toNat : Int)) (by kernel_rfl) (by kernel_rfl) (by kernel_rfl) (by kernel_rfl) (by kernel_rfl) (by kernel_rfl) (fun W hS => exec_idxS 62 63 HC.out (by kernel_rfl) (by kernel_rfl) (by kernel_rfl)) (fun _ _ d _ _ h => by cases d <;> exact h) trivial ?_
            simp only [put_lit, put_non, List.set_cons_zero, List.set_cons_succ]
            refine hk_take (i := 6) (some 65) (.int .u8 ((c.toNat - 48 : Nat) : Int)) (by kernel_rfl) (by kernel_rfl) (by kernel_rfl) (by kernel_rfl) (by kernel_rfl) (by kernel_rfl) (fun W hS => exec_digit 64 c.toNat HD.out (by kernel_rfl) (by kernel_rfl) (by kernel_rfl)) (fun _ _ d _ _ h => by cases d <;> exact h) trivial ?_
            simp only [put_lit, put_non, List.set_cons_zero, List.set_cons_succ]
            refine hk_take (i := 7) (some 66) (.int .i64 ((c.toNat - 48 : Nat) : Int)) (by kernel_rfl) (by kernel_rfl) (by kernel_rfl) (by kernel_rfl) (by kernel_rfl) (by kernel_rfl) (fun W hS => exec_wide 65 (c.toNat - 48) (by have := HD.out; omega) (by kernel_rfl) (by kernel_rfl)) (fun _ _ d _ _ h => by cases d <;> exact h) trivial ?_
            simp only [put_lit, put_non, List.set_cons_zero, List.set_cons_succ]
            refine hk_one (i := 1) (by kernel_rfl) ?_
            refine op_do (some 60) (.int .i64 D1) wd (by kernel_rfl) (by kernel_rfl) (by kernel_rfl) (exec_loadCell 2 (.tmp 59) ⟨w1.heap.size, 1, none⟩ _ _ (by kernel_rfl) (by kernel_rfl) HS.out.2.2.2.cells.2.1 Tryd.underlying2 rfl) ?_
            refine ⟨trivial, ?_⟩
            simp only [put_lit, put_non, List.set_cons_zero, List.set_cons_succ]
            refine hk_take (i := 2) (some 61) (.int .i64 (IntKind.i64.wrap (10 * D1))) (by kernel_rfl) (by kernel_rfl) (by kernel_rfl) (by kernel_rfl) (by kernel_rfl) (by kernel_rfl) (fun W hS => exec_mulTen 60 D1 (by kernel_rfl) (by kernel_rfl) (by kernel_rfl)) (fun _ _ d _ _ h => by cases d <;> exact h) trivial ?_
            simp only [put_lit, put_non, List.set_cons_zero, List.set_cons_succ]
            refine hk_take (i := 8) (some 67) (.int .i64 D2) (by kernel_rfl) (by kernel_rfl) (by kernel_rfl) (by kernel_rfl) (by kernel_rfl) (by kernel_rfl) (fun W hS => (exec_subI 61 66 (IntKind.i64.wrap (10 * D1)) ((c.toNat - 48 : Nat) : Int) (by kernel_rfl) (by kernel_rfl) (by kernel_rfl)).trans (by rw [WS.out])) (fun _ _ d _ _ h => by cases d <;> exact h) trivial ?_
            simp only [put_lit, put_non, List.set_cons_zero, List.set_cons_succ]
            refine hk_take (i := 9) (some 68) (.pointer (some ⟨w1.heap.size, 1, none⟩)) (by kernel_rfl) (by kernel_rfl) (by kernel_rfl) (by kernel_rfl) (by kernel_rfl) (by kernel_rfl) (fun W hS => by kernel_rfl) (fun _ _ d _ _ h => by cases d <;> exact h) trivial ?_
            simp only [put_lit, put_non, List.set_cons_zero, List.set_cons_succ]
            refine hk_one (i := 10) (by kernel_rfl) ?_
            refine op_skip none (wd.setCell ⟨w1.heap.size, 1, none⟩ (.int .i64 D2)) (by kernel_rfl) (by kernel_rfl) (by kernel_rfl) (exec_storeI 68 67 (by kernel_rfl) (by kernel_rfl) (by kernel_rfl) (HS.out.2.2.2.frozen 1) HS.out.2.2.2.cells.2.1) ?_
            have PS5 := Lib.hid (HS.out.putI D2)
            generalize wd.setCell ⟨w1.heap.size, 1, none⟩ (.int .i64 D2) = w5 at PS5 ⊢
            refine ⟨trivial, ?_⟩
            simp only [put_lit, put_non, List.set_cons_zero, List.set_cons_succ]
            refine hk_done (by kernel_rfl) ?_
            go_wp2_with fail
            go_roundw
            case rel => exact ⟨i + 1, by omega, by go_num, by rw [HD2.out]; exact PS5.out⟩
            case measure => simp [intOf]; omega
          · have hd1 : (48 : Int) ≤ (c.toNat : Int) := by omega
            have hd2 : ¬ (c.toNat : Int) ≤ 57 := by omega
            have hd3 : 48 ≤ c.toNat := by omega
            have hd4 : ¬ c.toNat ≤ 57 := by omega
            have ND : Hid (negD (s.take (i + 1)) = negD (s.take i)) := Lib.hid (by rw [SN.out, if_neg (by unfold isDig; simp; omega)])
            clear hd SN
            go_wp2_with fail
            go_roundw
            case rel => exact ⟨i + 1, by omega, by go_num, by rw [ND.out]; exact HS.out⟩
            case measure => simp [intOf]; omega
        · have hii : ¬ (i : Int) < (L : Int) := by omega
          have hst : s.take i = s := List.take_of_length_le (by rw [EL.out]; omega)
          rw [hst] at HS
          have CN : Hid (candN s = if s.head? ≠ some 45 ∧ IntKind.i64.wrap (negD s) ≠ -9223372036854775808 then IntKind.i64.wrap (-(IntKind.i64.wrap (negD s))) else IntKind.i64.wrap (negD s)) := Lib.hid rfl
          have RG := Lib.hid (candN_range s)
          have HH : Hid (s.head? = some c0) := Lib.hid (by rw [HS0.out]; rfl)
          rw [HH.out] at CN
          generalize IntKind.i64.wrap (negD s) = D at CN HS ⊢
          generalize candN s = N at CA CN RG
          have CB := Lib.hid CA.out
          have h1 : (-9223372036854775808 : Int) ≤ ((1, N, []) : Vl).2.1 := RG.out.1
          have h2 : ((1, N, []) : Vl).2.1 ≤ 9223372036854775807 := RG.out.2
          have h3 : ((1, N, []) : Vl).2.2.length ≤ 1000000 := Nat.zero_le _
          have cv : wr.cell? ⟨w1.heap.size, 1, none⟩ = some (.int .i64 D) := HS.out.2.2.2.cells.2.1
          have cf : wr.frozen? ⟨w1.heap.size, 1, none⟩ = false := HS.out.2.2.2.frozen 1
          clear hi hst
          by_cases h45 : c0.toNat = 45
          · obtain rfl : N = D := by rw [CN.out, if_neg]; rintro ⟨h, _⟩; exact h (by rw [show c0 = 45 from UInt8.toNat_inj.1 h45])
            have q1 : ((c0.toNat : Int) == 45) = true := by rw [beq_iff_eq]; omega
            have q2 : ((c0.toNat : Int) != 45) = false := by rw [bne, q1]; rfl
            have V4 := Lib.hid HS.out.2.2.2
            have V2 := Lib.hid HS.out.2.2.1
            have BW := Lib.hid HS.out.1
            have FF := Lib.hid (fun W => (show Calls Tryd.prog 29 #[vV (1, N, [])] W (RVal W (.string ⟨(fmtR (1, N, [])).toArray⟩)) from rformat_c W (1, N, []) h1 h2 h3))
            have TY := Lib.hid (fun (h : fmtR (1, N, []) = s) => txt_of NE.out h1 h2 h)
            have TN := Lib.hid (fun v (h : IsTxt s v) => (show fmtR (1, N, []) = s by rw [← CB.out v h]; exact of_txt h))
            clear h1 h2 h3
            generalize fmtR (1, N, []) = F at FF TY TN
            go_wp2_with (((with_reducible refine wp_loadV rfl 4 rfl w1.heap.size (0) (1, N, []) ?hx V4.out.range ?_); (case hx => rfl)))
            refine (FF.out _).mono ?_
            rintro e w8 ⟨rfl, hB⟩
            have V4 := Lib.hid (V4.out.below hB)
            have V2 := Lib.hid (V2.out.below hB)
            have BW := Lib.hid (below_then BW.out hB)
            clear hB FF
            by_cases hF : F = s
            · have TX := Lib.hid (TY.out hF)
              have e1 : (F == s) = true := beq_iff_eq.2 hF
              have e2 : (F != s) = false := by rw [bne, e1]; rfl
              subst hF
              go_wp2_with (first | ((with_reducible refine wp_loadV rfl 4 rfl w1.heap.size (0) (1, N, []) ?hx V4.out.range ?_); (case hx => rfl)) | ((with_reducible refine wp_storeV rfl 2 86 rfl w.heap.size (1, N, []) (0, 0, []) ?hx ?hy V2.out ?_); (case hx => rfl); (case hy => rfl); intro w9 hv hb; have V2 := Lib.hid hv; have G2 := Lib.hid hb; clear hv hb))
              refine bodyPost_ret (v := .tuple #[vV (1, N, []), .bool true]) (by rw [res_two (p := 2) (u := 3) rfl _ rfl V2.out]; rfl) rfl ?_
              exact ⟨below_store BW.out G2.out (Nat.le_refl _) BW.out.size, .inl ⟨_, TX.out, rfl⟩⟩
            · have NO := Lib.hid (show ∀ v, ¬ IsTxt s v from fun v h => hF (TN.out v h))
              have e1 : (F == s) = false := beq_eq_false_iff_ne.2 hF
              have e2 : (F != s) = true := by rw [bne, e1]; rfl
              clear hF
              go_wp2_with (((with_reducible refine wp_storeV rfl 2 85 rfl w.heap.size (0, 0, []) (0, 0, []) ?hx ?hy V2.out ?_); (case hx => rfl); (case hy => rfl); intro w9 hv hb; have V2 := Lib.hid hv; have G2 := Lib.hid hb; clear hv hb))
              refine bodyPost_ret (v := .tuple #[vV (0, 0, []), .bool false]) (by rw [res_two (p := 2) (u := 3) rfl _ rfl V2.out]; rfl) rfl ?_
              exact ⟨below_store BW.out G2.out (Nat.le_refl _) BW.out.size, .inr ⟨NO.out, rfl⟩⟩
          · have q1 : ((c0.toNat : Int) == 45) = false := by rw [beq_eq_false_iff_ne]; omega
            have q2 : ((c0.toNat : Int) != 45) = true := by rw [bne, q1]; rfl
            by_cases hD : D = -9223372036854775808
            · obtain rfl : N = D := by rw [CN.out, if_neg]; rintro ⟨_, h⟩; exact h hD
              have q3 : (N == -9223372036854775808) = true := by rw [beq_iff_eq]; exact hD
              have q4 : (N != -9223372036854775808) = false := by rw [bne, q3]; rfl
              clear hD
              have V4 := Lib.hid HS.out.2.2.2
              have V2 := Lib.hid HS.out.2.2.1
              have BW := Lib.hid HS.out.1
              have FF := Lib.hid (fun W => (show Calls Tryd.prog 29 #[vV (1, N, [])] W (RVal W (.string ⟨(fmtR (1, N, [])).toArray⟩)) from rformat_c W (1, N, []) h1 h2 h3))
              have TY := Lib.hid (fun (h : fmtR (1, N, []) = s) => txt_of NE.out h1 h2 h)
              have TN := Lib.hid (fun v (h : IsTxt s v) => (show fmtR (1, N, []) = s by rw [← CB.out v h]; exact of_txt h))
              clear h1 h2 h3
              generalize fmtR (1, N, []) = F at FF TY TN
              go_wp2_with (((with_reducible refine wp_loadV rfl 4 rfl w1.heap.size (0) (1, N, []) ?hx V4.out.range ?_); (case hx => rfl)))
              refine (FF.out _).mono ?_
              rintro e w8 ⟨rfl, hB⟩
              have V4 := Lib.hid (V4.out.below hB)
              have V2 := Lib.hid (V2.out.below hB)
              have BW := Lib.hid (below_then BW.out hB)
              clear hB FF
              by_cases hF : F = s
              · have TX := Lib.hid (TY.out hF)
                have e1 : (F == s) = true := beq_iff_eq.2 hF
                have e2 : (F != s) = false := by rw [bne, e1]; rfl
                subst hF
                go_wp2_with (first | ((with_reducible refine wp_loadV rfl 4 rfl w1.heap.size (0) (1, N, []) ?hx V4.out.range ?_); (case hx => rfl)) | ((with_reducible refine wp_storeV rfl 2 86 rfl w.heap.size (1, N, []) (0, 0, []) ?hx ?hy V2.out ?_); (case hx => rfl); (case hy => rfl); intro w9 hv hb; have V2 := Lib.hid hv; have G2 := Lib.hid hb; clear hv hb))
                refine bodyPost_ret (v := .tuple #[vV (1, N, []), .bool true]) (by rw [res_two (p := 2) (u := 3) rfl _ rfl V2.out]; rfl) rfl ?_
                exact ⟨below_store BW.out G2.out (Nat.le_refl _) BW.out.size, .inl ⟨_, TX.out, rfl⟩⟩
              · have NO := Lib.hid (show ∀ v, ¬ IsTxt s v from fun v h => hF (TN.out v h))
                have e1 : (F == s) = false := beq_eq_false_iff_ne.2 hF
                have e2 : (F != s) = true := by rw [bne, e1]; rfl
                clear hF
                go_wp2_with (((with_reducible refine wp_storeV rfl 2 85 rfl w.heap.size (0, 0, []) (0, 0, []) ?hx ?hy V2.out ?_); (case hx => rfl); (case hy => rfl); intro w9 hv hb; have V2 := Lib.hid hv; have G2 := Lib.hid hb; clear hv hb))
                refine bodyPost_ret (v := .tuple #[vV (0, 0, []), .bool false]) (by rw [res_two (p := 2) (u := 3) rfl _ rfl V2.out]; rfl) rfl ?_
                exact ⟨below_store BW.out G2.out (Nat.le_refl _) BW.out.size, .inr ⟨NO.out, rfl⟩⟩
            · have EN : Hid (N = IntKind.i64.wrap (-D)) := Lib.hid (by rw [CN.out, if_pos]; exact ⟨fun e => h45 (by rw [Option.some.inj e]; rfl), hD⟩)
              have q3 : (D == -9223372036854775808) = false := by rw [beq_eq_false_iff_ne]; exact hD
              have q4 : (D != -9223372036854775808) = true := by rw [bne, q3]; rfl
              have en := EN.out.symm
              clear hD CN
              have FF := Lib.hid (fun W => (show Calls Tryd.prog 29 #[vV (1, N, [])] W (RVal W (.string ⟨(fmtR (1, N, [])).toArray⟩)) from rformat_c W (1, N, []) h1 h2 h3))
              have TY := Lib.hid (fun (h : fmtR (1, N, []) = s) => txt_of NE.out h1 h2 h)
              have TN := Lib.hid (fun v (h : IsTxt s v) => (show fmtR (1, N, []) = s by rw [← CB.out v h]; exact of_txt h))
              clear h1 h2 h3
              generalize fmtR (1, N, []) = F at FF TY TN
              go_upto_region 20 with fail
              have PS5 := Lib.hid (HS.out.putI N)
              generalize wr.setCell ⟨w1.heap.size, 1, none⟩ (.int .i64 N) = w7 at PS5 ⊢
              have V4 := Lib.hid PS5.out.2.2.2
              have V2 := Lib.hid PS5.out.2.2.1
              have BW := Lib.hid PS5.out.1
              clear cv cf
              go_wp2_with (((with_reducible refine wp_loadV rfl 4 rfl w1.heap.size (0) (1, N, []) ?hx V4.out.range ?_); (case hx => rfl)))
              refine (FF.out _).mono ?_
              rintro e w8 ⟨rfl, hB⟩
              have V4 := Lib.hid (V4.out.below hB)
              have V2 := Lib.hid (V2.out.below hB)
              have BW := Lib.hid (below_then BW.out hB)
              clear hB FF
              by_cases hF : F = s
              · have TX := Lib.hid (TY.out hF)
                have e1 : (F == s) = true := beq_iff_eq.2 hF
                have e2 : (F != s) = false := by rw [bne, e1]; rfl
                subst hF
                go_wp2_with (first | ((with_reducible refine wp_loadV rfl 4 rfl w1.heap.size (0) (1, N, []) ?hx V4.out.range ?_); (case hx => rfl)) | ((with_reducible refine wp_storeV rfl 2 86 rfl w.heap.size (1, N, []) (0, 0, []) ?hx ?hy V2.out ?_); (case hx => rfl); (case hy => rfl); intro w9 hv hb; have V2 := Lib.hid hv; have G2 := Lib.hid hb; clear hv hb))
                refine bodyPost_ret (v := .tuple #[vV (1, N, []), .bool true]) (by rw [res_two (p := 2) (u := 3) rfl _ rfl V2.out]; rfl) rfl ?_
                exact ⟨below_store BW.out G2.out (Nat.le_refl _) BW.out.size, .inl ⟨_, TX.out, rfl⟩⟩
              · have NO := Lib.hid (show ∀ v, ¬ IsTxt s v from fun v h => hF (TN.out v h))
                have e1 : (F == s) = false := beq_eq_false_iff_ne.2 hF
                have e2 : (F != s) = true := by rw [bne, e1]; rfl
                clear hF
                go_wp2_with (((with_reducible refine wp_storeV rfl 2 85 rfl w.heap.size (0, 0, []) (0, 0, []) ?hx ?hy V2.out ?_); (case hx => rfl); (case hy => rfl); intro w9 hv hb; have V2 := Lib.hid hv; have G2 := Lib.hid hb; clear hv hb))
                refine bodyPost_ret (v := .tuple #[vV (0, 0, []), .bool false]) (by rw [res_two (p := 2) (u := 3) rfl _ rfl V2.out]; rfl) rfl ?_
                exact ⟨below_store BW.out G2.out (Nat.le_refl _) BW.out.size, .inr ⟨NO.out, rfl⟩⟩
end Go.Proofs.YtpbkmkcfhkdjjaaDoor

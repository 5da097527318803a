/- Package value as landed: Parse. -/
import Derived.Laws.Rows
import Derived.Test.YtpbkmkcfhkdjjaaDoorVvi
namespace Go.Proofs.YtpbkmkcfhkdjjaaDoor
open Go.RowKit Dig
set_option linter.unusedVariables false

theorem res_one {fn : Func} {p : Tmp} (h : fn.results = #[.cell p 26]) (tmps : Array Value) {w : World} {g : Nat} {x : Vl} (hp : tmps.getD p undef = .pointer (some ⟨g, 0, none⟩)) (hv : VarV w g x) : (results fn tmps).run Tryd.prog w = .ok (vV x) w :=
  results_cell_row h tmps w g 26 _ (0, 0) _ hp hv under_val rfl size_val
theorem res_two {fn : Func} {p u : Tmp} (h : fn.results = #[.cell p 26, .tmp u]) (tmps : Array Value) {w : World} {g : Nat} {x : Vl} (hp : tmps.getD p undef = .pointer (some ⟨g, 0, none⟩)) (hv : VarV w g x) : (results fn tmps).run Tryd.prog w = .ok (.tuple #[vV x, tmps.getD u undef]) w := by
  rw [results_cell_tmp h, hp]
  have hr := run_loadVar_row (P := Tryd.prog) w g 26 26 _ (0, 0) _ hv under_val rfl size_val
  show ((Result.ok (⟨g, 0, none⟩ : Addr) w).andThen fun a w₁ => _) = _
  simp only [Result.andThen_ok, hr]
  rfl
section
variable {w : World}
theorem parseInt_c (hS : Std w) (s : List UInt8) (hl : s.length ≤ 1000000) : Calls Tryd.prog 58 #[.string ⟨s.toArray⟩, .int .i64 10, .int .i64 64] w fun e w' => Below w.heap.size w w' ∧ ∃ n ev, e = .returned (.tuple #[.int .i64 n, ev]) ∧ ((Lib.parseIntB 64 s = .ok n ∧ ev = .nilIface) ∨ ((∀ m, Lib.parseIntB 64 s ≠ .ok m) ∧ ∃ T p, ev = .iface T (.pointer (some p)))) := by
  have hz : (⟨s.toArray⟩ : ByteArray).size = s.length := rfl
  cases hp : Lib.parseIntB 64 s with
  | ok n =>
    refine (Tryd.strconv_ParseInt_10_at64_ok ⟨s.toArray⟩ (by rw [hz]; omega) n hp w).mono ?_
    rintro e w' ⟨rfl, hw⟩
    refine ⟨?_, n, _, rfl, .inl ⟨rfl, rfl⟩⟩
    rcases hw with rfl | ⟨t, rfl⟩
    · exact Below.refl _ _
    · exact Lib.bytesWorld_below _ _ _
  | range =>
    obtain ⟨ev, h1, h2⟩ := hS.2.2.2
    refine (Tryd.strconv_ParseInt_10_at64_range ⟨s.toArray⟩ (by rw [hz]; omega) hp ev w h1 h2).mono ?_
    rintro e w' ⟨N, rfl, _, _, hB⟩
    exact ⟨hB, _, _, rfl, .inr ⟨(fun m h => by cases h), _, _, rfl⟩⟩
  | _ =>
    obtain ⟨ev, h1, h2⟩ := hS.2.2.1
    have h5 := Any.strconv_ParseInt_10_at64_syntax Tryd.laysC174 ⟨s.toArray⟩ (by rw [hz]; omega) hp ev w h1 h2
    refine Calls.mono h5 ?_
    rintro e w' ⟨N, rfl, _, _, hB⟩
    exact ⟨hB, _, _, rfl, .inr ⟨(fun m h => by cases h), _, _, rfl⟩⟩
theorem cutPre_hit (w : World) (r : List UInt8) : Calls Tryd.prog 56 #[.string ⟨(39 :: r).toArray⟩, .string ⟨#[39]⟩] w fun e w' => e = .returned (.tuple #[.string ⟨r.toArray⟩, .bool true]) ∧ w' = w := by
  refine (Tryd.strings_CutPrefix ⟨(39 :: r).toArray⟩ ⟨#[39]⟩ w).mono ?_
  rintro e w' ⟨rfl, rfl⟩
  have h : Lib.hasPrefix (39 :: r) [39] = true := by
    unfold Lib.hasPrefix
    simp
  refine ⟨?_, rfl⟩
  show Ending.returned (.tuple #[.string ⟨(Lib.trimPrefix (39 :: r) [39]).toArray⟩, .bool (Lib.hasPrefix (39 :: r) [39])]) = _
  rw [h]
  unfold Lib.trimPrefix
  rw [if_pos h]
  rfl
theorem cutPre_miss (w : World) (s : List UInt8) (h : ∀ r, s ≠ 39 :: r) : Calls Tryd.prog 56 #[.string ⟨s.toArray⟩, .string ⟨#[39]⟩] w fun e w' => (∃ v, e = .returned (.tuple #[.string v, .bool false])) ∧ w' = w := by
  refine (Tryd.strings_CutPrefix ⟨s.toArray⟩ ⟨#[39]⟩ w).mono ?_
  rintro e w' ⟨rfl, rfl⟩
  have h : Lib.hasPrefix s [39] = false := by
    unfold Lib.hasPrefix
    cases s with
    | nil => rfl
    | cons c r =>
      have hc : ((39 : UInt8) == c) = false := by
        rw [beq_eq_false_iff_ne]
        rintro rfl
        exact h r rfl
      show ((39 == c) && _) = false
      rw [hc]
      rfl
  refine ⟨⟨⟨(Lib.trimPrefix s [39]).toArray⟩, ?_⟩, rfl⟩
  show Ending.returned (.tuple #[.string ⟨(Lib.trimPrefix s [39]).toArray⟩, .bool (Lib.hasPrefix s [39])]) = _
  rw [h]
theorem trimSuf_c (w : World) (s : List UInt8) (hl : s.length ≤ 1000000) : Calls Tryd.prog 57 #[.string ⟨s.toArray⟩, .string ⟨#[39]⟩] w fun e w' => e = .returned (.string ⟨(Lib.trimSuffix s [39]).toArray⟩) ∧ w' = w :=
  Tryd.strings_TrimSuffix ⟨s.toArray⟩ ⟨#[39]⟩ w (show s.length ≤ _ by omega)
set_option maxRecDepth 20000 in
set_option maxHeartbeats 4000000 in
theorem candidate_c (hS : Std w) (s : List UInt8) (hl : s.length ≤ 1000000) : Calls Tryd.prog 42 #[.string ⟨s.toArray⟩] w (RVal w (vV (candV s))) := by
  have HS := Lib.hid hS
  have HL := Lib.hid hl
  by_cases hq : ∃ r, s = 39 :: r
  · obtain ⟨r, rfl⟩ := hq
    rw [candV_q]
    obtain ⟨q, hq⟩ : ∃ q, Lib.replaceAll (Lib.trimSuffix r [39]) [39, 39] [39] = q := ⟨_, rfl⟩
    have HQ := Lib.hid hq
    rw [hq]
    have LT : Hid ((Lib.trimSuffix r [39]).length ≤ 1000000) := Lib.hid (by have := trim_length r [39]; have h5 := HL.out; rw [List.length_cons] at h5; omega)
    have LR : Hid (r.length ≤ 1000000) := Lib.hid (by have h5 := HL.out; rw [List.length_cons] at h5; omega)
    clear hS hl hq
    go_enter Tryd.func42, Tryd.ntmps42
    go_wp2_with (((with_reducible refine wp_allocV 2 rfl rfl rfl ?_); intro w1 hv hb; have V2 := Lib.hid hv; have B2 := Lib.hid hb; clear hv hb))
    refine (cutPre_hit w1 r).mono ?_
    rintro e w2 ⟨rfl, rfl⟩
    go_wp2_with fail
    refine (trimSuf_c _ r LR.out).mono ?_
    rintro e w3 ⟨rfl, rfl⟩
    go_wp2_with fail
    refine (replace_c (HS.out.below B2.out) _ [39, 39] [39] LT.out (by decide) (by decide)).mono ?_
    rintro e w4 ⟨rfl, hB4⟩
    rw [HQ.out]
    have V2 := Lib.hid (V2.out.below hB4)
    have B2 := Lib.hid (below_then B2.out hB4)
    clear hB4
    go_wp2_with fail
    refine (newString_c _ q).mono ?_
    rintro e w5 ⟨rfl, hB5⟩
    have V2 := Lib.hid (V2.out.below hB5)
    have B2 := Lib.hid (below_then B2.out hB5)
    clear hB5
    go_wp2_with (((with_reducible refine wp_storeV rfl 2 17 rfl w.heap.size (2, 0, q) (0, 0, []) ?hx ?hy V2.out ?_); (case hx => rfl); (case hy => rfl); intro w6 hv hb; have V2 := Lib.hid hv; have G2 := Lib.hid hb; clear hv hb))
    refine bodyPost_ret (v := vV (2, 0, q)) (res_one rfl _ rfl V2.out) rfl ?_
    exact ⟨rfl, below_store B2.out G2.out (Nat.le_refl _) B2.out.size⟩
  · have hq2 : ∀ r, s ≠ 39 :: r := fun r h => hq ⟨r, h⟩
    have CM := fun w => cutPre_miss w s hq2
    obtain ⟨R, hR⟩ : ∃ r, candV s = r := ⟨_, rfl⟩
    have HR := Lib.hid ((candV_int hq2).symm.trans hR)
    rw [hR]
    clear hS hl hq hq2 hR
    go_enter Tryd.func42, Tryd.ntmps42
    go_wp2_with (((with_reducible refine wp_allocV 2 rfl rfl rfl ?_); intro w1 hv hb; have V2 := Lib.hid hv; have B2 := Lib.hid hb; clear hv hb))
    refine (CM w1).mono ?_
    rintro e w2 ⟨⟨v2, rfl⟩, rfl⟩
    go_wp2_with fail
    refine (parseInt_c (HS.out.below B2.out) s HL.out).mono ?_
    rintro e w3 ⟨hB3, n, ev, rfl, hc⟩
    have V2 := Lib.hid (V2.out.below hB3)
    have B2 := Lib.hid (below_then B2.out hB3)
    clear hB3
    rcases hc with ⟨hp, rfl⟩ | ⟨hp, T, p, rfl⟩
    · have E := Lib.hid (show R = (1, n, []) by rw [← HR.out, hp])
      clear hp
      go_wp2_with fail
      refine (newInt_c _ n).mono ?_
      rintro e w5 ⟨rfl, hB5⟩
      have V2 := Lib.hid (V2.out.below hB5)
      have B2 := Lib.hid (below_then B2.out hB5)
      clear hB5
      go_wp2_with (((with_reducible refine wp_storeV rfl 2 27 rfl w.heap.size (1, n, []) (0, 0, []) ?hx ?hy V2.out ?_); (case hx => rfl); (case hy => rfl); intro w6 hv hb; have V2 := Lib.hid hv; have G2 := Lib.hid hb; clear hv hb))
      refine bodyPost_ret (v := vV (1, n, [])) (res_one rfl _ rfl V2.out) rfl ?_
      rw [E.out]
      exact ⟨rfl, below_store B2.out G2.out (Nat.le_refl _) B2.out.size⟩
    · have E := Lib.hid (show R = (0, 0, []) by
        rw [← HR.out]
        cases h : Lib.parseIntB 64 s with
        | ok m => exact absurd h (hp m)
        | _ => rfl)
      clear hp
      go_wp2_with (((with_reducible refine wp_storeV rfl 2 25 rfl w.heap.size (0, 0, []) (0, 0, []) ?hx ?hy V2.out ?_); (case hx => rfl); (case hy => rfl); intro w6 hv hb; have V2 := Lib.hid hv; have G2 := Lib.hid hb; clear hv hb))
      refine bodyPost_ret (v := vV (0, 0, [])) (res_one rfl _ rfl V2.out) rfl ?_
      rw [E.out]
      exact ⟨rfl, below_store B2.out G2.out (Nat.le_refl _) B2.out.size⟩
/-- What Parse answers. -/
def ParseR (s : List UInt8) (e : Ending) : Prop := (∃ v, IsTxt s v ∧ e = .returned (.tuple #[vV v, .int .i64 0])) ∨ ((∀ v, ¬ IsTxt s v) ∧ e = .returned (.tuple #[vV (0, 0, []), .int .i64 2]))
set_option maxRecDepth 20000 in
set_option maxHeartbeats 4000000 in
theorem parse_c (hS : Std w) (s : List UInt8) (hl : s.length ≤ 1000000) : Calls Tryd.prog 30 #[.string ⟨s.toArray⟩] w fun e w' => Below w.heap.size w w' ∧ ParseR s e := by
  have HS := Lib.hid hS
  have HL := Lib.hid hl
  have TI := fun v => txt_iff s v
  have CR := candV_range s
  have CL := candV_length s
  have CA := fun w (h : Std w) => candidate_c h s HL.out
  obtain ⟨x, hx⟩ : ∃ r, candV s = r := ⟨_, rfl⟩
  rw [hx] at TI CR CL CA
  have HX := Lib.hid CR
  have HXL := Lib.hid (Nat.le_trans CL hl)
  have FV := fun w => valid_c w x HXL.out
  have FF := fun w (h : Std w) => format_c h x HX.out.1 HX.out.2 HXL.out
  clear hS hl hx CR CL
  cases hv : vldB x with
  | false =>
    have NO : Hid (∀ v, ¬ IsTxt s v) := Lib.hid fun v h => by
      obtain ⟨rfl, h2, _⟩ := (TI v).1 h
      rw [(vldB_iff v).2 h2] at hv
      cases hv
    rw [hv] at FV
    clear hv TI FF
    go_enter Tryd.func30, Tryd.ntmps30
    go_wp2_with (((with_reducible refine wp_allocV 2 rfl rfl rfl ?_); intro w1 hv hb; have V2 := Lib.hid hv; have B2 := Lib.hid hb; clear hv hb))
    refine (CA _ (HS.out.below B2.out)).mono ?_
    rintro e w2 ⟨rfl, hB2⟩
    have V2 := Lib.hid (V2.out.below hB2)
    have BB := Lib.hid (below_then B2.out hB2)
    clear hB2
    go_wp2_with (first | ((with_reducible refine wp_allocV 4 rfl rfl rfl ?_); intro w3 hv hb; have V4 := Lib.hid hv; have B4 := Lib.hid hb; clear hv hb) | ((with_reducible refine wp_storeV rfl 4 6 rfl w2.heap.size x (0, 0, []) ?hx ?hy V4.out ?_); (case hx => rfl); (case hy => rfl); intro w4 hv hb; have V4 := Lib.hid hv; have G4 := Lib.hid hb; clear hv hb; have B4b := Lib.hid (below_store (B := w2.heap.size) B4.out G4.out (Nat.le_refl _) B4.out.size)) | ((with_reducible refine wp_loadV rfl 4 rfl w2.heap.size (0) x ?hx V4.out.range ?_); (case hx => rfl)))
    refine (FV _).mono ?_
    rintro e w5 ⟨rfl, hB5⟩
    have V2 := Lib.hid ((V2.out.below B4b.out).below hB5)
    have BC := Lib.hid (below_then (below_then BB.out B4b.out) hB5)
    clear hB5 V4 B4 G4 B4b BB B2 CA
    go_wp2_with (((with_reducible refine wp_storeV rfl 2 16 rfl w.heap.size (0, 0, []) (0, 0, []) ?hx ?hy V2.out ?_); (case hx => rfl); (case hy => rfl); intro w6 hv hb; have V2 := Lib.hid hv; have G2 := Lib.hid hb; clear hv hb))
    refine bodyPost_ret (v := .tuple #[vV (0, 0, []), .int .i64 2]) (by rw [res_two (p := 2) (u := 3) rfl _ rfl V2.out]; rfl) rfl ?_
    exact ⟨below_store BC.out G2.out (Nat.le_refl _) BC.out.size, .inr ⟨NO.out, rfl⟩⟩
  | true =>
    rw [hv] at FV FF
    have FF2 : ∀ w, Std w → Calls Tryd.prog 32 #[vV x] w (RVal w (.string ⟨(fmtV x).toArray⟩)) := fun w h => by
      have := FF w h
      rwa [if_pos rfl] at this
    obtain ⟨F, hF⟩ : ∃ r, fmtV x = r := ⟨_, rfl⟩
    rw [hF] at FF2
    have VX := (vldB_iff x).1 hv
    clear hv FF
    by_cases he : F = s
    · subst he
      have YES : Hid (IsTxt F x) := Lib.hid ((TI x).2 ⟨rfl, VX, hF⟩)
      have k1 : ((ByteArray.mk F.toArray).toList == (ByteArray.mk F.toArray).toList) = true := by simp
      have k2 : ((ByteArray.mk F.toArray).toList != (ByteArray.mk F.toArray).toList) = false := by simp
      clear TI VX hF
      go_enter Tryd.func30, Tryd.ntmps30
      go_wp2_with (((with_reducible refine wp_allocV 2 rfl rfl rfl ?_); intro w1 hv hb; have V2 := Lib.hid hv; have B2 := Lib.hid hb; clear hv hb))
      refine (CA _ (HS.out.below B2.out)).mono ?_
      rintro e w2 ⟨rfl, hB2⟩
      have V2 := Lib.hid (V2.out.below hB2)
      have BB := Lib.hid (below_then B2.out hB2)
      clear hB2
      go_wp2_with (first | ((with_reducible refine wp_allocV 4 rfl rfl rfl ?_); intro w3 hv hb; have V4 := Lib.hid hv; have B4 := Lib.hid hb; clear hv hb) | ((with_reducible refine wp_storeV rfl 4 6 rfl w2.heap.size x (0, 0, []) ?hx ?hy V4.out ?_); (case hx => rfl); (case hy => rfl); intro w4 hv hb; have V4 := Lib.hid hv; have G4 := Lib.hid hb; clear hv hb; have B4b := Lib.hid (below_store (B := w2.heap.size) B4.out G4.out (Nat.le_refl _) B4.out.size)) | ((with_reducible refine wp_loadV rfl 4 rfl w2.heap.size (0) x ?hx V4.out.range ?_); (case hx => rfl)))
      refine (FV _).mono ?_
      rintro e w5 ⟨rfl, hB5⟩
      have V2 := Lib.hid ((V2.out.below B4b.out).below hB5)
      have V4 := Lib.hid (V4.out.below hB5)
      have BC := Lib.hid (below_then (below_then BB.out B4b.out) hB5)
      clear hB5 B4 G4 B4b BB B2 CA
      have c0 := V4.out.cells.1
      have c1 := V4.out.cells.2.1
      have c2 := V4.out.cells.2.2
      go_wp2_with fail
      clear c0 c1 c2
      refine (FF2 _ (HS.out.below BC.out)).mono ?_
      rintro e w6 ⟨rfl, hB6⟩
      have V2 := Lib.hid (V2.out.below hB6)
      have V4 := Lib.hid (V4.out.below hB6)
      have BC := Lib.hid (below_then BC.out hB6)
      clear hB6
      go_wp2_with (first | ((with_reducible refine wp_loadV rfl 4 rfl w2.heap.size (0) x ?hx V4.out.range ?_); (case hx => rfl)) | ((with_reducible refine wp_storeV rfl 2 17 rfl w.heap.size x (0, 0, []) ?hx ?hy V2.out ?_); (case hx => rfl); (case hy => rfl); intro w7 hv hb; have V2 := Lib.hid hv; have G2 := Lib.hid hb; clear hv hb))
      refine bodyPost_ret (v := .tuple #[vV x, .int .i64 0]) (by rw [res_two (p := 2) (u := 3) rfl _ rfl V2.out]; rfl) rfl ?_
      exact ⟨below_store BC.out G2.out (Nat.le_refl _) BC.out.size, .inl ⟨x, YES.out, rfl⟩⟩
    · have NO : Hid (∀ v, ¬ IsTxt s v) := Lib.hid fun v h => by
        obtain ⟨rfl, h2, h3⟩ := (TI v).1 h
        exact he (hF.symm.trans h3)
      have k1 : ((ByteArray.mk F.toArray).toList == (ByteArray.mk s.toArray).toList) = false := by rw [beq_bytes, decide_eq_false he]
      have k2 : ((ByteArray.mk F.toArray).toList != (ByteArray.mk s.toArray).toList) = true := by rw [bne, k1]; rfl
      have k3 : (F == s) = false := beq_eq_false_iff_ne.2 he
      clear TI VX hF he
      go_enter Tryd.func30, Tryd.ntmps30
      go_wp2_with (((with_reducible refine wp_allocV 2 rfl rfl rfl ?_); intro w1 hv hb; have V2 := Lib.hid hv; have B2 := Lib.hid hb; clear hv hb))
      refine (CA _ (HS.out.below B2.out)).mono ?_
      rintro e w2 ⟨rfl, hB2⟩
      have V2 := Lib.hid (V2.out.below hB2)
      have BB := Lib.hid (below_then B2.out hB2)
      clear hB2
      go_wp2_with (first | ((with_reducible refine wp_allocV 4 rfl rfl rfl ?_); intro w3 hv hb; have V4 := Lib.hid hv; have B4 := Lib.hid hb; clear hv hb) | ((with_reducible refine wp_storeV rfl 4 6 rfl w2.heap.size x (0, 0, []) ?hx ?hy V4.out ?_); (case hx => rfl); (case hy => rfl); intro w4 hv hb; have V4 := Lib.hid hv; have G4 := Lib.hid hb; clear hv hb; have B4b := Lib.hid (below_store (B := w2.heap.size) B4.out G4.out (Nat.le_refl _) B4.out.size)) | ((with_reducible refine wp_loadV rfl 4 rfl w2.heap.size (0) x ?hx V4.out.range ?_); (case hx => rfl)))
      refine (FV _).mono ?_
      rintro e w5 ⟨rfl, hB5⟩
      have V2 := Lib.hid ((V2.out.below B4b.out).below hB5)
      have V4 := Lib.hid (V4.out.below hB5)
      have BC := Lib.hid (below_then (below_then BB.out B4b.out) hB5)
      clear hB5 B4 G4 B4b BB B2 CA
      have c0 := V4.out.cells.1
      have c1 := V4.out.cells.2.1
      have c2 := V4.out.cells.2.2
      go_wp2_with fail
      clear c0 c1 c2
      refine (FF2 _ (HS.out.below BC.out)).mono ?_
      rintro e w6 ⟨rfl, hB6⟩
      have V2 := Lib.hid (V2.out.below hB6)
      have BC := Lib.hid (below_then BC.out hB6)
      clear hB6
      go_wp2_with (((with_reducible refine wp_storeV rfl 2 16 rfl w.heap.size (0, 0, []) (0, 0, []) ?hx ?hy V2.out ?_); (case hx => rfl); (case hy => rfl); intro w7 hv hb; have V2 := Lib.hid hv; have G2 := Lib.hid hb; clear hv hb))
      refine bodyPost_ret (v := .tuple #[vV (0, 0, []), .int .i64 2]) (by rw [res_two (p := 2) (u := 3) rfl _ rfl V2.out]; rfl) rfl ?_
      exact ⟨below_store BC.out G2.out (Nat.le_refl _) BC.out.size, .inr ⟨NO.out, rfl⟩⟩
end
end Go.Proofs.YtpbkmkcfhkdjjaaDoor

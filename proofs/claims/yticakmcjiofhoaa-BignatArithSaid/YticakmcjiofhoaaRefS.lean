/- The contract of the reference function NatSub. -/
import Derived.Test.YticakmcjiofhoaaRefM
namespace Go.Proofs.Yticakmcjiofhoaa
open Go.RowKit Dig
set_option linter.unusedVariables false

/-- What is owned is a segment at the head of a block, or has no digits. -/
theorem Own.seg {base : Nat} {w : World} {A : Option Addr} {n c : Nat} {xs : List Nat} (h : Own base w (.slice A n c) xs) (h0 : 0 < n) :
    ∃ g rest, A = some ⟨g, 0, none⟩ ∧ n = xs.length ∧ c = n + rest.length ∧ base ≤ g ∧ c ≤ 9223372036854775807 ∧ Seg w g [] xs rest := by
  obtain ⟨hs, h⟩ := h
  rcases h with ⟨e, _⟩ | ⟨g, rest, e, hg, hm, hh⟩
  · simp only [Value.slice.injEq] at e; omega
  · simp only [Value.slice.injEq] at e
    obtain ⟨rfl, rfl, rfl⟩ := e
    exact ⟨g, rest, rfl, rfl, rfl, hg, by unfold maxLen at hm; omega, hh⟩

theorem Own.put0 {base : Nat} {w : World} {g n c : Nat} {xs : List Nat} (h : Own base w (.slice (some ⟨g, 0, none⟩) n c) xs) (hn : xs.length = n) (k d : Nat) (v : Int) (hk : k < n) (hv : v = (d : Int)) (hd : d < 4294967296) :
    Own base (w.setCell ⟨g, k, none⟩ (.int .u32 v)) (.slice (some ⟨g, 0, none⟩) n c) (xs.set k d) := by
  obtain ⟨g', rest, e, h1, h2, h3, h4, h5⟩ := h.seg (by omega)
  simp only [Option.some.injEq, Addr.mk.injEq, and_true] at e
  subst e
  refine ⟨h.small.set k d hd, .inr ⟨g, rest, ?_, h3, ?_, h5.put0 k d v (by omega) hv⟩⟩
  · rw [List.length_set, h2, hn]
  · rw [List.length_set, hn]; unfold maxLen; omega

section
variable (w : World) (va vb : Value) (xs ys : List Nat) (ha : Num w va xs) (hb : Num w vb ys) (hza : xs.length ≤ 4398046511104) (hzb : ys.length ≤ 4398046511104)
include ha hb hza hzb

set_option maxHeartbeats 1000000 in
theorem natSub_lt (h : val xs < val ys) : Calls Try.prog 16 #[va, vb] w (RNoSub w) := by
  have C := natCmp_c w va vb xs ys ha hb (by omega) (by omega)
  rw [cmpI_lt h] at C
  have HC := Lib.hid C
  clear C
  go_enter Try.func16, Try.ntmps16
  go_wp2_with fail
  refine (HC.out).mono ?_
  rintro e w1 ⟨rfl, hB⟩
  go_wp2_with fail
  go_ret2
  exact ⟨rfl, hB⟩

set_option maxHeartbeats 4000000 in
theorem natSub_ge (h : val ys ≤ val xs) : Calls Try.prog 16 #[va, vb] w fun e w' => ∃ r, e = .returned (.tuple #[r, .bool true]) ∧ Own w.heap.size w' r (dg (val xs - val ys)) ∧ Below w.heap.size w w' := by
  have C := natCmp_c w va vb xs ys ha hb (by omega) (by omega)
  obtain ⟨hc0, hc1⟩ : 0 ≤ cmpI (val xs) (val ys) ∧ cmpI (val xs) (val ys) ≤ 1 := by
    rcases Nat.lt_or_ge (val ys) (val xs) with h1 | h1
    · rw [cmpI_gt h1]; omega
    · rw [show val xs = val ys by omega, cmpI_eq]; omega
  have HC := Lib.hid C
  have Na := Lib.hid (fun w1 hB => natNorm_c w1 va xs (Num.below (w' := w1) ha hB) (by omega))
  have Nb := Lib.hid (fun w1 hB => natNorm_c w1 vb ys (Num.below (w' := w1) hb hB) (by omega))
  have hva := Lib.hid (val_dg (val xs))
  have hvb := Lib.hid (val_dg (val ys))
  have hla := dg_length_val xs ha.small
  have hlb := dg_length_val ys hb.small
  have hle := dg_length_mono h
  have HH := Lib.hid h
  generalize cmpI (val xs) (val ys) = cz at *
  clear C h
  go_enter Try.func16, Try.ntmps16
  go_wp2_with fail
  refine (HC.out).mono ?_
  rintro e w0 ⟨rfl, hB0⟩
  go_wp2_with fail
  refine (Na.out w0 hB0).mono ?_
  rintro e w1 ⟨x, rfl, hO1, hB1⟩
  have hB01 := below_then hB0 hB1
  go_wp2_with fail
  refine (Nb.out w1 hB01).mono ?_
  rintro e w2 ⟨y, rfl, hO2, hB2⟩
  have hX := (hO1.below hB2 (Nat.le_refl _)).mono hB0.size
  have hb02 := below_then hB01 hB2
  have hsy := hO2.num
  have hY := hO2.mono hB01.size
  obtain ⟨A, c, rfl⟩ := hX.num.form
  obtain ⟨A', c', rfl⟩ := hY.num.form
  have hbx := hX.num.bounds.2
  have hby := hY.num.bounds.2
  have hsx := hX.small
  -- the block of y is not the block of x
  have hfar : ∀ g, A = some ⟨g, 0, none⟩ → 0 < (dg (val ys)).length → (Value.slice A' (dg (val ys)).length c').ownBlock ≠ some g := by
    intro g hA hp e
    obtain ⟨g2, rest2, hA2, _, _, hg2, _⟩ := hO2.seg hp
    subst hA2
    simp only [Value.ownBlock, Option.some.injEq] at e
    obtain ⟨g3, r3, hA3, _, _, _, _, hs3⟩ := hO1.seg (by omega)
    rw [hA] at hA3
    simp only [Option.some.injEq, Addr.mk.injEq, and_true] at hA3
    have := hs3.lt
    omega
  generalize hXX : dg (val xs) = X at *
  generalize hYY : dg (val ys) = Y at *
  have HXX := Lib.hid hXX
  have HYY := Lib.hid hYY
  clear hXX hYY hO1 hO2 hB0 hB1 hB01 hB2
  have HFAR := Lib.hid hfar
  clear hfar
  have hlen : (X.length : Int) ≤ 4398046511104 := by omega
  go_wp2_with fail
  go_loopw [8, 9, 10] (fun cy i _ wr => ∃ (k q : Nat) (zs : List Nat), k ≤ X.length ∧ i = .int .i64 k ∧ cy = .int .u64 q ∧ SubRel X Y zs k q ∧ Own w.heap.size wr (.slice A X.length c) zs ∧ Num wr (.slice A' Y.length c') Y ∧ Below w.heap.size w wr) (fun _ i _ _ => X.length - (intOf i).toNat)
  case atStart => exact ⟨0, 0, X, Nat.zero_le _, rfl, rfl, SubRel.start X Y hsx, hX, hsy, hb02⟩
  case round =>
    clear hX hsy hb02
    obtain ⟨k, q, zs, hk, rfl, rfl, hr, hO, hN, hBw⟩ := hrel
    have hq := hr.2.2.2.2
    have hzl := hr.1
    by_cases hlt : k < X.length
    · obtain ⟨g, rest, rfl, _, rfl, hg, hcm, hseg⟩ := hO.seg (by omega)
      have hfx := hseg.frozen k
      have hcx := hseg.cell0 (j := k) (by omega)
      have bx := hr.2.1.get k
      generalize hxx : zs.getD k 0 = x at hcx bx
      have hki : (k : Int) < X.length := by omega
      have hqi : (q : Int) ≤ 1 := by omega
      have HNF := Lib.hid (fun (v : Value) => Num.far (w' := wr.setCell ⟨g, k, none⟩ v) hN (grown_set (World.grownBy.refl wr _) k v) (HFAR.out g rfl))
      have HBW := Lib.hid (fun (v : Value) => hBw.setCell (p := ⟨g, k, none⟩) hg v)
      have HO := Lib.hid (fun d v hv hd => hO.put0 hzl k d v hlt hv hd)
      have HX := Lib.hid hxx
      rcases Nat.lt_or_ge k Y.length with hky | hky
      · obtain ⟨b, off, rfl, hbb, hall⟩ := hN.cells (by omega)
        have hcy := hall k hky
        have by' := hN.small.get k
        clear hall
        generalize hyy : Y.getD k 0 = y at hcy by'
        have hkyi : (k : Int) < Y.length := by omega
        rcases Nat.lt_or_ge x (q + y) with hlo | hlo
        · have HR := Lib.hid (hr.step (d := x + 4294967296 - (q + y)) (b := 1) (by omega) hxx hyy (by omega) (by omega) (by omega))
          have hloi : (x : Int) < (q : Int) + (y : Int) := by omega
          have hd := Lib.hid (show x + 4294967296 - (q + y) < 4294967296 by omega)
          have hv := Lib.hid (show (x : Int) + 4294967296 - ((q : Int) + (y : Int)) = ((x + 4294967296 - (q + y) : Nat) : Int) by omega)
          clear hr hO hN hBw hseg hxx hyy hlo hq hzl hbx hby hc0 hc1 hle hlen hla hlb hza hzb
          go_wp2_with fail
          go_roundw
          case rel => exact ⟨k + 1, 1, _, by omega, by go_num, rfl, HR.out, HO.out _ _ hv.out hd.out, HNF.out _, HBW.out _⟩
          case measure => simp [intOf]; omega
        · have HR := Lib.hid (hr.step (d := x - (q + y)) (b := 0) (by omega) hxx hyy (by omega) (by omega) (by omega))
          have hloi : ¬ (x : Int) < (q : Int) + (y : Int) := by omega
          have hd := Lib.hid (show x - (q + y) < 4294967296 by omega)
          have hv := Lib.hid (show (x : Int) - ((q : Int) + (y : Int)) = ((x - (q + y) : Nat) : Int) by omega)
          clear hr hO hN hBw hseg hxx hyy hlo hq hzl hbx hby hc0 hc1 hle hlen hla hlb hza hzb
          go_wp2_with fail
          go_roundw
          case rel => exact ⟨k + 1, 0, _, by omega, by go_num, rfl, HR.out, HO.out _ _ hv.out hd.out, HNF.out _, HBW.out _⟩
          case measure => simp [intOf]; omega
      · have hyy : Y.getD k 0 = 0 := by rw [List.getD_eq_getElem?_getD, List.getElem?_eq_none hky]; rfl
        have hkyi : ¬ (k : Int) < Y.length := by omega
        rcases Nat.lt_or_ge x q with hlo | hlo
        · have HR := Lib.hid (hr.step (d := x + 4294967296 - q) (b := 1) (by omega) hxx hyy (by omega) (by omega) (by omega))
          have hloi : (x : Int) < (q : Int) := by omega
          have hd := Lib.hid (show x + 4294967296 - q < 4294967296 by omega)
          have hv := Lib.hid (show (x : Int) + 4294967296 - (q : Int) = ((x + 4294967296 - q : Nat) : Int) by omega)
          clear hr hO hN hBw hseg hxx hyy hlo hq hzl hbx hby hc0 hc1 hle hlen hla hlb hza hzb
          go_wp2_with fail
          go_roundw
          case rel => exact ⟨k + 1, 1, _, by omega, by go_num, rfl, HR.out, HO.out _ _ hv.out hd.out, HNF.out _, HBW.out _⟩
          case measure => simp [intOf]; omega
        · have HR := Lib.hid (hr.step (d := x - q) (b := 0) (by omega) hxx hyy (by omega) (by omega) (by omega))
          have hloi : ¬ (x : Int) < (q : Int) := by omega
          have hd := Lib.hid (show x - q < 4294967296 by omega)
          have hv := Lib.hid (show (x : Int) - (q : Int) = ((x - q : Nat) : Int) by omega)
          clear hr hO hN hBw hseg hxx hyy hlo hq hzl hbx hby hc0 hc1 hle hlen hla hlb hza hzb
          go_wp2_with fail
          go_roundw
          case rel => exact ⟨k + 1, 0, _, by omega, by go_num, rfl, HR.out, HO.out _ _ hv.out hd.out, HNF.out _, HBW.out _⟩
          case measure => simp [intOf]; omega
    · have hke : k = X.length := by omega
      subst hke
      have hle' := HH.out
      have hq0 : q = 0 := by
        rcases Nat.eq_zero_or_pos q with h | h
        · exact h
        · have h2 := hr.more (Nat.le_refl _) hle (by rw [hva.out, hvb.out]; exact hle') (by omega)
          omega
      subst hq0
      have hd := hr.done (Nat.le_refl _) hle
      rw [hva.out, hvb.out] at hd
      have NN := natNorm_c wr _ zs hO.num (by omega)
      rw [show val zs = val xs - val ys by omega] at NN
      have HN := Lib.hid NN
      have hsz := hBw.size
      clear hr NN hd hle' hle hq hzl hbx hby hc0 hc1 hla hlb hza hzb
      go_wp2_with fail
      refine (HN.out).mono ?_
      rintro e w3 ⟨r, rfl, hO3, hB3⟩
      go_wp2_with fail
      go_ret2
      exact ⟨_, rfl, hO3.mono hsz, below_then hBw hB3⟩
end
end Go.Proofs.Yticakmcjiofhoaa

/- The contracts of Add and Sub. -/
import Derived.Test.YticakmcjiofhoaaSubFrom
namespace Go.Proofs.Yticakmcjiofhoaa
open Go.RowKit Dig

theorem Own.of_seg {w : World} {g n base : Nat} {zs : List Nat} {post : List Value} {c : Nat} (h : Seg w g [] zs post) (hs : Small zs) (hn : zs.length = n) (hb : base ≤ g) (hc : c = n + post.length) (hm : c ≤ 9223372036854775807) :
    Own base w (.slice (some ⟨g, 0, none⟩) n c) zs := by
  subst hn
  subst hc
  exact ⟨hs, .inr ⟨g, post, rfl, hb, by unfold maxLen; omega, h⟩⟩
theorem Num.ne_new {w : World} {v : Value} {ys : List Nat} {g : Nat} (h : Num w v ys) (hg : w.heap.size ≤ g) : 0 < ys.length → v.ownBlock ≠ some g := by
  intro hp
  obtain ⟨A, c, rfl, _, _, _, hr⟩ := h
  obtain ⟨b, off, rfl, hb, _⟩ := hr hp
  intro e
  simp [Value.ownBlock] at e
  omega

theorem addTo_n (w : World) (g off n : Nat) (pre post : List Value) (xs ys : List Nat) (c : Nat) (vb : Value) (hs : Seg w g pre xs post) (hoff : pre.length = off) (hn : xs.length = n) (hx : Small xs) (hc : n ≤ c ∧ c ≤ 9223372036854775807) (hb : Num w vb ys)
    (hne : 0 < ys.length → vb.ownBlock ≠ some g) (hle : ys.length ≤ n) (hf : val xs + val ys < 4294967296 ^ n) :
    Calls Try.prog 49 #[.slice (some ⟨g, off, none⟩) n c, vb] w fun e w' => e = .returned (.tuple #[]) ∧ InPlace w g pre n (val xs + val ys) post w' := by
  subst hoff
  subst hn
  exact addTo_c w g pre post xs ys c vb hs hx hc hb hne hle hf
theorem subFrom_n (w : World) (g off n : Nat) (pre post : List Value) (xs ys : List Nat) (c : Nat) (vb : Value) (hs : Seg w g pre xs post) (hoff : pre.length = off) (hn : xs.length = n) (hx : Small xs) (hc : n ≤ c ∧ c ≤ 9223372036854775807) (hb : Num w vb ys)
    (hne : 0 < ys.length → vb.ownBlock ≠ some g) (hle : ys.length ≤ n) (hf : val ys ≤ val xs) :
    Calls Try.prog 42 #[.slice (some ⟨g, off, none⟩) n c, vb] w fun e w' => e = .returned (.tuple #[]) ∧ InPlace w g pre n (val xs - val ys) post w' := by
  subst hoff
  subst hn
  exact subFrom_c w g pre post xs ys c vb hs hx hc hb hne hle hf

/-- trim of a row of the call's own. -/
theorem trim_own (w : World) (base g n c : Nat) (zs : List Nat) (h : Own base w (.slice (some ⟨g, 0, none⟩) n c) zs) :
    Calls Try.prog 41 #[.slice (some ⟨g, 0, none⟩) n c] w fun e w' => ∃ r, e = .returned r ∧ Own base w r (dg (val zs)) ∧ w = w' :=
  (trim_c w _ n c zs h.num).mono fun _ _ ⟨a, b⟩ => ⟨_, a, h.trimmed, b⟩

theorem add_fit (a b n : Nat) (ha : a < 4294967296 ^ n) (hb : b < 4294967296 ^ n) : a + b < 4294967296 ^ (n + 1) := by
  rw [Nat.pow_succ]; omega
theorem below_grown {w w1 w' : World} {g : Nat} (h : Below w.heap.size w w1) (hg : w1.grownBy w' (some g)) (hb : w.heap.size ≤ g) : Below w.heap.size w w' :=
  h.grown hg h.size (fun k e => by injection e with e; omega)

set_option maxHeartbeats 1000000 in
/-- The part of Add behind the exchange of its arguments, where a is not shorter than b. -/
theorem add_c (w : World) (va vb : Value) (xs ys : List Nat) (ha : Num w va xs) (hb : Num w vb ys) (hza : xs.length ≤ 8796093022208) (hzb : ys.length ≤ 8796093022208) :
    Calls Try.prog 28 #[va, vb] w (RNat w (val xs + val ys)) := by
  have Ta := Lib.hid (trim_n w va xs ha)
  have Tb := Lib.hid (trim_n w vb ys hb)
  have hla := dg_length_val xs ha.small
  have hlb := dg_length_val ys hb.small
  have fa := Lib.hid (dg_lt (val xs))
  have fb := Lib.hid (dg_lt (val ys))
  have sa := small_dg (val xs)
  have sb := small_dg (val ys)
  have va' := Lib.hid (val_dg (val xs))
  have vb' := Lib.hid (val_dg (val ys))
  by_cases hl : (dg (val xs)).length < (dg (val ys)).length
  · go_enter Try.func28, Try.ntmps28
    go_wp2_with fail
    refine (Ta.out).mono ?_
    rintro e w' ⟨A, c, rfl, hA, rfl⟩
    go_wp2_with fail
    refine (Tb.out).mono ?_
    rintro e w' ⟨A', c', rfl, hB, rfl⟩
    generalize hX : dg (val xs) = X at *
    generalize hY : dg (val ys) = Y at *
    have HX := Lib.hid hX
    have HY := Lib.hid hY
    clear hX hY Ta Tb
    have ne1 := Lib.hid (hA.ne_new (g := w.heap.size) (Nat.le_refl _))
    have lrep : (List.replicate (Y.length + 1) 0).drop Y.length = [0] := by simp
    have LR := Lib.hid lrep
    clear lrep
    go_wp2_with (first | (at_make; refine wp_make rfl _ _ rfl _ _ (Y.length + 1) rfl rfl (by omega) (by omega) (by omega) ?_; intro w1 hS hB1; have hN1 := hB.below hB1) | (with_reducible refine wp_copy rfl (.tmp 21) (.tmp 22) rfl w.heap.size 0 (Y.length + 1) (Y.length + 1) rfl (.slice A' Y.length c') Y rfl hN1 [] [] _ hS rfl (by simp) (by simp) ?_; intro w2 hS2 hG2 hZ2))
    rw [LR.out] at hS2
    have hB2 := below_grown hB1 hG2 (Nat.le_refl _)
    have hN2 := hA.below hB2
    have hv : val (Y ++ [0]) = val Y := by rw [val_append]; simp [val]
    have hfit : val (Y ++ [0]) + val X < 4294967296 ^ (Y.length + 1) := by
      rw [hv, vb'.out, va'.out]
      exact add_fit _ _ _ (fb).out (Nat.lt_of_lt_of_le (fa).out (pow_le (by omega)))
    have HFIT := Lib.hid hfit
    have HV := Lib.hid hv
    have sm : Small (Y ++ [0]) := Small.append sb (fun d hd => by simp at hd; omega)
    clear hfit hv hS hG2 hZ2
    refine (addTo_n w2 w.heap.size 0 (Y.length + 1) [] [] _ X _ _ hS2 rfl (by simp) sm ⟨by omega, by omega⟩ hN2 ne1.out (by omega) HFIT.out).mono ?_
    rintro e w3 ⟨rfl, zs, z1, z2, z3, z4, z5, z6⟩
    have hO := Own.of_seg (base := w.heap.size) (c := Y.length + 1) z4 z2 z1 (Nat.le_refl _) rfl (by omega)
    have TT := Lib.hid (trim_own _ _ _ _ _ _ hO)
    have Z1 := Lib.hid z1
    have Z3 := Lib.hid z3
    have Z6 := Lib.hid z6
    clear z1 z3 z6 hS2 hN2
    go_wp2_with fail
    refine (TT.out).mono ?_
    rintro e w4 ⟨r, rfl, hr, rfl⟩
    go_wp2_with fail
    go_ret
    have e3 : val zs = val xs + val ys := by rw [Z3.out, HV.out, vb'.out, va'.out]; omega
    rw [e3] at hr
    exact ⟨_, rfl, hr, below_grown hB2 z5 (Nat.le_refl _)⟩
  · have hl2 : decide ((dg (val xs)).length < (dg (val ys)).length) = false := by simp; omega
    go_enter Try.func28, Try.ntmps28
    go_wp2_with fail
    refine (Ta.out).mono ?_
    rintro e w' ⟨A, c, rfl, hA, rfl⟩
    go_wp2_with fail
    refine (Tb.out).mono ?_
    rintro e w' ⟨A', c', rfl, hB, rfl⟩
    generalize hX : dg (val xs) = X at *
    generalize hY : dg (val ys) = Y at *
    have HX := Lib.hid hX
    have HY := Lib.hid hY
    clear hX hY Ta Tb
    have ne1 := Lib.hid (hB.ne_new (g := w.heap.size) (Nat.le_refl _))
    have lrep : (List.replicate (X.length + 1) 0).drop X.length = [0] := by simp
    have LR := Lib.hid lrep
    clear lrep
    go_wp2_with (first | (at_make; refine wp_make rfl _ _ rfl _ _ (X.length + 1) rfl rfl (by omega) (by omega) (by omega) ?_; intro w1 hS hB1; have hN1 := hA.below hB1) | (with_reducible refine wp_copy rfl (.tmp 21) (.tmp 22) rfl w.heap.size 0 (X.length + 1) (X.length + 1) rfl (.slice A X.length c) X rfl hN1 [] [] _ hS rfl (by simp) (by simp) ?_; intro w2 hS2 hG2 hZ2))
    rw [LR.out] at hS2
    have hB2 := below_grown hB1 hG2 (Nat.le_refl _)
    have hN2 := hB.below hB2
    have hv : val (X ++ [0]) = val X := by rw [val_append]; simp [val]
    have hfit : val (X ++ [0]) + val Y < 4294967296 ^ (X.length + 1) := by
      rw [hv, va'.out, vb'.out]
      exact add_fit _ _ _ (fa).out (Nat.lt_of_lt_of_le (fb).out (pow_le (by omega)))
    have HFIT := Lib.hid hfit
    have HV := Lib.hid hv
    have sm : Small (X ++ [0]) := Small.append sa (fun d hd => by simp at hd; omega)
    clear hfit hv hS hG2 hZ2
    refine (addTo_n w2 w.heap.size 0 (X.length + 1) [] [] _ Y _ _ hS2 rfl (by simp) sm ⟨by omega, by omega⟩ hN2 ne1.out (by omega) HFIT.out).mono ?_
    rintro e w3 ⟨rfl, zs, z1, z2, z3, z4, z5, z6⟩
    have hO := Own.of_seg (base := w.heap.size) (c := X.length + 1) z4 z2 z1 (Nat.le_refl _) rfl (by omega)
    have TT := Lib.hid (trim_own _ _ _ _ _ _ hO)
    have Z1 := Lib.hid z1
    have Z3 := Lib.hid z3
    have Z6 := Lib.hid z6
    clear z1 z3 z6 hS2 hN2
    go_wp2_with fail
    refine (TT.out).mono ?_
    rintro e w4 ⟨r, rfl, hr, rfl⟩
    go_wp2_with fail
    go_ret
    have e3 : val zs = val xs + val ys := by rw [Z3.out, HV.out, va'.out, vb'.out]
    rw [e3] at hr
    exact ⟨_, rfl, hr, below_grown hB2 z5 (Nat.le_refl _)⟩
end Go.Proofs.Yticakmcjiofhoaa

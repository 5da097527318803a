/- The contract of credencebase.Frac. -/
import Derived.Test.YtgjhgpfjeoeojaaDoorRefL
namespace Go.Proofs.YtgjhgpfjeoeojaaDoor
open Go.RowKit Dig
set_option linter.unusedVariables false

theorem and_low (z : Int) (m : Nat) (hm : m ≤ 31) : ∃ k : Nat, k < 2 ^ m ∧ bits .and .i64 z ((2 ^ m - 1 : Nat) : Int) = (k : Int) := by
  refine ⟨((BitVec.ofInt 64 z).toNat % 2 ^ m), Nat.mod_lt _ (Nat.pow_pos (by omega)), ?_⟩
  show IntKind.i64.wrap ((BitVec.ofInt 64 z &&& BitVec.ofInt 64 ((2 ^ m - 1 : Nat) : Int)).toNat : Int) = _
  have hp : 2 ^ m ≤ 2 ^ 31 := Nat.pow_le_pow_right (by omega) hm
  have hp0 : 0 < 2 ^ m := Nat.pow_pos (by omega)
  have e2 : (BitVec.ofInt 64 ((2 ^ m - 1 : Nat) : Int)).toNat = 2 ^ m - 1 := by
    rw [BitVec.ofInt_natCast, BitVec.toNat_ofNat]
    exact Nat.mod_eq_of_lt (by omega)
  have h := Nat.and_two_pow_sub_one_eq_mod (BitVec.ofInt 64 z).toNat m
  have hlt := Nat.mod_lt (BitVec.ofInt 64 z).toNat hp0
  rw [BitVec.toNat_and, e2, h, IntKind.wrap_i64]
  omega
/-- A variable of the call's own that holds a fraction. -/
theorem var1 (w : World) (b : Bool) (x y : Value) : ∃ W g, w.alloc (.cells #[.bool b, x, y] 25) = W ∧ w.heap.size = g ∧ Below w.heap.size w W ∧ Fcl W g b x y :=
  ⟨_, _, rfl, rfl, (Below.refl _ _).alloc (Nat.le_refl _) _, Fcl.new w b x y⟩
theorem var3 (w : World) (b0 b1 b2 : Bool) (x0 y0 x1 y1 x2 y2 : Value) :
    ∃ W, ((w.alloc (.cells #[.bool b0, x0, y0] 25)).alloc (.cells #[.bool b1, x1, y1] 25)).alloc (.cells #[.bool b2, x2, y2] 25) = W ∧
      Below w.heap.size w W ∧ Fcl W w.heap.size b0 x0 y0 ∧ Fcl W (w.heap.size + 1) b1 x1 y1 ∧ Fcl W (w.heap.size + 1 + 1) b2 x2 y2 :=
  ⟨_, rfl, below_alloc3 w _ _ _, ((Fcl.new w b0 x0 y0).alloc _).alloc _, (Fcl.new2 w _ b1 x1 y1).alloc _, Fcl.new3 w _ _ b2 x2 y2⟩
/-- The number that credencebase makes of an int. -/
def bq (z : Int) : Rat := frz (bits .and .i64 z 63 - 20) (bits .and .i64 (z / 64) 31 + 1)
end Go.Proofs.YtgjhgpfjeoeojaaDoor

/- The contracts of frac, FracNew and credencebase.Frac that say whose memory the parts are. -/
namespace Go.Proofs.YtgjhgpfjeoeojaaDoor
open Go.RowKit Dig
set_option linter.unusedVariables false

/-- The canonical form of q, both parts in blocks of their own. -/
def OF (base : Nat) (w : World) (v : Value) (q : Rat) (k : Nat) : Prop := ∃ b A m c A' m' c', v = .agg #[.bool b, .slice A m c, .slice A' m' c'] ∧ decide (q.num < 0) = b ∧ Can w (.slice A m c) q.num.natAbs k ∧ Can w (.slice A' m' c') q.den k ∧
  Own base w (.slice A m c) (dg q.num.natAbs) ∧ Own base w (.slice A' m' c') (dg q.den) ∧ ∀ g, (Value.slice A m c).ownBlock = some g → (Value.slice A' m' c').ownBlock ≠ some g
def ROF (w : World) (q : Rat) (k : Nat) (e : Ending) (w' : World) : Prop := ∃ v, e = .returned v ∧ OF w.heap.size w' v q k ∧ Below w.heap.size w w'
section
variable {w w' w2 : World} {v : Value} {q : Rat} {k base g : Nat} {xs : List Nat}
theorem Own.farB (h : Own base w v xs) (hg : g < base) (a b c : Value) : Own base (stor3 w g a b c) v xs := by
  obtain ⟨hs, h⟩ := h
  refine ⟨hs, ?_⟩
  rcases h with h | ⟨g', rest, e, hb, hm, hS⟩
  · exact .inl h
  · exact .inr ⟨g', rest, e, hb, hm, hS.of_block (put3_heap w g a b c g' (by omega))⟩
theorem Own.lt {n c : Nat} {A : Option Addr} (h : Own base w (.slice A n c) xs) : ∀ g, (Value.slice A n c).ownBlock = some g → base ≤ g ∧ g < w.heap.size := by
  intro g hg
  obtain ⟨hs, h⟩ := h
  rcases h with ⟨e, _⟩ | ⟨g', rest, e, hb, hm, hS⟩
  · rw [e] at hg; simp [Value.ownBlock] at hg
  · rw [e] at hg
    simp [Value.ownBlock] at hg
    subst hg
    exact ⟨hb, hS.lt⟩
theorem OF.canF (h : OF base w v q k) : CanF w v q k := by
  obtain ⟨b, A, m, c, A', m', c', rfl, hb, hx, hy, _⟩ := h
  exact CanF.ofParts hb hx hy
theorem OF.below (h : OF base w v q k) (hB : Below w.heap.size w w') : OF base w' v q k := by
  obtain ⟨b, A, m, c, A', m', c', rfl, hb, hx, hy, ox, oy, ha⟩ := h
  exact ⟨b, A, m, c, A', m', c', rfl, hb, hx.below hB, hy.below hB, ox.below hB (Nat.le_refl _), oy.below hB (Nat.le_refl _), ha⟩
theorem OF.mono {base' : Nat} (h : OF base w v q k) (hb : base' ≤ base) : OF base' w v q k := by
  obtain ⟨b, A, m, c, A', m', c', rfl, h1, hx, hy, ox, oy, ha⟩ := h
  exact ⟨b, A, m, c, A', m', c', rfl, h1, hx, hy, ox.mono hb, oy.mono hb, ha⟩
theorem OF.stored {A9 A8 : Option Addr} {m9 c9 m8 c8 : Nat} {p : Bool} (h : OF base w v q k) (hF : Fcl w g p (.slice A9 m9 c9) (.slice A8 m8 c8)) (hg : g < base) (a b c : Value) : OF base (stor3 w g a b c) v q k := by
  obtain ⟨b, A, m, c, A', m', c', rfl, h1, hx, hy, ox, oy, ha⟩ := h
  exact ⟨b, A, m, c, A', m', c', rfl, h1, hx.put3 hF _ _ _, hy.put3 hF _ _ _, ox.farB hg _ _ _, oy.farB hg _ _ _, ha⟩
end
section
variable {w : World} {vn vd : Value} {n d k : Nat}
set_option maxHeartbeats 2000000 in
theorem frac_own_zero (neg : Bool) (hn : NumV w vn 0 k) (hd : NumV w vd d k) (hk : k ≤ 400000) (h1 : 2 ≤ k) (hd0 : d ≠ 0) :
    Calls Tryd.prog 24 #[.bool neg, vn, vd] w (ROF w 0 k) := by
  have R0 := Lib.hid (Fcl.new w false (.slice none 0 0) (.slice none 0 0))
  have hB0 : Below w.heap.size w (w.alloc (.cells #[.bool false, .slice none 0 0, .slice none 0 0] 25)) := (Below.refl _ _).alloc (Nat.le_refl _) _
  have hsz : w.heap.size < (w.alloc (.cells #[.bool false, .slice none 0 0, .slice none 0 0] 25)).heap.size := R0.out.lt
  have GG := Lib.hid (fun w1 hB => natGCD_v (w := w1) (hn.below hB) (hd.below hB) (by omega) (by omega))
  have O1 := Lib.hid (fun w1 : World => natOf_v (w := w1) 1 (by omega))
  have hg : 0 < Nat.gcd 0 d := by rw [Nat.gcd_zero_left]; omega
  have D1 := fun w1 hB x (hx : Can w1 x (Nat.gcd 0 d) (k + k)) => natDiv_v (w := w1) (hn.below hB) hx.numV (by omega) (by omega) hg
  have D2 := Lib.hid (fun w1 hB x (hx : Can w1 x (Nat.gcd 0 d) (k + k)) => natDiv_v (w := w1) (hd.below hB) hx.numV (by omega) (by omega) hg)
  rw [Nat.zero_div] at D1
  have D1 := Lib.hid D1
  clear hn hd
  go_enter Tryd.func24, Tryd.ntmps24
  go_wp2_with fail
  refine (GG.out _ hB0).mono ?_
  rintro e w1 ⟨x, rfl, hx, _, hB1⟩
  have R1 := R0.out.below hB1
  have hB1 := below_then hB0 hB1
  go_wp2_with fail
  refine (D1.out _ hB1 _ hx).mono ?_
  rintro e w2 ⟨u, ur, rfl, hu, hur, _, _, hB2⟩
  have R2 := R1.below hB2
  have hx := hx.below hB2
  have hB2 := below_then hB1 hB2
  obtain ⟨ra, rb, rc, rfl⟩ := hur.form
  obtain ⟨ua, ub, rfl⟩ := hu.form0
  go_wp2_with fail
  refine (D2.out _ hB2 _ hx).mono ?_
  rintro e w3 ⟨v, vr, rfl, hv, hvr, _, _, hB3⟩
  have R3 := R2.below hB3
  have hB3 := below_then hB2 hB3
  obtain ⟨sa, sb, sc, rfl⟩ := hvr.form
  obtain ⟨va, vb, vc, rfl⟩ := hv.form
  go_wp2_with fail
  refine (O1.out _).mono ?_
  rintro e w4 ⟨y, rfl, hy, oy, hB4⟩
  have hs3 : w.heap.size < w3.heap.size := R3.lt
  have R4 := R3.below hB4
  have hB4 := below_then hB3 hB4
  obtain ⟨C', o', r', rfl⟩ := hy.form
  obtain ⟨k0, k1, k2⟩ := R4.cells
  obtain ⟨f0, f1, f2⟩ := R4.frozen
  go_wp2_with fail
  refine bodyPost_ret (v := .agg #[.bool false, .slice none 0 0, .slice C' o' r']) (by rw [results_one rfl]; go_simp) rfl ?_
  have hO : OF (w.heap.size + 1) w4 (.agg #[.bool false, .slice none 0 0, .slice C' o' r']) 0 k :=
    ⟨false, none, 0, 0, C', o', r', rfl, rfl, ⟨Num.nil _, pow_pos' k⟩, hy.le h1, Own.nil _ _, oy.mono hs3, fun g hg => by simp [Value.ownBlock] at hg⟩
  exact ⟨_, rfl, (hO.stored R4 (Nat.lt_succ_self _) _ _ _).mono (Nat.le_succ _), below_put3 hB4 (Nat.le_refl _) _ _ _⟩
set_option maxHeartbeats 2000000 in
theorem frac_own_pos (neg : Bool) (hn : NumV w vn n k) (hd : NumV w vd d k) (hk : k ≤ 400000) (h0 : n ≠ 0) (h0' : d ≠ 0) :
    Calls Tryd.prog 24 #[.bool neg, vn, vd] w (ROF w (fr neg n d) k) := by
  obtain ⟨e1, e2, e3⟩ := fr_parts neg h0 h0'
  have hg := gcd_div_pos h0 h0'
  have hn1 : n / Nat.gcd n d ≠ 0 := by
    have := Nat.div_pos (Nat.gcd_le_left d (by omega)) hg
    omega
  have hd1 : d / Nat.gcd n d ≠ 0 := by
    have := Nat.div_pos (Nat.gcd_le_right n (by omega)) hg
    omega
  have R0 := Lib.hid (Fcl.new w false (.slice none 0 0) (.slice none 0 0))
  have hB0 : Below w.heap.size w (w.alloc (.cells #[.bool false, .slice none 0 0, .slice none 0 0] 25)) := (Below.refl _ _).alloc (Nat.le_refl _) _
  have GG := Lib.hid (fun w1 hB => natGCD_v (w := w1) (hn.below hB) (hd.below hB) (by omega) (by omega))
  have D1 := fun w1 hB x (hx : Can w1 x (Nat.gcd n d) (k + k)) => natDiv_v (w := w1) (hn.below hB) hx.numV (by omega) (by omega) hg
  have D2 := fun w1 hB x (hx : Can w1 x (Nat.gcd n d) (k + k)) => natDiv_v (w := w1) (hd.below hB) hx.numV (by omega) (by omega) hg
  rw [← e2] at D1 hn1
  rw [← e3] at D2 hd1
  have D1 := Lib.hid D1
  have D2 := Lib.hid D2
  generalize fr neg n d = q at *
  have E1 := Lib.hid e1
  clear e1 e2 e3 hn hd hg
  generalize Nat.gcd n d = gg at *
  go_enter Tryd.func24, Tryd.ntmps24
  go_wp2_with fail
  refine (GG.out _ hB0).mono ?_
  rintro e w1 ⟨x, rfl, hx, _, hB1⟩
  have R1 := R0.out.below hB1
  have hB1 := below_then hB0 hB1
  go_wp2_with fail
  refine (D1.out _ hB1 _ hx).mono ?_
  rintro e w2 ⟨u, ur, rfl, hu, hur, ou, _, hB2⟩
  have hs1 : w.heap.size < w1.heap.size := R1.lt
  have R2 := R1.below hB2
  have hx := hx.below hB2
  have hB2 := below_then hB1 hB2
  obtain ⟨ra, rb, rc, rfl⟩ := hur.form
  obtain ⟨ua, ub, uc, rfl, hul⟩ := hu.formP hn1
  go_wp2_with fail
  refine (D2.out _ hB2 _ hx).mono ?_
  rintro e w3 ⟨v, vr, rfl, hv, hvr, ov, _, hB3⟩
  have hs2 : w.heap.size < w2.heap.size := R2.lt
  have R3 := R2.below hB3
  have hu := hu.below hB3
  have OU := Lib.hid (ou.mono hs1)
  have OV := Lib.hid ov
  have OU3 := Lib.hid (OU.out.below hB3 (Nat.le_refl _))
  have hB3 := below_then hB2 hB3
  obtain ⟨sa, sb, sc, rfl⟩ := hvr.form
  obtain ⟨va, vb, vc, rfl, hvl⟩ := hv.formP hd1
  obtain ⟨k0, k1, k2⟩ := R3.cells
  obtain ⟨f0, f1, f2⟩ := R3.frozen
  clear ou ov
  go_wp2_with fail
  refine bodyPost_ret (v := .agg #[.bool neg, .slice ua ub uc, .slice va vb vc]) (by rw [results_one rfl]; go_simp) rfl ?_
  have hO : OF (w.heap.size + 1) w3 (.agg #[.bool neg, .slice ua ub uc, .slice va vb vc]) q k :=
    ⟨neg, ua, ub, uc, va, vb, vc, rfl, E1.out, hu, hv, OU3.out, OV.out.mono hs2, fun g hg hg' => by
      have h1 := (OU.out.lt g hg).2
      have h2 := (OV.out.lt g hg').1
      omega⟩
  exact ⟨_, rfl, (hO.stored R3 (Nat.lt_succ_self _) _ _ _).mono (Nat.le_succ _), below_put3 hB3 (Nat.le_refl _) _ _ _⟩
theorem frac_own (neg : Bool) (hn : NumV w vn n k) (hd : NumV w vd d k) (hk : k ≤ 400000) (h1 : 2 ≤ k) (hd0 : d ≠ 0) :
    Calls Tryd.prog 24 #[.bool neg, vn, vd] w (ROF w (fr neg n d) k) := by
  by_cases h0 : n = 0
  · subst h0
    rw [fr_zero]
    exact frac_own_zero neg hn hd hk h1 hd0
  · exact frac_own_pos neg hn hd hk h0 hd0
end
set_option maxHeartbeats 2000000 in
theorem fracNew_own (w : World) (x y : Int) (hx : Fits64 x) (hy : Fits64 y) (h0 : y ≠ 0) : Calls Tryd.prog 7 #[.int .i64 x, .int .i64 y] w fun e w' => ∃ v, e = .returned (.tuple #[v, .int .i64 0]) ∧ OF w.heap.size w' v (frz x y) 2 ∧ Below w.heap.size w w' := by
  have R0 := Lib.hid (Fcl.new w false (.slice none 0 0) (.slice none 0 0))
  have hB0 : Below w.heap.size w (w.alloc (.cells #[.bool false, .slice none 0 0, .slice none 0 0] 25)) := (Below.refl _ _).alloc (Nat.le_refl _) _
  have Mx := Lib.hid (fun w1 => size_v w1 x hx)
  have My := Lib.hid (fun w1 => size_v w1 y hy)
  have hy0 : ((y : Int) == 0) = false := by rw [beq_eq_false_iff_ne]; exact h0
  have RR := Lib.hid (fun w1 u v (hu : Can w1 u x.natAbs 2) (hv : Can w1 v y.natAbs 2) => frac_own (w := w1) (decide (x < 0) != decide (y < 0)) hu.numV hv.numV (by omega) (by omega) (by omega))
  rw [show fr (decide (x < 0) != decide (y < 0)) x.natAbs y.natAbs = frz x y from rfl] at RR
  clear h0
  go_enter Tryd.func7, Tryd.ntmps7
  go_wp2_with fail
  refine (Mx.out _).mono ?_
  rintro e w1 ⟨u, rfl, hu, _, hB1⟩
  have R1 := R0.out.below hB1
  have hB1 := below_then hB0 hB1
  go_wp2_with fail
  refine (My.out _).mono ?_
  rintro e w2 ⟨v, rfl, hv, _, hB2⟩
  have R2 := R1.below hB2
  have hu := hu.below hB2
  have hB2 := below_then hB1 hB2
  go_wp2_with fail
  refine (RR.out _ _ _ hu hv).mono ?_
  rintro e w3 ⟨z, rfl, hz, hB3⟩
  have hs2 : w.heap.size < w2.heap.size := R2.lt
  have R3 := R2.below hB3
  have hB3 := below_then hB2 hB3
  have HZ := Lib.hid (hz.mono hs2)
  obtain ⟨b, C, o, r, C', o', r', rfl, hb, hvx, hvy⟩ := hz.canF.parts
  obtain ⟨k0, k1, k2⟩ := R3.cells
  obtain ⟨f0, f1, f2⟩ := R3.frozen
  clear hz hvx hvy hb
  go_wp2_with fail
  refine bodyPost_ret (v := .tuple #[.agg #[.bool b, .slice C o r, .slice C' o' r'], .int .i64 0]) (by rw [results_cell_tmp rfl]; go_simp) rfl ?_
  exact ⟨_, rfl, (HZ.out.stored R3 (Nat.lt_succ_self _) _ _ _).mono (Nat.le_succ _), below_put3 hB3 (Nat.le_refl _) _ _ _⟩
end Go.Proofs.YtgjhgpfjeoeojaaDoor

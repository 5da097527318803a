/- The contracts of the small functions of package rational: isZero, isOne, integer, hasLeadingZero, reduce, defined. -/
import Derived.Laws.ResultCell
import Derived.Test.YtgjhgpfjeoeojaaDoorFrac
import Derived.Test.YtgjhgpfjeoeojaaDoorKarats
namespace Go.Proofs.YtgjhgpfjeoeojaaDoor
open Go.RowKit Dig
set_option linter.unusedVariables false
theorem mul_w {w : World} {va vb : Value} {a b k l : Nat} (ha : NumV w va a k) (hb : NumV w vb b l) (hk : k ≤ 1000000) (hl : l ≤ 1000000) : Calls Tryd.prog 16 #[va, vb] w (RCan w (a * b) (k + l)) := by
  have hf := mul_lt ha.lt hb.lt
  obtain ⟨L, h1, h2, h3⟩ := ha
  obtain ⟨M, g1, g2, g3⟩ := hb
  subst h2
  subst g2
  exact (mul_c w va vb L M h1 g1 (by omega)).mono fun e w' h => RCan.of h hf

theorem results_one {fn : Func} {p : Tmp} {ty : TypeId} (h : fn.results = #[.cell p ty]) (tmps : Array Value) (P : Program) (w : World) :
    (results fn tmps).run P w = ((asAddr (tmps.getD p undef)).run P w).andThen fun a w₁ => (loadVar ty a).run P w₁ := by
  simp only [results, h]
  simp [Sem.run_bind, Result.andThen]

namespace Dig
theorem nbits_is0 (a : Nat) : ((nbits a : Int) == 0) = decide (a = 0) := by
  rcases Nat.eq_zero_or_pos a with h | h
  · subst h; rfl
  · have := (nbits_le a h).1
    rw [show decide (a = 0) = false from by simp; omega, beq_eq_false_iff_ne]
    omega
theorem nbits_is1 (a : Nat) : ((nbits a : Int) == 1) = decide (a = 1) := by
  rcases Nat.eq_zero_or_pos a with h | h
  · subst h; rfl
  · by_cases h1 : a = 1
    · subst h1; rfl
    · rw [show decide (a = 1) = false from by simpa using h1, beq_eq_false_iff_ne]
      have h2 := nbits_mono (show 2 ≤ a by omega)
      have : nbits 2 = 2 := by decide
      omega
theorem gcd_div_pos {n d : Nat} (hn : n ≠ 0) (hd : d ≠ 0) : 0 < Nat.gcd n d := Nat.gcd_pos_of_pos_left d (by omega)
end Dig

section
variable {w : World} {va vb : Value} {a b k l : Nat}
theorem isZero_v (h : NumV w va a k) (hk : k ≤ 1000000) : Calls Tryd.prog 34 #[va] w (RVal w (.bool (decide (a = 0)))) := by
  have B := Lib.hid (bitLen_n h hk)
  have E := Lib.hid (nbits_is0 a)
  go_enter Tryd.func34, Tryd.ntmps34
  go_wp2_with fail
  refine (B.out).mono ?_
  rintro e w1 ⟨rfl, hB⟩
  go_wp2_with fail
  go_ret
  exact ⟨ret_eq (show Value.bool ((nbits a : Int) == 0) = _ by rw [E.out]), hB⟩
theorem isOne_v (h : NumV w va a k) (hk : k ≤ 1000000) : Calls Tryd.prog 43 #[va] w (RVal w (.bool (decide (a = 1)))) := by
  have B := Lib.hid (bitLen_n h hk)
  have E := Lib.hid (nbits_is1 a)
  go_enter Tryd.func43, Tryd.ntmps43
  go_wp2_with fail
  refine (B.out).mono ?_
  rintro e w1 ⟨rfl, hB⟩
  go_wp2_with fail
  go_ret
  exact ⟨ret_eq (show Value.bool ((nbits a : Int) == 1) = _ by rw [E.out]), hB⟩
end

/-- Block g holds the three parts of a fraction. -/
def Fcl (w : World) (g : Nat) (b : Bool) (x y : Value) : Prop := w.heap[g]? = some (.cells #[.bool b, x, y] 25 (0, 0))
section
variable {w w' : World} {g : Nat} {b : Bool} {x y : Value}
theorem Fcl.cells (h : Fcl w g b x y) : w.cell? ⟨g, 0, none⟩ = some (.bool b) ∧ w.cell? ⟨g, 1, none⟩ = some x ∧ w.cell? ⟨g, 2, none⟩ = some y := by
  unfold Fcl at h
  refine ⟨?_, ?_, ?_⟩ <;> rw [cell_of_row w g _ _ _ (0, 0) h] <;> rfl
theorem Fcl.frozen (h : Fcl w g b x y) : w.frozen? ⟨g, 0, none⟩ = false ∧ w.frozen? ⟨g, 1, none⟩ = false ∧ w.frozen? ⟨g, 2, none⟩ = false := by
  unfold Fcl at h
  refine ⟨?_, ?_, ?_⟩ <;> simp [World.frozen?, h]
theorem Fcl.lt (h : Fcl w g b x y) : g < w.heap.size := by
  rcases Nat.lt_or_ge g w.heap.size with hlt | hge
  · exact hlt
  · unfold Fcl at h; rw [Array.getElem?_eq_none hge] at h; cases h
theorem Fcl.of_block (h : Fcl w g b x y) (e : w'.heap[g]? = w.heap[g]?) : Fcl w' g b x y := by
  unfold Fcl at h ⊢
  rw [e]
  exact h
theorem Fcl.below (h : Fcl w g b x y) (hb : Below w.heap.size w w') : Fcl w' g b x y := h.of_block (hb.block g h.lt)
theorem Fcl.drewN (h : Fcl w g b x y) (n : Nat) : Fcl (w.drewN n) g b x y := h
theorem Fcl.alloc (h : Fcl w g b x y) (o : Obj) : Fcl (w.alloc o) g b x y := h.of_block (Below.heap_alloc _ _ _ h.lt)
theorem Fcl.new (w : World) (b : Bool) (x y : Value) : Fcl (w.alloc (.cells #[.bool b, x, y] 25)) w.heap.size b x y := by
  unfold Fcl
  rw [heap_alloc_new]
end
section
variable {w : World} {v : Value} {n k : Nat}
theorem Can.form (h : Can w v n k) : ∃ A m c, v = .slice A m c := by
  obtain ⟨A, c, e⟩ := h.1.form
  exact ⟨A, _, c, e⟩
theorem NumV.form (h : NumV w v n k) : ∃ A m c, v = .slice A m c := by
  obtain ⟨L, h1, _⟩ := h
  obtain ⟨A, c, e⟩ := h1.form
  exact ⟨A, _, c, e⟩
end

/-- The world behind the storing of a fraction in block g. -/
def stor3 (w : World) (g : Nat) (a b c : Value) : World := ((w.setCell ⟨g, 0, none⟩ a).setCell ⟨g, 1, none⟩ b).setCell ⟨g, 2, none⟩ c
section
variable {w w' w2 : World} {g : Nat} {v x y a b c : Value} {p : Bool} {xs : List Nat} {A A' : Option Addr} {m m' e e' n k : Nat}
theorem Num.keepBut (h : Num w v xs) (hF : Fcl w g p (.slice A m e) (.slice A' m' e')) (hs : w.heap.size ≤ w'.heap.size) (hk : ∀ j, j ≠ g → w'.heap[j]? = w.heap[j]?) : Num w' v xs := by
  obtain ⟨B, c, h1, h2, h3, h4, h5⟩ := h
  refine ⟨B, c, h1, h2, h3, h4, fun hp => ?_⟩
  obtain ⟨b, off, e1, hb, hc⟩ := h5 hp
  have hne : b ≠ g := by
    rintro rfl
    have h0 := hc 0 hp
    unfold Fcl at hF
    rw [cell_of_row w b _ _ _ (0, 0) hF] at h0
    rcases hoff : off + 0 with _ | _ | _ | q <;> rw [hoff] at h0 <;> simp at h0
  refine ⟨b, off, e1, by omega, fun j hj => ?_⟩
  rw [← hc j hj]
  simp only [World.cell?, hk b hne]
theorem put3_heap (w : World) (g : Nat) (a b c : Value) : ∀ j, j ≠ g → (stor3 w g a b c).heap[j]? = w.heap[j]? := by
  intro j hj
  unfold stor3
  rw [Below.heap_setCell _ ⟨g, 2, none⟩ _ j hj, Below.heap_setCell _ ⟨g, 1, none⟩ _ j hj, Below.heap_setCell _ ⟨g, 0, none⟩ _ j hj]
theorem put3_size (w : World) (g : Nat) (a b c : Value) : (stor3 w g a b c).heap.size = w.heap.size := by
  unfold stor3
  simp [World.setCell]
theorem Can.put3 (h : Can w v n k) (hF : Fcl w g p (.slice A m e) (.slice A' m' e')) (a b c : Value) : Can (stor3 w g a b c) v n k :=
  ⟨h.1.keepBut hF (by rw [put3_size]; exact Nat.le_refl _) (put3_heap w g a b c), h.2⟩
theorem NumV.put3 (h : NumV w v n k) (hF : Fcl w g p (.slice A m e) (.slice A' m' e')) (a b c : Value) : NumV (stor3 w g a b c) v n k := by
  obtain ⟨L, h1, h2⟩ := h
  exact ⟨L, h1.keepBut hF (by rw [put3_size]; exact Nat.le_refl _) (put3_heap w g a b c), h2⟩
theorem below_new (o : Obj) (h : Below (w.alloc o).heap.size (w.alloc o) w2) : Below w.heap.size w w2 := below_then ((Below.refl _ _).alloc (Nat.le_refl _) o) h
theorem below_put3 (hB : Below w.heap.size w w2) (hg : w.heap.size ≤ g) (a b c : Value) : Below w.heap.size w (stor3 w2 g a b c) := by
  unfold stor3
  exact ((hB.setCell (p := ⟨g, 0, none⟩) hg a).setCell (p := ⟨g, 1, none⟩) hg b).setCell (p := ⟨g, 2, none⟩) hg c
theorem Fcl.put3 (hF : Fcl w g p x y) (q : Bool) (b c : Value) : Fcl (stor3 w g (.bool q) b c) g q b c := by
  unfold Fcl at hF ⊢
  unfold Go.Proofs.YtgjhgpfjeoeojaaDoor.stor3
  simp [World.setCell, Array.getElem?_modify, hF]
end

/-- The canonical form of a whole number. -/
theorem CanF.int {w : World} {vn vd : Value} {n k : Nat} (h1 : Can w vn n k) (h2 : Can w vd 1 k) : CanF w (.agg #[.bool false, vn, vd]) (fr false n 1) k := by
  rcases Nat.eq_zero_or_pos n with h | h
  · subst h
    rw [fr_zero]
    exact CanF.zero h1 h2
  · refine CanF.of_parts (by omega) (by omega) ?_ ?_
    · rw [Nat.gcd_one_right, Nat.div_one]; exact h1
    · rw [Nat.gcd_one_right, Nat.div_one]; exact h2
theorem integer_v (w : World) (n : Nat) (hn : n < 18446744073709551616) : Calls Tryd.prog 45 #[.int .u64 (n : Int)] w (RCanF w (fr false n 1) 2) := by
  have R0 := Lib.hid (Fcl.new w false (.slice none 0 0) (.slice none 0 0))
  go_enter Tryd.func45, Tryd.ntmps45
  go_wp2_with fail
  refine (from_v n hn).mono ?_
  rintro e w1 ⟨x, rfl, hx, _, hB1⟩
  go_wp2_with fail
  refine (from_v 1 (by omega)).mono ?_
  rintro e w2 ⟨y, rfl, hy, _, hB2⟩
  have R2 := R0.out.below (below_then hB1 hB2)
  have hx2 := hx.below hB2
  obtain ⟨A, m, c, rfl⟩ := hx.form
  obtain ⟨A', m', c', rfl⟩ := hy.form
  obtain ⟨c0, c1, c2⟩ := R2.cells
  obtain ⟨f0, f1, f2⟩ := R2.frozen
  have HB := Lib.hid (below_new _ (below_then hB1 hB2))
  have R3 := R2
  clear hx hB1 hB2 R2
  go_wp2_with fail
  refine bodyPost_ret (v := .agg #[.bool false, .slice A m c, .slice A' m' c']) (by rw [results_one rfl]; go_simp) rfl ?_
  exact ⟨_, rfl, CanF.int (hx2.put3 R3 _ _ _) (hy.put3 R3 _ _ _), below_put3 HB.out (Nat.le_refl _) _ _ _⟩


section
variable {w w1 w2 : World} {v va : Value} {q : Rat} {a k g : Nat}
theorem isZero_t (h : NumV w va 0 k) (hk : k ≤ 1000000) : Calls Tryd.prog 34 #[va] w (RVal w (.bool true)) := isZero_v h hk
theorem isZero_f (h : NumV w va a k) (hk : k ≤ 1000000) (h0 : a ≠ 0) : Calls Tryd.prog 34 #[va] w (RVal w (.bool false)) := by
  have := isZero_v h hk
  rwa [show decide (a = 0) = false by simpa using h0] at this
/-- A canonical fraction by its parts. -/
theorem CanF.parts (h : CanF w v q k) : ∃ b A m c A' m' c', v = .agg #[.bool b, .slice A m c, .slice A' m' c'] ∧ decide (q.num < 0) = b ∧ Can w (.slice A m c) q.num.natAbs k ∧ Can w (.slice A' m' c') q.den k := by
  obtain ⟨vn, vd, rfl, h1, h2⟩ := h
  obtain ⟨A, m, c, rfl⟩ := h1.form
  obtain ⟨A', m', c', rfl⟩ := h2.form
  exact ⟨_, A, m, c, A', m', c', rfl, rfl, h1, h2⟩
theorem CanF.ofParts {b : Bool} {x y : Value} (hb : decide (q.num < 0) = b) (h1 : Can w x q.num.natAbs k) (h2 : Can w y q.den k) : CanF w (.agg #[.bool b, x, y]) q k := ⟨x, y, by rw [hb], h1, h2⟩
/-- A canonical fraction that is stored as the result. -/
theorem RCanF.stored {b : Bool} {x y : Value} {p : Bool} {A A' : Option Addr} {m m' e e' : Nat} (hb : decide (q.num < 0) = b) (h1 : Can w2 x q.num.natAbs k) (h2 : Can w2 y q.den k)
    (hF : Fcl w2 g p (.slice A m e) (.slice A' m' e')) (hB : Below w.heap.size w w2) (hg : w.heap.size ≤ g) (z : Value) : RCanF w q k (.returned (.agg #[.bool b, x, y])) (stor3 w2 g z x y) :=
  ⟨_, rfl, CanF.ofParts hb (h1.put3 hF _ _ _) (h2.put3 hF _ _ _), below_put3 hB hg _ _ _⟩
theorem CanF.cast {p : Rat} (h : CanF w v p k) (e : p = q) : CanF w v q k := e ▸ h
end

section
variable {w : World} {vn vd : Value} {n d k : Nat}
set_option maxHeartbeats 1000000 in
/-- reduce where the numerator or the denominator is 0. -/
theorem reduce_zero (neg : Bool) (hn : NumV w vn n k) (hd : NumV w vd d k) (hk : k ≤ 400000) (h1 : 2 ≤ k) (h0 : n = 0 ∨ d = 0) :
    Calls Tryd.prog 22 #[.bool neg, vn, vd] w (RCanF w (fr neg n d) k) := by
  have hq : fr neg n d = 0 := (fr_eq_zero neg n d).2 h0
  rw [hq]
  have R0 := Lib.hid (Fcl.new w false (.slice none 0 0) (.slice none 0 0))
  have hB0 : Below w.heap.size w (w.alloc (.cells #[.bool false, .slice none 0 0, .slice none 0 0] 25)) := (Below.refl _ _).alloc (Nat.le_refl _) _
  have HI := Lib.hid (fun w1 => integer_v w1 0 (by omega))
  rw [fr_zero] at HI
  rcases Nat.eq_zero_or_pos n with hz | hz
  · subst hz
    have Zn := Lib.hid (fun w1 hB => isZero_t (w := w1) (hn.below hB) (by omega))
    go_enter Tryd.func22, Tryd.ntmps22
    go_wp2_with fail
    refine (Zn.out _ hB0).mono ?_
    rintro e w1 ⟨rfl, hB1⟩
    have R1 := R0.out.below hB1
    have hB1 := below_then hB0 hB1
    go_wp2_with fail
    refine (HI.out _).mono ?_
    rintro e w2 ⟨v, rfl, hv, hB2⟩
    have R2 := R1.below hB2
    have hB2 := below_then hB1 hB2
    obtain ⟨b, A, m, c, A', m', c', rfl, hb, hx, hy⟩ := hv.parts
    obtain ⟨c0, c1, c2⟩ := R2.cells
    obtain ⟨f0, f1, f2⟩ := R2.frozen
    have HR := Lib.hid R2
    have HX := Lib.hid hx
    have HY := Lib.hid hy
    have HBB := Lib.hid hb
    clear R1 R2 hx hy hv hb
    go_wp2_with fail
    refine bodyPost_ret (v := .agg #[.bool b, .slice A m c, .slice A' m' c']) (by rw [results_one rfl]; go_simp) rfl ?_
    exact RCanF.le (RCanF.stored HBB.out HX.out HY.out HR.out hB2 (Nat.le_refl _) _) h1
  · have hdz : d = 0 := by omega
    subst hdz
    have Zn := Lib.hid (fun w1 hB => isZero_f (w := w1) (hn.below hB) (by omega) (by omega))
    have Zd := Lib.hid (fun w1 hB => isZero_t (w := w1) (hd.below hB) (by omega))
    go_enter Tryd.func22, Tryd.ntmps22
    go_wp2_with fail
    refine (Zn.out _ hB0).mono ?_
    rintro e w1 ⟨rfl, hB1⟩
    have R1 := R0.out.below hB1
    have hB1 := below_then hB0 hB1
    go_wp2_with fail
    refine (Zd.out _ hB1).mono ?_
    rintro e w2 ⟨rfl, hB2⟩
    have R2 := R1.below hB2
    have hB2 := below_then hB1 hB2
    clear R1 hB1
    go_wp2_with fail
    refine (HI.out _).mono ?_
    rintro e w3 ⟨v, rfl, hv, hB3⟩
    have R3 := R2.below hB3
    have hB3 := below_then hB2 hB3
    obtain ⟨b, A, m, c, A', m', c', rfl, hb, hx, hy⟩ := hv.parts
    obtain ⟨c0, c1, c2⟩ := R3.cells
    obtain ⟨f0, f1, f2⟩ := R3.frozen
    have HR := Lib.hid R3
    have HX := Lib.hid hx
    have HY := Lib.hid hy
    have HBB := Lib.hid hb
    clear R2 R3 hx hy hv hb hB2
    go_wp2_with fail
    refine bodyPost_ret (v := .agg #[.bool b, .slice A m c, .slice A' m' c']) (by rw [results_one rfl]; go_simp) rfl ?_
    exact RCanF.le (RCanF.stored HBB.out HX.out HY.out HR.out hB3 (Nat.le_refl _) _) h1

set_option maxHeartbeats 1000000 in
/-- reduce where both are above 0. -/
theorem reduce_pos (neg : Bool) (hn : NumV w vn n k) (hd : NumV w vd d k) (hk : k ≤ 400000) (h0 : n ≠ 0) (h0' : d ≠ 0) :
    Calls Tryd.prog 22 #[.bool neg, vn, vd] w (RCanF w (fr neg n d) k) := by
  obtain ⟨e1, e2, e3⟩ := fr_parts neg h0 h0'
  have hg := gcd_div_pos h0 h0'
  have R0 := Lib.hid (Fcl.new w false (.slice none 0 0) (.slice none 0 0))
  have hB0 : Below w.heap.size w (w.alloc (.cells #[.bool false, .slice none 0 0, .slice none 0 0] 25)) := (Below.refl _ _).alloc (Nat.le_refl _) _
  have Zn := Lib.hid (fun w1 hB => isZero_f (w := w1) (hn.below hB) (by omega) h0)
  have Zd := Lib.hid (fun w1 hB => isZero_f (w := w1) (hd.below hB) (by omega) h0')
  have G := Lib.hid (fun w1 hB => gcd_v (w := w1) (hn.below hB) (hd.below hB) (by omega) (by omega))
  have Dn := Lib.hid (fun w1 hB x (hx : Can w1 x (Nat.gcd n d) (k + k)) => div_v (w := w1) (hn.below hB) hx.numV (by omega) hg)
  have Dd := Lib.hid (fun w1 hB x (hx : Can w1 x (Nat.gcd n d) (k + k)) => div_v (w := w1) (hd.below hB) hx.numV (by omega) hg)
  rw [← e2] at Dn
  rw [← e3] at Dd
  generalize fr neg n d = q at *
  have E1 := Lib.hid e1
  clear e1 e2 e3
  generalize Nat.gcd n d = gg at *
  go_enter Tryd.func22, Tryd.ntmps22
  go_wp2_with fail
  refine (Zn.out _ hB0).mono ?_
  rintro e w1 ⟨rfl, hB1⟩
  have R1 := R0.out.below hB1
  have hB1 := below_then hB0 hB1
  go_wp2_with fail
  refine (Zd.out _ hB1).mono ?_
  rintro e w2 ⟨rfl, hB2⟩
  have R2 := R1.below hB2
  have hB2 := below_then hB1 hB2
  clear R1 hB1
  go_wp2_with fail
  refine (G.out _ hB2).mono ?_
  rintro e w3 ⟨x, rfl, hx, _, hB3⟩
  have R3 := R2.below hB3
  have hB3 := below_then hB2 hB3
  clear R2 hB2
  go_wp2_with fail
  refine (Dn.out _ hB3 x hx).mono ?_
  rintro e w4 ⟨y, r, rfl, hy, hr, _, _, hB4⟩
  have R4 := R3.below hB4
  have hx := hx.below hB4
  have hB4 := below_then hB3 hB4
  clear R3 hB3 hr
  go_wp2_with fail
  refine (Dd.out _ hB4 x hx).mono ?_
  rintro e w5 ⟨z, r2, rfl, hz, hr, _, _, hB5⟩
  have R5 := R4.below hB5
  have hy := hy.below hB5
  have hB5 := below_then hB4 hB5
  clear R4 hB4 hr hx
  obtain ⟨A, m, c, rfl⟩ := hy.form
  obtain ⟨A', m', c', rfl⟩ := hz.form
  obtain ⟨c0, c1, c2⟩ := R5.cells
  obtain ⟨f0, f1, f2⟩ := R5.frozen
  have HR := Lib.hid R5
  have HX := Lib.hid hy
  have HY := Lib.hid hz
  clear R5 hy hz
  go_wp2_with fail
  refine bodyPost_ret (v := .agg #[.bool neg, .slice A m c, .slice A' m' c']) (by rw [results_one rfl]; go_simp) rfl ?_
  exact RCanF.stored E1.out HX.out HY.out HR.out hB5 (Nat.le_refl _) _
theorem reduce_v (neg : Bool) (hn : NumV w vn n k) (hd : NumV w vd d k) (hk : k ≤ 400000) (h1 : 2 ≤ k) :
    Calls Tryd.prog 22 #[.bool neg, vn, vd] w (RCanF w (fr neg n d) k) := by
  by_cases h0 : n = 0 ∨ d = 0
  · exact reduce_zero neg hn hd hk h1 h0
  · exact reduce_pos neg hn hd hk (fun h => h0 (.inl h)) (fun h => h0 (.inr h))
end
end Go.Proofs.YtgjhgpfjeoeojaaDoor

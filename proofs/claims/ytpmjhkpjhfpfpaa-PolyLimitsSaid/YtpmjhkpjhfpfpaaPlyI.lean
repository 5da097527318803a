/- The contract of multiply of package poly. -/
import Derived.Test.YtpmjhkpjhfpfpaaPlyH
namespace Go.Proofs.Ytpmjhkpjhfpfpaa
open Go.RowKit Dig
set_option linter.unusedVariables false

/-- The box of a scaled polynomial. -/
def Sbx (w : World) (g : Nat) (x y : Value) : Prop := w.heap[g]? = some (.cells #[x, y] 59 (0, 0))
section
variable {w w' : World} {g : Nat} {x y : Value}
theorem Sbx.cells (h : Sbx w g x y) : w.cell? ⟨g, 0, none⟩ = some x ∧ w.cell? ⟨g, 1, none⟩ = some y := by
  unfold Sbx at h
  simp [World.cell?, h]
theorem Sbx.frozen (h : Sbx w g x y) : w.frozen? ⟨g, 0, none⟩ = false ∧ w.frozen? ⟨g, 1, none⟩ = false := by
  unfold Sbx at h
  simp [World.frozen?, h]
theorem Sbx.lt (h : Sbx w g x y) : g < w.heap.size := by
  rcases Nat.lt_or_ge g w.heap.size with hlt | hge
  · exact hlt
  · unfold Sbx at h; rw [Array.getElem?_eq_none hge] at h; cases h
theorem Sbx.of_block (h : Sbx w g x y) (e : w'.heap[g]? = w.heap[g]?) : Sbx w' g x y := by
  unfold Sbx at h ⊢
  rw [e]
  exact h
theorem Sbx.below (h : Sbx w g x y) (hb : Below w.heap.size w w') : Sbx w' g x y := h.of_block (hb.block g h.lt)
theorem Sbx.alloc (h : Sbx w g x y) (o : Obj) : Sbx (w.alloc o) g x y := h.of_block (Below.heap_alloc _ _ _ h.lt)
theorem Sbx.far (h : Sbx w g x y) {p : Addr} (hp : g ≠ p.block) (u : Value) : Sbx (w.setCell p u) g x y := h.of_block (Below.heap_setCell w p u g hp)
theorem Sbx.far2 {g2 : Nat} (h : Sbx w g x y) (hne : g ≠ g2) (o : Nat) (a b : Value) : Sbx (stor2o w g2 o a b) g x y := h.of_block (stor2o_heap w g2 o a b g hne)
theorem Sbx.new (w : World) (x y : Value) : Sbx (w.alloc (.cells #[x, y] 59)) w.heap.size x y := by
  unfold Sbx
  rw [heap_alloc_new]
theorem Sbx.new2 (w : World) (o : Obj) (x y : Value) : Sbx ((w.alloc o).alloc (.cells #[x, y] 59)) (w.heap.size + 1) x y := by
  have := Sbx.new (w.alloc o) x y
  rwa [show (w.alloc o).heap.size = w.heap.size + 1 by show (Array.push _ _).size = _; simp] at this
theorem Sbx.new3 (w : World) (o o2 : Obj) (x y : Value) : Sbx (((w.alloc o).alloc o2).alloc (.cells #[x, y] 59)) (w.heap.size + 1 + 1) x y := by
  have := Sbx.new2 (w.alloc o) o2 x y
  rwa [show (w.alloc o).heap.size = w.heap.size + 1 by show (Array.push _ _).size = _; simp] at this
theorem Sbx.set0 (h : Sbx w g x y) (u : Value) : Sbx (w.setCell ⟨g, 0, none⟩ u) g u y := by
  unfold Sbx at h ⊢
  simp only [World.setCell, Array.getElem?_modify, h]
  simp
theorem Sbx.put (h : Sbx w g x y) (a b : Value) : Sbx (stor2o w g 0 a b) g a b := by
  unfold Sbx stor2o at *
  simp only [World.setCell, Array.getElem?_modify, h]
  simp
theorem Sbx.plain {A B : Option Addr} {m c m' c' : Nat} (h : Sbx w g (.slice A m c) (.slice B m' c')) : Plain w g := ⟨_, _, h, fun i u hu k z e => by
  subst e
  match i, hu with
  | 0, hu => simp at hu
  | 1, hu => simp at hu
  | i + 2, hu => simp at hu⟩
end
theorem three_sbx (w : World) (x0 y0 x1 y1 : Value) :
    ∃ w2 g0 g1 g2, ((w.alloc (.cells #[x0, y0] 59)).alloc (.cells #[x1, y1] 59)).alloc (.cells #[.slice none 0 0, .slice none 0 0] 59) = w2 ∧
      w.heap.size = g0 ∧ g0 + 1 = g1 ∧ g1 + 1 = g2 ∧ Below w.heap.size w w2 ∧ Sbx w2 g0 x0 y0 ∧ Sbx w2 g1 x1 y1 ∧ Sbx w2 g2 (.slice none 0 0) (.slice none 0 0) :=
  ⟨_, _, _, _, rfl, rfl, rfl, rfl, below_alloc3 w _ _ _, ((Sbx.new w x0 y0).alloc _).alloc _, (Sbx.new2 w _ x1 y1).alloc _, Sbx.new3 w _ _ _ _⟩

/-- A polynomial with whole coefficients zs above the denominator d. -/
def SclV (w : World) (v : Value) (zs : List Int) (d K M : Nat) : Prop := ∃ nv dv, v = .agg #[nv, dv] ∧ Zls M w nv zs ∧ Can w dv d K
def RScl (w : World) (zs : List Int) (d K M : Nat) (e : Ending) (w' : World) : Prop := ∃ v, e = .returned v ∧ SclV w' v zs d K M ∧ Below w.heap.size w w'
theorem SclV.below {w w' : World} {v : Value} {zs : List Int} {d K M : Nat} (h : SclV w v zs d K M) (hb : Below w.heap.size w w') : SclV w' v zs d K M := by
  obtain ⟨nv, dv, e, h1, h2⟩ := h
  exact ⟨nv, dv, e, h1.below hb, h2.below hb⟩
theorem SclV.parts {w : World} {v : Value} {zs : List Int} {d K M : Nat} (h : SclV w v zs d K M) : ∃ A c B m c', v = .agg #[.slice A zs.length c, .slice B m c'] ∧ Zls M w (.slice A zs.length c) zs ∧ Can w (.slice B m c') d K := by
  obtain ⟨nv, dv, e, h1, h2⟩ := h
  obtain ⟨A, c, rfl⟩ := h1.form
  obtain ⟨B, m, c', rfl⟩ := h2.form
  exact ⟨A, c, B, m, c', e, h1, h2⟩
def zmul (zs ys : List Int) : List Int := if zs.length = 0 ∨ ys.length = 0 then [] else mkz (zs.length + ys.length - 1) fun kk => sumZ (kk + 1) fun t => zf zs t * zf ys (kk - t)

theorem Zls.plain {M : Nat} {w w' : World} {v : Value} {zs : List Int} {g : Nat} (h : Zls M w v zs) (hF : Plain w g) (hd : ∀ A n c b off, v = .slice A n c → A = some ⟨b, off, none⟩ → 0 < n → b ≠ g) (hs : w.heap.size ≤ w'.heap.size) (hk : ∀ j, j ≠ g → w'.heap[j]? = w.heap[j]?) : Zls M w' v zs := by
  obtain ⟨A, c, rfl, h2, h3, h5⟩ := h
  refine ⟨A, c, rfl, h2, h3, fun hp => ?_⟩
  obtain ⟨b, off, rfl, hbb, hc⟩ := h5 hp
  have hne := hd _ _ _ b off rfl rfl hp
  refine ⟨b, off, rfl, Nat.lt_of_lt_of_le hbb hs, fun j hj => ?_⟩
  obtain ⟨tb, X, xm, xc, c0, c1, ht⟩ := hc j hj
  have hcell : ∀ i, w'.cell? ⟨b, i, none⟩ = w.cell? ⟨b, i, none⟩ := fun i => by simp only [World.cell?, hk b hne]
  exact ⟨tb, X, xm, xc, (hcell _).trans c0, (hcell _).trans c1, ht.plain hF hs hk⟩

section
variable {w : World} {va vb : Value} {zs ys : List Int} {d e K L M N : Nat}
set_option maxHeartbeats 8000000 in
theorem multiply_none (ha : SclV w va zs d K M) (hb : SclV w vb ys e L N) (hK : K ≤ 100000) (hL : L ≤ 100000) (h0 : zs.length = 0 ∨ ys.length = 0) :
    Calls Try.prog 54 #[va, vb] w (RScl w (zmul zs ys) (d * e) (K + L) (M + N + 1)) := by
  obtain ⟨A, c, B, m, c', rfl, hz, hd⟩ := ha.parts
  obtain ⟨A2, c2, B2, m2, c2', rfl, hy, he⟩ := hb.parts
  obtain ⟨w2, g0, g1, g2, ew, eg0, eg1, eg2, hB0, hF0, hF1, hF2⟩ := three_sbx w (.slice A zs.length c) (.slice B m c') (.slice A2 ys.length c2) (.slice B2 m2 c2')
  have MU := Lib.hid (fun w1 hB => mul_w (w := w1) (hd.below hB).numV (he.below hB).numV (by omega) (by omega))
  have E : Hid (zmul zs ys = []) := Lib.hid (if_pos h0)
  have HG := Lib.hid (show w.heap.size ≤ g2 by omega)
  have HZ : Hid (((zs.length : Int) == 0) = true ∨ ((zs.length : Int) == 0) = false ∧ ((ys.length : Int) == 0) = true) := Lib.hid (by
    by_cases h : zs.length = 0
    · left; rw [beq_iff_eq]; omega
    · right; exact ⟨by rw [beq_eq_false_iff_ne]; omega, by rw [beq_iff_eq]; omega⟩)
  clear hz hd hy he ha hb h0
  generalize zs.length = n at *
  generalize ys.length = n2 at *
  obtain ⟨k0, k1⟩ := hF0.cells
  obtain ⟨l0, l1⟩ := hF1.cells
  go_enter Try.func54, Try.ntmps54
  go_wp2_with fail
  refine (MU.out _ hB0).mono ?_
  rintro e w3 ⟨r, rfl, hr, _, hB3⟩
  obtain ⟨D, dm, dc, rfl⟩ := hr.form
  have hF0 := hF0.below hB3
  have hF1 := hF1.below hB3
  have hF2 := hF2.below hB3
  have R5 := Sbx.new w3 (.slice none 0 0) (.slice D dm dc)
  have hF0 := hF0.alloc (.cells #[.slice none 0 0, .slice D dm dc] 59)
  have hF1 := hF1.alloc (.cells #[.slice none 0 0, .slice D dm dc] 59)
  have hF2 := hF2.alloc (.cells #[.slice none 0 0, .slice D dm dc] 59)
  have hB4 : Below w.heap.size w (w3.alloc (.cells #[.slice none 0 0, .slice D dm dc] 59)) := (below_then hB0 hB3).alloc (below_then hB0 hB3).size _
  have hr := hr.below ((Below.refl _ _).alloc (Nat.le_refl _) (.cells #[.slice none 0 0, .slice D dm dc] 59))
  clear k0 k1 l0 l1 ew
  obtain ⟨k0, k1⟩ := hF0.cells
  obtain ⟨l0, l1⟩ := hF1.cells
  obtain ⟨m0, m1⟩ := hF2.cells
  obtain ⟨f0, f1⟩ := hF2.frozen
  obtain ⟨r0, r1⟩ := R5.cells
  have HR := Lib.hid hr
  have HF := Lib.hid hF2
  have HB := Lib.hid hB4
  clear hr hF0 hF1 hF2 hB4 R5 hB0
  have fin : ∀ w4, w4 = stor2o (w3.alloc (.cells #[.slice none 0 0, .slice D dm dc] 59)) g2 0 (.slice none 0 0) (.slice D dm dc) → RScl w (zmul zs ys) (d * e) (K + L) (M + N + 1) (.returned (.agg #[.slice none 0 0, .slice D dm dc])) w4 := by
    rintro w4 rfl
    refine ⟨_, rfl, ⟨_, _, rfl, ?_, HR.out.plain HF.out.plain (Nat.le_of_eq (stor2o_size _ _ _ _ _).symm) (stor2o_heap _ g2 0 _ _)⟩, below_stor2o HB.out HG.out _ _ _⟩
    rw [E.out]
    exact Zls.nil _ _
  have FIN := Lib.hid fin
  clear fin
  rcases HZ.out with h1 | ⟨h1, h2⟩
  · go_wp2_with fail
    refine bodyPost_ret (v := .agg #[.slice none 0 0, .slice D dm dc]) (by rw [results_one rfl]; go_simp) rfl ?_
    exact FIN.out _ rfl
  · go_wp2_with fail
    refine bodyPost_ret (v := .agg #[.slice none 0 0, .slice D dm dc]) (by rw [results_one rfl]; go_simp) rfl ?_
    exact FIN.out _ rfl

theorem ZFill.of_block {k : Nat} {w w' : World} {g n i : Nat} {f : Nat → Int} (h : ZFill k w g n i f) {g2 : Nat} (hP : Plain w g2) (hne : g ≠ g2) (hs : w.heap.size ≤ w'.heap.size) (hk : ∀ j, j ≠ g2 → w'.heap[j]? = w.heap[j]?) : ZFill k w' g n i f := by
  obtain ⟨ts, hF, hl, hE⟩ := h
  exact ⟨ts, hF.of_block (hk g hne), hl, fun j hj => (hE j hj).plain hP hs hk⟩
/-- What the loop of multiply finds in memory. -/
def MuRel (w wr : World) (g0 g1 g2 g5 g n' i M : Nat) (x0 y0 x1 y1 den : Value) (f : Nat → Int) : Prop := Sbx wr g0 x0 y0 ∧ Sbx wr g1 x1 y1 ∧ Sbx wr g2 (.slice none 0 0) (.slice none 0 0) ∧ Sbx wr g5 (.slice (some ⟨g, 0, none⟩) n' n') den ∧ ZFill M wr g n' i f ∧ Below w.heap.size w wr
theorem MuRel.below {w wr w2 : World} {g0 g1 g2 g5 g n' i M : Nat} {x0 y0 x1 y1 den : Value} {f : Nat → Int} (h : MuRel w wr g0 g1 g2 g5 g n' i M x0 y0 x1 y1 den f) (hB : Below wr.heap.size wr w2) : MuRel w w2 g0 g1 g2 g5 g n' i M x0 y0 x1 y1 den f := by
  obtain ⟨a, b, c, d, e, f⟩ := h
  exact ⟨a.below hB, b.below hB, c.below hB, d.below hB, e.below hB, below_then f hB⟩
theorem MuRel.set {w wr : World} {g0 g1 g2 g5 g n' i M : Nat} {x0 y0 x1 y1 den : Value} {f : Nat → Int} (h : MuRel w wr g0 g1 g2 g5 g n' i M x0 y0 x1 y1 den f) (h0 : g0 < g) (h1 : g1 < g) (h2 : g2 < g) (h5 : g5 < g) (hg : w.heap.size ≤ g) (hi : i < n') {b : Bool} {X : Option Addr} {xm xc : Nat} (hE : IntV M wr (.agg #[.bool b, .slice X xm xc]) (f i)) :
    MuRel w (stor2o wr g (i * 2) (.bool b) (.slice X xm xc)) g0 g1 g2 g5 g n' (i + 1) M x0 y0 x1 y1 den f := by
  obtain ⟨a1, b1, c1, d1, e1, f1⟩ := h
  exact ⟨a1.far2 (by omega) _ _ _, b1.far2 (by omega) _ _ _, c1.far2 (by omega) _ _ _, d1.far2 (by omega) _ _ _, e1.set hi hE, below_stor2o f1 hg _ _ _⟩
theorem MuRel.reads {w wr : World} {g0 g1 g2 g5 g n' i M : Nat} {x0 y0 x1 y1 den : Value} {f : Nat → Int} (h : MuRel w wr g0 g1 g2 g5 g n' i M x0 y0 x1 y1 den f) : wr.cell? ⟨g0, 0, none⟩ = some x0 ∧ wr.cell? ⟨g1, 0, none⟩ = some x1 ∧ wr.cell? ⟨g5, 0, none⟩ = some (.slice (some ⟨g, 0, none⟩) n' n') := ⟨h.1.cells.1, h.2.1.cells.1, h.2.2.2.1.cells.1⟩
set_option maxHeartbeats 8000000 in
theorem multiply_some (ha : SclV w va zs d K M) (hb : SclV w vb ys e L N) (hK : K ≤ 100000) (hL : L ≤ 100000) (hM : M + N + 1 ≤ 1000000) (h0 : 0 < zs.length) (h1 : 0 < ys.length) (hn : zs.length ≤ 1000000000) (hm : ys.length ≤ 1000000000) :
    Calls Try.prog 54 #[va, vb] w (RScl w (zmul zs ys) (d * e) (K + L) (M + N + 1)) := by
  obtain ⟨A, c, B, m, c', rfl, hz, hd⟩ := ha.parts
  obtain ⟨A2, c2, B2, m2, c2', rfl, hy, he⟩ := hb.parts
  obtain ⟨w2, g0, g1, g2, ew, eg0, eg1, eg2, hB0, hF0, hF1, hF2⟩ := three_sbx w (.slice A zs.length c) (.slice B m c') (.slice A2 ys.length c2) (.slice B2 m2 c2')
  have MU := Lib.hid (fun w1 hB => mul_w (w := w1) (hd.below hB).numV (he.below hB).numV (by omega) (by omega))
  have CO := Lib.hid (fun w1 hB kk (hk : kk + 1 < zs.length + ys.length) => coefficient_z (w := w1) (hz.below hB) (hy.below hB) kk (by omega) hn hm hk h0 h1)
  have E : zmul zs ys = mkz (zs.length + ys.length - 1) fun kk => sumZ (kk + 1) fun t => zf zs t * zf ys (kk - t) := if_neg (by omega)
  rw [E]
  have HZ1 : ((zs.length : Int) == 0) = false := by rw [beq_eq_false_iff_ne]; omega
  have HZ2 : ((ys.length : Int) == 0) = false := by rw [beq_eq_false_iff_ne]; omega
  generalize hF : (fun kk => sumZ (kk + 1) fun t => zf zs t * zf ys (kk - t)) = F at *
  have HFF := Lib.hid hF
  clear hz hd hy he ha hb E hF
  generalize zs.length = n at *
  generalize ys.length = n2 at *
  obtain ⟨n', hn'⟩ : ∃ n', n + n2 - 1 = n' := ⟨_, rfl⟩
  have HN := Lib.hid hn'
  have HQ := Lib.hid (show (n : Int) + (n2 : Int) - 1 = (n' : Int) by omega)
  rw [hn']
  clear hn'
  obtain ⟨k0, k1⟩ := hF0.cells
  obtain ⟨l0, l1⟩ := hF1.cells
  go_enter Try.func54, Try.ntmps54
  go_wp2_with fail
  refine (MU.out _ hB0).mono ?_
  rintro e' w3 ⟨r, rfl, hr, _, hB3⟩
  obtain ⟨D, dm, dc, rfl⟩ := hr.form
  have hlt3 : g2 < w3.heap.size := (hF2.below hB3).lt
  have hF0 := (hF0.below hB3).alloc (.cells #[.slice none 0 0, .slice D dm dc] 59)
  have hF1 := (hF1.below hB3).alloc (.cells #[.slice none 0 0, .slice D dm dc] 59)
  have hF2 := (hF2.below hB3).alloc (.cells #[.slice none 0 0, .slice D dm dc] 59)
  have R5 := Sbx.new w3 (.slice none 0 0) (.slice D dm dc)
  have hB4 : Below w.heap.size w (w3.alloc (.cells #[.slice none 0 0, .slice D dm dc] 59)) := (below_then hB0 hB3).alloc (below_then hB0 hB3).size _
  have hr := hr.below ((Below.refl _ _).alloc (Nat.le_refl _) (.cells #[.slice none 0 0, .slice D dm dc] 59))
  clear k0 k1 l0 l1 ew
  obtain ⟨k0, k1⟩ := hF0.cells
  obtain ⟨l0, l1⟩ := hF1.cells
  obtain ⟨r0, r1⟩ := R5.cells
  have hlt4 := R5.lt
  go_wp2_with (at_make; refine wp_make_d 57 (by kernel_rfl) rfl _ _ rfl _ _ n' rfl rfl HQ.out HQ.out (by have := HN.out; omega) ?_; intro w5 hZ5 hB5; have R5 := R5.below hB5; obtain ⟨s0, s1⟩ := R5.cells; obtain ⟨t0, t1⟩ := R5.frozen)
  have hsz : (w3.alloc (.cells #[.slice none 0 0, .slice D dm dc] 59)).heap.size = w3.heap.size + 1 := by show (Array.push _ _).size = _; simp
  rw [hsz] at hZ5 hlt4
  have hB5' := hB5
  have hF0 := hF0.below hB5
  have hF1 := hF1.below hB5
  have hF2 := hF2.below hB5
  have hr := hr.below hB5
  have hw5 : w3.heap.size + 1 ≤ w5.heap.size := by have := hB5.size; omega
  have hB5 := below_then hB4 hB5
  have hg0 : w.heap.size ≤ w3.heap.size := (below_then hB0 hB3).size
  generalize w3.heap.size = g5 at *
  have hs : w5.heap.size ≤ (w5.setCell ⟨g5, 0, none⟩ (.slice (some ⟨g5 + 1, 0, none⟩) n' n')).heap.size := by simp [World.setCell]
  have hk : ∀ j, j ≠ g5 → (w5.setCell ⟨g5, 0, none⟩ (.slice (some ⟨g5 + 1, 0, none⟩) n' n')).heap[j]? = w5.heap[j]? := fun j hj => Below.heap_setCell w5 ⟨g5, 0, none⟩ _ j hj
  have hI : MuRel w (w5.setCell ⟨g5, 0, none⟩ (.slice (some ⟨g5 + 1, 0, none⟩) n' n')) g0 g1 g2 g5 (g5 + 1) n' 0 (M + N + 1) (.slice A n c) (.slice B m c') (.slice A2 n2 c2) (.slice B2 m2 c2') (.slice D dm dc) F :=
    ⟨hF0.far (by show g0 ≠ g5; omega) _, hF1.far (by show g1 ≠ g5; omega) _, hF2.far (by show g2 ≠ g5; omega) _, R5.set0 _, (ZFill.start hZ5).of_block R5.plain (by omega) hs hk, hB5.setCell (p := ⟨g5, 0, none⟩) hg0 _⟩
  have hr := hr.plain R5.plain hs hk
  have hG : w.heap.size ≤ g2 ∧ g0 < g5 + 1 ∧ g1 < g5 + 1 ∧ g2 < g5 + 1 ∧ w.heap.size ≤ g5 + 1 ∧ g5 < g5 + 1 := by omega
  have HG := Lib.hid hG
  have hnn := Lib.hid (show n' ≤ 2000000000 ∧ n' + 1 = n + n2 from by have := HN.out; omega)
  clear k0 k1 l0 l1 r0 r1 s0 s1 t0 t1 hZ5 hF0 hF1 hF2 R5 hB0 hB3 hB4 hB5 hB5' hs hk hsz hG hlt3 hlt4 hg0 hw5 eg0 eg1 eg2 MU HZ1 HZ2
  generalize w5.setCell ⟨g5, 0, none⟩ (.slice (some ⟨g5 + 1, 0, none⟩) n' n') = w6 at *
  generalize g5 + 1 = g at *
  go_loopw [37] (fun i wr => ∃ j : Nat, j ≤ n' ∧ i = .int .i64 j ∧ MuRel w wr g0 g1 g2 g5 g n' j (M + N + 1) (.slice A n c) (.slice B m c') (.slice A2 n2 c2) (.slice B2 m2 c2') (.slice D dm dc) F ∧ Can wr (.slice D dm dc) (d * e) (K + L)) (fun i _ => n' - (intOf i).toNat)
  case atStart => exact ⟨0, Nat.zero_le _, rfl, hI, hr⟩
  case round =>
    obtain ⟨j, hj, rfl, hI, hr⟩ := hrel
    have hnl := hnn.out.1
    by_cases hjn : j < n'
    · have HI : (j : Int) < n' := by omega
      have C := Lib.hid (fun w1 hB => CO.out w1 hB j (by have := hnn.out; omega))
      have MI := Lib.hid (fun w1 (hB : Below wr.heap.size wr w1) => hI.below hB)
      have HC := Lib.hid hr
      have hSR := hI.reads
      have SB := Lib.hid (fun w1 (hB : Below wr.heap.size wr w1) => (hI.below hB).reads)
      have SC := Lib.hid (fun w1 (hB : Below wr.heap.size wr w1) b X xm xc (hE : IntV (M + N + 1) w1 (.agg #[.bool b, .slice X xm xc]) (F j)) => ((hI.below hB).set HG.out.2.1 HG.out.2.2.1 HG.out.2.2.2.1 HG.out.2.2.2.2.2 HG.out.2.2.2.2.1 hjn hE))
      have SD := Lib.hid (fun w1 (hB : Below wr.heap.size wr w1) a b => (show (stor2o w1 g (j * 2) a b).cell? ⟨g0, 0, none⟩ = some (.slice A n c) ∧ (stor2o w1 g (j * 2) a b).cell? ⟨g1, 0, none⟩ = some (.slice A2 n2 c2) ∧ (stor2o w1 g (j * 2) a b).cell? ⟨g5, 0, none⟩ = some (.slice (some ⟨g, 0, none⟩) n' n') from by
        have h := HG.out
        rw [stor2o_cell (by omega), stor2o_cell (by omega), stor2o_cell (by omega)]
        exact SB.out _ hB))
      have HFJ := Lib.hid (fun w1 u (hu : IntV (M + N + 1) w1 u (sumZ (j + 1) fun t => zf zs t * zf ys (j - t))) => (show IntV (M + N + 1) w1 u (F j) from by rw [← HFF.out]; exact hu))
      have hK : Below wr.heap.size wr wr := Below.refl _ _
      have hW := Lib.hid hI.2.2.2.2.2
      have HZL := Lib.hid (fun w1 (hB : Below wr.heap.size wr w1) => ((hI.below hB).2.2.2.2.1))
      obtain ⟨v0, v1, v2⟩ := hSR
      clear hI hr
      go_wp2_with fail
      go_region_held3 (fun w' => w'.cell? ⟨g0, 0, none⟩ = some (.slice A n c) ∧ w'.cell? ⟨g1, 0, none⟩ = some (.slice A2 n2 c2) ∧ w'.cell? ⟨g5, 0, none⟩ = some (.slice (some ⟨g, 0, none⟩) n' n')) (first | with_reducible exact SB.out _ hK | exact SB.out _ hK.drew | exact SD.out _ hK _ _) (first | (go_at_call 82; refine (C.out _ (below_then hW.out hK.drew)).mono ?_; rintro e' w4 ⟨u, rfl, hu, hB4⟩; have hK := below_undrew hB4; obtain ⟨X, xm, xc, rfl, _⟩ := hu.form; have HS := Lib.hid (SC.out _ hK _ _ _ _ (HFJ.out _ _ hu)); have hZ := HZL.out _ hK; obtain ⟨z0, z1, e0, e1⟩ := hZ.cells hjn; have f0 := hZ.frozen (j * 2); have f1 := hZ.frozen (j * 2 + 1)))
      have HR := Lib.hid ((HC.out.below hK).plain hZ.plain (Nat.le_of_eq (stor2o_size w4 g (j * 2) (.bool (decide ((sumZ (j + 1) fun t => zf zs t * zf ys (j - t)) < 0))) (.slice X xm xc)).symm) (stor2o_heap w4 g (j * 2) _ _))
      clear hu hZ
      go_wp2_with fail
      go_roundw
      case rel => exact ⟨j + 1, by omega, by go_num, HS.out, HR.out⟩
      case measure => simp [intOf]; omega
    · have HI : ¬ (j : Int) < n' := by omega
      obtain rfl : j = n' := by omega
      obtain ⟨h0, h1, h2, h5, hz, hB⟩ := hI
      obtain ⟨k0, k1⟩ := h5.cells
      obtain ⟨l0, l1⟩ := h2.cells
      obtain ⟨f0, f1⟩ := h2.frozen
      have HD := Lib.hid (hz.done (by omega))
      have HP := Lib.hid h2.plain
      have HB := Lib.hid hB
      have HR := Lib.hid hr
      have HX := Lib.hid (show g2 ≠ g from by have := HG.out; omega)
      clear h0 h1 h2 h5 hz hB hr
      go_wp2_with fail
      refine bodyPost_ret (v := .agg #[.slice (some ⟨g, 0, none⟩) j j, .slice D dm dc]) (by rw [results_one rfl]; go_simp) rfl ?_
      have hs := Nat.le_of_eq (stor2o_size wr g2 0 (.slice (some ⟨g, 0, none⟩) j j) (.slice D dm dc)).symm
      have hk := stor2o_heap wr g2 0 (.slice (some ⟨g, 0, none⟩) j j) (.slice D dm dc)
      refine ⟨_, rfl, ⟨_, _, rfl, ?_, HR.out.plain HP.out hs hk⟩, below_stor2o HB.out HG.out.1 _ _ _⟩
      refine HD.out.plain HP.out ?_ hs hk
      intro A' n'' c'' b off e1 e2 _
      cases e1
      cases e2
      exact Ne.symm HX.out
end
end Go.Proofs.Ytpmjhkpjhfpfpaa

/- Lists of whole numbers with a sign in memory (poly.integer), two cells for each; quotient and difference of package poly. -/
import Derived.Test.YtjemnankgjjgcaaPlyb
import Derived.Test.YtjemnankgjjgcaaDivs
import Derived.Test.YtjemnankgjjgcaaGcds
import Derived.Test.YtjemnankgjjgcaaRatF
import Derived.Test.YtjemnankgjjgcaaPpol
namespace Go.Proofs.Ytjemnankgjjgcaa
open Go.RowKit Dig
set_option linter.unusedVariables false

/-- A block without numbers in its cells. -/
def Plain (w : World) (g : Nat) : Prop := ∃ (vs : Array Value) (ty : TypeId), w.heap[g]? = some (.cells vs ty (0, 0)) ∧ ∀ (i : Nat) (u : Value), vs[i]? = some u → ∀ k z, u ≠ .int k z
section
variable {w w' : World} {g : Nat}
theorem Num.plain {v : Value} {xs : List Nat} (h : Num w v xs) (hF : Plain w g) (hs : w.heap.size ≤ w'.heap.size) (hk : ∀ j, j ≠ g → w'.heap[j]? = w.heap[j]?) : Num w' v xs := by
  obtain ⟨B, c, h1, h2, h3, h4, h5⟩ := h
  obtain ⟨vs, ty, hh, hno⟩ := hF
  refine ⟨B, c, h1, h2, h3, h4, fun hp => ?_⟩
  obtain ⟨b, off, e1, hb, hc⟩ := h5 hp
  have hne : b ≠ g := by
    rintro rfl
    have h0 := hc 0 hp
    rw [cell_of_row w b _ _ _ (0, 0) hh] at h0
    exact hno _ _ h0 _ _ rfl
  refine ⟨b, off, e1, by omega, fun j hj => ?_⟩
  rw [← hc j hj]
  simp only [World.cell?, hk b hne]
theorem NumV.plain {v : Value} {n k : Nat} (h : NumV w v n k) (hF : Plain w g) (hs : w.heap.size ≤ w'.heap.size) (hk : ∀ j, j ≠ g → w'.heap[j]? = w.heap[j]?) : NumV w' v n k := by
  obtain ⟨L, h1, h2⟩ := h
  exact ⟨L, h1.plain hF hs hk, h2⟩
theorem Can.plain {v : Value} {n k : Nat} (h : Can w v n k) (hF : Plain w g) (hs : w.heap.size ≤ w'.heap.size) (hk : ∀ j, j ≠ g → w'.heap[j]? = w.heap[j]?) : Can w' v n k := ⟨h.1.plain hF hs hk, h.2⟩
end

/-- A whole number with its sign. -/
def IntV (k : Nat) (w : World) (v : Value) (z : Int) : Prop := ∃ nv, v = .agg #[.bool (decide (z < 0)), nv] ∧ Can w nv z.natAbs k
/-- The parts of a whole number as it lies in memory. -/
structure Duo where
  b : Bool
  x : Option Addr × Nat × Nat
namespace Duo
def vx (t : Duo) : Value := .slice t.x.1 t.x.2.1 t.x.2.2
def val (t : Duo) : Value := .agg #[.bool t.b, t.vx]
def zero : Duo := ⟨false, (none, 0, 0)⟩
end Duo
def dcells : List Duo → List Value
  | [] => []
  | t :: ts => .bool t.b :: t.vx :: dcells ts
theorem dcells_length (ts : List Duo) : (dcells ts).length = ts.length * 2 := by
  induction ts with
  | nil => rfl
  | cons t ts ih => simp [dcells, ih]; omega
theorem dcells_get : ∀ (ts : List Duo) (j : Nat) (h : j < ts.length), (dcells ts)[j * 2]? = some (.bool (ts.getD j .zero).b) ∧ (dcells ts)[j * 2 + 1]? = some (ts.getD j .zero).vx
  | [], _, h => by simp at h
  | t :: ts, 0, _ => by simp [dcells]
  | t :: ts, j + 1, h => by
    have := dcells_get ts j (by simpa using h)
    rw [show (j + 1) * 2 = j * 2 + 2 by omega]
    simpa [dcells] using this
theorem dcells_set : ∀ (ts : List Duo) (j : Nat) (u : Duo) (h : j < ts.length), (((dcells ts).set (j * 2) (.bool u.b)).set (j * 2 + 1) u.vx) = dcells (ts.set j u)
  | [], _, _, h => by simp at h
  | t :: ts, 0, u, _ => by simp [dcells]
  | t :: ts, j + 1, u, h => by
    have := dcells_set ts j u (by simpa using h)
    rw [show (j + 1) * 2 = j * 2 + 2 by omega]
    simpa [dcells] using this
theorem dcells_noint : ∀ (ts : List Duo) (u : Value), u ∈ dcells ts → ∀ k z, u ≠ .int k z
  | [], u, h, _, _ => by simp [dcells] at h
  | t :: ts, u, h, k, z => by
    simp only [dcells, List.mem_cons] at h
    rcases h with rfl | rfl | h
    · exact fun e => by cases e
    · exact fun e => by cases e
    · exact dcells_noint ts u h k z
/-- Block g is a row of whole numbers with signs. -/
def ZBlk (w : World) (g : Nat) (ts : List Duo) : Prop := w.heap[g]? = some (.cells (dcells ts).toArray 79 (0, 0))
def stor2o (w : World) (g o : Nat) (a b : Value) : World := (w.setCell ⟨g, o, none⟩ a).setCell ⟨g, o + 1, none⟩ b
section
variable {w w' : World} {g : Nat} {ts : List Duo}
theorem ZBlk.lt (h : ZBlk w g ts) : g < w.heap.size := by
  rcases Nat.lt_or_ge g w.heap.size with hlt | hge
  · exact hlt
  · unfold ZBlk at h; rw [Array.getElem?_eq_none hge] at h; cases h
theorem ZBlk.frozen (h : ZBlk w g ts) (i : Nat) : w.frozen? ⟨g, i, none⟩ = false := by
  unfold ZBlk at h
  simp [World.frozen?, h]
theorem ZBlk.cell (h : ZBlk w g ts) (i : Nat) : w.cell? ⟨g, i, none⟩ = (dcells ts)[i]? := by
  rw [cell_of_row w g i _ _ (0, 0) h, List.getElem?_toArray]
theorem ZBlk.cells (h : ZBlk w g ts) {j : Nat} (hj : j < ts.length) : w.cell? ⟨g, j * 2, none⟩ = some (.bool (ts.getD j .zero).b) ∧ w.cell? ⟨g, j * 2 + 1, none⟩ = some (ts.getD j .zero).vx := by
  rw [h.cell, h.cell]
  exact dcells_get ts j hj
theorem ZBlk.plain (h : ZBlk w g ts) : Plain w g := ⟨_, _, h, fun i u hu => by
  rw [List.getElem?_toArray] at hu
  exact dcells_noint ts u (List.mem_of_getElem? hu)⟩
theorem ZBlk.of_block (h : ZBlk w g ts) (e : w'.heap[g]? = w.heap[g]?) : ZBlk w' g ts := by
  unfold ZBlk at h ⊢
  rw [e]
  exact h
theorem ZBlk.below (h : ZBlk w g ts) (hb : Below w.heap.size w w') : ZBlk w' g ts := h.of_block (hb.block g h.lt)
theorem ZBlk.set (h : ZBlk w g ts) {j : Nat} (hj : j < ts.length) (u : Duo) : ZBlk (stor2o w g (j * 2) (.bool u.b) u.vx) g (ts.set j u) := by
  unfold ZBlk at h ⊢
  unfold stor2o
  simp only [World.setCell, Array.getElem?_modify, h]
  simp only [if_true, Option.map_some, List.setIfInBounds_toArray, Option.isSome_none, Bool.false_eq_true, if_false]
  rw [dcells_set ts j u hj]
theorem stor2o_heap (w : World) (g o : Nat) (a b : Value) : ∀ j, j ≠ g → (stor2o w g o a b).heap[j]? = w.heap[j]? := by
  intro j hj
  unfold stor2o
  rw [Below.heap_setCell _ ⟨g, o + 1, none⟩ _ j hj, Below.heap_setCell _ ⟨g, o, none⟩ _ j hj]
theorem stor2o_size (w : World) (g o : Nat) (a b : Value) : (stor2o w g o a b).heap.size = w.heap.size := by
  unfold stor2o
  simp [World.setCell]
theorem below_stor2o {B : Nat} {w w2 : World} (hB : Below B w w2) {g : Nat} (hg : B ≤ g) (o : Nat) (a b : Value) : Below B w (stor2o w2 g o a b) := by
  unfold stor2o
  exact (hB.setCell (p := ⟨g, o, none⟩) hg a).setCell (p := ⟨g, o + 1, none⟩) hg b
theorem stor2o_cell {b : Nat} (hb : b ≠ g) (o i : Nat) (x y : Value) : (stor2o w g o x y).cell? ⟨b, i, none⟩ = w.cell? ⟨b, i, none⟩ := by
  simp only [World.cell?, stor2o_heap w g o x y b hb]
end
theorem keepsZ {k : Nat} {w w' : World} {v : Value} {z : Int} (h : IntV k w v z) (hb : Below w.heap.size w w') : IntV k w' v z := by
  obtain ⟨nv, e, hc⟩ := h
  exact ⟨nv, e, hc.below hb⟩
theorem IntV.plain {k : Nat} {w w' : World} {v : Value} {z : Int} {g : Nat} (h : IntV k w v z) (hF : Plain w g) (hs : w.heap.size ≤ w'.heap.size) (hk : ∀ j, j ≠ g → w'.heap[j]? = w.heap[j]?) : IntV k w' v z := by
  obtain ⟨nv, e, hc⟩ := h
  exact ⟨nv, e, hc.plain hF hs hk⟩
theorem IntV.form {k : Nat} {w : World} {v : Value} {z : Int} (h : IntV k w v z) : ∃ A m c, v = .agg #[.bool (decide (z < 0)), .slice A m c] ∧ Can w (.slice A m c) z.natAbs k := by
  obtain ⟨nv, e, hc⟩ := h
  obtain ⟨A, m, c, rfl⟩ := hc.form
  exact ⟨A, m, c, e, hc⟩
theorem IntV.le {k l : Nat} {w : World} {v : Value} {z : Int} (h : IntV k w v z) (hl : k ≤ l) : IntV l w v z := by
  obtain ⟨nv, e, hc⟩ := h
  exact ⟨nv, e, hc.le hl⟩

def zf (zs : List Int) (i : Nat) : Int := zs.getD i 0
/-- A list of whole numbers that can be read. -/
def Zls (k : Nat) (w : World) (v : Value) (zs : List Int) : Prop :=
  ∃ A c, v = .slice A zs.length c ∧ zs.length ≤ c ∧ c ≤ 9223372036854775807 ∧
    (0 < zs.length → ∃ b off, A = some ⟨b, off, none⟩ ∧ b < w.heap.size ∧ ∀ j, j < zs.length → ∃ tb X xm xc,
      w.cell? ⟨b, off + j * 2, none⟩ = some (.bool tb) ∧ w.cell? ⟨b, off + j * 2 + 1, none⟩ = some (.slice X xm xc) ∧ IntV k w (.agg #[.bool tb, .slice X xm xc]) (zf zs j))
def ZFill (k : Nat) (w : World) (g n i : Nat) (f : Nat → Int) : Prop := ∃ ts, ZBlk w g ts ∧ ts.length = n ∧ ∀ j, j < i → IntV k w (ts.getD j .zero).val (f j)
section
variable {w w' : World} {v : Value} {zs : List Int} {k g n i : Nat} {f : Nat → Int}
theorem Zls.nil (k : Nat) (w : World) : Zls k w (.slice none 0 0) [] := ⟨none, 0, rfl, Nat.le_refl _, by omega, fun h => absurd h (by simp)⟩
theorem Zls.below (h : Zls k w v zs) (hb : Below w.heap.size w w') : Zls k w' v zs := by
  obtain ⟨A, c, h1, h2, h3, h5⟩ := h
  refine ⟨A, c, h1, h2, h3, fun hp => ?_⟩
  obtain ⟨b, off, e, hbb, hc⟩ := h5 hp
  refine ⟨b, off, e, Nat.lt_of_lt_of_le hbb hb.size, fun j hj => ?_⟩
  obtain ⟨tb, X, xm, xc, c0, c1, ht⟩ := hc j hj
  exact ⟨tb, X, xm, xc, (hb.cell (p := ⟨b, _, none⟩) hbb).trans c0, (hb.cell (p := ⟨b, _, none⟩) hbb).trans c1, keepsZ ht hb⟩
theorem ZFill.start (h : ZBlk w g (List.replicate n .zero)) : ZFill k w g n 0 f := ⟨_, h, by simp, fun j hj => absurd hj (by omega)⟩
theorem ZFill.below (h : ZFill k w g n i f) (hb : Below w.heap.size w w') : ZFill k w' g n i f := by
  obtain ⟨ts, hF, hl, hE⟩ := h
  exact ⟨ts, hF.below hb, hl, fun j hj => keepsZ (hE j hj) hb⟩
theorem ZFill.lt (h : ZFill k w g n i f) : g < w.heap.size := by
  obtain ⟨ts, hF, _⟩ := h
  exact hF.lt
theorem ZFill.frozen (h : ZFill k w g n i f) (j : Nat) : w.frozen? ⟨g, j, none⟩ = false := by
  obtain ⟨ts, hF, _⟩ := h
  exact hF.frozen j
theorem ZFill.plain (h : ZFill k w g n i f) : Plain w g := by
  obtain ⟨ts, hF, _⟩ := h
  exact hF.plain
theorem ZFill.cells (h : ZFill k w g n i f) {j : Nat} (hj : j < n) : ∃ a b, w.cell? ⟨g, j * 2, none⟩ = some a ∧ w.cell? ⟨g, j * 2 + 1, none⟩ = some b := by
  obtain ⟨ts, hF, hl, _⟩ := h
  obtain ⟨c0, c1⟩ := hF.cells (j := j) (by omega)
  exact ⟨_, _, c0, c1⟩
theorem ZFill.set (h : ZFill k w g n i f) (hi : i < n) {b : Bool} {X : Option Addr} {xm xc : Nat} (hE : IntV k w (.agg #[.bool b, .slice X xm xc]) (f i)) :
    ZFill k (stor2o w g (i * 2) (.bool b) (.slice X xm xc)) g n (i + 1) f := by
  obtain ⟨ts, hF, hl, h⟩ := h
  have hS : ZBlk (stor2o w g (i * 2) (.bool b) (.slice X xm xc)) g (ts.set i ⟨b, (X, xm, xc)⟩) := hF.set (by omega) (⟨b, (X, xm, xc)⟩ : Duo)
  have hs : w.heap.size ≤ (stor2o w g (i * 2) (.bool b) (.slice X xm xc)).heap.size := Nat.le_of_eq (stor2o_size _ _ _ _ _).symm
  have hk := stor2o_heap w g (i * 2) (.bool b) (.slice X xm xc)
  generalize stor2o w g (i * 2) (.bool b) (.slice X xm xc) = w3 at *
  refine ⟨_, hS, by simpa using hl, fun j hj => ?_⟩
  rcases Nat.lt_or_ge j i with h1 | h1
  · rw [List.getD_eq_getElem?_getD, List.getElem?_set_ne (by omega), ← List.getD_eq_getElem?_getD]
    exact (h j h1).plain hF.plain hs hk
  · obtain rfl : j = i := by omega
    rw [List.getD_eq_getElem?_getD, List.getElem?_set_self (by omega)]
    exact IntV.plain (v := .agg #[.bool b, .slice X xm xc]) hE hF.plain hs hk
def mkz (n : Nat) (f : Nat → Int) : List Int := (List.range n).map f
theorem mkz_length (n : Nat) (f : Nat → Int) : (mkz n f).length = n := by simp [mkz]
theorem zf_mkz (n : Nat) (f : Nat → Int) (i : Nat) : zf (mkz n f) i = if i < n then f i else 0 := by
  unfold zf mkz
  rw [List.getD_eq_getElem?_getD, List.getElem?_map]
  by_cases h : i < n
  · rw [List.getElem?_range h]; simp [h]
  · rw [List.getElem?_eq_none (by simpa using h)]; simp [h]
theorem ZFill.done (h : ZFill k w g n n f) (hm : n ≤ 1000000000000) : Zls k w (.slice (some ⟨g, 0, none⟩) n n) (mkz n f) := by
  obtain ⟨ts, hF, hl, hE⟩ := h
  refine ⟨_, n, by rw [mkz_length], by rw [mkz_length]; exact Nat.le_refl _, by omega, fun hp => ⟨g, 0, rfl, hF.lt, fun j hj => ?_⟩⟩
  rw [mkz_length] at hj
  obtain ⟨c0, c1⟩ := hF.cells (j := j) (by omega)
  rw [Nat.zero_add, zf_mkz, if_pos hj]
  exact ⟨_, _, _, _, c0, c1, hE j hj⟩
theorem Zls.form (h : Zls k w v zs) : ∃ A c, v = .slice A zs.length c := by
  obtain ⟨A, c, e, _⟩ := h
  exact ⟨A, c, e⟩
theorem Zls.lens {A : Option Addr} {c : Nat} (h : Zls k w (.slice A n c) zs) : n = zs.length ∧ n ≤ c ∧ c ≤ 9223372036854775807 := by
  obtain ⟨A', c', e, hc, hm, hr⟩ := h
  simp only [Value.slice.injEq] at e
  obtain ⟨rfl, rfl, rfl⟩ := e
  exact ⟨rfl, hc, hm⟩
theorem Zls.cells {A : Option Addr} {c : Nat} (h : Zls k w (.slice A n c) zs) (hp : 0 < n) : ∃ b off, A = some ⟨b, off, none⟩ ∧ b < w.heap.size ∧ ∀ j, j < n → ∃ tb X xm xc,
      w.cell? ⟨b, off + j * 2, none⟩ = some (.bool tb) ∧ w.cell? ⟨b, off + j * 2 + 1, none⟩ = some (.slice X xm xc) ∧ IntV k w (.agg #[.bool tb, .slice X xm xc]) (zf zs j) := by
  obtain ⟨A', c', e, hc, hm, hr⟩ := h
  simp only [Value.slice.injEq] at e
  obtain ⟨rfl, rfl, rfl⟩ := e
  exact hr hp
end

theorem info_int : (Try.prog.info? 79).map (fun i => (i.zero, i.size, i.bytes)) = some (some (.agg #[.bool false, .slice none 0 0]), 2, 32) := by kernel_rfl
theorem duo_rows (n : Nat) (f : Nat → Value) (h0 : ∀ j, f (j * 2) = .bool false) (h1 : ∀ j, f (j * 2 + 1) = .slice none 0 0) : (List.range (n * 2)).map f = dcells (List.replicate n .zero) := by
  apply List.ext_getElem?
  intro i
  rcases Nat.lt_or_ge i (n * 2) with hi | hi
  · rw [List.getElem?_map, List.getElem?_range hi]
    have hj : i / 2 < (List.replicate n Duo.zero).length := by simp; omega
    obtain ⟨k0, k1⟩ := dcells_get (List.replicate n Duo.zero) (i / 2) hj
    have e : (List.replicate n Duo.zero).getD (i / 2) .zero = .zero := by
      rw [List.getD_eq_getElem?_getD, List.getElem?_eq_getElem hj]; simp
    rw [e] at k0 k1
    have : i = i / 2 * 2 ∨ i = i / 2 * 2 + 1 := by omega
    rcases this with h | h
    · rw [h, k0]; simp [h0, Duo.zero]
    · rw [h, k1]; simp only [Option.map_some, h1]; rfl
  · rw [List.getElem?_eq_none (by simpa using hi), List.getElem?_eq_none (by rw [dcells_length]; simpa using hi)]
theorem duo_cell (j r : Nat) (hr : r < 2) : (#[Value.bool false, .slice none 0 0] : Array Value)[(j * 2 + r) % 2]! = (#[Value.bool false, .slice none 0 0] : Array Value)[r]! := by
  rw [show (j * 2 + r) % 2 = r by omega]
theorem madeCells_d (n : Nat) : (madeCells (Value.agg #[.bool false, .slice none 0 0]).cells (n * 2)).toList = dcells (List.replicate n .zero) := by
  unfold madeCells
  rw [Array.toList_map, Array.toList_range]
  exact duo_rows n _ (fun j => duo_cell j 0 (by omega)) (fun j => duo_cell j 1 (by omega))
section
variable {w : World} {ops : Array Oper} {rest : List Oper} {o : Oper} {a : Act} {Q : Exit → Act → World → Prop}
theorem wp_make_d (T : TypeId) (hT : Try.prog.underlying T = some (.slice 79)) (hg : o.guard = none) (l c : Operand) (hop : o.op = Op.makeSlice T l c) (L C : Int) (n : Nat)
    (hl : a.eval l = .int .i64 L) (hc : a.eval c = .int .i64 C) (hL : L = (n : Int)) (hC : C = (n : Int)) (hn : n ≤ 1000000000000)
    (hK : ∀ w', ZBlk w' w.heap.size (List.replicate n .zero) → Below w.heap.size w w' → wpList Try.prog ops Q rest (a.put o.dst (.slice (some ⟨w.heap.size, 0, none⟩) n n)) w') :
    wpList Try.prog ops Q (o :: rest) a w := by
  obtain ⟨i0, hi, hz0, hz1, hz2⟩ := info_parts info_int
  refine wpList_make_full w hg l c T hop w.heap.size 79 i0 _ 2 hT hi hz0 hz1 .i64 .i64 L C n hl hc hL hC (by rw [hz2]; omega) (by unfold maxLen; omega) (Nat.le_refl _) ?_
  intro w' h1 h2
  refine hK w' ?_ ((Below.refl _ _).grown h2 (Nat.le_refl _) (fun k e => by cases e))
  rcases h1.2 with ⟨e, _⟩ | ⟨g, cap, cur, e, _, hh, _, _, hz, ht⟩
  · simp at e
  · simp only [Value.slice.injEq, Option.some.injEq, Addr.mk.injEq, and_true, true_and] at e
    obtain ⟨rfl, rfl⟩ := e
    unfold ZBlk
    rw [hh]
    rw [madeCells_d, List.take_of_length_le (by simp; omega)] at ht
    have : cur = (dcells (List.replicate n .zero)).toArray := by rw [← ht]
    rw [this]
end

section
variable {w : World} {va vb : Value} {a b k l : Nat}
set_option maxHeartbeats 1000000 in
theorem quotient_z (ha : NumV w va a k) (hb : NumV w vb b l) (hk : k ≤ 1000000) (h0 : 0 < b) : Calls Try.prog 84 #[va, vb] w fun e w' => ∃ r, e = .returned r ∧ Can w' r (a / b) k ∧ Below w.heap.size w w' := by
  have D := Lib.hid (div_v ha hb hk h0)
  clear ha hb
  go_enter Try.func84, Try.ntmps84
  go_wp2_with fail
  refine (D.out).mono ?_
  rintro e w1 ⟨q, r, rfl, hq, hr, _, _, hB⟩
  go_wp2_with fail
  go_ret
  exact ⟨_, rfl, hq, hB⟩
/-- The box of a whole number. -/
def Dcl (w : World) (g : Nat) (x y : Value) : Prop := w.heap[g]? = some (.cells #[x, y] 79 (0, 0))
theorem Dcl.cells {w : World} {g : Nat} {x y : Value} (h : Dcl w g x y) : w.cell? ⟨g, 0, none⟩ = some x ∧ w.cell? ⟨g, 1, none⟩ = some y := by
  unfold Dcl at h
  simp [World.cell?, h]
theorem Dcl.frozen {w : World} {g : Nat} {x y : Value} (h : Dcl w g x y) : w.frozen? ⟨g, 0, none⟩ = false ∧ w.frozen? ⟨g, 1, none⟩ = false := by
  unfold Dcl at h
  simp [World.frozen?, h]
theorem Dcl.lt {w : World} {g : Nat} {x y : Value} (h : Dcl w g x y) : g < w.heap.size := by
  rcases Nat.lt_or_ge g w.heap.size with hlt | hge
  · exact hlt
  · unfold Dcl at h; rw [Array.getElem?_eq_none hge] at h; cases h
theorem Dcl.of_block {w w' : World} {g : Nat} {x y : Value} (h : Dcl w g x y) (e : w'.heap[g]? = w.heap[g]?) : Dcl w' g x y := by
  unfold Dcl at h ⊢
  rw [e]
  exact h
theorem Dcl.below {w w' : World} {g : Nat} {x y : Value} (h : Dcl w g x y) (hb : Below w.heap.size w w') : Dcl w' g x y := h.of_block (hb.block g h.lt)
theorem Dcl.new (w : World) (x y : Value) : Dcl (w.alloc (.cells #[x, y] 79)) w.heap.size x y := by
  unfold Dcl
  rw [heap_alloc_new]
theorem Dcl.plain {w : World} {g : Nat} {b : Bool} {X : Option Addr} {m c : Nat} (h : Dcl w g (.bool b) (.slice X m c)) : Plain w g := ⟨_, _, h, fun i u hu k z e => by
  subst e
  match i, hu with
  | 0, hu => simp at hu
  | 1, hu => simp at hu
  | i + 2, hu => simp at hu⟩
theorem NumV.of_can {w : World} {v : Value} {n k : Nat} (h : Can w v n k) : NumV w v n k := h.numV
def RInt2 (w : World) (z : Int) (k : Nat) (e : Ending) (w' : World) : Prop := ∃ v, e = .returned v ∧ IntV k w' v z ∧ Below w.heap.size w w'
set_option maxHeartbeats 1000000 in
theorem difference_z (ha : Can w va a k) (hb : Can w vb b k) (hk : k ≤ 1000000) : Calls Try.prog 103 #[va, vb] w (RInt2 w ((a : Int) - (b : Int)) k) := by
  obtain ⟨A, m, c, rfl⟩ := ha.form
  obtain ⟨B, i, j, rfl⟩ := hb.form
  have R0 := Lib.hid (Dcl.new w (.bool false) (.slice none 0 0))
  have hB0 : Below w.heap.size w (w.alloc (.cells #[.bool false, .slice none 0 0] 79)) := (Below.refl _ _).alloc (Nat.le_refl _) _
  have ha := ha.below hB0
  have hb := hb.below hB0
  rcases Nat.lt_or_ge a b with h | h
  · have S1 := Lib.hid (sublt_v ha.numV hb.numV h)
    have S2 := Lib.hid (fun w1 hr => subge_v (w := w1) (hb.below hr).numV (ha.below hr).numV hk (Nat.le_of_lt h))
    clear ha hb
    go_enter Try.func103, Try.ntmps103
    go_wp2_with fail
    refine (S1.out).mono ?_
    rintro e w1 ⟨rfl, hB1⟩
    go_wp2_with fail
    refine (S2.out _ hB1).mono ?_
    rintro e w2 ⟨r, rfl, hr, hB2⟩
    have hB2 := below_then hB1 hB2
    have R2 := R0.out.below hB2
    have hB2 := below_then hB0 hB2
    obtain ⟨X, xm, xc, rfl⟩ := hr.form
    obtain ⟨c0, c1⟩ := R2.cells
    obtain ⟨f0, f1⟩ := R2.frozen
    have HR := Lib.hid hr
    have HP := Lib.hid R2
    have HBB := Lib.hid hB2
    clear hr hB1 hB2 R2
    go_wp2_with fail
    refine bodyPost_ret (v := .agg #[.bool true, .slice X xm xc]) (by rw [results_one rfl]; go_simp) rfl ?_
    have hs : w2.heap.size ≤ (stor2o w2 w.heap.size 0 (.bool true) (.slice X xm xc)).heap.size := Nat.le_of_eq (stor2o_size _ _ _ _ _).symm
    have hk := stor2o_heap w2 w.heap.size 0 (.bool true) (.slice X xm xc)
    exact ⟨_, rfl, ⟨_, by rw [show decide ((a : Int) - (b : Int) < 0) = true by simp; omega], by rw [show ((a : Int) - (b : Int)).natAbs = b - a by omega]; exact HR.out.plain HP.out.plain hs hk⟩, below_stor2o HBB.out (Nat.le_refl _) _ _ _⟩
  · have S1 := Lib.hid (subge_v ha.numV hb.numV hk h)
    clear ha hb
    go_enter Try.func103, Try.ntmps103
    go_wp2_with fail
    refine (S1.out).mono ?_
    rintro e w2 ⟨r, rfl, hr, hB2⟩
    have R2 := R0.out.below hB2
    have hB2 := below_then hB0 hB2
    obtain ⟨X, xm, xc, rfl⟩ := hr.form
    obtain ⟨c0, c1⟩ := R2.cells
    obtain ⟨f0, f1⟩ := R2.frozen
    have HR := Lib.hid hr
    have HP := Lib.hid R2
    have HBB := Lib.hid hB2
    clear hr hB2 R2
    go_wp2_with fail
    refine bodyPost_ret (v := .agg #[.bool false, .slice X xm xc]) (by rw [results_one rfl]; go_simp) rfl ?_
    have hs : w2.heap.size ≤ (stor2o w2 w.heap.size 0 (.bool false) (.slice X xm xc)).heap.size := Nat.le_of_eq (stor2o_size _ _ _ _ _).symm
    have hk := stor2o_heap w2 w.heap.size 0 (.bool false) (.slice X xm xc)
    exact ⟨_, rfl, ⟨_, by rw [show decide ((a : Int) - (b : Int) < 0) = false by simp; omega], by rw [show ((a : Int) - (b : Int)).natAbs = a - b by omega]; exact HR.out.plain HP.out.plain hs hk⟩, below_stor2o HBB.out (Nat.le_refl _) _ _ _⟩
end
end Go.Proofs.Ytjemnankgjjgcaa

/- The contract of coefficient of package poly. -/
namespace Go.Proofs.Ytjemnankgjjgcaa
open Go.RowKit Dig
set_option linter.unusedVariables false

namespace Dig
theorem zf_over {zs : List Int} {i : Nat} (h : zs.length ≤ i) : zf zs i = 0 := by
  simp [zf, List.getD_eq_getElem?_getD, List.getElem?_eq_none h]
/-- What the loop of coefficient keeps: the difference of its two sums is the sum of the terms so far. -/
def CoRel (zs ys : List Int) (kk B i P N : Nat) : Prop := (P : Int) - (N : Int) = sumZ i (fun t => zf zs t * zf ys (kk - t)) ∧ P ≤ i * B ∧ N ≤ i * B
theorem CoRel.start (zs ys : List Int) (kk B : Nat) : CoRel zs ys kk B (kk + 1 - ys.length) 0 0 := by
  refine ⟨?_, Nat.zero_le _, Nat.zero_le _⟩
  rw [sumZ_none]
  · rfl
  · intro i hi
    rw [zf_over (zs := ys) (by omega), Int.mul_zero]
theorem CoRel.stop {zs ys : List Int} {kk B P N : Nat} (h : CoRel zs ys kk B (min kk (zs.length - 1) + 1) P N) (h0 : 0 < zs.length) : (P : Int) - (N : Int) = sumZ (kk + 1) (fun t => zf zs t * zf ys (kk - t)) := by
  rw [h.1]
  symm
  apply sumZ_same (by omega)
  intro i h1 h2
  rw [zf_over (zs := zs) (by omega), Int.zero_mul]
theorem CoRel.none {zs ys : List Int} {kk B i P N : Nat} (h : CoRel zs ys kk B i P N) (hz : (zf zs i).natAbs * (zf ys (kk - i)).natAbs = 0) : CoRel zs ys kk B (i + 1) P N := by
  obtain ⟨h1, h2, h3⟩ := h
  refine ⟨?_, Nat.le_trans h2 (Nat.mul_le_mul_right _ (by omega)), Nat.le_trans h3 (Nat.mul_le_mul_right _ (by omega))⟩
  have : zf zs i * zf ys (kk - i) = 0 := by
    rw [← Int.natAbs_mul] at hz
    exact Int.natAbs_eq_zero.1 hz
  rw [sumZ, ← h1, this, Int.add_zero]
theorem mul_same {z y : Int} (h : decide (z < 0) = decide (y < 0)) : z * y = ((z.natAbs * y.natAbs : Nat) : Int) := by
  rw [← Int.natAbs_mul]
  have : 0 ≤ z * y := by
    by_cases hz : z < 0
    · have hy : y < 0 := by simpa [hz] using h
      exact Int.le_of_lt (Int.mul_pos_of_neg_of_neg hz hy)
    · have hy : ¬ y < 0 := by simpa [hz] using h
      exact Int.mul_nonneg (by omega) (by omega)
  omega
theorem mul_other {z y : Int} (h : decide (z < 0) ≠ decide (y < 0)) : z * y = -((z.natAbs * y.natAbs : Nat) : Int) := by
  rw [← Int.natAbs_mul]
  have : z * y ≤ 0 := by
    by_cases hz : z < 0
    · have hy : ¬ y < 0 := by simpa [hz] using h
      exact Int.mul_nonpos_of_nonpos_of_nonneg (by omega) (by omega)
    · have hy : y < 0 := by simpa [hz] using h
      exact Int.mul_nonpos_of_nonneg_of_nonpos (by omega) (by omega)
  omega
theorem CoRel.plus {zs ys : List Int} {kk B i P N : Nat} (h : CoRel zs ys kk B i P N) (hs : decide (zf zs i < 0) = decide (zf ys (kk - i) < 0)) (hB : (zf zs i).natAbs * (zf ys (kk - i)).natAbs ≤ B) :
    CoRel zs ys kk B (i + 1) (P + (zf zs i).natAbs * (zf ys (kk - i)).natAbs) N := by
  obtain ⟨h1, h2, h3⟩ := h
  refine ⟨?_, by rw [Nat.succ_mul]; omega, Nat.le_trans h3 (Nat.mul_le_mul_right _ (by omega))⟩
  rw [sumZ, ← h1, mul_same hs]
  omega
theorem CoRel.minus {zs ys : List Int} {kk B i P N : Nat} (h : CoRel zs ys kk B i P N) (hs : decide (zf zs i < 0) ≠ decide (zf ys (kk - i) < 0)) (hB : (zf zs i).natAbs * (zf ys (kk - i)).natAbs ≤ B) :
    CoRel zs ys kk B (i + 1) P (N + (zf zs i).natAbs * (zf ys (kk - i)).natAbs) := by
  obtain ⟨h1, h2, h3⟩ := h
  refine ⟨?_, Nat.le_trans h2 (Nat.mul_le_mul_right _ (by omega)), by rw [Nat.succ_mul]; omega⟩
  rw [sumZ, ← h1, mul_other hs]
  omega
end Dig
theorem Can.lenz {w : World} {A : Option Addr} {m c n k : Nat} (h : Can w (.slice A m c) n k) : ((m : Int) == 0) = decide (n = 0) := by
  obtain ⟨⟨A', c', e, _⟩, _⟩ := h
  simp only [Value.slice.injEq] at e
  obtain ⟨_, rfl, _⟩ := e
  by_cases h0 : n = 0
  · subst h0; rfl
  · rw [decide_eq_false h0, beq_eq_false_iff_ne]
    intro e
    have : (dg n).length = 0 := by omega
    have h1 := val_dg n
    rw [List.eq_nil_of_length_eq_zero this] at h1
    exact h0 h1.symm

theorem IntV.parts {k : Nat} {w : World} {z : Int} {tb : Bool} {U : Option Addr} {um uc : Nat} (h : IntV k w (.agg #[.bool tb, .slice U um uc]) z) : tb = decide (z < 0) ∧ Can w (.slice U um uc) z.natAbs k := by
  obtain ⟨nv, e, hc⟩ := h
  cases e
  exact ⟨rfl, hc⟩
theorem two_duos (w : World) (x y x' y' : Value) : ∃ w2, ((w.alloc (.cells #[x, y] 79)).alloc (.cells #[x', y'] 79)).drew = w2 ∧ Dcl w2 w.heap.size x y ∧ Dcl w2 (w.heap.size + 1) x' y' ∧ Below w.heap.size w w2 := by
  refine ⟨_, rfl, ?_, ?_, (below_alloc2 w _ _).drew⟩
  · exact (Dcl.new w x y).of_block (Below.heap_alloc _ _ _ (Dcl.new w x y).lt)
  · have := Dcl.new (w.alloc (.cells #[x, y] 79)) x' y'
    rwa [show (w.alloc (.cells #[x, y] 79)).heap.size = w.heap.size + 1 by show (Array.push _ _).size = _; simp] at this

section
variable {w : World} {va vb : Value} {zs ys : List Int} {k l : Nat}
set_option maxHeartbeats 8000000 in
theorem coefficient_z (ha : Zls k w va zs) (hb : Zls l w vb ys) (kk : Nat) (hk : k + l + 1 ≤ 1000000) (hn : zs.length ≤ 1000000000) (hm : ys.length ≤ 1000000000) (hkk : kk + 1 < zs.length + ys.length) (h0 : 0 < zs.length) (h0' : 0 < ys.length) :
    Calls Try.prog 82 #[va, vb, .int .i64 (kk : Int)] w (RInt2 w (sumZ (kk + 1) fun t => zf zs t * zf ys (kk - t)) (k + l + 1)) := by
  obtain ⟨A, c, rfl⟩ := ha.form
  obtain ⟨B, d, rfl⟩ := hb.form
  obtain ⟨_, hca, hcm⟩ := ha.lens
  obtain ⟨_, hda, hdm⟩ := hb.lens
  obtain ⟨b, off, rfl, hbb, hcell⟩ := ha.cells h0
  obtain ⟨b2, off2, rfl, hbb2, hcell2⟩ := hb.cells h0'
  have HC := Lib.hid hcell
  have HC2 := Lib.hid hcell2
  have R0 := Lib.hid (Dcl.new w (.bool false) (.slice none 0 0))
  have hB0 : Below w.heap.size w (w.alloc (.cells #[.bool false, .slice none 0 0] 79)) := (Below.refl _ _).alloc (Nat.le_refl _) _
  have HB0 := Lib.hid hB0
  have CS := Lib.hid (CoRel.start zs ys kk (4294967296 ^ (k + l)))
  have CE := Lib.hid (fun P N (h : CoRel zs ys kk (4294967296 ^ (k + l)) (min kk (zs.length - 1) + 1) P N) => CoRel.stop h h0)
  have MU := Lib.hid (fun w1 x y a b (hx : Can w1 x a k) (hy : Can w1 y b l) => mul_w (w := w1) hx.numV hy.numV (by omega) (by omega))
  have AD := Lib.hid (fun w1 x y a b (hx : Can w1 x a (k + l + 1)) (hy : Can w1 y b (k + l)) => add_same (w := w1) hx.numV (hy.numV.le (Nat.le_succ _)) (by omega))
  have DI := Lib.hid (fun w1 x y a b (hx : Can w1 x a (k + l + 1)) (hy : Can w1 y b (k + l + 1)) => difference_z (w := w1) hx hy hk)
  have H0 := Lib.hid (show max 0 ((kk : Int) - (ys.length : Int) + 1) = ((kk + 1 - ys.length : Nat) : Int) by omega)
  have HZ := Lib.hid (fun w1 => (⟨Num.nil w1, Nat.pow_pos (by omega)⟩ : Can w1 (.slice none 0 0) 0 (k + l + 1)))
  generalize sumZ (kk + 1) (fun t => zf zs t * zf ys (kk - t)) = Z at *
  clear ha hb hcell hcell2 hB0
  generalize hnn : zs.length = n at *
  generalize hmm : ys.length = m at *
  have HN := Lib.hid hnn
  have HM := Lib.hid hmm
  clear hnn hmm
  go_enter Try.func82, Try.ntmps82
  go_wp2_with fail
  rw [H0.out]
  go_loopw [7, 8, 9] (fun pv nv i wr => ∃ (i' P N : Nat), i = .int .i64 i' ∧ i' ≤ min kk (n - 1) + 1 ∧ kk + 1 - m ≤ i' ∧ CoRel zs ys kk (4294967296 ^ (k + l)) i' P N ∧ Can wr pv P (k + l + 1) ∧ Can wr nv N (k + l + 1) ∧ Dcl wr w.heap.size (.bool false) (.slice none 0 0) ∧ Below w.heap.size w wr) (fun _ _ i _ => min kk (n - 1) + 1 - (intOf i).toNat)
  case atStart => exact ⟨kk + 1 - m, 0, 0, rfl, by omega, Nat.le_refl _, CS.out, HZ.out _, HZ.out _, R0.out, HB0.out⟩
  case round =>
    obtain ⟨i, P, N, rfl, hi, hi2, hco, hp, hq, hR, hB⟩ := hrel
    obtain ⟨X, xm, xc, rfl⟩ := hp.form
    obtain ⟨Y, ym, yc, rfl⟩ := hq.form
    by_cases hlt : i ≤ min kk (n - 1)
    · have hI : (i : Int) ≤ min (kk : Int) ((n : Int) - 1) := by omega
      obtain ⟨tb, U, um, uc, c0, c1, hz⟩ := HC.out i (by omega)
      obtain ⟨tb2, V, vm, vc, d0, d1, hy⟩ := HC2.out (kk - i) (by omega)
      have hw1 : Below wr.heap.size wr wr := Below.refl _ _
      have c0 := (hB.cell (p := ⟨b, _, none⟩) hbb).trans c0
      have c1 := (hB.cell (p := ⟨b, _, none⟩) hbb).trans c1
      have d0 := (hB.cell (p := ⟨b2, _, none⟩) hbb2).trans d0
      have d1 := (hB.cell (p := ⟨b2, _, none⟩) hbb2).trans d1
      have hki : (kk : Int) - (i : Int) = ((kk - i : Nat) : Int) := by omega
      have q0 : (0 : Int) ≤ ((kk - i : Nat) : Int) := by omega
      have q1 : ((kk - i : Nat) : Int) < (m : Int) := by omega
      have q2 : (i : Int) < (n : Int) := by omega
      have q3 : IntKind.i64.wrap ((kk : Int) - (i : Int)) = ((kk - i : Nat) : Int) := by rw [IntWalk.i64_in _ (by omega)]; exact hki
      have q4 : (0 : Int) ≤ (kk : Int) - (i : Int) := by omega
      have q5 : (kk : Int) - (i : Int) < (m : Int) := by omega
      have hBW : Below wr.heap.size wr ((wr.alloc (.cells #[.bool false, .slice none 0 0] 79)).alloc (.cells #[.bool false, .slice none 0 0] 79)).drew := (below_alloc2 wr _ _).drew
      have hlb : b < wr.heap.size := Nat.lt_of_lt_of_le hbb hB.size
      have hlb2 : b2 < wr.heap.size := Nat.lt_of_lt_of_le hbb2 hB.size
      have e0 := (hBW.cell (p := ⟨b, _, none⟩) hlb).trans c0
      have e1 := (hBW.cell (p := ⟨b, _, none⟩) hlb).trans c1
      have e2 := (hBW.cell (p := ⟨b2, _, none⟩) hlb2).trans d0
      have e3 := (hBW.cell (p := ⟨b2, _, none⟩) hlb2).trans d1
      obtain ⟨ht1, hz'⟩ := hz.parts
      obtain ⟨ht2, hy'⟩ := hy.parts
      have HTB := Lib.hid ht1
      have HTC := Lib.hid ht2
      have hZA := Lib.hid (hz'.below hB)
      have hYA := Lib.hid (hy'.below hB)
      have HBD := Lib.hid (show (zf zs i).natAbs * (zf ys (kk - i)).natAbs ≤ 4294967296 ^ (k + l) from by rw [Nat.pow_add]; exact Nat.mul_le_mul (Nat.le_of_lt hz'.2) (Nat.le_of_lt hy'.2))
      have HLT := Lib.hid (fun (x : Nat) (hx : x ≤ (i + 1) * 4294967296 ^ (k + l)) => (show x < 4294967296 ^ (k + l + 1) from by
        refine Nat.lt_of_le_of_lt hx ?_
        rw [Nat.pow_succ, Nat.mul_comm]
        exact Nat.mul_lt_mul_of_pos_left (by omega) (Nat.pow_pos (by omega))))
      have hCO := Lib.hid hco
      have hP := Lib.hid hp
      have hQ := Lib.hid hq
      have hR0 := Lib.hid hR
      have hB1 := Lib.hid hB
      clear ht1 ht2 hz' hy' hz hy hco hp hq hR hB
      go_wp2_with fail
      go_region
      · obtain ⟨w2, ew2, hFa, hFb, hB2⟩ := two_duos wr (.bool tb) (.slice U um uc) (.bool tb2) (.slice V vm vc)
        rw [ew2]
        clear ew2
        have hz := hZA.out.below hB2
        have hy := hYA.out.below hB2
        have hp := hP.out.below hB2
        have hq := hQ.out.below hB2
        have hR := hR0.out.below hB2
        have hB := below_then hB1.out hB2
        obtain ⟨k0, k1⟩ := hFa.cells
        obtain ⟨k2, k3⟩ := hFb.cells
        go_wp2_with fail
        refine (MU.out _ _ _ _ _ hz hy).mono ?_
        rintro e w5 ⟨pr, rfl, hpr, _, hB5⟩
        obtain ⟨D, pm, pc, rfl⟩ := hpr.form
        have hL := hpr.lenz
        have hp := hp.below hB5
        have hq := hq.below hB5
        have hR := hR.below hB5
        have hB := below_then hB hB5
        have hFa := hFa.below hB5
        have hFb := hFb.below hB5
        clear k0 k1 k2 k3 hz hy
        obtain ⟨k0, k1⟩ := hFa.cells
        obtain ⟨k2, k3⟩ := hFb.cells
        by_cases hz0 : (zf zs i).natAbs * (zf ys (kk - i)).natAbs = 0
        · rw [hz0, decide_eq_true rfl] at hL
          have HS := Lib.hid (hCO.out.none hz0)
          have HPP := Lib.hid hp
          have HQQ := Lib.hid hq
          have HRR := Lib.hid hR
          have HBB := Lib.hid hB
          clear hp hq hR hB hFa hFb hpr hz0
          go_wp2_with fail
          go_roundw
          case rel => exact ⟨i + 1, P, N, by go_num, by omega, by omega, HS.out, HPP.out, HQQ.out, HRR.out, HBB.out⟩
          case measure => simp [intOf]; omega
        · rw [decide_eq_false hz0] at hL
          by_cases hs : tb = tb2
          · have hbeq : (tb == tb2) = true := by rw [beq_iff_eq]; exact hs
            have HS := Lib.hid (hCO.out.plus (by rw [← HTB.out, ← HTC.out]; exact hs) HBD.out)
            have ADD := AD.out _ _ _ _ _ hp hpr
            clear hs hz0 hpr hp
            go_wp2_with fail
            refine ADD.mono ?_
            rintro e w6 ⟨r, rfl, hr, _, hB6⟩
            have HPP := Lib.hid (show Can w6 r (P + (zf zs i).natAbs * (zf ys (kk - i)).natAbs) (k + l + 1) from ⟨hr.1, HLT.out _ HS.out.2.1⟩)
            have HQQ := Lib.hid (hq.below hB6)
            have HRR := Lib.hid (hR.below hB6)
            have HBB := Lib.hid (below_then hB hB6)
            clear hq hR hB hFa hFb hr hB6 hB5 k0 k1 k2 k3
            go_wp2_with fail
            go_roundw
            case rel => exact ⟨i + 1, _, N, by go_num, by omega, by omega, HS.out, HPP.out, HQQ.out, HRR.out, HBB.out⟩
            case measure => simp [intOf]; omega
          · have hbeq : (tb == tb2) = false := by rw [beq_eq_false_iff_ne]; exact hs
            have HS := Lib.hid (hCO.out.minus (by rw [← HTB.out, ← HTC.out]; exact hs) HBD.out)
            have ADD := AD.out _ _ _ _ _ hq hpr
            clear hs hz0 hpr hq
            go_wp2_with fail
            refine ADD.mono ?_
            rintro e w6 ⟨r, rfl, hr, _, hB6⟩
            have HQQ := Lib.hid (show Can w6 r (N + (zf zs i).natAbs * (zf ys (kk - i)).natAbs) (k + l + 1) from ⟨hr.1, HLT.out _ HS.out.2.2⟩)
            have HPP := Lib.hid (hp.below hB6)
            have HRR := Lib.hid (hR.below hB6)
            have HBB := Lib.hid (below_then hB hB6)
            clear hp hR hB hFa hFb hr hB6 hB5 k0 k1 k2 k3
            go_wp2_with fail
            go_roundw
            case rel => exact ⟨i + 1, P, _, by go_num, by omega, by omega, HS.out, HPP.out, HQQ.out, HRR.out, HBB.out⟩
            case measure => simp [intOf]; omega
      · obtain ⟨w2, ew2, hFb, hFa, hB2⟩ := two_duos wr (.bool tb2) (.slice V vm vc) (.bool tb) (.slice U um uc)
        rw [ew2]
        clear ew2
        have hz := hZA.out.below hB2
        have hy := hYA.out.below hB2
        have hp := hP.out.below hB2
        have hq := hQ.out.below hB2
        have hR := hR0.out.below hB2
        have hB := below_then hB1.out hB2
        obtain ⟨k0, k1⟩ := hFa.cells
        obtain ⟨k2, k3⟩ := hFb.cells
        go_wp2_with fail
        refine (MU.out _ _ _ _ _ hz hy).mono ?_
        rintro e w5 ⟨pr, rfl, hpr, _, hB5⟩
        obtain ⟨D, pm, pc, rfl⟩ := hpr.form
        have hL := hpr.lenz
        have hp := hp.below hB5
        have hq := hq.below hB5
        have hR := hR.below hB5
        have hB := below_then hB hB5
        have hFa := hFa.below hB5
        have hFb := hFb.below hB5
        clear k0 k1 k2 k3 hz hy
        obtain ⟨k0, k1⟩ := hFa.cells
        obtain ⟨k2, k3⟩ := hFb.cells
        by_cases hz0 : (zf zs i).natAbs * (zf ys (kk - i)).natAbs = 0
        · rw [hz0, decide_eq_true rfl] at hL
          have HS := Lib.hid (hCO.out.none hz0)
          have HPP := Lib.hid hp
          have HQQ := Lib.hid hq
          have HRR := Lib.hid hR
          have HBB := Lib.hid hB
          clear hp hq hR hB hFa hFb hpr hz0
          go_wp2_with fail
          go_roundw
          case rel => exact ⟨i + 1, P, N, by go_num, by omega, by omega, HS.out, HPP.out, HQQ.out, HRR.out, HBB.out⟩
          case measure => simp [intOf]; omega
        · rw [decide_eq_false hz0] at hL
          by_cases hs : tb = tb2
          · have hbeq : (tb == tb2) = true := by rw [beq_iff_eq]; exact hs
            have HS := Lib.hid (hCO.out.plus (by rw [← HTB.out, ← HTC.out]; exact hs) HBD.out)
            have ADD := AD.out _ _ _ _ _ hp hpr
            clear hs hz0 hpr hp
            go_wp2_with fail
            refine ADD.mono ?_
            rintro e w6 ⟨r, rfl, hr, _, hB6⟩
            have HPP := Lib.hid (show Can w6 r (P + (zf zs i).natAbs * (zf ys (kk - i)).natAbs) (k + l + 1) from ⟨hr.1, HLT.out _ HS.out.2.1⟩)
            have HQQ := Lib.hid (hq.below hB6)
            have HRR := Lib.hid (hR.below hB6)
            have HBB := Lib.hid (below_then hB hB6)
            clear hq hR hB hFa hFb hr hB6 hB5 k0 k1 k2 k3
            go_wp2_with fail
            go_roundw
            case rel => exact ⟨i + 1, _, N, by go_num, by omega, by omega, HS.out, HPP.out, HQQ.out, HRR.out, HBB.out⟩
            case measure => simp [intOf]; omega
          · have hbeq : (tb == tb2) = false := by rw [beq_eq_false_iff_ne]; exact hs
            have HS := Lib.hid (hCO.out.minus (by rw [← HTB.out, ← HTC.out]; exact hs) HBD.out)
            have ADD := AD.out _ _ _ _ _ hq hpr
            clear hs hz0 hpr hq
            go_wp2_with fail
            refine ADD.mono ?_
            rintro e w6 ⟨r, rfl, hr, _, hB6⟩
            have HQQ := Lib.hid (show Can w6 r (N + (zf zs i).natAbs * (zf ys (kk - i)).natAbs) (k + l + 1) from ⟨hr.1, HLT.out _ HS.out.2.2⟩)
            have HPP := Lib.hid (hp.below hB6)
            have HRR := Lib.hid (hR.below hB6)
            have HBB := Lib.hid (below_then hB hB6)
            clear hp hR hB hFa hFb hr hB6 hB5 k0 k1 k2 k3
            go_wp2_with fail
            go_roundw
            case rel => exact ⟨i + 1, P, _, by go_num, by omega, by omega, HS.out, HPP.out, HQQ.out, HRR.out, HBB.out⟩
            case measure => simp [intOf]; omega
    · have hI : ¬ (i : Int) ≤ min (kk : Int) ((n : Int) - 1) := by omega
      obtain rfl : i = min kk (n - 1) + 1 := by omega
      have E := CE.out _ _ hco
      have D := DI.out wr _ _ _ _ hp hq
      rw [E] at D
      have DD := Lib.hid D
      have HR := Lib.hid hR
      have HBB := Lib.hid hB
      clear E D hco hp hq hR hB
      go_wp2_with fail
      refine (DD.out).mono ?_
      rintro e w5 ⟨u, rfl, hu, hB5⟩
      obtain ⟨X', xm', xc', rfl, hu'⟩ := hu.form
      have R5 := HR.out.below hB5
      have hB5 := below_then HBB.out hB5
      obtain ⟨k0, k1⟩ := R5.cells
      obtain ⟨f0, f1⟩ := R5.frozen
      have HU := Lib.hid hu
      have H5 := Lib.hid R5
      have HB5 := Lib.hid hB5
      clear hu hu' R5 hB5
      go_wp2_with fail
      refine bodyPost_ret (v := .agg #[.bool (decide (Z < 0)), .slice X' xm' xc']) (by rw [results_one rfl]; go_simp) rfl ?_
      exact ⟨_, rfl, HU.out.plain H5.out.plain (Nat.le_of_eq (stor2o_size _ _ _ _ _).symm) (stor2o_heap w5 w.heap.size 0 _ _), below_stor2o HB5.out (Nat.le_refl _) _ _ _⟩
end
end Go.Proofs.Ytjemnankgjjgcaa

/- The contract of multiply of package poly. -/
namespace Go.Proofs.Ytjemnankgjjgcaa
open Go.RowKit Dig
set_option linter.unusedVariables false

/-- The box of a scaled polynomial. -/
def Sbx (w : World) (g : Nat) (x y : Value) : Prop := w.heap[g]? = some (.cells #[x, y] 59 (0, 0))
section
variable {w w' : World} {g : Nat} {x y : Value}
theorem Sbx.cells (h : Sbx w g x y) : w.cell? ⟨g, 0, none⟩ = some x ∧ w.cell? ⟨g, 1, none⟩ = some y := by
  unfold Sbx at h
  simp [World.cell?, h]
theorem Sbx.frozen (h : Sbx w g x y) : w.frozen? ⟨g, 0, none⟩ = false ∧ w.frozen? ⟨g, 1, none⟩ = false := by
  unfold Sbx at h
  simp [World.frozen?, h]
theorem Sbx.lt (h : Sbx w g x y) : g < w.heap.size := by
  rcases Nat.lt_or_ge g w.heap.size with hlt | hge
  · exact hlt
  · unfold Sbx at h; rw [Array.getElem?_eq_none hge] at h; cases h
theorem Sbx.of_block (h : Sbx w g x y) (e : w'.heap[g]? = w.heap[g]?) : Sbx w' g x y := by
  unfold Sbx at h ⊢
  rw [e]
  exact h
theorem Sbx.below (h : Sbx w g x y) (hb : Below w.heap.size w w') : Sbx w' g x y := h.of_block (hb.block g h.lt)
theorem Sbx.alloc (h : Sbx w g x y) (o : Obj) : Sbx (w.alloc o) g x y := h.of_block (Below.heap_alloc _ _ _ h.lt)
theorem Sbx.far (h : Sbx w g x y) {p : Addr} (hp : g ≠ p.block) (u : Value) : Sbx (w.setCell p u) g x y := h.of_block (Below.heap_setCell w p u g hp)
theorem Sbx.far2 {g2 : Nat} (h : Sbx w g x y) (hne : g ≠ g2) (o : Nat) (a b : Value) : Sbx (stor2o w g2 o a b) g x y := h.of_block (stor2o_heap w g2 o a b g hne)
theorem Sbx.new (w : World) (x y : Value) : Sbx (w.alloc (.cells #[x, y] 59)) w.heap.size x y := by
  unfold Sbx
  rw [heap_alloc_new]
theorem Sbx.new2 (w : World) (o : Obj) (x y : Value) : Sbx ((w.alloc o).alloc (.cells #[x, y] 59)) (w.heap.size + 1) x y := by
  have := Sbx.new (w.alloc o) x y
  rwa [show (w.alloc o).heap.size = w.heap.size + 1 by show (Array.push _ _).size = _; simp] at this
theorem Sbx.new3 (w : World) (o o2 : Obj) (x y : Value) : Sbx (((w.alloc o).alloc o2).alloc (.cells #[x, y] 59)) (w.heap.size + 1 + 1) x y := by
  have := Sbx.new2 (w.alloc o) o2 x y
  rwa [show (w.alloc o).heap.size = w.heap.size + 1 by show (Array.push _ _).size = _; simp] at this
theorem Sbx.set0 (h : Sbx w g x y) (u : Value) : Sbx (w.setCell ⟨g, 0, none⟩ u) g u y := by
  unfold Sbx at h ⊢
  simp only [World.setCell, Array.getElem?_modify, h]
  simp
theorem Sbx.put (h : Sbx w g x y) (a b : Value) : Sbx (stor2o w g 0 a b) g a b := by
  unfold Sbx stor2o at *
  simp only [World.setCell, Array.getElem?_modify, h]
  simp
theorem Sbx.plain {A B : Option Addr} {m c m' c' : Nat} (h : Sbx w g (.slice A m c) (.slice B m' c')) : Plain w g := ⟨_, _, h, fun i u hu k z e => by
  subst e
  match i, hu with
  | 0, hu => simp at hu
  | 1, hu => simp at hu
  | i + 2, hu => simp at hu⟩
end
theorem three_sbx (w : World) (x0 y0 x1 y1 : Value) :
    ∃ w2 g0 g1 g2, ((w.alloc (.cells #[x0, y0] 59)).alloc (.cells #[x1, y1] 59)).alloc (.cells #[.slice none 0 0, .slice none 0 0] 59) = w2 ∧
      w.heap.size = g0 ∧ g0 + 1 = g1 ∧ g1 + 1 = g2 ∧ Below w.heap.size w w2 ∧ Sbx w2 g0 x0 y0 ∧ Sbx w2 g1 x1 y1 ∧ Sbx w2 g2 (.slice none 0 0) (.slice none 0 0) :=
  ⟨_, _, _, _, rfl, rfl, rfl, rfl, below_alloc3 w _ _ _, ((Sbx.new w x0 y0).alloc _).alloc _, (Sbx.new2 w _ x1 y1).alloc _, Sbx.new3 w _ _ _ _⟩

/-- A polynomial with whole coefficients zs above the denominator d. -/
def SclV (w : World) (v : Value) (zs : List Int) (d K M : Nat) : Prop := ∃ nv dv, v = .agg #[nv, dv] ∧ Zls M w nv zs ∧ Can w dv d K
def RScl (w : World) (zs : List Int) (d K M : Nat) (e : Ending) (w' : World) : Prop := ∃ v, e = .returned v ∧ SclV w' v zs d K M ∧ Below w.heap.size w w'
theorem SclV.below {w w' : World} {v : Value} {zs : List Int} {d K M : Nat} (h : SclV w v zs d K M) (hb : Below w.heap.size w w') : SclV w' v zs d K M := by
  obtain ⟨nv, dv, e, h1, h2⟩ := h
  exact ⟨nv, dv, e, h1.below hb, h2.below hb⟩
theorem SclV.parts {w : World} {v : Value} {zs : List Int} {d K M : Nat} (h : SclV w v zs d K M) : ∃ A c B m c', v = .agg #[.slice A zs.length c, .slice B m c'] ∧ Zls M w (.slice A zs.length c) zs ∧ Can w (.slice B m c') d K := by
  obtain ⟨nv, dv, e, h1, h2⟩ := h
  obtain ⟨A, c, rfl⟩ := h1.form
  obtain ⟨B, m, c', rfl⟩ := h2.form
  exact ⟨A, c, B, m, c', e, h1, h2⟩
def zmul (zs ys : List Int) : List Int := if zs.length = 0 ∨ ys.length = 0 then [] else mkz (zs.length + ys.length - 1) fun kk => sumZ (kk + 1) fun t => zf zs t * zf ys (kk - t)

theorem Zls.plain {M : Nat} {w w' : World} {v : Value} {zs : List Int} {g : Nat} (h : Zls M w v zs) (hF : Plain w g) (hd : ∀ A n c b off, v = .slice A n c → A = some ⟨b, off, none⟩ → 0 < n → b ≠ g) (hs : w.heap.size ≤ w'.heap.size) (hk : ∀ j, j ≠ g → w'.heap[j]? = w.heap[j]?) : Zls M w' v zs := by
  obtain ⟨A, c, rfl, h2, h3, h5⟩ := h
  refine ⟨A, c, rfl, h2, h3, fun hp => ?_⟩
  obtain ⟨b, off, rfl, hbb, hc⟩ := h5 hp
  have hne := hd _ _ _ b off rfl rfl hp
  refine ⟨b, off, rfl, Nat.lt_of_lt_of_le hbb hs, fun j hj => ?_⟩
  obtain ⟨tb, X, xm, xc, c0, c1, ht⟩ := hc j hj
  have hcell : ∀ i, w'.cell? ⟨b, i, none⟩ = w.cell? ⟨b, i, none⟩ := fun i => by simp only [World.cell?, hk b hne]
  exact ⟨tb, X, xm, xc, (hcell _).trans c0, (hcell _).trans c1, ht.plain hF hs hk⟩

section
variable {w : World} {va vb : Value} {zs ys : List Int} {d e K L M N : Nat}
set_option maxHeartbeats 8000000 in
theorem multiply_none (ha : SclV w va zs d K M) (hb : SclV w vb ys e L N) (hK : K ≤ 100000) (hL : L ≤ 100000) (h0 : zs.length = 0 ∨ ys.length = 0) :
    Calls Try.prog 54 #[va, vb] w (RScl w (zmul zs ys) (d * e) (K + L) (M + N + 1)) := by
  obtain ⟨A, c, B, m, c', rfl, hz, hd⟩ := ha.parts
  obtain ⟨A2, c2, B2, m2, c2', rfl, hy, he⟩ := hb.parts
  obtain ⟨w2, g0, g1, g2, ew, eg0, eg1, eg2, hB0, hF0, hF1, hF2⟩ := three_sbx w (.slice A zs.length c) (.slice B m c') (.slice A2 ys.length c2) (.slice B2 m2 c2')
  have MU := Lib.hid (fun w1 hB => mul_w (w := w1) (hd.below hB).numV (he.below hB).numV (by omega) (by omega))
  have E : Hid (zmul zs ys = []) := Lib.hid (if_pos h0)
  have HG := Lib.hid (show w.heap.size ≤ g2 by omega)
  have HZ : Hid (((zs.length : Int) == 0) = true ∨ ((zs.length : Int) == 0) = false ∧ ((ys.length : Int) == 0) = true) := Lib.hid (by
    by_cases h : zs.length = 0
    · left; rw [beq_iff_eq]; omega
    · right; exact ⟨by rw [beq_eq_false_iff_ne]; omega, by rw [beq_iff_eq]; omega⟩)
  clear hz hd hy he ha hb h0
  generalize zs.length = n at *
  generalize ys.length = n2 at *
  obtain ⟨k0, k1⟩ := hF0.cells
  obtain ⟨l0, l1⟩ := hF1.cells
  go_enter Try.func54, Try.ntmps54
  go_wp2_with fail
  refine (MU.out _ hB0).mono ?_
  rintro e w3 ⟨r, rfl, hr, _, hB3⟩
  obtain ⟨D, dm, dc, rfl⟩ := hr.form
  have hF0 := hF0.below hB3
  have hF1 := hF1.below hB3
  have hF2 := hF2.below hB3
  have R5 := Sbx.new w3 (.slice none 0 0) (.slice D dm dc)
  have hF0 := hF0.alloc (.cells #[.slice none 0 0, .slice D dm dc] 59)
  have hF1 := hF1.alloc (.cells #[.slice none 0 0, .slice D dm dc] 59)
  have hF2 := hF2.alloc (.cells #[.slice none 0 0, .slice D dm dc] 59)
  have hB4 : Below w.heap.size w (w3.alloc (.cells #[.slice none 0 0, .slice D dm dc] 59)) := (below_then hB0 hB3).alloc (below_then hB0 hB3).size _
  have hr := hr.below ((Below.refl _ _).alloc (Nat.le_refl _) (.cells #[.slice none 0 0, .slice D dm dc] 59))
  clear k0 k1 l0 l1 ew
  obtain ⟨k0, k1⟩ := hF0.cells
  obtain ⟨l0, l1⟩ := hF1.cells
  obtain ⟨m0, m1⟩ := hF2.cells
  obtain ⟨f0, f1⟩ := hF2.frozen
  obtain ⟨r0, r1⟩ := R5.cells
  have HR := Lib.hid hr
  have HF := Lib.hid hF2
  have HB := Lib.hid hB4
  clear hr hF0 hF1 hF2 hB4 R5 hB0
  have fin : ∀ w4, w4 = stor2o (w3.alloc (.cells #[.slice none 0 0, .slice D dm dc] 59)) g2 0 (.slice none 0 0) (.slice D dm dc) → RScl w (zmul zs ys) (d * e) (K + L) (M + N + 1) (.returned (.agg #[.slice none 0 0, .slice D dm dc])) w4 := by
    rintro w4 rfl
    refine ⟨_, rfl, ⟨_, _, rfl, ?_, HR.out.plain HF.out.plain (Nat.le_of_eq (stor2o_size _ _ _ _ _).symm) (stor2o_heap _ g2 0 _ _)⟩, below_stor2o HB.out HG.out _ _ _⟩
    rw [E.out]
    exact Zls.nil _ _
  have FIN := Lib.hid fin
  clear fin
  rcases HZ.out with h1 | ⟨h1, h2⟩
  · go_wp2_with fail
    refine bodyPost_ret (v := .agg #[.slice none 0 0, .slice D dm dc]) (by rw [results_one rfl]; go_simp) rfl ?_
    exact FIN.out _ rfl
  · go_wp2_with fail
    refine bodyPost_ret (v := .agg #[.slice none 0 0, .slice D dm dc]) (by rw [results_one rfl]; go_simp) rfl ?_
    exact FIN.out _ rfl

theorem ZFill.of_block {k : Nat} {w w' : World} {g n i : Nat} {f : Nat → Int} (h : ZFill k w g n i f) {g2 : Nat} (hP : Plain w g2) (hne : g ≠ g2) (hs : w.heap.size ≤ w'.heap.size) (hk : ∀ j, j ≠ g2 → w'.heap[j]? = w.heap[j]?) : ZFill k w' g n i f := by
  obtain ⟨ts, hF, hl, hE⟩ := h
  exact ⟨ts, hF.of_block (hk g hne), hl, fun j hj => (hE j hj).plain hP hs hk⟩
/-- What the loop of multiply finds in memory. -/
def MuRel (w wr : World) (g0 g1 g2 g5 g n' i M : Nat) (x0 y0 x1 y1 den : Value) (f : Nat → Int) : Prop := Sbx wr g0 x0 y0 ∧ Sbx wr g1 x1 y1 ∧ Sbx wr g2 (.slice none 0 0) (.slice none 0 0) ∧ Sbx wr g5 (.slice (some ⟨g, 0, none⟩) n' n') den ∧ ZFill M wr g n' i f ∧ Below w.heap.size w wr
theorem MuRel.below {w wr w2 : World} {g0 g1 g2 g5 g n' i M : Nat} {x0 y0 x1 y1 den : Value} {f : Nat → Int} (h : MuRel w wr g0 g1 g2 g5 g n' i M x0 y0 x1 y1 den f) (hB : Below wr.heap.size wr w2) : MuRel w w2 g0 g1 g2 g5 g n' i M x0 y0 x1 y1 den f := by
  obtain ⟨a, b, c, d, e, f⟩ := h
  exact ⟨a.below hB, b.below hB, c.below hB, d.below hB, e.below hB, below_then f hB⟩
theorem MuRel.set {w wr : World} {g0 g1 g2 g5 g n' i M : Nat} {x0 y0 x1 y1 den : Value} {f : Nat → Int} (h : MuRel w wr g0 g1 g2 g5 g n' i M x0 y0 x1 y1 den f) (h0 : g0 < g) (h1 : g1 < g) (h2 : g2 < g) (h5 : g5 < g) (hg : w.heap.size ≤ g) (hi : i < n') {b : Bool} {X : Option Addr} {xm xc : Nat} (hE : IntV M wr (.agg #[.bool b, .slice X xm xc]) (f i)) :
    MuRel w (stor2o wr g (i * 2) (.bool b) (.slice X xm xc)) g0 g1 g2 g5 g n' (i + 1) M x0 y0 x1 y1 den f := by
  obtain ⟨a1, b1, c1, d1, e1, f1⟩ := h
  exact ⟨a1.far2 (by omega) _ _ _, b1.far2 (by omega) _ _ _, c1.far2 (by omega) _ _ _, d1.far2 (by omega) _ _ _, e1.set hi hE, below_stor2o f1 hg _ _ _⟩
theorem MuRel.reads {w wr : World} {g0 g1 g2 g5 g n' i M : Nat} {x0 y0 x1 y1 den : Value} {f : Nat → Int} (h : MuRel w wr g0 g1 g2 g5 g n' i M x0 y0 x1 y1 den f) : wr.cell? ⟨g0, 0, none⟩ = some x0 ∧ wr.cell? ⟨g1, 0, none⟩ = some x1 ∧ wr.cell? ⟨g5, 0, none⟩ = some (.slice (some ⟨g, 0, none⟩) n' n') := ⟨h.1.cells.1, h.2.1.cells.1, h.2.2.2.1.cells.1⟩
set_option maxHeartbeats 8000000 in
theorem multiply_some (ha : SclV w va zs d K M) (hb : SclV w vb ys e L N) (hK : K ≤ 100000) (hL : L ≤ 100000) (hM : M + N + 1 ≤ 1000000) (h0 : 0 < zs.length) (h1 : 0 < ys.length) (hn : zs.length ≤ 1000000000) (hm : ys.length ≤ 1000000000) :
    Calls Try.prog 54 #[va, vb] w (RScl w (zmul zs ys) (d * e) (K + L) (M + N + 1)) := by
  obtain ⟨A, c, B, m, c', rfl, hz, hd⟩ := ha.parts
  obtain ⟨A2, c2, B2, m2, c2', rfl, hy, he⟩ := hb.parts
  obtain ⟨w2, g0, g1, g2, ew, eg0, eg1, eg2, hB0, hF0, hF1, hF2⟩ := three_sbx w (.slice A zs.length c) (.slice B m c') (.slice A2 ys.length c2) (.slice B2 m2 c2')
  have MU := Lib.hid (fun w1 hB => mul_w (w := w1) (hd.below hB).numV (he.below hB).numV (by omega) (by omega))
  have CO := Lib.hid (fun w1 hB kk (hk : kk + 1 < zs.length + ys.length) => coefficient_z (w := w1) (hz.below hB) (hy.below hB) kk (by omega) hn hm hk h0 h1)
  have E : zmul zs ys = mkz (zs.length + ys.length - 1) fun kk => sumZ (kk + 1) fun t => zf zs t * zf ys (kk - t) := if_neg (by omega)
  rw [E]
  have HZ1 : ((zs.length : Int) == 0) = false := by rw [beq_eq_false_iff_ne]; omega
  have HZ2 : ((ys.length : Int) == 0) = false := by rw [beq_eq_false_iff_ne]; omega
  generalize hF : (fun kk => sumZ (kk + 1) fun t => zf zs t * zf ys (kk - t)) = F at *
  have HFF := Lib.hid hF
  clear hz hd hy he ha hb E hF
  generalize zs.length = n at *
  generalize ys.length = n2 at *
  obtain ⟨n', hn'⟩ : ∃ n', n + n2 - 1 = n' := ⟨_, rfl⟩
  have HN := Lib.hid hn'
  have HQ := Lib.hid (show (n : Int) + (n2 : Int) - 1 = (n' : Int) by omega)
  rw [hn']
  clear hn'
  obtain ⟨k0, k1⟩ := hF0.cells
  obtain ⟨l0, l1⟩ := hF1.cells
  go_enter Try.func54, Try.ntmps54
  go_wp2_with fail
  refine (MU.out _ hB0).mono ?_
  rintro e' w3 ⟨r, rfl, hr, _, hB3⟩
  obtain ⟨D, dm, dc, rfl⟩ := hr.form
  have hlt3 : g2 < w3.heap.size := (hF2.below hB3).lt
  have hF0 := (hF0.below hB3).alloc (.cells #[.slice none 0 0, .slice D dm dc] 59)
  have hF1 := (hF1.below hB3).alloc (.cells #[.slice none 0 0, .slice D dm dc] 59)
  have hF2 := (hF2.below hB3).alloc (.cells #[.slice none 0 0, .slice D dm dc] 59)
  have R5 := Sbx.new w3 (.slice none 0 0) (.slice D dm dc)
  have hB4 : Below w.heap.size w (w3.alloc (.cells #[.slice none 0 0, .slice D dm dc] 59)) := (below_then hB0 hB3).alloc (below_then hB0 hB3).size _
  have hr := hr.below ((Below.refl _ _).alloc (Nat.le_refl _) (.cells #[.slice none 0 0, .slice D dm dc] 59))
  clear k0 k1 l0 l1 ew
  obtain ⟨k0, k1⟩ := hF0.cells
  obtain ⟨l0, l1⟩ := hF1.cells
  obtain ⟨r0, r1⟩ := R5.cells
  have hlt4 := R5.lt
  go_wp2_with (at_make; refine wp_make_d 57 (by kernel_rfl) rfl _ _ rfl _ _ n' rfl rfl HQ.out HQ.out (by have := HN.out; omega) ?_; intro w5 hZ5 hB5; have R5 := R5.below hB5; obtain ⟨s0, s1⟩ := R5.cells; obtain ⟨t0, t1⟩ := R5.frozen)
  have hsz : (w3.alloc (.cells #[.slice none 0 0, .slice D dm dc] 59)).heap.size = w3.heap.size + 1 := by show (Array.push _ _).size = _; simp
  rw [hsz] at hZ5 hlt4
  have hB5' := hB5
  have hF0 := hF0.below hB5
  have hF1 := hF1.below hB5
  have hF2 := hF2.below hB5
  have hr := hr.below hB5
  have hw5 : w3.heap.size + 1 ≤ w5.heap.size := by have := hB5.size; omega
  have hB5 := below_then hB4 hB5
  have hg0 : w.heap.size ≤ w3.heap.size := (below_then hB0 hB3).size
  generalize w3.heap.size = g5 at *
  have hs : w5.heap.size ≤ (w5.setCell ⟨g5, 0, none⟩ (.slice (some ⟨g5 + 1, 0, none⟩) n' n')).heap.size := by simp [World.setCell]
  have hk : ∀ j, j ≠ g5 → (w5.setCell ⟨g5, 0, none⟩ (.slice (some ⟨g5 + 1, 0, none⟩) n' n')).heap[j]? = w5.heap[j]? := fun j hj => Below.heap_setCell w5 ⟨g5, 0, none⟩ _ j hj
  have hI : MuRel w (w5.setCell ⟨g5, 0, none⟩ (.slice (some ⟨g5 + 1, 0, none⟩) n' n')) g0 g1 g2 g5 (g5 + 1) n' 0 (M + N + 1) (.slice A n c) (.slice B m c') (.slice A2 n2 c2) (.slice B2 m2 c2') (.slice D dm dc) F :=
    ⟨hF0.far (by show g0 ≠ g5; omega) _, hF1.far (by show g1 ≠ g5; omega) _, hF2.far (by show g2 ≠ g5; omega) _, R5.set0 _, (ZFill.start hZ5).of_block R5.plain (by omega) hs hk, hB5.setCell (p := ⟨g5, 0, none⟩) hg0 _⟩
  have hr := hr.plain R5.plain hs hk
  have hG : w.heap.size ≤ g2 ∧ g0 < g5 + 1 ∧ g1 < g5 + 1 ∧ g2 < g5 + 1 ∧ w.heap.size ≤ g5 + 1 ∧ g5 < g5 + 1 := by omega
  have HG := Lib.hid hG
  have hnn := Lib.hid (show n' ≤ 2000000000 ∧ n' + 1 = n + n2 from by have := HN.out; omega)
  clear k0 k1 l0 l1 r0 r1 s0 s1 t0 t1 hZ5 hF0 hF1 hF2 R5 hB0 hB3 hB4 hB5 hB5' hs hk hsz hG hlt3 hlt4 hg0 hw5 eg0 eg1 eg2 MU HZ1 HZ2
  generalize w5.setCell ⟨g5, 0, none⟩ (.slice (some ⟨g5 + 1, 0, none⟩) n' n') = w6 at *
  generalize g5 + 1 = g at *
  go_loopw [37] (fun i wr => ∃ j : Nat, j ≤ n' ∧ i = .int .i64 j ∧ MuRel w wr g0 g1 g2 g5 g n' j (M + N + 1) (.slice A n c) (.slice B m c') (.slice A2 n2 c2) (.slice B2 m2 c2') (.slice D dm dc) F ∧ Can wr (.slice D dm dc) (d * e) (K + L)) (fun i _ => n' - (intOf i).toNat)
  case atStart => exact ⟨0, Nat.zero_le _, rfl, hI, hr⟩
  case round =>
    obtain ⟨j, hj, rfl, hI, hr⟩ := hrel
    have hnl := hnn.out.1
    by_cases hjn : j < n'
    · have HI : (j : Int) < n' := by omega
      have C := Lib.hid (fun w1 hB => CO.out w1 hB j (by have := hnn.out; omega))
      have MI := Lib.hid (fun w1 (hB : Below wr.heap.size wr w1) => hI.below hB)
      have HC := Lib.hid hr
      have hSR := hI.reads
      have SB := Lib.hid (fun w1 (hB : Below wr.heap.size wr w1) => (hI.below hB).reads)
      have SC := Lib.hid (fun w1 (hB : Below wr.heap.size wr w1) b X xm xc (hE : IntV (M + N + 1) w1 (.agg #[.bool b, .slice X xm xc]) (F j)) => ((hI.below hB).set HG.out.2.1 HG.out.2.2.1 HG.out.2.2.2.1 HG.out.2.2.2.2.2 HG.out.2.2.2.2.1 hjn hE))
      have SD := Lib.hid (fun w1 (hB : Below wr.heap.size wr w1) a b => (show (stor2o w1 g (j * 2) a b).cell? ⟨g0, 0, none⟩ = some (.slice A n c) ∧ (stor2o w1 g (j * 2) a b).cell? ⟨g1, 0, none⟩ = some (.slice A2 n2 c2) ∧ (stor2o w1 g (j * 2) a b).cell? ⟨g5, 0, none⟩ = some (.slice (some ⟨g, 0, none⟩) n' n') from by
        have h := HG.out
        rw [stor2o_cell (by omega), stor2o_cell (by omega), stor2o_cell (by omega)]
        exact SB.out _ hB))
      have HFJ := Lib.hid (fun w1 u (hu : IntV (M + N + 1) w1 u (sumZ (j + 1) fun t => zf zs t * zf ys (j - t))) => (show IntV (M + N + 1) w1 u (F j) from by rw [← HFF.out]; exact hu))
      have hK : Below wr.heap.size wr wr := Below.refl _ _
      have hW := Lib.hid hI.2.2.2.2.2
      have HZL := Lib.hid (fun w1 (hB : Below wr.heap.size wr w1) => ((hI.below hB).2.2.2.2.1))
      obtain ⟨v0, v1, v2⟩ := hSR
      clear hI hr
      go_wp2_with fail
      go_region_held3 (fun w' => w'.cell? ⟨g0, 0, none⟩ = some (.slice A n c) ∧ w'.cell? ⟨g1, 0, none⟩ = some (.slice A2 n2 c2) ∧ w'.cell? ⟨g5, 0, none⟩ = some (.slice (some ⟨g, 0, none⟩) n' n')) (first | with_reducible exact SB.out _ hK | exact SB.out _ hK.drew | exact SD.out _ hK _ _) (first | (go_at_call 82; refine (C.out _ (below_then hW.out hK.drew)).mono ?_; rintro e' w4 ⟨u, rfl, hu, hB4⟩; have hK := below_undrew hB4; obtain ⟨X, xm, xc, rfl, _⟩ := hu.form; have HS := Lib.hid (SC.out _ hK _ _ _ _ (HFJ.out _ _ hu)); have hZ := HZL.out _ hK; obtain ⟨z0, z1, e0, e1⟩ := hZ.cells hjn; have f0 := hZ.frozen (j * 2); have f1 := hZ.frozen (j * 2 + 1)))
      have HR := Lib.hid ((HC.out.below hK).plain hZ.plain (Nat.le_of_eq (stor2o_size w4 g (j * 2) (.bool (decide ((sumZ (j + 1) fun t => zf zs t * zf ys (j - t)) < 0))) (.slice X xm xc)).symm) (stor2o_heap w4 g (j * 2) _ _))
      clear hu hZ
      go_wp2_with fail
      go_roundw
      case rel => exact ⟨j + 1, by omega, by go_num, HS.out, HR.out⟩
      case measure => simp [intOf]; omega
    · have HI : ¬ (j : Int) < n' := by omega
      obtain rfl : j = n' := by omega
      obtain ⟨h0, h1, h2, h5, hz, hB⟩ := hI
      obtain ⟨k0, k1⟩ := h5.cells
      obtain ⟨l0, l1⟩ := h2.cells
      obtain ⟨f0, f1⟩ := h2.frozen
      have HD := Lib.hid (hz.done (by omega))
      have HP := Lib.hid h2.plain
      have HB := Lib.hid hB
      have HR := Lib.hid hr
      have HX := Lib.hid (show g2 ≠ g from by have := HG.out; omega)
      clear h0 h1 h2 h5 hz hB hr
      go_wp2_with fail
      refine bodyPost_ret (v := .agg #[.slice (some ⟨g, 0, none⟩) j j, .slice D dm dc]) (by rw [results_one rfl]; go_simp) rfl ?_
      have hs := Nat.le_of_eq (stor2o_size wr g2 0 (.slice (some ⟨g, 0, none⟩) j j) (.slice D dm dc)).symm
      have hk := stor2o_heap wr g2 0 (.slice (some ⟨g, 0, none⟩) j j) (.slice D dm dc)
      refine ⟨_, rfl, ⟨_, _, rfl, ?_, HR.out.plain HP.out hs hk⟩, below_stor2o HB.out HG.out.1 _ _ _⟩
      refine HD.out.plain HP.out ?_ hs hk
      intro A' n'' c'' b off e1 e2 _
      cases e1
      cases e2
      exact Ne.symm HX.out
end
end Go.Proofs.Ytjemnankgjjgcaa

/- The contract of reduce of package poly, and of multiply for all lists. -/
namespace Go.Proofs.Ytjemnankgjjgcaa
open Go.RowKit Dig
set_option linter.unusedVariables false

namespace Dig
theorem fr_int (z : Int) (d : Nat) : fr (decide (z < 0)) z.natAbs d = (z : Rat) / (d : Rat) := by
  unfold fr
  rw [← Rat.mkRat_eq_div]
  congr 1
  unfold sg
  by_cases h : z < 0
  · rw [decide_eq_true h]; simp; omega
  · rw [decide_eq_false h]; simp; omega
end Dig
section
variable {w : World} {v va vb : Value} {zs ys : List Int} {d e K L M N : Nat}
theorem multiply_z (ha : SclV w va zs d K M) (hb : SclV w vb ys e L N) (hK : K ≤ 100000) (hL : L ≤ 100000) (hM : M + N + 1 ≤ 1000000) (hn : zs.length ≤ 1000000000) (hm : ys.length ≤ 1000000000) :
    Calls Try.prog 54 #[va, vb] w (RScl w (zmul zs ys) (d * e) (K + L) (M + N + 1)) := by
  by_cases h : zs.length = 0 ∨ ys.length = 0
  · exact multiply_none ha hb hK hL h
  · exact multiply_some ha hb hK hL hM (by omega) (by omega) hn hm
set_option maxHeartbeats 8000000 in
theorem reduce_q (ha : SclV w v zs d K M) (hK : K ≤ M) (hM : M ≤ 400000) (h2 : 2 ≤ M) (hn : zs.length ≤ 1000000000) :
    Calls Try.prog 53 #[v] w (RPol w (mk zs.length fun i => (zf zs i : Rat) / (d : Rat)) M) := by
  obtain ⟨A, c, B, m, c', rfl, hz, hd⟩ := ha.parts
  have hB0 : Below w.heap.size w (w.alloc (.cells #[.slice A zs.length c, .slice B m c'] 59)) := (Below.refl _ _).alloc (Nat.le_refl _) _
  have R0 := Sbx.new w (.slice A zs.length c) (.slice B m c')
  have hz := hz.below hB0
  have hd := hd.below hB0
  have HW0 := Lib.hid hB0
  have hg0 : w.heap.size < (w.alloc (.cells #[.slice A zs.length c, .slice B m c'] 59)).heap.size := R0.lt
  obtain ⟨w0, hw0⟩ : ∃ w0, w.alloc (.cells #[.slice A zs.length c, .slice B m c'] 59) = w0 := ⟨_, rfl⟩
  rw [hw0] at hB0 R0 hz hd hg0
  have HE := Lib.hid hw0
  have HG0 := Lib.hid hg0
  have HZ := Lib.hid (fun w1 (hr : Below w0.heap.size w0 w1) => (hz.below hr).cells (n := zs.length))
  have RB := Lib.hid (fun w1 (hr : Below w0.heap.size w0 w1) => R0.below hr)
  have NF := Lib.hid (fun w1 (hr : Below w0.heap.size w0 w1) X z (hX : Can w1 X (Int.natAbs z) M) => normf_v (w := w1) (v := .agg #[.bool (decide (z < 0)), X, .slice B m c']) (q := (z : Rat) / (d : Rat)) (k := M) ⟨_, _, _, _, _, rfl, hX.numV, ((hd.below hr).le hK).numV, fr_int z d⟩ hM h2)
  have HK := Lib.hid (keeps_CV M)
  generalize hF : (fun i => (zf zs i : Rat) / (d : Rat)) = F at *
  have HF := Lib.hid hF
  clear hF hz hd ha hB0 hg0 hw0
  generalize zs.length = n at *
  obtain ⟨k0, k1⟩ := R0.cells
  have hw0 := HE.out
  go_enter Try.func53, Try.ntmps53
  go_wp2_with (at_make; refine wp_make_f 24 (by kernel_rfl) rfl _ _ rfl _ _ n rfl rfl rfl rfl (by omega) ?_; intro w2 hF2 hB2; have R2 := R0.below hB2; obtain ⟨l0, l1⟩ := R2.cells)
  have hI := Fill.start (base := w0.heap.size) (E := CV M) (f := F) hF2
  clear hF2 k0 k1 l0 l1 R2 R0 hw0
  generalize hg1 : w.heap.size = g0 at *
  have HG := Lib.hid hg1
  clear hg1
  generalize w0.heap.size = g at *
  go_loopw [13] (fun i wr => ∃ j : Nat, j ≤ n ∧ i = .int .i64 j ∧ Fill g (CV M) wr g n j F ∧ Below g w0 wr) (fun i _ => n - (intOf i).toNat)
  case atStart => exact ⟨0, Nat.zero_le _, rfl, hI, hB2⟩
  case round =>
    obtain ⟨j, hj, rfl, hI, hB⟩ := hrel
    have FI := Lib.hid hI
    have hlt := hI.lt
    by_cases hjn : j < n
    · have HI : (j : Int) < n := by omega
      obtain ⟨b, off, rfl, hb, hcell⟩ := HZ.out _ hB (by omega)
      obtain ⟨tb, U, um, uc, c0, c1, hz⟩ := hcell j hjn
      have hA4 : Below wr.heap.size wr (wr.alloc (.cells #[.bool tb, .slice U um uc] 79)) := (Below.refl _ _).alloc (Nat.le_refl _) _
      have R1 := (RB.out _ hB).alloc (.cells #[.bool tb, .slice U um uc] 79)
      have R2 := Dcl.new wr (.bool tb) (.slice U um uc)
      obtain ⟨k0, k1⟩ := R1.cells
      obtain ⟨l0, l1⟩ := R2.cells
      obtain ⟨ht, hz⟩ := hz.parts
      have hN := NF.out (wr.alloc (.cells #[.bool tb, .slice U um uc] 79)) (hB.trans (hA4.mono (Nat.le_of_lt hlt))) _ _ (hz.below hA4)
      rw [← ht] at hN
      have NN := Lib.hid hN
      clear hI hcell hz R1 R2 ht hN
      go_wp2_with fail
      refine (NN.out).mono ?_
      rintro e w5 ⟨u, rfl, hu, hB5⟩
      have hB5 := below_new _ hB5
      have hB := hB.trans (hB5.mono (Nat.le_of_lt hlt))
      obtain ⟨b', C, o, r, C', o', r', rfl, hb', hvx, hvy⟩ := hu.parts
      have hI := FI.out.below HK.out hB5
      obtain ⟨z0, z1, z2, e0, e1, e2⟩ := hI.cells hjn
      have f0 := hI.frozen (j * 3)
      have f1 := hI.frozen (j * 3 + 1)
      have f2 := hI.frozen (j * 3 + 2)
      have HS := Lib.hid (hI.set HK.out hjn (show CV M w5 _ (F j) by rw [← HF.out]; exact CanF.ofParts hb' hvx hvy))
      clear hI hu hb' hvx hvy c0 c1 k0 k1 l0 l1
      go_wp2_with fail
      go_roundw
      case rel => exact ⟨j + 1, by omega, by go_num, HS.out, below_stor3o hB (Nat.le_refl _) _ _ _ _⟩
      case measure => simp [intOf]; omega
    · have HI : ¬ (j : Int) < n := by omega
      obtain rfl : j = n := by omega
      have HD := Lib.hid (hI.done (Nat.le_refl _) (by omega))
      have HB := Lib.hid hB
      clear hI hB
      go_wp2_with fail
      go_ret
      refine ⟨_, rfl, by rw [HG.out]; exact HD.out.mono (Nat.le_of_lt HG0.out), ?_⟩
      rw [HG.out]
      exact HW0.out.trans (by rw [HE.out]; exact HB.out.mono (Nat.le_of_lt HG0.out))
end
end Go.Proofs.Ytjemnankgjjgcaa

/- Lists of whole numbers with a sign in memory (poly.integer), two cells for each; quotient and difference of package poly. -/
import Derived.Test.YtpmjhkpjhfpfpaaPlyB
import Derived.Test.YtpmjhkpjhfpfpaaDivs
import Derived.Test.YtpmjhkpjhfpfpaaGcds
import Derived.Test.YtpmjhkpjhfpfpaaRatF
namespace Go.Proofs.Ytpmjhkpjhfpfpaa
open Go.RowKit Dig
set_option linter.unusedVariables false

/-- A block without numbers in its cells. -/
def Plain (w : World) (g : Nat) : Prop := ∃ (vs : Array Value) (ty : TypeId), w.heap[g]? = some (.cells vs ty (0, 0)) ∧ ∀ (i : Nat) (u : Value), vs[i]? = some u → ∀ k z, u ≠ .int k z
section
variable {w w' : World} {g : Nat}
theorem Num.plain {v : Value} {xs : List Nat} (h : Num w v xs) (hF : Plain w g) (hs : w.heap.size ≤ w'.heap.size) (hk : ∀ j, j ≠ g → w'.heap[j]? = w.heap[j]?) : Num w' v xs := by
  obtain ⟨B, c, h1, h2, h3, h4, h5⟩ := h
  obtain ⟨vs, ty, hh, hno⟩ := hF
  refine ⟨B, c, h1, h2, h3, h4, fun hp => ?_⟩
  obtain ⟨b, off, e1, hb, hc⟩ := h5 hp
  have hne : b ≠ g := by
    rintro rfl
    have h0 := hc 0 hp
    rw [cell_of_row w b _ _ _ (0, 0) hh] at h0
    exact hno _ _ h0 _ _ rfl
  refine ⟨b, off, e1, by omega, fun j hj => ?_⟩
  rw [← hc j hj]
  simp only [World.cell?, hk b hne]
theorem NumV.plain {v : Value} {n k : Nat} (h : NumV w v n k) (hF : Plain w g) (hs : w.heap.size ≤ w'.heap.size) (hk : ∀ j, j ≠ g → w'.heap[j]? = w.heap[j]?) : NumV w' v n k := by
  obtain ⟨L, h1, h2⟩ := h
  exact ⟨L, h1.plain hF hs hk, h2⟩
theorem Can.plain {v : Value} {n k : Nat} (h : Can w v n k) (hF : Plain w g) (hs : w.heap.size ≤ w'.heap.size) (hk : ∀ j, j ≠ g → w'.heap[j]? = w.heap[j]?) : Can w' v n k := ⟨h.1.plain hF hs hk, h.2⟩
end

/-- A whole number with its sign. -/
def IntV (k : Nat) (w : World) (v : Value) (z : Int) : Prop := ∃ nv, v = .agg #[.bool (decide (z < 0)), nv] ∧ Can w nv z.natAbs k
/-- The parts of a whole number as it lies in memory. -/
structure Duo where
  b : Bool
  x : Option Addr × Nat × Nat
namespace Duo
def vx (t : Duo) : Value := .slice t.x.1 t.x.2.1 t.x.2.2
def val (t : Duo) : Value := .agg #[.bool t.b, t.vx]
def zero : Duo := ⟨false, (none, 0, 0)⟩
end Duo
def dcells : List Duo → List Value
  | [] => []
  | t :: ts => .bool t.b :: t.vx :: dcells ts
theorem dcells_length (ts : List Duo) : (dcells ts).length = ts.length * 2 := by
  induction ts with
  | nil => rfl
  | cons t ts ih => simp [dcells, ih]; omega
theorem dcells_get : ∀ (ts : List Duo) (j : Nat) (h : j < ts.length), (dcells ts)[j * 2]? = some (.bool (ts.getD j .zero).b) ∧ (dcells ts)[j * 2 + 1]? = some (ts.getD j .zero).vx
  | [], _, h => by simp at h
  | t :: ts, 0, _ => by simp [dcells]
  | t :: ts, j + 1, h => by
    have := dcells_get ts j (by simpa using h)
    rw [show (j + 1) * 2 = j * 2 + 2 by omega]
    simpa [dcells] using this
theorem dcells_set : ∀ (ts : List Duo) (j : Nat) (u : Duo) (h : j < ts.length), (((dcells ts).set (j * 2) (.bool u.b)).set (j * 2 + 1) u.vx) = dcells (ts.set j u)
  | [], _, _, h => by simp at h
  | t :: ts, 0, u, _ => by simp [dcells]
  | t :: ts, j + 1, u, h => by
    have := dcells_set ts j u (by simpa using h)
    rw [show (j + 1) * 2 = j * 2 + 2 by omega]
    simpa [dcells] using this
theorem dcells_noint : ∀ (ts : List Duo) (u : Value), u ∈ dcells ts → ∀ k z, u ≠ .int k z
  | [], u, h, _, _ => by simp [dcells] at h
  | t :: ts, u, h, k, z => by
    simp only [dcells, List.mem_cons] at h
    rcases h with rfl | rfl | h
    · exact fun e => by cases e
    · exact fun e => by cases e
    · exact dcells_noint ts u h k z
/-- Block g is a row of whole numbers with signs. -/
def ZBlk (w : World) (g : Nat) (ts : List Duo) : Prop := w.heap[g]? = some (.cells (dcells ts).toArray 79 (0, 0))
def stor2o (w : World) (g o : Nat) (a b : Value) : World := (w.setCell ⟨g, o, none⟩ a).setCell ⟨g, o + 1, none⟩ b
section
variable {w w' : World} {g : Nat} {ts : List Duo}
theorem ZBlk.lt (h : ZBlk w g ts) : g < w.heap.size := by
  rcases Nat.lt_or_ge g w.heap.size with hlt | hge
  · exact hlt
  · unfold ZBlk at h; rw [Array.getElem?_eq_none hge] at h; cases h
theorem ZBlk.frozen (h : ZBlk w g ts) (i : Nat) : w.frozen? ⟨g, i, none⟩ = false := by
  unfold ZBlk at h
  simp [World.frozen?, h]
theorem ZBlk.cell (h : ZBlk w g ts) (i : Nat) : w.cell? ⟨g, i, none⟩ = (dcells ts)[i]? := by
  rw [cell_of_row w g i _ _ (0, 0) h, List.getElem?_toArray]
theorem ZBlk.cells (h : ZBlk w g ts) {j : Nat} (hj : j < ts.length) : w.cell? ⟨g, j * 2, none⟩ = some (.bool (ts.getD j .zero).b) ∧ w.cell? ⟨g, j * 2 + 1, none⟩ = some (ts.getD j .zero).vx := by
  rw [h.cell, h.cell]
  exact dcells_get ts j hj
theorem ZBlk.plain (h : ZBlk w g ts) : Plain w g := ⟨_, _, h, fun i u hu => by
  rw [List.getElem?_toArray] at hu
  exact dcells_noint ts u (List.mem_of_getElem? hu)⟩
theorem ZBlk.of_block (h : ZBlk w g ts) (e : w'.heap[g]? = w.heap[g]?) : ZBlk w' g ts := by
  unfold ZBlk at h ⊢
  rw [e]
  exact h
theorem ZBlk.below (h : ZBlk w g ts) (hb : Below w.heap.size w w') : ZBlk w' g ts := h.of_block (hb.block g h.lt)
theorem ZBlk.set (h : ZBlk w g ts) {j : Nat} (hj : j < ts.length) (u : Duo) : ZBlk (stor2o w g (j * 2) (.bool u.b) u.vx) g (ts.set j u) := by
  unfold ZBlk at h ⊢
  unfold stor2o
  simp only [World.setCell, Array.getElem?_modify, h]
  simp only [if_true, Option.map_some, List.setIfInBounds_toArray, Option.isSome_none, Bool.false_eq_true, if_false]
  rw [dcells_set ts j u hj]
theorem stor2o_heap (w : World) (g o : Nat) (a b : Value) : ∀ j, j ≠ g → (stor2o w g o a b).heap[j]? = w.heap[j]? := by
  intro j hj
  unfold stor2o
  rw [Below.heap_setCell _ ⟨g, o + 1, none⟩ _ j hj, Below.heap_setCell _ ⟨g, o, none⟩ _ j hj]
theorem stor2o_size (w : World) (g o : Nat) (a b : Value) : (stor2o w g o a b).heap.size = w.heap.size := by
  unfold stor2o
  simp [World.setCell]
theorem below_stor2o {B : Nat} {w w2 : World} (hB : Below B w w2) {g : Nat} (hg : B ≤ g) (o : Nat) (a b : Value) : Below B w (stor2o w2 g o a b) := by
  unfold stor2o
  exact (hB.setCell (p := ⟨g, o, none⟩) hg a).setCell (p := ⟨g, o + 1, none⟩) hg b
theorem stor2o_cell {b : Nat} (hb : b ≠ g) (o i : Nat) (x y : Value) : (stor2o w g o x y).cell? ⟨b, i, none⟩ = w.cell? ⟨b, i, none⟩ := by
  simp only [World.cell?, stor2o_heap w g o x y b hb]
end
theorem keepsZ {k : Nat} {w w' : World} {v : Value} {z : Int} (h : IntV k w v z) (hb : Below w.heap.size w w') : IntV k w' v z := by
  obtain ⟨nv, e, hc⟩ := h
  exact ⟨nv, e, hc.below hb⟩
theorem IntV.plain {k : Nat} {w w' : World} {v : Value} {z : Int} {g : Nat} (h : IntV k w v z) (hF : Plain w g) (hs : w.heap.size ≤ w'.heap.size) (hk : ∀ j, j ≠ g → w'.heap[j]? = w.heap[j]?) : IntV k w' v z := by
  obtain ⟨nv, e, hc⟩ := h
  exact ⟨nv, e, hc.plain hF hs hk⟩
theorem IntV.form {k : Nat} {w : World} {v : Value} {z : Int} (h : IntV k w v z) : ∃ A m c, v = .agg #[.bool (decide (z < 0)), .slice A m c] ∧ Can w (.slice A m c) z.natAbs k := by
  obtain ⟨nv, e, hc⟩ := h
  obtain ⟨A, m, c, rfl⟩ := hc.form
  exact ⟨A, m, c, e, hc⟩
theorem IntV.le {k l : Nat} {w : World} {v : Value} {z : Int} (h : IntV k w v z) (hl : k ≤ l) : IntV l w v z := by
  obtain ⟨nv, e, hc⟩ := h
  exact ⟨nv, e, hc.le hl⟩

def zf (zs : List Int) (i : Nat) : Int := zs.getD i 0
/-- A list of whole numbers that can be read. -/
def Zls (k : Nat) (w : World) (v : Value) (zs : List Int) : Prop :=
  ∃ A c, v = .slice A zs.length c ∧ zs.length ≤ c ∧ c ≤ 9223372036854775807 ∧
    (0 < zs.length → ∃ b off, A = some ⟨b, off, none⟩ ∧ b < w.heap.size ∧ ∀ j, j < zs.length → ∃ tb X xm xc,
      w.cell? ⟨b, off + j * 2, none⟩ = some (.bool tb) ∧ w.cell? ⟨b, off + j * 2 + 1, none⟩ = some (.slice X xm xc) ∧ IntV k w (.agg #[.bool tb, .slice X xm xc]) (zf zs j))
def ZFill (k : Nat) (w : World) (g n i : Nat) (f : Nat → Int) : Prop := ∃ ts, ZBlk w g ts ∧ ts.length = n ∧ ∀ j, j < i → IntV k w (ts.getD j .zero).val (f j)
section
variable {w w' : World} {v : Value} {zs : List Int} {k g n i : Nat} {f : Nat → Int}
theorem Zls.nil (k : Nat) (w : World) : Zls k w (.slice none 0 0) [] := ⟨none, 0, rfl, Nat.le_refl _, by omega, fun h => absurd h (by simp)⟩
theorem Zls.below (h : Zls k w v zs) (hb : Below w.heap.size w w') : Zls k w' v zs := by
  obtain ⟨A, c, h1, h2, h3, h5⟩ := h
  refine ⟨A, c, h1, h2, h3, fun hp => ?_⟩
  obtain ⟨b, off, e, hbb, hc⟩ := h5 hp
  refine ⟨b, off, e, Nat.lt_of_lt_of_le hbb hb.size, fun j hj => ?_⟩
  obtain ⟨tb, X, xm, xc, c0, c1, ht⟩ := hc j hj
  exact ⟨tb, X, xm, xc, (hb.cell (p := ⟨b, _, none⟩) hbb).trans c0, (hb.cell (p := ⟨b, _, none⟩) hbb).trans c1, keepsZ ht hb⟩
theorem ZFill.start (h : ZBlk w g (List.replicate n .zero)) : ZFill k w g n 0 f := ⟨_, h, by simp, fun j hj => absurd hj (by omega)⟩
theorem ZFill.below (h : ZFill k w g n i f) (hb : Below w.heap.size w w') : ZFill k w' g n i f := by
  obtain ⟨ts, hF, hl, hE⟩ := h
  exact ⟨ts, hF.below hb, hl, fun j hj => keepsZ (hE j hj) hb⟩
theorem ZFill.lt (h : ZFill k w g n i f) : g < w.heap.size := by
  obtain ⟨ts, hF, _⟩ := h
  exact hF.lt
theorem ZFill.frozen (h : ZFill k w g n i f) (j : Nat) : w.frozen? ⟨g, j, none⟩ = false := by
  obtain ⟨ts, hF, _⟩ := h
  exact hF.frozen j
theorem ZFill.plain (h : ZFill k w g n i f) : Plain w g := by
  obtain ⟨ts, hF, _⟩ := h
  exact hF.plain
theorem ZFill.cells (h : ZFill k w g n i f) {j : Nat} (hj : j < n) : ∃ a b, w.cell? ⟨g, j * 2, none⟩ = some a ∧ w.cell? ⟨g, j * 2 + 1, none⟩ = some b := by
  obtain ⟨ts, hF, hl, _⟩ := h
  obtain ⟨c0, c1⟩ := hF.cells (j := j) (by omega)
  exact ⟨_, _, c0, c1⟩
theorem ZFill.set (h : ZFill k w g n i f) (hi : i < n) {b : Bool} {X : Option Addr} {xm xc : Nat} (hE : IntV k w (.agg #[.bool b, .slice X xm xc]) (f i)) :
    ZFill k (stor2o w g (i * 2) (.bool b) (.slice X xm xc)) g n (i + 1) f := by
  obtain ⟨ts, hF, hl, h⟩ := h
  have hS : ZBlk (stor2o w g (i * 2) (.bool b) (.slice X xm xc)) g (ts.set i ⟨b, (X, xm, xc)⟩) := hF.set (by omega) (⟨b, (X, xm, xc)⟩ : Duo)
  have hs : w.heap.size ≤ (stor2o w g (i * 2) (.bool b) (.slice X xm xc)).heap.size := Nat.le_of_eq (stor2o_size _ _ _ _ _).symm
  have hk := stor2o_heap w g (i * 2) (.bool b) (.slice X xm xc)
  generalize stor2o w g (i * 2) (.bool b) (.slice X xm xc) = w3 at *
  refine ⟨_, hS, by simpa using hl, fun j hj => ?_⟩
  rcases Nat.lt_or_ge j i with h1 | h1
  · rw [List.getD_eq_getElem?_getD, List.getElem?_set_ne (by omega), ← List.getD_eq_getElem?_getD]
    exact (h j h1).plain hF.plain hs hk
  · obtain rfl : j = i := by omega
    rw [List.getD_eq_getElem?_getD, List.getElem?_set_self (by omega)]
    exact IntV.plain (v := .agg #[.bool b, .slice X xm xc]) hE hF.plain hs hk
def mkz (n : Nat) (f : Nat → Int) : List Int := (List.range n).map f
theorem mkz_length (n : Nat) (f : Nat → Int) : (mkz n f).length = n := by simp [mkz]
theorem zf_mkz (n : Nat) (f : Nat → Int) (i : Nat) : zf (mkz n f) i = if i < n then f i else 0 := by
  unfold zf mkz
  rw [List.getD_eq_getElem?_getD, List.getElem?_map]
  by_cases h : i < n
  · rw [List.getElem?_range h]; simp [h]
  · rw [List.getElem?_eq_none (by simpa using h)]; simp [h]
theorem ZFill.done (h : ZFill k w g n n f) (hm : n ≤ 1000000000000) : Zls k w (.slice (some ⟨g, 0, none⟩) n n) (mkz n f) := by
  obtain ⟨ts, hF, hl, hE⟩ := h
  refine ⟨_, n, by rw [mkz_length], by rw [mkz_length]; exact Nat.le_refl _, by omega, fun hp => ⟨g, 0, rfl, hF.lt, fun j hj => ?_⟩⟩
  rw [mkz_length] at hj
  obtain ⟨c0, c1⟩ := hF.cells (j := j) (by omega)
  rw [Nat.zero_add, zf_mkz, if_pos hj]
  exact ⟨_, _, _, _, c0, c1, hE j hj⟩
theorem Zls.form (h : Zls k w v zs) : ∃ A c, v = .slice A zs.length c := by
  obtain ⟨A, c, e, _⟩ := h
  exact ⟨A, c, e⟩
theorem Zls.lens {A : Option Addr} {c : Nat} (h : Zls k w (.slice A n c) zs) : n = zs.length ∧ n ≤ c ∧ c ≤ 9223372036854775807 := by
  obtain ⟨A', c', e, hc, hm, hr⟩ := h
  simp only [Value.slice.injEq] at e
  obtain ⟨rfl, rfl, rfl⟩ := e
  exact ⟨rfl, hc, hm⟩
theorem Zls.cells {A : Option Addr} {c : Nat} (h : Zls k w (.slice A n c) zs) (hp : 0 < n) : ∃ b off, A = some ⟨b, off, none⟩ ∧ b < w.heap.size ∧ ∀ j, j < n → ∃ tb X xm xc,
      w.cell? ⟨b, off + j * 2, none⟩ = some (.bool tb) ∧ w.cell? ⟨b, off + j * 2 + 1, none⟩ = some (.slice X xm xc) ∧ IntV k w (.agg #[.bool tb, .slice X xm xc]) (zf zs j) := by
  obtain ⟨A', c', e, hc, hm, hr⟩ := h
  simp only [Value.slice.injEq] at e
  obtain ⟨rfl, rfl, rfl⟩ := e
  exact hr hp
end

theorem info_int : (Try.prog.info? 79).map (fun i => (i.zero, i.size, i.bytes)) = some (some (.agg #[.bool false, .slice none 0 0]), 2, 32) := by kernel_rfl
theorem duo_rows (n : Nat) (f : Nat → Value) (h0 : ∀ j, f (j * 2) = .bool false) (h1 : ∀ j, f (j * 2 + 1) = .slice none 0 0) : (List.range (n * 2)).map f = dcells (List.replicate n .zero) := by
  apply List.ext_getElem?
  intro i
  rcases Nat.lt_or_ge i (n * 2) with hi | hi
  · rw [List.getElem?_map, List.getElem?_range hi]
    have hj : i / 2 < (List.replicate n Duo.zero).length := by simp; omega
    obtain ⟨k0, k1⟩ := dcells_get (List.replicate n Duo.zero) (i / 2) hj
    have e : (List.replicate n Duo.zero).getD (i / 2) .zero = .zero := by
      rw [List.getD_eq_getElem?_getD, List.getElem?_eq_getElem hj]; simp
    rw [e] at k0 k1
    have : i = i / 2 * 2 ∨ i = i / 2 * 2 + 1 := by omega
    rcases this with h | h
    · rw [h, k0]; simp [h0, Duo.zero]
    · rw [h, k1]; simp only [Option.map_some, h1]; rfl
  · rw [List.getElem?_eq_none (by simpa using hi), List.getElem?_eq_none (by rw [dcells_length]; simpa using hi)]
theorem duo_cell (j r : Nat) (hr : r < 2) : (#[Value.bool false, .slice none 0 0] : Array Value)[(j * 2 + r) % 2]! = (#[Value.bool false, .slice none 0 0] : Array Value)[r]! := by
  rw [show (j * 2 + r) % 2 = r by omega]
theorem madeCells_d (n : Nat) : (madeCells (Value.agg #[.bool false, .slice none 0 0]).cells (n * 2)).toList = dcells (List.replicate n .zero) := by
  unfold madeCells
  rw [Array.toList_map, Array.toList_range]
  exact duo_rows n _ (fun j => duo_cell j 0 (by omega)) (fun j => duo_cell j 1 (by omega))
section
variable {w : World} {ops : Array Oper} {rest : List Oper} {o : Oper} {a : Act} {Q : Exit → Act → World → Prop}
theorem wp_make_d (T : TypeId) (hT : Try.prog.underlying T = some (.slice 79)) (hg : o.guard = none) (l c : Operand) (hop : o.op = Op.makeSlice T l c) (L C : Int) (n : Nat)
    (hl : a.eval l = .int .i64 L) (hc : a.eval c = .int .i64 C) (hL : L = (n : Int)) (hC : C = (n : Int)) (hn : n ≤ 1000000000000)
    (hK : ∀ w', ZBlk w' w.heap.size (List.replicate n .zero) → Below w.heap.size w w' → wpList Try.prog ops Q rest (a.put o.dst (.slice (some ⟨w.heap.size, 0, none⟩) n n)) w') :
    wpList Try.prog ops Q (o :: rest) a w := by
  obtain ⟨i0, hi, hz0, hz1, hz2⟩ := info_parts info_int
  refine wpList_make_full w hg l c T hop w.heap.size 79 i0 _ 2 hT hi hz0 hz1 .i64 .i64 L C n hl hc hL hC (by rw [hz2]; omega) (by unfold maxLen; omega) (Nat.le_refl _) ?_
  intro w' h1 h2
  refine hK w' ?_ ((Below.refl _ _).grown h2 (Nat.le_refl _) (fun k e => by cases e))
  rcases h1.2 with ⟨e, _⟩ | ⟨g, cap, cur, e, _, hh, _, _, hz, ht⟩
  · simp at e
  · simp only [Value.slice.injEq, Option.some.injEq, Addr.mk.injEq, and_true, true_and] at e
    obtain ⟨rfl, rfl⟩ := e
    unfold ZBlk
    rw [hh]
    rw [madeCells_d, List.take_of_length_le (by simp; omega)] at ht
    have : cur = (dcells (List.replicate n .zero)).toArray := by rw [← ht]
    rw [this]
end

section
variable {w : World} {va vb : Value} {a b k l : Nat}
set_option maxHeartbeats 1000000 in
theorem quotient_z (ha : NumV w va a k) (hb : NumV w vb b l) (hk : k ≤ 1000000) (h0 : 0 < b) : Calls Try.prog 84 #[va, vb] w fun e w' => ∃ r, e = .returned r ∧ Can w' r (a / b) k ∧ Below w.heap.size w w' := by
  have D := Lib.hid (div_v ha hb hk h0)
  clear ha hb
  go_enter Try.func84, Try.ntmps84
  go_wp2_with fail
  refine (D.out).mono ?_
  rintro e w1 ⟨q, r, rfl, hq, hr, _, _, hB⟩
  go_wp2_with fail
  go_ret
  exact ⟨_, rfl, hq, hB⟩
/-- The box of a whole number. -/
def Dcl (w : World) (g : Nat) (x y : Value) : Prop := w.heap[g]? = some (.cells #[x, y] 79 (0, 0))
theorem Dcl.cells {w : World} {g : Nat} {x y : Value} (h : Dcl w g x y) : w.cell? ⟨g, 0, none⟩ = some x ∧ w.cell? ⟨g, 1, none⟩ = some y := by
  unfold Dcl at h
  simp [World.cell?, h]
theorem Dcl.frozen {w : World} {g : Nat} {x y : Value} (h : Dcl w g x y) : w.frozen? ⟨g, 0, none⟩ = false ∧ w.frozen? ⟨g, 1, none⟩ = false := by
  unfold Dcl at h
  simp [World.frozen?, h]
theorem Dcl.lt {w : World} {g : Nat} {x y : Value} (h : Dcl w g x y) : g < w.heap.size := by
  rcases Nat.lt_or_ge g w.heap.size with hlt | hge
  · exact hlt
  · unfold Dcl at h; rw [Array.getElem?_eq_none hge] at h; cases h
theorem Dcl.of_block {w w' : World} {g : Nat} {x y : Value} (h : Dcl w g x y) (e : w'.heap[g]? = w.heap[g]?) : Dcl w' g x y := by
  unfold Dcl at h ⊢
  rw [e]
  exact h
theorem Dcl.below {w w' : World} {g : Nat} {x y : Value} (h : Dcl w g x y) (hb : Below w.heap.size w w') : Dcl w' g x y := h.of_block (hb.block g h.lt)
theorem Dcl.new (w : World) (x y : Value) : Dcl (w.alloc (.cells #[x, y] 79)) w.heap.size x y := by
  unfold Dcl
  rw [heap_alloc_new]
theorem Dcl.plain {w : World} {g : Nat} {b : Bool} {X : Option Addr} {m c : Nat} (h : Dcl w g (.bool b) (.slice X m c)) : Plain w g := ⟨_, _, h, fun i u hu k z e => by
  subst e
  match i, hu with
  | 0, hu => simp at hu
  | 1, hu => simp at hu
  | i + 2, hu => simp at hu⟩
theorem NumV.of_can {w : World} {v : Value} {n k : Nat} (h : Can w v n k) : NumV w v n k := h.numV
def RInt2 (w : World) (z : Int) (k : Nat) (e : Ending) (w' : World) : Prop := ∃ v, e = .returned v ∧ IntV k w' v z ∧ Below w.heap.size w w'
set_option maxHeartbeats 1000000 in
theorem difference_z (ha : Can w va a k) (hb : Can w vb b k) (hk : k ≤ 1000000) : Calls Try.prog 103 #[va, vb] w (RInt2 w ((a : Int) - (b : Int)) k) := by
  obtain ⟨A, m, c, rfl⟩ := ha.form
  obtain ⟨B, i, j, rfl⟩ := hb.form
  have R0 := Lib.hid (Dcl.new w (.bool false) (.slice none 0 0))
  have hB0 : Below w.heap.size w (w.alloc (.cells #[.bool false, .slice none 0 0] 79)) := (Below.refl _ _).alloc (Nat.le_refl _) _
  have ha := ha.below hB0
  have hb := hb.below hB0
  rcases Nat.lt_or_ge a b with h | h
  · have S1 := Lib.hid (sublt_v ha.numV hb.numV h)
    have S2 := Lib.hid (fun w1 hr => subge_v (w := w1) (hb.below hr).numV (ha.below hr).numV hk (Nat.le_of_lt h))
    clear ha hb
    go_enter Try.func103, Try.ntmps103
    go_wp2_with fail
    refine (S1.out).mono ?_
    rintro e w1 ⟨rfl, hB1⟩
    go_wp2_with fail
    refine (S2.out _ hB1).mono ?_
    rintro e w2 ⟨r, rfl, hr, hB2⟩
    have hB2 := below_then hB1 hB2
    have R2 := R0.out.below hB2
    have hB2 := below_then hB0 hB2
    obtain ⟨X, xm, xc, rfl⟩ := hr.form
    obtain ⟨c0, c1⟩ := R2.cells
    obtain ⟨f0, f1⟩ := R2.frozen
    have HR := Lib.hid hr
    have HP := Lib.hid R2
    have HBB := Lib.hid hB2
    clear hr hB1 hB2 R2
    go_wp2_with fail
    refine bodyPost_ret (v := .agg #[.bool true, .slice X xm xc]) (by rw [results_one rfl]; go_simp) rfl ?_
    have hs : w2.heap.size ≤ (stor2o w2 w.heap.size 0 (.bool true) (.slice X xm xc)).heap.size := Nat.le_of_eq (stor2o_size _ _ _ _ _).symm
    have hk := stor2o_heap w2 w.heap.size 0 (.bool true) (.slice X xm xc)
    exact ⟨_, rfl, ⟨_, by rw [show decide ((a : Int) - (b : Int) < 0) = true by simp; omega], by rw [show ((a : Int) - (b : Int)).natAbs = b - a by omega]; exact HR.out.plain HP.out.plain hs hk⟩, below_stor2o HBB.out (Nat.le_refl _) _ _ _⟩
  · have S1 := Lib.hid (subge_v ha.numV hb.numV hk h)
    clear ha hb
    go_enter Try.func103, Try.ntmps103
    go_wp2_with fail
    refine (S1.out).mono ?_
    rintro e w2 ⟨r, rfl, hr, hB2⟩
    have R2 := R0.out.below hB2
    have hB2 := below_then hB0 hB2
    obtain ⟨X, xm, xc, rfl⟩ := hr.form
    obtain ⟨c0, c1⟩ := R2.cells
    obtain ⟨f0, f1⟩ := R2.frozen
    have HR := Lib.hid hr
    have HP := Lib.hid R2
    have HBB := Lib.hid hB2
    clear hr hB2 R2
    go_wp2_with fail
    refine bodyPost_ret (v := .agg #[.bool false, .slice X xm xc]) (by rw [results_one rfl]; go_simp) rfl ?_
    have hs : w2.heap.size ≤ (stor2o w2 w.heap.size 0 (.bool false) (.slice X xm xc)).heap.size := Nat.le_of_eq (stor2o_size _ _ _ _ _).symm
    have hk := stor2o_heap w2 w.heap.size 0 (.bool false) (.slice X xm xc)
    exact ⟨_, rfl, ⟨_, by rw [show decide ((a : Int) - (b : Int) < 0) = false by simp; omega], by rw [show ((a : Int) - (b : Int)).natAbs = a - b by omega]; exact HR.out.plain HP.out.plain hs hk⟩, below_stor2o HBB.out (Nat.le_refl _) _ _ _⟩
end
end Go.Proofs.Ytpmjhkpjhfpfpaa

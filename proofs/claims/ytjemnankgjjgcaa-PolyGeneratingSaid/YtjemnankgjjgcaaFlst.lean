/- Lists of fractions in memory, three cells for each: a list that can be read, a list that is owned; how these facts go on when the world changes. -/
import Derived.Laws.MakeOwn
import Derived.OwnWalk
import Derived.Test.YtjemnankgjjgcaaRatB
namespace Go.Proofs.Ytjemnankgjjgcaa
open Go.RowKit Dig
set_option linter.unusedVariables false

/-- The parts of a fraction as it lies in memory. -/
structure Tri where
  b : Bool
  x : Option Addr × Nat × Nat
  y : Option Addr × Nat × Nat
namespace Tri
def vx (t : Tri) : Value := .slice t.x.1 t.x.2.1 t.x.2.2
def vy (t : Tri) : Value := .slice t.y.1 t.y.2.1 t.y.2.2
def val (t : Tri) : Value := .agg #[.bool t.b, t.vx, t.vy]
def cells (t : Tri) : List Value := [.bool t.b, t.vx, t.vy]
def zero : Tri := ⟨false, (none, 0, 0), (none, 0, 0)⟩
end Tri
def tcells : List Tri → List Value
  | [] => []
  | t :: ts => .bool t.b :: t.vx :: t.vy :: tcells ts
theorem tcells_length (ts : List Tri) : (tcells ts).length = ts.length * 3 := by
  induction ts with
  | nil => rfl
  | cons t ts ih => simp [tcells, ih]; omega
theorem tcells_append (ts us : List Tri) : tcells (ts ++ us) = tcells ts ++ tcells us := by
  induction ts with
  | nil => rfl
  | cons t ts ih => simp [tcells, ih]
theorem tcells_get : ∀ (ts : List Tri) (j : Nat) (h : j < ts.length), (tcells ts)[j * 3]? = some (.bool (ts.getD j .zero).b) ∧ (tcells ts)[j * 3 + 1]? = some (ts.getD j .zero).vx ∧ (tcells ts)[j * 3 + 2]? = some (ts.getD j .zero).vy
  | [], _, h => by simp at h
  | t :: ts, 0, _ => by simp [tcells]
  | t :: ts, j + 1, h => by
    have := tcells_get ts j (by simpa using h)
    rw [show (j + 1) * 3 = j * 3 + 3 by omega]
    simpa [tcells] using this
theorem tcells_set : ∀ (ts : List Tri) (j : Nat) (u : Tri) (h : j < ts.length), ((((tcells ts).set (j * 3) (.bool u.b)).set (j * 3 + 1) u.vx).set (j * 3 + 2) u.vy) = tcells (ts.set j u)
  | [], _, _, h => by simp at h
  | t :: ts, 0, u, _ => by simp [tcells]
  | t :: ts, j + 1, u, h => by
    have := tcells_set ts j u (by simpa using h)
    rw [show (j + 1) * 3 = j * 3 + 3 by omega]
    simpa [tcells] using this
theorem tcells_take (ts : List Tri) (n : Nat) : (tcells ts).take (n * 3) = tcells (ts.take n) := by
  rcases Nat.lt_or_ge n ts.length with h | h
  · conv => lhs; rw [← List.take_append_drop n ts, tcells_append]
    have e : (tcells (ts.take n)).length = n * 3 := by rw [tcells_length, List.length_take, Nat.min_eq_left (by omega)]
    rw [← e]
    exact List.take_left
  · rw [List.take_of_length_le h, List.take_of_length_le (by rw [tcells_length]; omega)]
theorem tcells_drop (ts : List Tri) (n : Nat) : (tcells ts).drop (n * 3) = tcells (ts.drop n) := by
  rcases Nat.lt_or_ge n ts.length with h | h
  · conv => lhs; rw [← List.take_append_drop n ts, tcells_append]
    have e : (tcells (ts.take n)).length = n * 3 := by rw [tcells_length, List.length_take, Nat.min_eq_left (by omega)]
    rw [← e]
    exact List.drop_left
  · rw [List.drop_of_length_le h, List.drop_of_length_le (by rw [tcells_length]; omega)]
    rfl
theorem tcells_noint : ∀ (ts : List Tri) (u : Value), u ∈ tcells ts → ∀ k z, u ≠ .int k z
  | [], u, h, _, _ => by simp [tcells] at h
  | t :: ts, u, h, k, z => by
    simp only [tcells, List.mem_cons] at h
    rcases h with rfl | rfl | rfl | h
    · exact fun e => by cases e
    · exact fun e => by cases e
    · exact fun e => by cases e
    · exact tcells_noint ts u h k z
theorem tcells_one (ts : List Tri) : ∀ u ∈ tcells ts, u.oneCell' = true := by
  induction ts with
  | nil => intro u h; simp [tcells] at h
  | cons t ts ih =>
    intro u h
    simp only [tcells, List.mem_cons] at h
    rcases h with rfl | rfl | rfl | h
    · rfl
    · rfl
    · rfl
    · exact ih u h

/-- Block g is a row of fractions. -/
def FBlk (w : World) (g : Nat) (ts : List Tri) : Prop := w.heap[g]? = some (.cells (tcells ts).toArray 29 (0, 0))
/-- The storing of a fraction at a place of a block. -/
def stor3o (w : World) (g o : Nat) (a b c : Value) : World := ((w.setCell ⟨g, o, none⟩ a).setCell ⟨g, o + 1, none⟩ b).setCell ⟨g, o + 2, none⟩ c
section
variable {w w' : World} {g : Nat} {ts : List Tri}
theorem FBlk.lt (h : FBlk w g ts) : g < w.heap.size := by
  rcases Nat.lt_or_ge g w.heap.size with hlt | hge
  · exact hlt
  · unfold FBlk at h; rw [Array.getElem?_eq_none hge] at h; cases h
theorem FBlk.frozen (h : FBlk w g ts) (i : Nat) : w.frozen? ⟨g, i, none⟩ = false := by
  unfold FBlk at h
  simp [World.frozen?, h]
theorem FBlk.cell (h : FBlk w g ts) (i : Nat) : w.cell? ⟨g, i, none⟩ = (tcells ts)[i]? := by
  rw [cell_of_row w g i _ _ (0, 0) h, List.getElem?_toArray]
theorem FBlk.cells (h : FBlk w g ts) {j : Nat} (hj : j < ts.length) : w.cell? ⟨g, j * 3, none⟩ = some (.bool (ts.getD j .zero).b) ∧ w.cell? ⟨g, j * 3 + 1, none⟩ = some (ts.getD j .zero).vx ∧ w.cell? ⟨g, j * 3 + 2, none⟩ = some (ts.getD j .zero).vy := by
  rw [h.cell, h.cell, h.cell]
  exact tcells_get ts j hj
theorem FBlk.of_block (h : FBlk w g ts) (e : w'.heap[g]? = w.heap[g]?) : FBlk w' g ts := by
  unfold FBlk at h ⊢
  rw [e]
  exact h
theorem FBlk.below (h : FBlk w g ts) (hb : Below w.heap.size w w') : FBlk w' g ts := h.of_block (hb.block g h.lt)
theorem FBlk.alloc (h : FBlk w g ts) (o : Obj) : FBlk (w.alloc o) g ts := h.of_block (Below.heap_alloc _ _ _ h.lt)
theorem FBlk.drewN (h : FBlk w g ts) (n : Nat) : FBlk (w.drewN n) g ts := h
theorem FBlk.far (h : FBlk w g ts) {p : Addr} (hp : g ≠ p.block) (u : Value) : FBlk (w.setCell p u) g ts := h.of_block (Below.heap_setCell w p u g hp)
theorem FBlk.set (h : FBlk w g ts) {j : Nat} (hj : j < ts.length) (u : Tri) : FBlk (stor3o w g (j * 3) (.bool u.b) u.vx u.vy) g (ts.set j u) := by
  unfold FBlk at h ⊢
  unfold stor3o
  simp only [World.setCell, Array.getElem?_modify, h]
  simp only [if_true, Option.map_some, List.setIfInBounds_toArray, Option.isSome_none, Bool.false_eq_true, if_false]
  rw [tcells_set ts j u hj]
theorem stor3o_heap (w : World) (g o : Nat) (a b c : Value) : ∀ j, j ≠ g → (stor3o w g o a b c).heap[j]? = w.heap[j]? := by
  intro j hj
  unfold stor3o
  rw [Below.heap_setCell _ ⟨g, o + 2, none⟩ _ j hj, Below.heap_setCell _ ⟨g, o + 1, none⟩ _ j hj, Below.heap_setCell _ ⟨g, o, none⟩ _ j hj]
theorem stor3o_size (w : World) (g o : Nat) (a b c : Value) : (stor3o w g o a b c).heap.size = w.heap.size := by
  unfold stor3o
  simp [World.setCell]
theorem below_stor3o {B : Nat} {w w2 : World} (hB : Below B w w2) {g : Nat} (hg : B ≤ g) (o : Nat) (a b c : Value) : Below B w (stor3o w2 g o a b c) := by
  unfold stor3o
  exact ((hB.setCell (p := ⟨g, o, none⟩) hg a).setCell (p := ⟨g, o + 1, none⟩) hg b).setCell (p := ⟨g, o + 2, none⟩) hg c
/-- A block of fractions holds no digits. -/
theorem Num.apart {v : Value} {xs : List Nat} (h : Num w v xs) (hF : FBlk w g ts) (hs : w.heap.size ≤ w'.heap.size) (hk : ∀ j, j ≠ g → w'.heap[j]? = w.heap[j]?) : Num w' v xs := by
  obtain ⟨B, c, h1, h2, h3, h4, h5⟩ := h
  refine ⟨B, c, h1, h2, h3, h4, fun hp => ?_⟩
  obtain ⟨b, off, e1, hb, hc⟩ := h5 hp
  have hne : b ≠ g := by
    rintro rfl
    have h0 := hc 0 hp
    rw [hF.cell] at h0
    exact tcells_noint ts _ (List.mem_of_getElem? h0) _ _ rfl
  refine ⟨b, off, e1, by omega, fun j hj => ?_⟩
  rw [← hc j hj]
  simp only [World.cell?, hk b hne]
theorem NumV.apart {v : Value} {n k : Nat} (h : NumV w v n k) (hF : FBlk w g ts) (hs : w.heap.size ≤ w'.heap.size) (hk : ∀ j, j ≠ g → w'.heap[j]? = w.heap[j]?) : NumV w' v n k := by
  obtain ⟨L, h1, h2⟩ := h
  exact ⟨L, h1.apart hF hs hk, h2⟩
theorem Can.apart {v : Value} {n k : Nat} (h : Can w v n k) (hF : FBlk w g ts) (hs : w.heap.size ≤ w'.heap.size) (hk : ∀ j, j ≠ g → w'.heap[j]? = w.heap[j]?) : Can w' v n k := ⟨h.1.apart hF hs hk, h.2⟩
end

/-- What is said of an element goes on while its digits stay. -/
structure Keeps (E : World → Value → Rat → Prop) : Prop where
  below : ∀ {w w' : World} {v : Value} {q : Rat}, E w v q → Below w.heap.size w w' → E w' v q
  apart : ∀ {w w' : World} {v : Value} {q : Rat} {g : Nat} {ts : List Tri}, E w v q → FBlk w g ts → w.heap.size ≤ w'.heap.size → (∀ j, j ≠ g → w'.heap[j]? = w.heap[j]?) → E w' v q
def FV (k : Nat) (w : World) (v : Value) (q : Rat) : Prop := FracV w v q k
def CV (k : Nat) (w : World) (v : Value) (q : Rat) : Prop := CanF w v q k
theorem keeps_FV (k : Nat) : Keeps (FV k) := ⟨fun h hb => FracV.below h hb, fun h hF hs hk => by
  obtain ⟨neg, vn, vd, n, d, e, hn, hd, hq⟩ := h
  exact ⟨neg, vn, vd, n, d, e, hn.apart hF hs hk, hd.apart hF hs hk, hq⟩⟩
theorem keeps_CV (k : Nat) : Keeps (CV k) := ⟨fun h hb => CanF.below h hb, fun h hF hs hk => by
  obtain ⟨vn, vd, e, hn, hd⟩ := h
  exact ⟨vn, vd, e, hn.apart hF hs hk, hd.apart hF hs hk⟩⟩

/-- A list of fractions that can be read. -/
def Fls (E : World → Value → Rat → Prop) (w : World) (v : Value) (qs : List Rat) : Prop :=
  ∃ A c, v = .slice A qs.length c ∧ (qs.length ≤ c ∧ (A = none → c = 0)) ∧ c ≤ maxLen ∧
    (0 < qs.length → ∃ b off, A = some ⟨b, off, none⟩ ∧ b < w.heap.size ∧ ∀ j, j < qs.length → ∃ t : Tri,
      w.cell? ⟨b, off + j * 3, none⟩ = some (.bool t.b) ∧ w.cell? ⟨b, off + j * 3 + 1, none⟩ = some t.vx ∧ w.cell? ⟨b, off + j * 3 + 2, none⟩ = some t.vy ∧ E w t.val (qs.getD j 0))
/-- A list of fractions in a block of its own. -/
def Ofl (E : World → Value → Rat → Prop) (base : Nat) (w : World) (v : Value) (qs : List Rat) : Prop :=
  (v = .slice none 0 0 ∧ qs = []) ∨ ∃ g ts, v = .slice (some ⟨g, 0, none⟩) qs.length ts.length ∧ base ≤ g ∧ FBlk w g ts ∧ qs.length ≤ ts.length ∧ ts.length ≤ maxLen ∧ ∀ j, j < qs.length → E w (ts.getD j .zero).val (qs.getD j 0)
section
variable {E E' : World → Value → Rat → Prop} {w w' : World} {v : Value} {qs : List Rat} {base : Nat}
theorem Fls.form (h : Fls E w v qs) : ∃ A c, v = .slice A qs.length c := by
  obtain ⟨A, c, e, _⟩ := h
  exact ⟨A, c, e⟩
theorem Fls.bounds (h : Fls E w v qs) : qs.length ≤ maxLen := by
  obtain ⟨A, c, e, h1, h2, _⟩ := h
  omega
theorem Fls.nil (E : World → Value → Rat → Prop) (w : World) : Fls E w (.slice none 0 0) [] := ⟨none, 0, rfl, ⟨Nat.le_refl _, fun _ => rfl⟩, by unfold maxLen; omega, fun h => absurd h (by simp)⟩
theorem Fls.below (h : Fls E w v qs) (K : Keeps E) (hb : Below w.heap.size w w') : Fls E w' v qs := by
  obtain ⟨A, c, h1, h2, h3, h5⟩ := h
  refine ⟨A, c, h1, h2, h3, fun hp => ?_⟩
  obtain ⟨b, off, e, hbb, hc⟩ := h5 hp
  refine ⟨b, off, e, Nat.lt_of_lt_of_le hbb hb.size, fun j hj => ?_⟩
  obtain ⟨t, c0, c1, c2, ht⟩ := hc j hj
  exact ⟨t, (hb.cell (p := ⟨b, _, none⟩) hbb).trans c0, (hb.cell (p := ⟨b, _, none⟩) hbb).trans c1, (hb.cell (p := ⟨b, _, none⟩) hbb).trans c2, K.below ht hb⟩
theorem Fls.weaken (h : Fls E w v qs) (hE : ∀ v q, q ∈ qs → E w v q → E' w v q) : Fls E' w v qs := by
  obtain ⟨A, c, h1, h2, h3, h5⟩ := h
  refine ⟨A, c, h1, h2, h3, fun hp => ?_⟩
  obtain ⟨b, off, e, hbb, hc⟩ := h5 hp
  refine ⟨b, off, e, hbb, fun j hj => ?_⟩
  obtain ⟨t, c0, c1, c2, ht⟩ := hc j hj
  refine ⟨t, c0, c1, c2, hE _ _ ?_ ht⟩
  rw [List.getD_eq_getElem?_getD, List.getElem?_eq_getElem hj]
  exact List.getElem_mem hj
/-- The first elements of a list. -/
theorem Fls.take {A : Option Addr} {c n : Nat} (h : Fls E w (.slice A qs.length c) qs) (hn : n ≤ qs.length) : Fls E w (.slice A n c) (qs.take n) := by
  obtain ⟨A', c', h1, h2, h3, h5⟩ := h
  cases h1
  have hl : (qs.take n).length = n := by rw [List.length_take, Nat.min_eq_left hn]
  refine ⟨A, c, by rw [hl], ⟨by omega, h2.2⟩, h3, fun hp => ?_⟩
  rw [hl] at hp ⊢
  obtain ⟨b, off, e, hbb, hc⟩ := h5 (by omega)
  refine ⟨b, off, e, hbb, fun j hj => ?_⟩
  obtain ⟨t, c0, c1, c2, ht⟩ := hc j (by omega)
  refine ⟨t, c0, c1, c2, ?_⟩
  rw [List.getD_eq_getElem?_getD, List.getElem?_take, if_pos hj, ← List.getD_eq_getElem?_getD]
  exact ht
/-- The other elements of a list. -/
theorem Fls.drop {b off c n : Nat} (h : Fls E w (.slice (some ⟨b, off, none⟩) qs.length c) qs) (hn : n ≤ qs.length) : Fls E w (.slice (some ⟨b, off + n * 3, none⟩) (qs.length - n) (c - n)) (qs.drop n) := by
  obtain ⟨A', c', h1, h2, h3, h5⟩ := h
  cases h1
  have hl : (qs.drop n).length = qs.length - n := List.length_drop
  refine ⟨_, c - n, by rw [hl], ⟨by omega, fun e => by cases e⟩, by omega, fun hp => ?_⟩
  rw [hl] at hp ⊢
  obtain ⟨b', off', e, hbb, hc⟩ := h5 (by omega)
  cases e
  refine ⟨b, off + n * 3, rfl, hbb, fun j hj => ?_⟩
  obtain ⟨t, c0, c1, c2, ht⟩ := hc (n + j) (by omega)
  rw [show off + (n + j) * 3 = off + n * 3 + j * 3 by omega] at c0 c1 c2
  refine ⟨t, c0, c1, c2, ?_⟩
  rw [List.getD_eq_getElem?_getD, List.getElem?_drop, ← List.getD_eq_getElem?_getD]
  exact ht
theorem Ofl.nil (E : World → Value → Rat → Prop) (base : Nat) (w : World) : Ofl E base w (.slice none 0 0) [] := .inl ⟨rfl, rfl⟩
theorem Ofl.fls (h : Ofl E base w v qs) : Fls E w v qs := by
  rcases h with ⟨rfl, rfl⟩ | ⟨g, ts, rfl, hb, hF, hl, hm, hE⟩
  · exact Fls.nil E w
  · refine ⟨_, _, rfl, ⟨hl, fun e => by cases e⟩, hm, fun hp => ⟨g, 0, rfl, hF.lt, fun j hj => ?_⟩⟩
    obtain ⟨c0, c1, c2⟩ := hF.cells (j := j) (by omega)
    rw [Nat.zero_add]
    exact ⟨_, c0, c1, c2, hE j hj⟩
theorem Ofl.below (h : Ofl E base w v qs) (K : Keeps E) (hb : Below w.heap.size w w') : Ofl E base w' v qs := by
  rcases h with h | ⟨g, ts, e, hg, hF, hl, hm, hE⟩
  · exact .inl h
  · exact .inr ⟨g, ts, e, hg, hF.below hb, hl, hm, fun j hj => K.below (hE j hj) hb⟩
theorem Ofl.mono {base' : Nat} (h : Ofl E base w v qs) (hb : base' ≤ base) : Ofl E base' w v qs := by
  rcases h with h | ⟨g, ts, e, hg, r⟩
  · exact .inl h
  · exact .inr ⟨g, ts, e, by omega, r⟩
end
end Go.Proofs.Ytjemnankgjjgcaa

/- Laws for the walk over lists of fractions: append onto a list of the call's own, make. -/
namespace Go.Proofs.Ytjemnankgjjgcaa
open Go.RowKit Dig
set_option linter.unusedVariables false

theorem info_frac : (Try.prog.info? 29).map (fun i => (i.zero, i.size, i.bytes)) = some (some (.agg #[.bool false, .slice none 0 0, .slice none 0 0]), 3, 56) := by kernel_rfl

theorem tri_rows (n : Nat) (f : Nat → Value) (h0 : ∀ j, f (j * 3) = .bool false) (h1 : ∀ j, f (j * 3 + 1) = .slice none 0 0) (h2 : ∀ j, f (j * 3 + 2) = .slice none 0 0) : (List.range (n * 3)).map f = tcells (List.replicate n .zero) := by
  apply List.ext_getElem?
  intro i
  rcases Nat.lt_or_ge i (n * 3) with hi | hi
  · rw [List.getElem?_map, List.getElem?_range hi]
    have hj : i / 3 < (List.replicate n Tri.zero).length := by simp; omega
    obtain ⟨k0, k1, k2⟩ := tcells_get (List.replicate n Tri.zero) (i / 3) hj
    have e : (List.replicate n Tri.zero).getD (i / 3) .zero = .zero := by
      rw [List.getD_eq_getElem?_getD, List.getElem?_eq_getElem hj]; simp
    rw [e] at k0 k1 k2
    have : i = i / 3 * 3 ∨ i = i / 3 * 3 + 1 ∨ i = i / 3 * 3 + 2 := by omega
    rcases this with h | h | h
    · rw [h, k0]; simp [h0, Tri.zero]
    · rw [h, k1]; simp only [Option.map_some, h1]; rfl
    · rw [h, k2]; simp only [Option.map_some, h2]; rfl
  · rw [List.getElem?_eq_none (by simpa using hi), List.getElem?_eq_none (by rw [tcells_length]; simpa using hi)]
theorem tri_cell (j r : Nat) (hr : r < 3) : (#[Value.bool false, .slice none 0 0, .slice none 0 0] : Array Value)[(j * 3 + r) % 3]! = (#[Value.bool false, .slice none 0 0, .slice none 0 0] : Array Value)[r]! := by
  rw [show (j * 3 + r) % 3 = r by omega]
theorem madeCells_t (n : Nat) : (madeCells (Value.agg #[.bool false, .slice none 0 0, .slice none 0 0]).cells (n * 3)).toList = tcells (List.replicate n .zero) := by
  unfold madeCells
  rw [Array.toList_map, Array.toList_range]
  exact tri_rows n _ (fun j => tri_cell j 0 (by omega)) (fun j => tri_cell j 1 (by omega)) (fun j => tri_cell j 2 (by omega))
theorem zeroCells_t (n : Nat) : (Builtin.zeroCells (Value.agg #[.bool false, .slice none 0 0, .slice none 0 0]).cells n).toList = tcells (List.replicate n .zero) := by
  unfold Builtin.zeroCells
  rw [Array.toList_map, Array.toList_range]
  exact tri_rows n _ (fun j => tri_cell j 0 (by omega)) (fun j => tri_cell j 1 (by omega)) (fun j => tri_cell j 2 (by omega))
section
variable {E : World → Value → Rat → Prop} {w w' : World} {v : Value} {qs : List Rat} {base : Nat}
/-- The elements of a list as they lie in memory. -/
theorem Fls.tris (h : Fls E w v qs) (hp : 0 < qs.length) : ∃ b off c us, v = .slice (some ⟨b, off, none⟩) qs.length c ∧ List.length us = qs.length ∧ (∀ j u, (tcells us)[j]? = some u → w.cell? ⟨b, off + j, none⟩ = some u) ∧ ∀ j, j < qs.length → E w (us.getD j .zero).val (qs.getD j 0) := by
  obtain ⟨A, c, e, _, _, h5⟩ := h
  obtain ⟨b, off, rfl, hb, hc⟩ := h5 hp
  have key : ∀ n, n ≤ qs.length → ∃ us : List Tri, us.length = n ∧ (∀ j u, (tcells us)[j]? = some u → w.cell? ⟨b, off + j, none⟩ = some u) ∧ ∀ j, j < n → E w (us.getD j .zero).val (qs.getD j 0) := by
    intro n
    induction n with
    | zero => exact fun _ => ⟨[], rfl, fun j u hu => by simp [tcells] at hu, fun j hj => absurd hj (by omega)⟩
    | succ n ih =>
      intro hn
      obtain ⟨us, hl, hu, hE⟩ := ih (by omega)
      obtain ⟨t, c0, c1, c2, ht⟩ := hc n (by omega)
      refine ⟨us ++ [t], by simp [hl], fun j u hj => ?_, fun j hj => ?_⟩
      · rw [tcells_append] at hj
        rcases Nat.lt_or_ge j (tcells us).length with h1 | h1
        · rw [List.getElem?_append_left h1] at hj
          exact hu j u hj
        · rw [List.getElem?_append_right h1] at hj
          rw [tcells_length, hl] at hj h1
          have h3 : j - n * 3 < 3 := by
            have := (List.getElem?_eq_some_iff.1 hj).1
            simpa [tcells] using this
          have : j = n * 3 ∨ j = n * 3 + 1 ∨ j = n * 3 + 2 := by omega
          rcases this with rfl | rfl | rfl
          · rw [show n * 3 - n * 3 = 0 by omega] at hj; simp [tcells] at hj; subst hj; exact c0
          · rw [show n * 3 + 1 - n * 3 = 1 by omega] at hj; simp [tcells] at hj; subst hj; rw [← Nat.add_assoc]; exact c1
          · rw [show n * 3 + 2 - n * 3 = 2 by omega] at hj; simp [tcells] at hj; subst hj; rw [← Nat.add_assoc]; exact c2
      · rcases Nat.lt_or_ge j n with h1 | h1
        · rw [List.getD_eq_getElem?_getD, List.getElem?_append_left (by omega), ← List.getD_eq_getElem?_getD]
          exact hE j h1
        · obtain rfl : j = n := by omega
          rw [List.getD_eq_getElem?_getD, List.getElem?_append_right (by omega), hl, Nat.sub_self]
          exact ht
  obtain ⟨us, h1, h2, h3⟩ := key _ (Nat.le_refl _)
  exact ⟨b, off, c, us, e, h1, h2, h3⟩
theorem tcells_cell {us : List Tri} {b off : Nat} (h : ∀ j u, (tcells us)[j]? = some u → w.cell? ⟨b, off + j, none⟩ = some u) : ∀ j u, (tcells us)[j]? = some u → w.cell? ((⟨b, off, none⟩ : Addr).add j) = some u := by
  intro j u hu
  have : (⟨b, off, none⟩ : Addr).add j = ⟨b, off + j, none⟩ := by unfold Addr.add; split <;> simp_all
  rw [this]
  exact h j u hu
/-- What becomes of a list of its own behind an append. -/
def Grew (E : World → Value → Rat → Prop) (base : Nat) (w : World) (v : Value) (qs ps : List Rat) (v' : Value) (w' : World) : Prop :=
  Ofl E base w' v' (qs ++ ps) ∧ w.grownBy w' v.ownBlock ∧ (v'.ownBlock = v.ownBlock ∨ v'.ownBlock = some w.heap.size) ∧ ∃ A n c, v' = .slice (some A) n c
theorem getD_app_l {α : Type} {d : α} {l r : List α} {j : Nat} (h : j < l.length) : (l ++ r).getD j d = l.getD j d := by
  rw [List.getD_eq_getElem?_getD, List.getElem?_append_left h, ← List.getD_eq_getElem?_getD]
theorem getD_app_r {α : Type} {d : α} {l r : List α} {j : Nat} (h : l.length ≤ j) : (l ++ r).getD j d = r.getD (j - l.length) d := by
  rw [List.getD_eq_getElem?_getD, List.getElem?_append_right h, ← List.getD_eq_getElem?_getD]
theorem getD_take {α : Type} {d : α} {l : List α} {j n : Nat} (h : j < n) : (l.take n).getD j d = l.getD j d := by
  rw [List.getD_eq_getElem?_getD, List.getElem?_take, if_pos h, ← List.getD_eq_getElem?_getD]
/-- The elements of an appended list. -/
theorem join_elems {ts us rs : List Tri} {ps : List Rat} {n : Nat} (hn : qs.length = n) (hl : n ≤ ts.length) (hu : us.length = ps.length) (h1 : ∀ j, j < n → E w' (ts.getD j .zero).val (qs.getD j 0)) (h2 : ∀ j, j < ps.length → E w' (us.getD j .zero).val (ps.getD j 0)) :
    ∀ j, j < (qs ++ ps).length → E w' ((ts.take n ++ (us ++ rs)).getD j .zero).val ((qs ++ ps).getD j 0) := by
  intro j hj
  have ht : (ts.take n).length = n := by rw [List.length_take, Nat.min_eq_left hl]
  rw [List.length_append] at hj
  rcases Nat.lt_or_ge j n with h | h
  · rw [getD_app_l (by omega), getD_app_l (by omega), getD_take h]
    exact h1 j h
  · rw [show (ts.take n ++ (us ++ rs)).getD j .zero = us.getD (j - n) .zero by rw [getD_app_r (by omega), ht, getD_app_l (by omega)], show (qs ++ ps).getD j 0 = ps.getD (j - n) 0 by rw [getD_app_r (by omega), hn]]
    exact h2 _ (by omega)
theorem run_append_f (K : Keeps E) {T ty : TypeId} (hT : Try.prog.underlying T = some (.slice 29)) (hown : Ofl E base w v qs) {u : Value} {ps : List Rat} (hr : Fls E w u ps) (hp : 0 < ps.length)
    (hb : qs.length + ps.length ≤ 1000000000000) (hbase : base ≤ w.heap.size) :
    ∃ v' w', (Builtin.append_ #[T, T] ty #[v, u]).run Try.prog w = .ok v' w' ∧ Grew E base w v qs ps v' w' := by
  obtain ⟨i0, hi, hz0, hz1, hz2⟩ := info_parts info_frac
  obtain ⟨b, off, c, us, rfl, hul, huc, huE⟩ := hr.tris hp
  have hl : (tcells us).length = ps.length * i0.size := by rw [hz1, tcells_length, hul]
  have huc := tcells_cell huc
  rcases hown with ⟨rfl, rfl⟩ | ⟨g, ts, rfl, hg, hF, hle, hm, hE⟩
  · simp only [List.length_nil] at hb
    have hrun := run_append_nil (P := Try.prog) w T ty 29 i0 _ hT hi hz0 ⟨b, off, none⟩ ps.length c (tcells us) hl huc hp (by omega) (by rw [hz2]; omega)
    refine ⟨_, _, hrun, .inr ⟨w.heap.size, us ++ List.replicate (grownCap w ps.length 0 29 - ps.length) .zero, ?_, hbase, ?_, ?_, ?_, ?_⟩, ⟨rfl, rfl, rfl, by simp, fun k hk _ => Below.heap_alloc w.drew _ k hk⟩, .inr rfl, _, _, _, rfl⟩
    · have := grownCap_ge w ps.length 0 29
      simp only [List.nil_append, List.length_append, List.length_replicate, hul, Value.slice.injEq, true_and]
      omega
    · unfold FBlk
      rw [show w.heap.size = w.drew.heap.size from rfl, heap_alloc_new w.drew]
      rw [tcells_append, ← zeroCells_t]
      simp
    · simp [hul]
    · have := grownCap_le_maxLen w ps.length 0 29 (by unfold maxLen; omega)
      have := grownCap_ge w ps.length 0 29
      simp only [List.length_append, List.length_replicate, hul]
      omega
    · intro j hj
      rw [List.nil_append] at hj ⊢
      rw [getD_app_l (by omega)]
      refine K.below (huE j hj) ?_
      exact ⟨rfl, rfl, rfl, by simp, fun k hk => Below.heap_alloc w.drew _ k hk⟩
  · by_cases hroom : qs.length + ps.length ≤ ts.length
    · have hts : (tcells ts).toArray.size = ts.length * 3 := by simp [tcells_length]
      have hrun := run_append_room (P := Try.prog) w T ty 29 i0 hT hi g qs.length ts.length (tcells ts).toArray hF ⟨b, off, none⟩ ps.length c (tcells us) hl huc (tcells_one us) hroom (by rw [hl, hz1, hts]; omega)
      have hoth : ∀ j, j ≠ g → (w.setRow g ((tcells ts).toArray.toList.take (qs.length * i0.size) ++ tcells us ++ (tcells ts).toArray.toList.drop (qs.length * i0.size + (tcells us).length)).toArray).heap[j]? = w.heap[j]? := fun j hj => setRow_other w g j _ hj
      have hsz : w.heap.size ≤ (w.setRow g ((tcells ts).toArray.toList.take (qs.length * i0.size) ++ tcells us ++ (tcells ts).toArray.toList.drop (qs.length * i0.size + (tcells us).length)).toArray).heap.size := by simp [World.setRow]
      refine ⟨_, _, hrun, .inr ⟨g, ts.take qs.length ++ (us ++ ts.drop (qs.length + ps.length)), ?_, hg, ?_, ?_, ?_, ?_⟩, ⟨rfl, rfl, rfl, hsz, fun k _ hk => hoth k (fun e => hk (by simp [Value.ownBlock, e]))⟩, .inl rfl, _, _, _, rfl⟩
      · simp only [List.length_append, List.length_take, List.length_drop, Value.slice.injEq, true_and]
        omega
      · unfold FBlk
        rw [setRow_heap w g _ _ _ _ hF]
        have e : (tcells ts).toArray.toList.take (qs.length * i0.size) ++ tcells us ++ (tcells ts).toArray.toList.drop (qs.length * i0.size + (tcells us).length) = tcells (ts.take qs.length ++ (us ++ ts.drop (qs.length + ps.length))) := by
          rw [tcells_append, tcells_append, ← tcells_take, ← tcells_drop, hz1, tcells_length, hul, Nat.add_mul, List.append_assoc]
        rw [e]
      · simp only [List.length_append, List.length_take, List.length_drop]; omega
      · simp only [List.length_append, List.length_take, List.length_drop]; omega
      · exact join_elems rfl hle hul (fun j hj => K.apart (hE j hj) hF hsz hoth) (fun j hj => K.apart (huE j hj) hF hsz hoth)
    · have holds : ∀ j u, (tcells (ts.take qs.length))[j]? = some u → w.cell? ((⟨g, 0, none⟩ : Addr).add j) = some u := by
        refine tcells_cell fun j u hu => ?_
        rw [Nat.zero_add, hF.cell]
        rw [← tcells_take, List.getElem?_take] at hu
        split at hu
        · exact hu
        · cases hu
      have htl : (ts.take qs.length).length = qs.length := by rw [List.length_take, Nat.min_eq_left hle]
      have hrun := run_append_grow (P := Try.prog) w T ty 29 i0 _ hT hi hz0 ⟨g, 0, none⟩ qs.length ts.length (tcells (ts.take qs.length)) (by rw [tcells_length, hz1, htl]) holds ⟨b, off, none⟩ ps.length c (tcells us) hl huc (by omega) (by omega) (growslice_fits (by omega) (by rw [hz2]; omega))
      refine ⟨_, _, hrun, .inr ⟨w.heap.size, ts.take qs.length ++ (us ++ List.replicate (grownCap w (qs.length + ps.length) ts.length 29 - (qs.length + ps.length)) .zero), ?_, hbase, ?_, ?_, ?_, ?_⟩, ⟨rfl, rfl, rfl, by simp, fun k hk _ => Below.heap_alloc w.drew _ k hk⟩, .inr rfl, _, _, _, rfl⟩
      · have := grownCap_ge w (qs.length + ps.length) ts.length 29
        simp only [List.length_append, List.length_replicate, List.length_take, hul, Value.slice.injEq, true_and]
        omega
      · unfold FBlk
        rw [show w.heap.size = w.drew.heap.size from rfl, heap_alloc_new w.drew]
        rw [tcells_append, tcells_append, ← zeroCells_t]
        simp
      · simp only [List.length_append, List.length_take]; omega
      · have := grownCap_le_maxLen w (qs.length + ps.length) ts.length 29 (by unfold maxLen; omega)
        have := grownCap_ge w (qs.length + ps.length) ts.length 29
        simp only [List.length_append, List.length_replicate, List.length_take, hul]
        omega
      · have hB : ∀ {x q}, E w x q → E (w.drew.alloc (.cells ((tcells (ts.take qs.length)).toArray ++ (tcells us).toArray ++ Builtin.zeroCells (Value.agg #[.bool false, .slice none 0 0, .slice none 0 0]).cells (grownCap w (qs.length + ps.length) ts.length 29 - (qs.length + ps.length))) 29)) x q :=
          fun h => K.below h ⟨rfl, rfl, rfl, by simp, fun k hk => Below.heap_alloc w.drew _ k hk⟩
        exact join_elems rfl hle hul (fun j hj => hB (hE j hj)) (fun j hj => hB (huE j hj))
end
section
variable {E : World → Value → Rat → Prop} {w : World} {ops : Array Oper} {rest : List Oper} {o : Oper} {a : Act} {Q : Exit → Act → World → Prop}
theorem wp_append_f (K : Keeps E) (T : TypeId) (hT : Try.prog.underlying T = some (.slice 29)) (hgd : o.guard = none) (s x : Operand) (ho : o.op = .call { callee := .builtin .append, args := #[s, x], argTypes := #[T, T] })
    (base : Nat) (v : Value) (qs : List Rat) (hs : a.eval s = v) (hown : Ofl E base w v qs) (u : Value) (ps : List Rat) (hx : a.eval x = u) (hr : Fls E w u ps) (hp : 0 < ps.length)
    (hb : qs.length + ps.length ≤ 1000000000000) (hbase : base ≤ w.heap.size)
    (h : ∀ v' w', Grew E base w v qs ps v' w' → wpList Try.prog ops Q rest (a.put o.dst v') w') : wpList Try.prog ops Q (o :: rest) a w := by
  obtain ⟨v', w', hrun, hG⟩ := run_append_f (ty := o.type) K hT hown hr hp hb hbase
  refine wpList_plain hgd fun K hK => ?_
  unfold Oper.wp
  simp [execOp, ho, resolve, invoke, builtin, hs, hx, hrun, Result.andThen]
  exact hK _ _ (h v' w' hG)
theorem wp_make_f (T : TypeId) (hT : Try.prog.underlying T = some (.slice 29)) (hg : o.guard = none) (l c : Operand) (hop : o.op = Op.makeSlice T l c) (L C : Int) (n : Nat)
    (hl : a.eval l = .int .i64 L) (hc : a.eval c = .int .i64 C) (hL : L = (n : Int)) (hC : C = (n : Int)) (hn : n ≤ 1000000000000)
    (hK : ∀ w', FBlk w' w.heap.size (List.replicate n .zero) → Below w.heap.size w w' → wpList Try.prog ops Q rest (a.put o.dst (.slice (some ⟨w.heap.size, 0, none⟩) n n)) w') :
    wpList Try.prog ops Q (o :: rest) a w := by
  obtain ⟨i0, hi, hz0, hz1, hz2⟩ := info_parts info_frac
  refine wpList_make_full w hg l c T hop w.heap.size 29 i0 _ 3 hT hi hz0 hz1 .i64 .i64 L C n hl hc hL hC (by rw [hz2]; omega) (by unfold maxLen; omega) (Nat.le_refl _) ?_
  intro w' h1 h2
  refine hK w' ?_ ((Below.refl _ _).grown h2 (Nat.le_refl _) (fun k e => by cases e))
  rcases h1.2 with ⟨e, _⟩ | ⟨g, cap, cur, e, _, hh, _, _, hz, ht⟩
  · simp at e
  · simp only [Value.slice.injEq, Option.some.injEq, Addr.mk.injEq, and_true, true_and] at e
    obtain ⟨rfl, rfl⟩ := e
    unfold FBlk
    rw [hh]
    rw [madeCells_t, List.take_of_length_le (by simp; omega)] at ht
    have : cur = (tcells (List.replicate n .zero)).toArray := by rw [← ht]
    rw [this]
end
end Go.Proofs.Ytjemnankgjjgcaa

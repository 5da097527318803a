/- Lists of fractions in memory, three cells for each: a list that can be read, a list that is owned; how these facts go on when the world changes. -/
import Derived.Laws.MakeOwn
import Derived.OwnWalk
import Derived.Test.YtpmjhkpjhfpfpaaRatB
namespace Go.Proofs.Ytpmjhkpjhfpfpaa
open Go.RowKit Dig
set_option linter.unusedVariables false

/-- The parts of a fraction as it lies in memory. -/
structure Tri where
  b : Bool
  x : Option Addr × Nat × Nat
  y : Option Addr × Nat × Nat
namespace Tri
def vx (t : Tri) : Value := .slice t.x.1 t.x.2.1 t.x.2.2
def vy (t : Tri) : Value := .slice t.y.1 t.y.2.1 t.y.2.2
def val (t : Tri) : Value := .agg #[.bool t.b, t.vx, t.vy]
def cells (t : Tri) : List Value := [.bool t.b, t.vx, t.vy]
def zero : Tri := ⟨false, (none, 0, 0), (none, 0, 0)⟩
end Tri
def tcells : List Tri → List Value
  | [] => []
  | t :: ts => .bool t.b :: t.vx :: t.vy :: tcells ts
theorem tcells_length (ts : List Tri) : (tcells ts).length = ts.length * 3 := by
  induction ts with
  | nil => rfl
  | cons t ts ih => simp [tcells, ih]; omega
theorem tcells_append (ts us : List Tri) : tcells (ts ++ us) = tcells ts ++ tcells us := by
  induction ts with
  | nil => rfl
  | cons t ts ih => simp [tcells, ih]
theorem tcells_get : ∀ (ts : List Tri) (j : Nat) (h : j < ts.length), (tcells ts)[j * 3]? = some (.bool (ts.getD j .zero).b) ∧ (tcells ts)[j * 3 + 1]? = some (ts.getD j .zero).vx ∧ (tcells ts)[j * 3 + 2]? = some (ts.getD j .zero).vy
  | [], _, h => by simp at h
  | t :: ts, 0, _ => by simp [tcells]
  | t :: ts, j + 1, h => by
    have := tcells_get ts j (by simpa using h)
    rw [show (j + 1) * 3 = j * 3 + 3 by omega]
    simpa [tcells] using this
theorem tcells_set : ∀ (ts : List Tri) (j : Nat) (u : Tri) (h : j < ts.length), ((((tcells ts).set (j * 3) (.bool u.b)).set (j * 3 + 1) u.vx).set (j * 3 + 2) u.vy) = tcells (ts.set j u)
  | [], _, _, h => by simp at h
  | t :: ts, 0, u, _ => by simp [tcells]
  | t :: ts, j + 1, u, h => by
    have := tcells_set ts j u (by simpa using h)
    rw [show (j + 1) * 3 = j * 3 + 3 by omega]
    simpa [tcells] using this
theorem tcells_take (ts : List Tri) (n : Nat) : (tcells ts).take (n * 3) = tcells (ts.take n) := by
  rcases Nat.lt_or_ge n ts.length with h | h
  · conv => lhs; rw [← List.take_append_drop n ts, tcells_append]
    have e : (tcells (ts.take n)).length = n * 3 := by rw [tcells_length, List.length_take, Nat.min_eq_left (by omega)]
    rw [← e]
    exact List.take_left
  · rw [List.take_of_length_le h, List.take_of_length_le (by rw [tcells_length]; omega)]
theorem tcells_drop (ts : List Tri) (n : Nat) : (tcells ts).drop (n * 3) = tcells (ts.drop n) := by
  rcases Nat.lt_or_ge n ts.length with h | h
  · conv => lhs; rw [← List.take_append_drop n ts, tcells_append]
    have e : (tcells (ts.take n)).length = n * 3 := by rw [tcells_length, List.length_take, Nat.min_eq_left (by omega)]
    rw [← e]
    exact List.drop_left
  · rw [List.drop_of_length_le h, List.drop_of_length_le (by rw [tcells_length]; omega)]
    rfl
theorem tcells_noint : ∀ (ts : List Tri) (u : Value), u ∈ tcells ts → ∀ k z, u ≠ .int k z
  | [], u, h, _, _ => by simp [tcells] at h
  | t :: ts, u, h, k, z => by
    simp only [tcells, List.mem_cons] at h
    rcases h with rfl | rfl | rfl | h
    · exact fun e => by cases e
    · exact fun e => by cases e
    · exact fun e => by cases e
    · exact tcells_noint ts u h k z
theorem tcells_one (ts : List Tri) : ∀ u ∈ tcells ts, u.oneCell' = true := by
  induction ts with
  | nil => intro u h; simp [tcells] at h
  | cons t ts ih =>
    intro u h
    simp only [tcells, List.mem_cons] at h
    rcases h with rfl | rfl | rfl | h
    · rfl
    · rfl
    · rfl
    · exact ih u h

/-- Block g is a row of fractions. -/
def FBlk (w : World) (g : Nat) (ts : List Tri) : Prop := w.heap[g]? = some (.cells (tcells ts).toArray 29 (0, 0))
/-- The storing of a fraction at a place of a block. -/
def stor3o (w : World) (g o : Nat) (a b c : Value) : World := ((w.setCell ⟨g, o, none⟩ a).setCell ⟨g, o + 1, none⟩ b).setCell ⟨g, o + 2, none⟩ c
section
variable {w w' : World} {g : Nat} {ts : List Tri}
theorem FBlk.lt (h : FBlk w g ts) : g < w.heap.size := by
  rcases Nat.lt_or_ge g w.heap.size with hlt | hge
  · exact hlt
  · unfold FBlk at h; rw [Array.getElem?_eq_none hge] at h; cases h
theorem FBlk.frozen (h : FBlk w g ts) (i : Nat) : w.frozen? ⟨g, i, none⟩ = false := by
  unfold FBlk at h
  simp [World.frozen?, h]
theorem FBlk.cell (h : FBlk w g ts) (i : Nat) : w.cell? ⟨g, i, none⟩ = (tcells ts)[i]? := by
  rw [cell_of_row w g i _ _ (0, 0) h, List.getElem?_toArray]
theorem FBlk.cells (h : FBlk w g ts) {j : Nat} (hj : j < ts.length) : w.cell? ⟨g, j * 3, none⟩ = some (.bool (ts.getD j .zero).b) ∧ w.cell? ⟨g, j * 3 + 1, none⟩ = some (ts.getD j .zero).vx ∧ w.cell? ⟨g, j * 3 + 2, none⟩ = some (ts.getD j .zero).vy := by
  rw [h.cell, h.cell, h.cell]
  exact tcells_get ts j hj
theorem FBlk.of_block (h : FBlk w g ts) (e : w'.heap[g]? = w.heap[g]?) : FBlk w' g ts := by
  unfold FBlk at h ⊢
  rw [e]
  exact h
theorem FBlk.below (h : FBlk w g ts) (hb : Below w.heap.size w w') : FBlk w' g ts := h.of_block (hb.block g h.lt)
theorem FBlk.alloc (h : FBlk w g ts) (o : Obj) : FBlk (w.alloc o) g ts := h.of_block (Below.heap_alloc _ _ _ h.lt)
theorem FBlk.drewN (h : FBlk w g ts) (n : Nat) : FBlk (w.drewN n) g ts := h
theorem FBlk.far (h : FBlk w g ts) {p : Addr} (hp : g ≠ p.block) (u : Value) : FBlk (w.setCell p u) g ts := h.of_block (Below.heap_setCell w p u g hp)
theorem FBlk.set (h : FBlk w g ts) {j : Nat} (hj : j < ts.length) (u : Tri) : FBlk (stor3o w g (j * 3) (.bool u.b) u.vx u.vy) g (ts.set j u) := by
  unfold FBlk at h ⊢
  unfold stor3o
  simp only [World.setCell, Array.getElem?_modify, h]
  simp only [if_true, Option.map_some, List.setIfInBounds_toArray, Option.isSome_none, Bool.false_eq_true, if_false]
  rw [tcells_set ts j u hj]
theorem stor3o_heap (w : World) (g o : Nat) (a b c : Value) : ∀ j, j ≠ g → (stor3o w g o a b c).heap[j]? = w.heap[j]? := by
  intro j hj
  unfold stor3o
  rw [Below.heap_setCell _ ⟨g, o + 2, none⟩ _ j hj, Below.heap_setCell _ ⟨g, o + 1, none⟩ _ j hj, Below.heap_setCell _ ⟨g, o, none⟩ _ j hj]
theorem stor3o_size (w : World) (g o : Nat) (a b c : Value) : (stor3o w g o a b c).heap.size = w.heap.size := by
  unfold stor3o
  simp [World.setCell]
theorem below_stor3o {B : Nat} {w w2 : World} (hB : Below B w w2) {g : Nat} (hg : B ≤ g) (o : Nat) (a b c : Value) : Below B w (stor3o w2 g o a b c) := by
  unfold stor3o
  exact ((hB.setCell (p := ⟨g, o, none⟩) hg a).setCell (p := ⟨g, o + 1, none⟩) hg b).setCell (p := ⟨g, o + 2, none⟩) hg c
/-- A block of fractions holds no digits. -/
theorem Num.apart {v : Value} {xs : List Nat} (h : Num w v xs) (hF : FBlk w g ts) (hs : w.heap.size ≤ w'.heap.size) (hk : ∀ j, j ≠ g → w'.heap[j]? = w.heap[j]?) : Num w' v xs := by
  obtain ⟨B, c, h1, h2, h3, h4, h5⟩ := h
  refine ⟨B, c, h1, h2, h3, h4, fun hp => ?_⟩
  obtain ⟨b, off, e1, hb, hc⟩ := h5 hp
  have hne : b ≠ g := by
    rintro rfl
    have h0 := hc 0 hp
    rw [hF.cell] at h0
    exact tcells_noint ts _ (List.mem_of_getElem? h0) _ _ rfl
  refine ⟨b, off, e1, by omega, fun j hj => ?_⟩
  rw [← hc j hj]
  simp only [World.cell?, hk b hne]
theorem NumV.apart {v : Value} {n k : Nat} (h : NumV w v n k) (hF : FBlk w g ts) (hs : w.heap.size ≤ w'.heap.size) (hk : ∀ j, j ≠ g → w'.heap[j]? = w.heap[j]?) : NumV w' v n k := by
  obtain ⟨L, h1, h2⟩ := h
  exact ⟨L, h1.apart hF hs hk, h2⟩
theorem Can.apart {v : Value} {n k : Nat} (h : Can w v n k) (hF : FBlk w g ts) (hs : w.heap.size ≤ w'.heap.size) (hk : ∀ j, j ≠ g → w'.heap[j]? = w.heap[j]?) : Can w' v n k := ⟨h.1.apart hF hs hk, h.2⟩
end

/-- What is said of an element goes on while its digits stay. -/
structure Keeps (E : World → Value → Rat → Prop) : Prop where
  below : ∀ {w w' : World} {v : Value} {q : Rat}, E w v q → Below w.heap.size w w' → E w' v q
  apart : ∀ {w w' : World} {v : Value} {q : Rat} {g : Nat} {ts : List Tri}, E w v q → FBlk w g ts → w.heap.size ≤ w'.heap.size → (∀ j, j ≠ g → w'.heap[j]? = w.heap[j]?) → E w' v q
def FV (k : Nat) (w : World) (v : Value) (q : Rat) : Prop := FracV w v q k
def CV (k : Nat) (w : World) (v : Value) (q : Rat) : Prop := CanF w v q k
theorem keeps_FV (k : Nat) : Keeps (FV k) := ⟨fun h hb => FracV.below h hb, fun h hF hs hk => by
  obtain ⟨neg, vn, vd, n, d, e, hn, hd, hq⟩ := h
  exact ⟨neg, vn, vd, n, d, e, hn.apart hF hs hk, hd.apart hF hs hk, hq⟩⟩
theorem keeps_CV (k : Nat) : Keeps (CV k) := ⟨fun h hb => CanF.below h hb, fun h hF hs hk => by
  obtain ⟨vn, vd, e, hn, hd⟩ := h
  exact ⟨vn, vd, e, hn.apart hF hs hk, hd.apart hF hs hk⟩⟩

/-- A list of fractions that can be read. -/
def Fls (E : World → Value → Rat → Prop) (w : World) (v : Value) (qs : List Rat) : Prop :=
  ∃ A c, v = .slice A qs.length c ∧ (qs.length ≤ c ∧ (A = none → c = 0)) ∧ c ≤ maxLen ∧
    (0 < qs.length → ∃ b off, A = some ⟨b, off, none⟩ ∧ b < w.heap.size ∧ ∀ j, j < qs.length → ∃ t : Tri,
      w.cell? ⟨b, off + j * 3, none⟩ = some (.bool t.b) ∧ w.cell? ⟨b, off + j * 3 + 1, none⟩ = some t.vx ∧ w.cell? ⟨b, off + j * 3 + 2, none⟩ = some t.vy ∧ E w t.val (qs.getD j 0))
/-- A list of fractions in a block of its own. -/
def Ofl (E : World → Value → Rat → Prop) (base : Nat) (w : World) (v : Value) (qs : List Rat) : Prop :=
  (v = .slice none 0 0 ∧ qs = []) ∨ ∃ g ts, v = .slice (some ⟨g, 0, none⟩) qs.length ts.length ∧ base ≤ g ∧ FBlk w g ts ∧ qs.length ≤ ts.length ∧ ts.length ≤ maxLen ∧ ∀ j, j < qs.length → E w (ts.getD j .zero).val (qs.getD j 0)
section
variable {E E' : World → Value → Rat → Prop} {w w' : World} {v : Value} {qs : List Rat} {base : Nat}
theorem Fls.form (h : Fls E w v qs) : ∃ A c, v = .slice A qs.length c := by
  obtain ⟨A, c, e, _⟩ := h
  exact ⟨A, c, e⟩
theorem Fls.bounds (h : Fls E w v qs) : qs.length ≤ maxLen := by
  obtain ⟨A, c, e, h1, h2, _⟩ := h
  omega
theorem Fls.nil (E : World → Value → Rat → Prop) (w : World) : Fls E w (.slice none 0 0) [] := ⟨none, 0, rfl, ⟨Nat.le_refl _, fun _ => rfl⟩, by unfold maxLen; omega, fun h => absurd h (by simp)⟩
theorem Fls.below (h : Fls E w v qs) (K : Keeps E) (hb : Below w.heap.size w w') : Fls E w' v qs := by
  obtain ⟨A, c, h1, h2, h3, h5⟩ := h
  refine ⟨A, c, h1, h2, h3, fun hp => ?_⟩
  obtain ⟨b, off, e, hbb, hc⟩ := h5 hp
  refine ⟨b, off, e, Nat.lt_of_lt_of_le hbb hb.size, fun j hj => ?_⟩
  obtain ⟨t, c0, c1, c2, ht⟩ := hc j hj
  exact ⟨t, (hb.cell (p := ⟨b, _, none⟩) hbb).trans c0, (hb.cell (p := ⟨b, _, none⟩) hbb).trans c1, (hb.cell (p := ⟨b, _, none⟩) hbb).trans c2, K.below ht hb⟩
theorem Fls.weaken (h : Fls E w v qs) (hE : ∀ v q, q ∈ qs → E w v q → E' w v q) : Fls E' w v qs := by
  obtain ⟨A, c, h1, h2, h3, h5⟩ := h
  refine ⟨A, c, h1, h2, h3, fun hp => ?_⟩
  obtain ⟨b, off, e, hbb, hc⟩ := h5 hp
  refine ⟨b, off, e, hbb, fun j hj => ?_⟩
  obtain ⟨t, c0, c1, c2, ht⟩ := hc j hj
  refine ⟨t, c0, c1, c2, hE _ _ ?_ ht⟩
  rw [List.getD_eq_getElem?_getD, List.getElem?_eq_getElem hj]
  exact List.getElem_mem hj
/-- The first elements of a list. -/
theorem Fls.take {A : Option Addr} {c n : Nat} (h : Fls E w (.slice A qs.length c) qs) (hn : n ≤ qs.length) : Fls E w (.slice A n c) (qs.take n) := by
  obtain ⟨A', c', h1, h2, h3, h5⟩ := h
  cases h1
  have hl : (qs.take n).length = n := by rw [List.length_take, Nat.min_eq_left hn]
  refine ⟨A, c, by rw [hl], ⟨by omega, h2.2⟩, h3, fun hp => ?_⟩
  rw [hl] at hp ⊢
  obtain ⟨b, off, e, hbb, hc⟩ := h5 (by omega)
  refine ⟨b, off, e, hbb, fun j hj => ?_⟩
  obtain ⟨t, c0, c1, c2, ht⟩ := hc j (by omega)
  refine ⟨t, c0, c1, c2, ?_⟩
  rw [List.getD_eq_getElem?_getD, List.getElem?_take, if_pos hj, ← List.getD_eq_getElem?_getD]
  exact ht
/-- The other elements of a list. -/
theorem Fls.drop {b off c n : Nat} (h : Fls E w (.slice (some ⟨b, off, none⟩) qs.length c) qs) (hn : n ≤ qs.length) : Fls E w (.slice (some ⟨b, off + n * 3, none⟩) (qs.length - n) (c - n)) (qs.drop n) := by
  obtain ⟨A', c', h1, h2, h3, h5⟩ := h
  cases h1
  have hl : (qs.drop n).length = qs.length - n := List.length_drop
  refine ⟨_, c - n, by rw [hl], ⟨by omega, fun e => by cases e⟩, by omega, fun hp => ?_⟩
  rw [hl] at hp ⊢
  obtain ⟨b', off', e, hbb, hc⟩ := h5 (by omega)
  cases e
  refine ⟨b, off + n * 3, rfl, hbb, fun j hj => ?_⟩
  obtain ⟨t, c0, c1, c2, ht⟩ := hc (n + j) (by omega)
  rw [show off + (n + j) * 3 = off + n * 3 + j * 3 by omega] at c0 c1 c2
  refine ⟨t, c0, c1, c2, ?_⟩
  rw [List.getD_eq_getElem?_getD, List.getElem?_drop, ← List.getD_eq_getElem?_getD]
  exact ht
theorem Ofl.nil (E : World → Value → Rat → Prop) (base : Nat) (w : World) : Ofl E base w (.slice none 0 0) [] := .inl ⟨rfl, rfl⟩
theorem Ofl.fls (h : Ofl E base w v qs) : Fls E w v qs := by
  rcases h with ⟨rfl, rfl⟩ | ⟨g, ts, rfl, hb, hF, hl, hm, hE⟩
  · exact Fls.nil E w
  · refine ⟨_, _, rfl, ⟨hl, fun e => by cases e⟩, hm, fun hp => ⟨g, 0, rfl, hF.lt, fun j hj => ?_⟩⟩
    obtain ⟨c0, c1, c2⟩ := hF.cells (j := j) (by omega)
    rw [Nat.zero_add]
    exact ⟨_, c0, c1, c2, hE j hj⟩
theorem Ofl.below (h : Ofl E base w v qs) (K : Keeps E) (hb : Below w.heap.size w w') : Ofl E base w' v qs := by
  rcases h with h | ⟨g, ts, e, hg, hF, hl, hm, hE⟩
  · exact .inl h
  · exact .inr ⟨g, ts, e, hg, hF.below hb, hl, hm, fun j hj => K.below (hE j hj) hb⟩
theorem Ofl.mono {base' : Nat} (h : Ofl E base w v qs) (hb : base' ≤ base) : Ofl E base' w v qs := by
  rcases h with h | ⟨g, ts, e, hg, r⟩
  · exact .inl h
  · exact .inr ⟨g, ts, e, by omega, r⟩
end
end Go.Proofs.Ytpmjhkpjhfpfpaa

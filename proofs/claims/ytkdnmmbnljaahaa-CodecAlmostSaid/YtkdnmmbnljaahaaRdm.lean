/- A reader in memory: a block of two cells, the bytes that are left and the error; what else is there stays when the reader turns. -/
import Derived.Test.YtkdnmmbnljaahaaBytes
namespace Go.Proofs.Ytkdnmmbnljaahaa
open Go.RowKit Dig
set_option linter.unusedVariables false

/-- Block g is a reader: the bytes that are left, the error. -/
def Rdr (T : TypeId) (w : World) (g : Nat) (s : RS) : Prop := (∃ A n c, w.heap[g]? = some (.cells #[.slice A n c, .int .i64 s.2] T (0, 0)) ∧ Byt w (.slice A n c) s.1) ∧ okR s

section
variable {w w' w2 : World} {g g' : Nat} {T T' : TypeId} {x y v : Value} {ts : List UInt8} {xs : List Nat} {s s' : RS}
theorem row2_cells (h : w.heap[g]? = some (.cells #[x, y] T (0, 0))) : w.cell? ⟨g, 0, none⟩ = some x ∧ w.cell? ⟨g, 1, none⟩ = some y := by
  rw [cell_of_row w g _ _ _ (0, 0) h, cell_of_row w g _ _ _ (0, 0) h]
  exact ⟨rfl, rfl⟩
theorem row2_frozen (h : w.heap[g]? = some (.cells #[x, y] T (0, 0))) : w.frozen? ⟨g, 0, none⟩ = false ∧ w.frozen? ⟨g, 1, none⟩ = false := by
  simp [World.frozen?, h]
theorem row2_put0 (h : w.heap[g]? = some (.cells #[x, y] T (0, 0))) (u : Value) : (w.setCell ⟨g, 0, none⟩ u).heap[g]? = some (.cells #[u, y] T (0, 0)) := by
  simp [World.setCell, Array.getElem?_modify, h]
theorem row2_put1 (h : w.heap[g]? = some (.cells #[x, y] T (0, 0))) (u : Value) : (w.setCell ⟨g, 1, none⟩ u).heap[g]? = some (.cells #[x, u] T (0, 0)) := by
  simp [World.setCell, Array.getElem?_modify, h]
/-- A block of a reader holds no bytes and no digits. -/
theorem row2_other {A : Option Addr} {n c o : Nat} {e z : Int} {k : IntKind} (h : w.heap[g]? = some (.cells #[.slice A n c, .int .i64 e] T (0, 0))) (hk : k ≠ .i64) : w.cell? ⟨g, o, none⟩ ≠ some (.int k z) := by
  rw [cell_of_row w g _ _ _ (0, 0) h]
  intro h1
  match o with
  | 0 => cases h1
  | 1 =>
    have h2 : Value.int .i64 e = .int k z := Option.some.inj h1
    injection h2 with h3 _
    exact hk h3.symm
  | o + 2 => simp at h1
theorem Byt.but {A : Option Addr} {n c : Nat} {e : Int} (h : Byt w v ts) (hr : w.heap[g]? = some (.cells #[.slice A n c, .int .i64 e] T (0, 0))) (hg : w.grownBy w' (some g)) : Byt w' v ts := by
  obtain ⟨A', c', h1, h2, h3, h5⟩ := h
  refine ⟨A', c', h1, h2, h3, fun hp => ?_⟩
  obtain ⟨b, off, e1, hb, hc⟩ := h5 hp
  have hne : b ≠ g := by
    intro e2
    subst e2
    exact row2_other hr (by decide) (hc 0 hp)
  exact ⟨b, off, e1, Nat.lt_of_lt_of_le hb hg.size, fun j hj => by rw [World.cell?_of_block (a := ⟨b, off + j, none⟩) (hg.block b hb (by simpa using hne))]; exact hc j hj⟩
theorem Num.but {A : Option Addr} {n c : Nat} {e : Int} (h : Num w v xs) (hr : w.heap[g]? = some (.cells #[.slice A n c, .int .i64 e] T (0, 0))) (hg : w.grownBy w' (some g)) : Num w' v xs := by
  obtain ⟨A', c', h1, h2, h3, h4, h5⟩ := h
  refine ⟨A', c', h1, h2, h3, h4, fun hp => ?_⟩
  obtain ⟨b, off, e1, hb, hc⟩ := h5 hp
  have hne : b ≠ g := by
    intro e2
    subst e2
    exact row2_other hr (by decide) (hc 0 hp)
  exact ⟨b, off, e1, Nat.lt_of_lt_of_le hb hg.size, fun j hj => by rw [World.cell?_of_block (a := ⟨b, off + j, none⟩) (hg.block b hb (by simpa using hne))]; exact hc j hj⟩
theorem Rdr.lt (h : Rdr T w g s) : g < w.heap.size := by
  obtain ⟨⟨A, n, c, h, _⟩, _⟩ := h
  exact lt_of_heap h
theorem Rdr.ok (h : Rdr T w g s) : okR s := h.2
/-- What is beside a reader stays when it turns. -/
theorem Byt.beside (h : Byt w v ts) (hr : Rdr T w g s) (hg : w.grownBy w' (some g)) : Byt w' v ts := by
  obtain ⟨⟨A, n, c, hr, _⟩, _⟩ := hr
  exact h.but hr hg
theorem Num.beside (h : Num w v xs) (hr : Rdr T w g s) (hg : w.grownBy w' (some g)) : Num w' v xs := by
  obtain ⟨⟨A, n, c, hr, _⟩, _⟩ := hr
  exact h.but hr hg
theorem Rdr.beside (h : Rdr T w g s) (hr : Rdr T' w g' s') (hne : g ≠ g') (hg : w.grownBy w' (some g')) : Rdr T w' g s := by
  have hlt := h.lt
  obtain ⟨⟨A, n, c, h1, h2⟩, h3⟩ := h
  exact ⟨⟨A, n, c, by rw [hg.block g hlt (by simpa using hne)]; exact h1, h2.beside hr hg⟩, h3⟩
theorem Rdr.below (h : Rdr T w g s) (hb : Below w.heap.size w w') : Rdr T w' g s := by
  have hlt := h.lt
  obtain ⟨⟨A, n, c, h1, h2⟩, h3⟩ := h
  exact ⟨⟨A, n, c, by rw [hb.block g hlt]; exact h1, h2.below hb⟩, h3⟩
theorem grown_of_below {row : Option Nat} (hb : Below w.heap.size w w') : w.grownBy w' row := ⟨hb.os, hb.tape, hb.output, hb.size, fun k hk _ => hb.block k hk⟩
theorem grown_then {row : Option Nat} (h : w.grownBy w' row) (h2 : w'.grownBy w2 row) : w.grownBy w2 row := grown_trans h h2
theorem below_of_grown {B : Nat} (h : Below B w w') (hg : w'.grownBy w2 (some g)) (hB : B ≤ w'.heap.size) (hb : B ≤ g) : Below B w w2 := h.grown hg hB (fun k e => by injection e with e; omega)
theorem grown_put (h : w.grownBy w' (some g)) (i : Nat) (u : Value) : w.grownBy (w'.setCell ⟨g, i, none⟩ u) (some g) := grown_set h i u
/-- The bytes that are left are put anew. -/
theorem Rdr.rest {A A' : Option Addr} {n c n' c' : Nat} {e : Int} (hh : w.heap[g]? = some (.cells #[.slice A n c, .int .i64 e] T (0, 0))) (hb : Byt w (.slice A' n' c') ts) (hok : okR (ts, e)) : Rdr T (w.setCell ⟨g, 0, none⟩ (.slice A' n' c')) g (ts, e) :=
  ⟨⟨_, _, _, row2_put0 hh _, hb.but hh (grown_put (World.grownBy.refl _ _) 0 _)⟩, hok⟩
/-- A new reader. -/
theorem Rdr.new {A : Option Addr} {n c : Nat} (h : Byt w (.slice A n c) ts) : Rdr T (w.alloc (.cells #[.slice A n c, .int .i64 0] T)) w.heap.size (ts, 0) :=
  ⟨⟨A, n, c, heap_alloc_new _ _, h.alloc _⟩, .inl rfl⟩
end

/-- A reader's method: what it hands back, the state behind; nothing else that was there turns. -/
def RRd (T : TypeId) (g : Nat) (w : World) (K : World → Value → Prop) (s' : RS) (e : Ending) (w' : World) : Prop := ∃ r, e = .returned r ∧ K w' r ∧ Rdr T w' g s' ∧ w.grownBy w' (some g)
end Go.Proofs.Ytkdnmmbnljaahaa

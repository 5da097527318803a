/- The program's disk in memory: its fields, two rows of bytes, the pending writes. -/
import Derived.Laws.IdiomCopy
import Derived.Test.YthknlimhenbhfaaDpa
namespace Go.Proofs.Ythknlimhenbhfaa
open Go.RowKit Dig
set_option linter.unusedVariables false

/-- A row of all sectors. -/
def rowV (b n : Nat) : Value := .slice (some ⟨b, 0, none⟩) (n * 64) (n * 64)
/-- The fields of a disk. -/
def Fld (w : World) (g bd bv : Nat) (ve : Value) (k n : Nat) (on : Bool) (c : Int) : Prop :=
  w.heap[g]? = some (.cells #[rowV bd n, rowV bv n, .int .i64 (k : Int), ve, .int .i64 0, .slice none 0 0, .map none, .bool on, .int .i64 c] 60 (0, 0))
/-- All sectors in one block. -/
def SecB (w : World) (b : Nat) (L : List (List UInt8)) : Prop := w.heap[b]? = some (.cells (secC L).toArray 5 (0, 0))
abbrev Ent := (Nat × List UInt8) × Nat
/-- The cells of pending writes: a place, and 64 bytes of their own. -/
def entC (es : List Ent) : List Value := (es.map fun e => [Value.int .i64 (e.1.1 : Int), .slice (some ⟨e.2, 0, none⟩) 64 64]).flatten
theorem entC_length (es : List Ent) : (entC es).length = es.length * 2 := flat_length (fun e : Ent => [Value.int .i64 (e.1.1 : Int), .slice (some ⟨e.2, 0, none⟩) 64 64]) es fun _ _ => rfl
theorem entC_snoc (es : List Ent) (e : Ent) : entC (es ++ [e]) = entC es ++ [Value.int .i64 (e.1.1 : Int), .slice (some ⟨e.2, 0, none⟩) 64 64] := by simp [entC]
theorem entC_one (es : List Ent) : ∀ u ∈ entC es, u.oneCell' = true := by
  intro u hu
  obtain ⟨l, hl, hu⟩ := List.mem_flatten.1 hu
  obtain ⟨x, _, rfl⟩ := List.mem_map.1 hl
  simp only [List.mem_cons, List.not_mem_nil, or_false] at hu
  rcases hu with rfl | rfl <;> rfl
theorem entC_part {es : List Ent} {i : Nat} (hi : i < es.length) : ((entC es).drop (i * 2)).take 2 = [Value.int .i64 (es[i].1.1 : Int), .slice (some ⟨es[i].2, 0, none⟩) 64 64] :=
  flat_part (fun e : Ent => [Value.int .i64 (e.1.1 : Int), .slice (some ⟨e.2, 0, none⟩) 64 64]) es i hi fun _ _ => rfl
theorem entC_own {es : List Ent} {v : Value} {b : Nat} (h : v ∈ entC es) (hb : v.ownBlock = some b) : ∃ e ∈ es, e.2 = b := by
  obtain ⟨l, hl, hu⟩ := List.mem_flatten.1 h
  obtain ⟨x, hx, rfl⟩ := List.mem_map.1 hl
  simp only [List.mem_cons, List.not_mem_nil, or_false] at hu
  rcases hu with rfl | rfl
  · simp [Value.ownBlock] at hb
  · simp only [Value.ownBlock, Option.some.injEq] at hb
    exact ⟨x, hx, hb⟩
theorem entC_mem {es : List Ent} {e : Ent} (h : e ∈ es) : Value.slice (some ⟨e.2, 0, none⟩) 64 64 ∈ entC es :=
  List.mem_flatten.2 ⟨_, List.mem_map.2 ⟨e, h, rfl⟩, by simp⟩
/-- The program's disk in memory: the durable sectors L in block bd, those that reads see, V, in block bv, the pending writes es. -/
structure Mem (w : World) (g bd bv : Nat) (ve : Value) (n : Nat) (on : Bool) (c : Int) (es : List Ent) (L V : List (List UInt8)) : Prop where
  fld : Fld w g bd bv ve es.length n on c
  dur : SecB w bd L
  vis : SecB w bv V
  own : w.ownsRow 0 55 2 ve es.length (entC es)
  lets : ∀ e ∈ es, LetB w e.2 e.1.2 ∧ e.2 ≠ g ∧ e.2 ≠ bd ∧ e.2 ≠ bv ∧ ve.ownBlock ≠ some e.2
  gd : bd ≠ g
  gv : bv ≠ g
  dv : bd ≠ bv
  eg : ve.ownBlock ≠ some g
  ed : ve.ownBlock ≠ some bd
  ev : ve.ownBlock ≠ some bv
section
variable {w w' : World} {g bd bv k n : Nat} {ve v u : Value} {on on' : Bool} {c c' : Int} {es : List Ent} {L V : List (List UInt8)} {e : TypeId} {base : Nat} {vs : List Value}
theorem Fld.lt (h : Fld w g bd bv ve k n on c) : g < w.heap.size := lt_of_heap h
theorem SecB.lt (h : SecB w bd L) : bd < w.heap.size := lt_of_heap h
theorem Fld.cells (h : Fld w g bd bv ve k n on c) : w.cell? ⟨g, 0, none⟩ = some (rowV bd n) ∧ w.cell? ⟨g, 1, none⟩ = some (rowV bv n) ∧ w.cell? ⟨g, 2, none⟩ = some (.int .i64 (k : Int)) ∧ w.cell? ⟨g, 3, none⟩ = some ve ∧ w.cell? ⟨g, 7, none⟩ = some (.bool on) ∧ w.cell? ⟨g, 8, none⟩ = some (.int .i64 c) := by
  unfold Fld at h
  refine ⟨?_, ?_, ?_, ?_, ?_, ?_⟩ <;> rw [cell_of_row w g _ _ _ (0, 0) h] <;> rfl
theorem Fld.thaw (h : Fld w g bd bv ve k n on c) (i : Nat) : w.frozen? ⟨g, i, none⟩ = false := by
  unfold Fld at h
  simp [World.frozen?, h]
theorem Fld.put7 (h : Fld w g bd bv ve k n on c) (b : Bool) : Fld (w.setCell ⟨g, 7, none⟩ (.bool b)) g bd bv ve k n b c := by
  unfold Fld at h ⊢
  simp [World.setCell, Array.getElem?_modify, h]
theorem Fld.put8 (h : Fld w g bd bv ve k n on c) (z : Int) : Fld (w.setCell ⟨g, 8, none⟩ (.int .i64 z)) g bd bv ve k n on z := by
  unfold Fld at h ⊢
  simp [World.setCell, Array.getElem?_modify, h]
theorem Fld.put2 (h : Fld w g bd bv ve k n on c) (m : Nat) : Fld (w.setCell ⟨g, 2, none⟩ (.int .i64 (m : Int))) g bd bv ve m n on c := by
  unfold Fld at h ⊢
  simp [World.setCell, Array.getElem?_modify, h]
theorem Fld.put3 (h : Fld w g bd bv ve k n on c) (v : Value) : Fld (w.setCell ⟨g, 3, none⟩ v) g bd bv v k n on c := by
  unfold Fld at h ⊢
  simp [World.setCell, Array.getElem?_modify, h]
theorem own_keep (h : w.ownsRow base e k v n vs) (hk : ∀ b, b < w.heap.size → v.ownBlock = some b → w'.heap[b]? = w.heap[b]?) : w'.ownsRow base e k v n vs := by
  obtain ⟨hl, h⟩ := h
  refine ⟨hl, ?_⟩
  rcases h with h | ⟨g, cap, cur, e1, hg, hh, r⟩
  · exact .inl h
  · exact .inr ⟨g, cap, cur, e1, hg, by rw [hk g (lt_of_heap hh) (by rw [e1]; rfl)]; exact hh, r⟩
theorem LetB.keepB {b : Nat} {ts : List UInt8} (h : LetB w b ts) (hk : w'.heap[b]? = w.heap[b]?) : LetB w' b ts := by
  unfold LetB at h ⊢
  rw [hk]
  exact h
theorem SecB.keepB {b : Nat} (h : SecB w b L) (hk : w'.heap[b]? = w.heap[b]?) : SecB w' b L := by
  unfold SecB at h ⊢
  rw [hk]
  exact h
/-- The disk stays when its blocks stay. -/
theorem Mem.keepB (h : Mem w g bd bv ve n on c es L V) (hk : ∀ b, b < w.heap.size → (b = g ∨ b = bd ∨ b = bv ∨ ve.ownBlock = some b ∨ ∃ e ∈ es, e.2 = b) → w'.heap[b]? = w.heap[b]?) : Mem w' g bd bv ve n on c es L V where
  fld := by
    have := h.fld
    unfold Fld at this ⊢
    rw [hk g h.fld.lt (.inl rfl)]
    exact this
  dur := h.dur.keepB (hk _ h.dur.lt (.inr (.inl rfl)))
  vis := h.vis.keepB (hk _ h.vis.lt (.inr (.inr (.inl rfl))))
  own := own_keep h.own fun b hb hv => hk b hb (.inr (.inr (.inr (.inl hv))))
  lets := fun e he => ⟨(h.lets e he).1.keepB (hk _ (h.lets e he).1.lt (.inr (.inr (.inr (.inr ⟨e, he, rfl⟩))))), (h.lets e he).2⟩
  gd := h.gd
  gv := h.gv
  dv := h.dv
  eg := h.eg
  ed := h.ed
  ev := h.ev
theorem Mem.below (h : Mem w g bd bv ve n on c es L V) (hB : Below w.heap.size w w') : Mem w' g bd bv ve n on c es L V := h.keepB fun b hb _ => hB.block b hb
/-- A change of fields alone. -/
theorem Mem.fields (h : Mem w g bd bv ve n on c es L V) (hf : Fld w' g bd bv ve es.length n on' c') (hg : w.grownBy w' (some g)) : Mem w' g bd bv ve n on' c' es L V where
  fld := hf
  dur := h.dur.keepB (hg.block bd h.dur.lt (fun e => h.gd (by injection e)))
  vis := h.vis.keepB (hg.block bv h.vis.lt (fun e => h.gv (by injection e)))
  own := own_keep h.own fun b hb hv => hg.block b hb (fun e => h.eg (by injection e with e; rw [hv, e]))
  lets := fun e he => ⟨(h.lets e he).1.keepB (hg.block _ (h.lets e he).1.lt (fun e1 => (h.lets e he).2.1 (by injection e1))), (h.lets e he).2⟩
  gd := h.gd
  gv := h.gv
  dv := h.dv
  eg := h.eg
  ed := h.ed
  ev := h.ev
/-- The sectors that reads see are replaced. -/
theorem Mem.seen {V' : List (List UInt8)} (h : Mem w g bd bv ve n on c es L V) (hv : SecB w' bv V') (hg : w.grownBy w' (some bv)) : Mem w' g bd bv ve n on c es L V' where
  fld := by
    have := h.fld
    unfold Fld at this ⊢
    rw [hg.block g h.fld.lt (fun e => h.gv (by injection e with e; exact e.symm))]
    exact this
  dur := h.dur.keepB (hg.block bd h.dur.lt (fun e => h.dv (by injection e)))
  vis := hv
  own := own_keep h.own fun b hb hv => hg.block b hb (fun e => h.ev (by injection e with e; rw [hv, e]))
  lets := fun e he => ⟨(h.lets e he).1.keepB (hg.block _ (h.lets e he).1.lt (fun e1 => (h.lets e he).2.2.2.1 (by injection e1))), (h.lets e he).2⟩
  gd := h.gd
  gv := h.gv
  dv := h.dv
  eg := h.eg
  ed := h.ed
  ev := h.ev
/-- The durable sectors are replaced. -/
theorem Mem.done {L' : List (List UInt8)} (h : Mem w g bd bv ve n on c es L V) (hv : SecB w' bd L') (hg : w.grownBy w' (some bd)) : Mem w' g bd bv ve n on c es L' V where
  fld := by
    have := h.fld
    unfold Fld at this ⊢
    rw [hg.block g h.fld.lt (fun e => h.gd (by injection e with e; exact e.symm))]
    exact this
  dur := hv
  vis := h.vis.keepB (hg.block bv h.vis.lt (fun e => h.dv (by injection e with e; exact e.symm)))
  own := own_keep h.own fun b hb hv => hg.block b hb (fun e => h.ed (by injection e with e; rw [hv, e]))
  lets := fun e he => ⟨(h.lets e he).1.keepB (hg.block _ (h.lets e he).1.lt (fun e1 => (h.lets e he).2.2.1 (by injection e1))), (h.lets e he).2⟩
  gd := h.gd
  gv := h.gv
  dv := h.dv
  eg := h.eg
  ed := h.ed
  ev := h.ev
/-- No write is pending any more. -/
theorem Mem.bare (h : Mem w g bd bv ve n on c es L V) (hf : Fld w' g bd bv (.slice none 0 0) 0 n on' c') (hg : w.grownBy w' (some g)) : Mem w' g bd bv (.slice none 0 0) n on' c' [] L V where
  fld := hf
  dur := h.dur.keepB (hg.block bd h.dur.lt (fun e => h.gd (by injection e)))
  vis := h.vis.keepB (hg.block bv h.vis.lt (fun e => h.gv (by injection e)))
  own := World.ownsRow_nil w' 0 _ 2
  lets := fun e he => (List.not_mem_nil he).elim
  gd := h.gd
  gv := h.gv
  dv := h.dv
  eg := by simp [Value.ownBlock]
  ed := by simp [Value.ownBlock]
  ev := by simp [Value.ownBlock]
/-- Its blocks. -/
def mine (g bd bv : Nat) (ve : Value) (es : List Ent) (b : Nat) : Prop := b = g ∨ b = bd ∨ b = bv ∨ ve.ownBlock = some b ∨ ∃ e ∈ es, e.2 = b
theorem Mem.mineLt (h : Mem w g bd bv ve n on c es L V) {b : Nat} (hb : mine g bd bv ve es b) : b < w.heap.size := by
  rcases hb with rfl | rfl | rfl | hb | ⟨e, he, rfl⟩
  · exact h.fld.lt
  · exact h.dur.lt
  · exact h.vis.lt
  · exact (h.own.lt b hb).2
  · exact (h.lets e he).1.lt
end
/-- The blocks of the program's disk, as they can be read off its memory. -/
def fpP (w : World) (g b : Nat) : Prop :=
  b = g ∨ (∃ v, (w.cell? ⟨g, 0, none⟩ = some v ∨ w.cell? ⟨g, 1, none⟩ = some v ∨ w.cell? ⟨g, 3, none⟩ = some v) ∧ v.ownBlock = some b) ∨ ∃ be m c j v, w.cell? ⟨g, 3, none⟩ = some (.slice (some ⟨be, 0, none⟩) m c) ∧ j < m * 2 ∧ w.cell? ⟨be, j, none⟩ = some v ∧ v.ownBlock = some b
section
variable {w w' : World} {g bd bv n b : Nat} {ve : Value} {on : Bool} {c : Int} {es : List Ent} {L V : List (List UInt8)}
theorem Mem.fp (h : Mem w g bd bv ve n on c es L V) : fpP w g b ↔ mine g bd bv ve es b := by
  obtain ⟨c0, c1, -, c3, -, -⟩ := h.fld.cells
  unfold fpP mine
  rw [c0, c1, c3]
  constructor
  · rintro (h1 | ⟨v, h1 | h1 | h1, hv⟩ | ⟨be, m, cc, j, v, h1, h2, h3, hv⟩)
    · exact .inl h1
    · injection h1 with h1
      subst h1
      simp only [rowV, Value.ownBlock, Option.some.injEq] at hv
      exact .inr (.inl hv.symm)
    · injection h1 with h1
      subst h1
      simp only [rowV, Value.ownBlock, Option.some.injEq] at hv
      exact .inr (.inr (.inl hv.symm))
    · injection h1 with h1
      subst h1
      exact .inr (.inr (.inr (.inl hv)))
    · injection h1 with h1
      have ho := h.own
      rw [h1] at ho
      have hm : m = es.length := by
        rcases ho.2 with ⟨e, _⟩ | ⟨g', cap, cur, e, _⟩
        · cases e
        · simp only [Value.slice.injEq] at e
          exact e.2.1
      subst hm
      rw [ho.cellAt j h2] at h3
      exact .inr (.inr (.inr (.inr (entC_own (List.mem_of_getElem? h3) hv))))
  · rintro (h1 | h1 | h1 | h1 | ⟨e, he, h1⟩)
    · exact .inl h1
    · exact .inr (.inl ⟨_, .inl rfl, by rw [h1]; rfl⟩)
    · exact .inr (.inl ⟨_, .inr (.inl rfl), by rw [h1]; rfl⟩)
    · exact .inr (.inl ⟨_, .inr (.inr rfl), h1⟩)
    · have ho := h.own
      have hn : 0 < es.length := List.length_pos_of_mem he
      obtain ⟨g', cap, ev⟩ := own_block ho hn
      rw [ev] at ho
      obtain ⟨j, hj⟩ := List.mem_iff_getElem?.1 (entC_mem he)
      have hj2 : j < es.length * 2 := by
        have := (List.getElem?_eq_some_iff.1 hj).1
        rw [entC_length] at this
        exact this
      exact .inr (.inr ⟨g', es.length, cap, j, _, by rw [ev], hj2, (ho.cellAt j hj2).trans hj, by rw [← h1]; rfl⟩)
end
/-- How the count of calls hangs on an armed failure. -/
def Lnk (s : DS) (c : Int) : Prop := (s.armed = true → c = (s.left : Int)) ∧ (s.armed = false → c < 0) ∧ -9223372036854775808 ≤ c ∧ c ≤ 9223372036854775807
/-- The program's disk at g is in the state s. -/
def PDsk (w : World) (g : Nat) (s : DS) : Prop :=
  okDS s ∧ ∃ bd bv ve c es, Mem w g bd bv ve s.dur.length (!s.off) c es s.dur (secs s) ∧ es.map (·.1) = s.pend ∧ Lnk s c ∧ s.dur.length ≤ 8192
section
variable {w w' : World} {g b : Nat} {s : DS}
theorem PDsk.fpLt (h : PDsk w g s) (hb : fpP w g b) : b < w.heap.size := by
  obtain ⟨_, bd, bv, ve, c, es, hm, _⟩ := h
  exact hm.mineLt (hm.fp.1 hb)
theorem PDsk.keep (h : PDsk w g s) (hs : w.heap.size ≤ w'.heap.size) (hk : ∀ b, b < w.heap.size → fpP w g b → w'.heap[b]? = w.heap[b]?) : PDsk w' g s ∧ ∀ b, fpP w' g b → fpP w g b := by
  obtain ⟨h0, bd, bv, ve, c, es, hm, h1⟩ := h
  have hm' : Mem w' g bd bv ve s.dur.length (!s.off) c es s.dur (secs s) := hm.keepB fun b hb h => hk b hb (hm.fp.2 h)
  exact ⟨⟨h0, bd, bv, ve, c, es, hm', h1⟩, fun b hb => hm.fp.2 (hm'.fp.1 hb)⟩
end
end Go.Proofs.Ythknlimhenbhfaa

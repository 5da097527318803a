/- The memory of DiskDurable: a disk, a row of four slices, a row of four truths. -/
import Derived.Test.YthknlimhenbhfaaDkh
import Derived.Test.YthknlimhenbhfaaDkg
namespace Go.Proofs.Ythknlimhenbhfaa
open Go.RowKit Dig
set_option linter.unusedVariables false

/-- A disk beside four slices (the first m of them tell what lies in L) and four truths. -/
structure Dur (D : World → Nat → DS → Prop) (fp : World → Nat → Nat → Prop) (w : World) (B g gA gB : Nat) (s : DS) (R : Nat → Value) (m : Nat) (L : List (List UInt8)) (wb : Nat → Bool) : Prop where
  one : One D fp w B g s
  rowA : w.heap[gA]? = some (.cells #[R 0, R 1, R 2, R 3] 45 (0, 0))
  rowB : w.heap[gB]? = some (.cells #[.bool (wb 0), .bool (wb 1), .bool (wb 2), .bool (wb 3)] 46 (0, 0))
  farA : ¬ fp w g gA
  farB : ¬ fp w g gB
  ne : gA ≠ gB
  told : ∀ k, k < m → Byt w (R k) (L.getD k []) ∧ Asd fp w g (R k) ∧ (R k).ownBlock ≠ some gA ∧ (R k).ownBlock ≠ some gB
section
variable {D : World → Nat → DS → Prop} {fp : World → Nat → Nat → Prop} {w w' : World} {B g gA gB m : Nat} {s s' : DS} {R : Nat → Value} {L : List (List UInt8)} {wb : Nat → Bool} {v : Value} {e : Ending}
theorem Dur.ltA (h : Dur D fp w B g gA gB s R m L wb) : gA < w.heap.size := lt_of_heap h.rowA
theorem Dur.ltB (h : Dur D fp w B g gA gB s R m L wb) : gB < w.heap.size := lt_of_heap h.rowB
theorem Dur.prog (h : Dur D fp w B g gA gB s R m L wb) (hB : B ≤ w.heap.size) (hd : PDk D fp w g v s' e w') : e = .returned v ∧ Dur D fp w' B g gA gB s' R m L wb ∧ Below B w w' := by
  obtain ⟨he, hO, hb⟩ := h.one.prog hB hd
  have hA := h.ltA
  have hB2 := h.ltB
  obtain ⟨_, _, ⟨_, _, _, t4, t5⟩, hf⟩ := id hd
  refine ⟨he, ⟨hO, (t5 gA hA h.farA).trans h.rowA, (t5 gB hB2 h.farB).trans h.rowB, fun hF => (hf gA hF).elim h.farA (fun h => by omega), fun hF => (hf gB hF).elim h.farB (fun h => by omega), h.ne, fun k hk => ?_⟩, hb⟩
  obtain ⟨k1, k2, k3, k4⟩ := h.told k hk
  exact ⟨k1.aside k2 hd, k2.prog hd, k3, k4⟩
theorem Dur.below (P : Prog6 D fp) (h : Dur D fp w B g gA gB s R m L wb) (hB : Below w.heap.size w w') : Dur D fp w' B g gA gB s R m L wb := by
  have hk := P.keep h.one.1 hB.size (fun b hb _ => hB.block b hb)
  refine ⟨h.one.below P hB, (hB.block gA h.ltA).trans h.rowA, (hB.block gB h.ltB).trans h.rowB, fun hF => h.farA (hk.2 _ hF), fun hF => h.farB (hk.2 _ hF), h.ne, fun k hkm => ?_⟩
  obtain ⟨k1, k2, k3, k4⟩ := h.told k hkm
  exact ⟨k1.below hB, k2.below P h.one.1 hB, k3, k4⟩
/-- Bytes whose row is not the one that a store hits. -/
theorem Byt.off {ts : List UInt8} {r : Value} (h : Byt w r ts) {b : Nat} (i : Nat) (u : Value) (hn : r.ownBlock ≠ some b) : Byt (w.setCell ⟨b, i, none⟩ u) r ts := by
  obtain ⟨A, c, h1, h2, h3, h5⟩ := h
  refine ⟨A, c, h1, h2, h3, fun hp => ?_⟩
  obtain ⟨b', off, e, hlt, hc⟩ := h5 hp
  subst e
  have hne : b' ≠ b := fun e => hn (by rw [h1, ← e]; rfl)
  refine ⟨b', off, rfl, by rw [size_set]; exact hlt, fun j hj => ?_⟩
  rw [World.cell?_of_block (a := ⟨b', off + j, none⟩) (Below.heap_setCell w ⟨b, i, none⟩ u b' hne)]
  exact hc j hj
/-- A store beside the disk and the told slices. -/
theorem Dur.poke (P : Prog6 D fp) (h : Dur D fp w B g gA gB s R m L wb) {b : Nat} (i : Nat) (u : Value) (hb : ¬ fp w g b) : (∀ k, fp (w.setCell ⟨b, i, none⟩ u) g k → fp w g k) ∧ One D fp (w.setCell ⟨b, i, none⟩ u) B g s := by
  have hk := P.keep (w' := w.setCell ⟨b, i, none⟩ u) h.one.1 (by rw [size_set]; exact Nat.le_refl _) (fun k _ hF => Below.heap_setCell w ⟨b, i, none⟩ u k (fun e => hb (by rw [← show k = b from e]; exact hF)))
  exact ⟨hk.2, (h.one.poke P i u hb).1⟩
/-- A truth is laid. -/
theorem Dur.putB (P : Prog6 D fp) (h : Dur D fp w B g gA gB s R m L wb) {j : Nat} (hj : j < 4) : Dur D fp (w.setCell ⟨gB, j, none⟩ (.bool true)) B g gA gB s R m L (fun k => if k = j then true else wb k) := by
  obtain ⟨hp, hO⟩ := h.poke P j (.bool true) h.farB
  refine ⟨hO, (Below.heap_setCell w ⟨gB, j, none⟩ _ gA (fun e => h.ne e)).trans h.rowA, ?_, fun hF => h.farA (hp _ hF), fun hF => h.farB (hp _ hF), h.ne, fun k hk => ?_⟩
  · have hr := h.rowB
    simp only [World.setCell, Array.getElem?_modify, hr]
    rcases (by omega : j = 0 ∨ j = 1 ∨ j = 2 ∨ j = 3) with rfl | rfl | rfl | rfl <;> simp
  · obtain ⟨k1, k2, k3, k4⟩ := h.told k hk
    exact ⟨k1.off j _ k4, fun b hb => ⟨by rw [size_set]; exact (k2 b hb).1, fun hF => (k2 b hb).2 (hp _ hF)⟩, k3, k4⟩
/-- One more slice is laid. -/
theorem Dur.putA (P : Prog6 D fp) (h : Dur D fp w B g gA gB s R m L wb) (hm : m < 4) {r : Value} (hb : Byt w r (L.getD m [])) (ha : Asd fp w g r) (h1 : r.ownBlock ≠ some gA) (h2 : r.ownBlock ≠ some gB) :
    Dur D fp (w.setCell ⟨gA, m, none⟩ r) B g gA gB s (fun k => if k = m then r else R k) (m + 1) L wb := by
  obtain ⟨hp, hO⟩ := h.poke P m r h.farA
  refine ⟨hO, ?_, (Below.heap_setCell w ⟨gA, m, none⟩ _ gB (fun e => h.ne e.symm)).trans h.rowB, fun hF => h.farA (hp _ hF), fun hF => h.farB (hp _ hF), h.ne, fun k hk => ?_⟩
  · have hr := h.rowA
    simp only [World.setCell, Array.getElem?_modify, hr]
    rcases (by omega : m = 0 ∨ m = 1 ∨ m = 2 ∨ m = 3) with rfl | rfl | rfl | rfl <;> simp
  · by_cases e : k = m
    · subst e
      rw [if_pos rfl]
      exact ⟨hb.off k _ h1, fun b hb => ⟨by rw [size_set]; exact (ha b hb).1, fun hF => (ha b hb).2 (hp _ hF)⟩, h1, h2⟩
    · rw [if_neg e]
      obtain ⟨k1, k2, k3, k4⟩ := h.told k (by omega)
      exact ⟨k1.off m _ k3, fun b hb => ⟨by rw [size_set]; exact (k2 b hb).1, fun hF => (k2 b hb).2 (hp _ hF)⟩, k3, k4⟩
/-- The cells of the rows. -/
theorem Dur.cellA (h : Dur D fp w B g gA gB s R m L wb) {j : Nat} (hj : j < 4) : w.cell? ⟨gA, j, none⟩ = some (R j) ∧ w.frozen? ⟨gA, j, none⟩ = false := by
  refine ⟨?_, by simp [World.frozen?, h.rowA]⟩
  rw [cell_of_row w gA j _ _ (0, 0) h.rowA]
  rcases (by omega : j = 0 ∨ j = 1 ∨ j = 2 ∨ j = 3) with rfl | rfl | rfl | rfl <;> rfl
theorem Dur.cellB (h : Dur D fp w B g gA gB s R m L wb) {j : Nat} (hj : j < 4) : w.cell? ⟨gB, j, none⟩ = some (.bool (wb j)) ∧ w.frozen? ⟨gB, j, none⟩ = false := by
  refine ⟨?_, by simp [World.frozen?, h.rowB]⟩
  rw [cell_of_row w gB j _ _ (0, 0) h.rowB]
  rcases (by omega : j = 0 ∨ j = 1 ∨ j = 2 ∨ j = 3) with rfl | rfl | rfl | rfl <;> rfl
/-- Both rows are new. -/
theorem Dur.start (P : Prog6 D fp) (h : One D fp w B g s) : Dur D fp ((w.alloc (.cells #[.slice none 0 0, .slice none 0 0, .slice none 0 0, .slice none 0 0] 45)).alloc (.cells #[.bool false, .bool false, .bool false, .bool false] 46)) B g w.heap.size (w.alloc (.cells #[.slice none 0 0, .slice none 0 0, .slice none 0 0, .slice none 0 0] 45)).heap.size s (fun _ => .slice none 0 0) 0 L (fun _ => false) := by
  have b1 : Below w.heap.size w (w.alloc (.cells #[.slice none 0 0, .slice none 0 0, .slice none 0 0, .slice none 0 0] 45)) := (Below.refl _ _).alloc (Nat.le_refl _) _
  have b2 : Below (w.alloc (.cells #[.slice none 0 0, .slice none 0 0, .slice none 0 0, .slice none 0 0] 45)).heap.size (w.alloc (.cells #[.slice none 0 0, .slice none 0 0, .slice none 0 0, .slice none 0 0] 45)) ((w.alloc (.cells #[.slice none 0 0, .slice none 0 0, .slice none 0 0, .slice none 0 0] 45)).alloc (.cells #[.bool false, .bool false, .bool false, .bool false] 46)) := (Below.refl _ _).alloc (Nat.le_refl _) _
  have hs : w.heap.size < (w.alloc (.cells #[.slice none 0 0, .slice none 0 0, .slice none 0 0, .slice none 0 0] 45)).heap.size := by
    show w.heap.size < (w.heap.push _).size
    simp
  have b3 := below_then b1 b2
  refine ⟨h.below P b3, (b2.block _ hs).trans (by rw [heap_alloc_new]), by rw [heap_alloc_new], h.apart P b3 (Nat.le_refl _), h.apart P b3 (Nat.le_of_lt hs), Nat.ne_of_lt hs, fun k hk => absurd hk (Nat.not_lt_zero k)⟩
end
section
variable {ev : Operand → Value} {o : Oper} {w : World}
theorem exec_neqStr (t s : Tmp) (x : ByteArray) (ho : o.op = .binOp .neq 9 (.tmp t) (.tmp s) 9) (hx : ev (.tmp t) = .string x) (hy : ev (.tmp s) = .string x) :
    (execOp ev o).run Try.prog w = .ok (.value (.bool false)) w := by
  unfold execOp
  simp only [ho, hx, hy]
  go_simp
theorem exec_arrB (t i : Tmp) {b j : Nat} (ho : o.op = .indexAddr 46 (.tmp t) (.tmp i)) (hx : ev (.tmp t) = .pointer (some ⟨b, 0, none⟩)) (hi : ev (.tmp i) = .int .i64 (j : Int)) (hj : j < 4) :
    (execOp ev o).run Try.prog w = .ok (.value (.pointer (some ⟨b, j, none⟩))) w := by
  unfold execOp
  simp only [ho, hx, hi]
  rcases (by omega : j = 0 ∨ j = 1 ∨ j = 2 ∨ j = 3) with rfl | rfl | rfl | rfl <;> kernel_rfl
theorem exec_arrA (t i : Tmp) {b j : Nat} (ho : o.op = .indexAddr 45 (.tmp t) (.tmp i)) (hx : ev (.tmp t) = .pointer (some ⟨b, 0, none⟩)) (hi : ev (.tmp i) = .int .i64 (j : Int)) (hj : j < 4) :
    (execOp ev o).run Try.prog w = .ok (.value (.pointer (some ⟨b, j, none⟩))) w := by
  unfold execOp
  simp only [ho, hx, hi]
  rcases (by omega : j = 0 ∨ j = 1 ∨ j = 2 ∨ j = 3) with rfl | rfl | rfl | rfl <;> kernel_rfl
end
end Go.Proofs.Ythknlimhenbhfaa

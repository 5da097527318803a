/- The memory of DiskKeeps: two disks, two rows of four slices. -/
import Derived.Test.YthknlimhenbhfaaDko
namespace Go.Proofs.Ythknlimhenbhfaa
open Go.RowKit Dig
set_option linter.unusedVariables false

/-- Two disks of the program, apart. -/
structure Pair (D : World → Nat → DS → Prop) (fp : World → Nat → Nat → Prop) (w : World) (B g1 g2 : Nat) (s1 s2 : DS) : Prop where
  one1 : One D fp w B g1 s1
  one2 : One D fp w B g2 s2
  apart : ∀ b, fp w g1 b → ¬ fp w g2 b
/-- A row of four slices beside both; the first m of them tell what lies in L; q is another row. -/
structure Row4 (fp : World → Nat → Nat → Prop) (w : World) (g1 g2 gA q : Nat) (R : Nat → Value) (m : Nat) (L : List (List UInt8)) : Prop where
  row : w.heap[gA]? = some (.cells #[R 0, R 1, R 2, R 3] 45 (0, 0))
  far1 : ¬ fp w g1 gA
  far2 : ¬ fp w g2 gA
  ne : gA ≠ q
  told : ∀ k, k < m → Byt w (R k) (L.getD k []) ∧ Asd fp w g1 (R k) ∧ Asd fp w g2 (R k) ∧ (R k).ownBlock ≠ some gA ∧ (R k).ownBlock ≠ some q
section
variable {D : World → Nat → DS → Prop} {fp : World → Nat → Nat → Prop} {w w' : World} {B g1 g2 gA q m : Nat} {s1 s2 s' : DS} {R : Nat → Value} {L : List (List UInt8)} {v : Value} {e : Ending}
theorem Pair.swap (h : Pair D fp w B g1 g2 s1 s2) : Pair D fp w B g2 g1 s2 s1 := ⟨h.one2, h.one1, fun b h1 h2 => h.apart b h2 h1⟩
theorem Pair.sub1 (P : Prog6 D fp) (h : Pair D fp w B g1 g2 s1 s2) (hd : PDk D fp w g1 v s' e w') : D w' g2 s2 ∧ ∀ b, fp w' g2 b → fp w g2 b := by
  obtain ⟨_, _, ⟨_, _, _, t4, t5⟩, hf⟩ := hd
  exact P.keep h.one2.1 t4 (fun b hb hF => t5 b hb (fun h1 => h.apart b h1 hF))
theorem Pair.prog1 (P : Prog6 D fp) (h : Pair D fp w B g1 g2 s1 s2) (hB : B ≤ w.heap.size) (hd : PDk D fp w g1 v s' e w') : e = .returned v ∧ Pair D fp w' B g1 g2 s' s2 ∧ Below B w w' := by
  obtain ⟨he, hO, hb⟩ := h.one1.prog hB hd
  have hk := h.sub1 P hd
  obtain ⟨_, _, ⟨_, _, _, t4, t5⟩, hf⟩ := hd
  refine ⟨he, ⟨hO, ⟨hk.1, fun b hb => h.one2.2 b (hk.2 b hb)⟩, fun b h1 h2 => ?_⟩, hb⟩
  rcases hf b h1 with h3 | h3
  · exact h.apart b h3 (hk.2 b h2)
  · have := P.fpLt h.one2.1 (hk.2 b h2)
    omega
theorem Pair.prog2 (P : Prog6 D fp) (h : Pair D fp w B g1 g2 s1 s2) (hB : B ≤ w.heap.size) (hd : PDk D fp w g2 v s' e w') : e = .returned v ∧ Pair D fp w' B g1 g2 s1 s' ∧ Below B w w' := by
  obtain ⟨h1, h2, h3⟩ := h.swap.prog1 P hB hd
  exact ⟨h1, h2.swap, h3⟩
theorem Pair.below (P : Prog6 D fp) (h : Pair D fp w B g1 g2 s1 s2) (hB : Below w.heap.size w w') : Pair D fp w' B g1 g2 s1 s2 := by
  have k1 := P.keep h.one1.1 hB.size (fun b hb _ => hB.block b hb)
  have k2 := P.keep h.one2.1 hB.size (fun b hb _ => hB.block b hb)
  exact ⟨h.one1.below P hB, h.one2.below P hB, fun b h1 h2 => h.apart b (k1.2 b h1) (k2.2 b h2)⟩
/-- A second disk. -/
theorem Pair.new (P : Prog6 D fp) (h : One D fp w B g1 s1) (hB : B ≤ w.heap.size) (hD : D w' g2 s2) (hb : Below w.heap.size w w') (hf : ∀ b, fp w' g2 b → w.heap.size ≤ b) : Pair D fp w' B g1 g2 s1 s2 :=
  ⟨h.below P hb, ⟨hD, fun b h => Nat.le_trans hB (hf b h)⟩, fun b h1 h2 => h.apart P hb (hf b h2) h1⟩
theorem Row4.swap (h : Row4 fp w g1 g2 gA q R m L) : Row4 fp w g2 g1 gA q R m L := ⟨h.row, h.far2, h.far1, h.ne, fun k hk => by
  obtain ⟨h1, h2, h3, h4⟩ := h.told k hk
  exact ⟨h1, h3, h2, h4⟩⟩
theorem Row4.lt (h : Row4 fp w g1 g2 gA q R m L) : gA < w.heap.size := lt_of_heap h.row
theorem Row4.prog1 (P : Prog6 D fp) (h : Row4 fp w g1 g2 gA q R m L) (hp : Pair D fp w B g1 g2 s1 s2) (hd : PDk D fp w g1 v s' e w') : Row4 fp w' g1 g2 gA q R m L := by
  have hk := hp.sub1 P hd
  have hA := h.lt
  obtain ⟨_, _, ⟨_, _, _, t4, t5⟩, hf⟩ := id hd
  refine ⟨(t5 gA hA h.far1).trans h.row, fun hF => (hf gA hF).elim h.far1 (fun h => by omega), fun hF => h.far2 (hk.2 _ hF), h.ne, fun k hkm => ?_⟩
  obtain ⟨k1, k2, k3, k4⟩ := h.told k hkm
  exact ⟨k1.aside k2 hd, k2.prog hd, fun b hb => ⟨Nat.lt_of_lt_of_le (k3 b hb).1 t4, fun hF => (k3 b hb).2 (hk.2 _ hF)⟩, k4⟩
theorem Row4.prog2 (P : Prog6 D fp) (h : Row4 fp w g1 g2 gA q R m L) (hp : Pair D fp w B g1 g2 s1 s2) (hd : PDk D fp w g2 v s' e w') : Row4 fp w' g1 g2 gA q R m L := (h.swap.prog1 P hp.swap hd).swap
theorem Row4.below (P : Prog6 D fp) (h : Row4 fp w g1 g2 gA q R m L) (hp : Pair D fp w B g1 g2 s1 s2) (hB : Below w.heap.size w w') : Row4 fp w' g1 g2 gA q R m L := by
  have k1 := P.keep hp.one1.1 hB.size (fun b hb _ => hB.block b hb)
  have k2 := P.keep hp.one2.1 hB.size (fun b hb _ => hB.block b hb)
  refine ⟨(hB.block gA h.lt).trans h.row, fun hF => h.far1 (k1.2 _ hF), fun hF => h.far2 (k2.2 _ hF), h.ne, fun k hk => ?_⟩
  obtain ⟨h1, h2, h3, h4⟩ := h.told k hk
  exact ⟨h1.below hB, h2.below P hp.one1.1 hB, h3.below P hp.one2.1 hB, h4⟩
/-- A store into a row that is no disk's. -/
theorem Pair.poke (P : Prog6 D fp) (hp : Pair D fp w B g1 g2 s1 s2) {b : Nat} (i : Nat) (u : Value) (h1 : ¬ fp w g1 b) (h2 : ¬ fp w g2 b) : Pair D fp (w.setCell ⟨b, i, none⟩ u) B g1 g2 s1 s2 ∧ (∀ k, fp (w.setCell ⟨b, i, none⟩ u) g1 k → fp w g1 k) ∧ (∀ k, fp (w.setCell ⟨b, i, none⟩ u) g2 k → fp w g2 k) := by
  have k1 := P.keep (w' := w.setCell ⟨b, i, none⟩ u) hp.one1.1 (by rw [size_set]; exact Nat.le_refl _) (fun k _ hF => Below.heap_setCell w ⟨b, i, none⟩ u k (fun e => h1 (by rw [← show k = b from e]; exact hF)))
  have k2 := P.keep (w' := w.setCell ⟨b, i, none⟩ u) hp.one2.1 (by rw [size_set]; exact Nat.le_refl _) (fun k _ hF => Below.heap_setCell w ⟨b, i, none⟩ u k (fun e => h2 (by rw [← show k = b from e]; exact hF)))
  exact ⟨⟨(hp.one1.poke P i u h1).1, (hp.one2.poke P i u h2).1, fun b a1 a2 => hp.apart b (k1.2 b a1) (k2.2 b a2)⟩, k1.2, k2.2⟩
theorem Row4.put (P : Prog6 D fp) (h : Row4 fp w g1 g2 gA q R m L) (hp : Pair D fp w B g1 g2 s1 s2) (hm : m < 4) {r : Value} (hb : Byt w r (L.getD m [])) (ha : Asd fp w g1 r) (ha2 : Asd fp w g2 r) (h1 : r.ownBlock ≠ some gA) (h2 : r.ownBlock ≠ some q) :
    Row4 fp (w.setCell ⟨gA, m, none⟩ r) g1 g2 gA q (fun k => if k = m then r else R k) (m + 1) L := by
  obtain ⟨_, p1, p2⟩ := hp.poke P m r h.far1 h.far2
  refine ⟨?_, fun hF => h.far1 (p1 _ hF), fun hF => h.far2 (p2 _ hF), h.ne, fun k hk => ?_⟩
  · have hr := h.row
    simp only [World.setCell, Array.getElem?_modify, hr]
    rcases (by omega : m = 0 ∨ m = 1 ∨ m = 2 ∨ m = 3) with rfl | rfl | rfl | rfl <;> simp
  · by_cases e : k = m
    · subst e
      rw [if_pos rfl]
      exact ⟨hb.off k _ h1, fun b hb => ⟨by rw [size_set]; exact (ha b hb).1, fun hF => (ha b hb).2 (p1 _ hF)⟩, fun b hb => ⟨by rw [size_set]; exact (ha2 b hb).1, fun hF => (ha2 b hb).2 (p2 _ hF)⟩, h1, h2⟩
    · rw [if_neg e]
      obtain ⟨k1, k2, k3, k4⟩ := h.told k (by omega)
      exact ⟨k1.off m _ k4.1, fun b hb => ⟨by rw [size_set]; exact (k2 b hb).1, fun hF => (k2 b hb).2 (p1 _ hF)⟩, fun b hb => ⟨by rw [size_set]; exact (k3 b hb).1, fun hF => (k3 b hb).2 (p2 _ hF)⟩, k4⟩
/-- The other row stays. -/
theorem Row4.other (P : Prog6 D fp) (h : Row4 fp w g1 g2 gA q R m L) (hp : Pair D fp w B g1 g2 s1 s2) (i : Nat) (u : Value) (h1 : ¬ fp w g1 q) (h2 : ¬ fp w g2 q) : Row4 fp (w.setCell ⟨q, i, none⟩ u) g1 g2 gA q R m L := by
  obtain ⟨_, p1, p2⟩ := hp.poke P i u h1 h2
  refine ⟨(Below.heap_setCell w ⟨q, i, none⟩ _ gA h.ne).trans h.row, fun hF => h.far1 (p1 _ hF), fun hF => h.far2 (p2 _ hF), h.ne, fun k hk => ?_⟩
  obtain ⟨k1, k2, k3, k4⟩ := h.told k hk
  exact ⟨k1.off i _ k4.2, fun b hb => ⟨by rw [size_set]; exact (k2 b hb).1, fun hF => (k2 b hb).2 (p1 _ hF)⟩, fun b hb => ⟨by rw [size_set]; exact (k3 b hb).1, fun hF => (k3 b hb).2 (p2 _ hF)⟩, k4⟩
theorem Row4.cell (h : Row4 fp w g1 g2 gA q R m L) {j : Nat} (hj : j < 4) : w.cell? ⟨gA, j, none⟩ = some (R j) ∧ w.frozen? ⟨gA, j, none⟩ = false := by
  refine ⟨?_, by simp [World.frozen?, h.row]⟩
  rw [cell_of_row w gA j _ _ (0, 0) h.row]
  rcases (by omega : j = 0 ∨ j = 1 ∨ j = 2 ∨ j = 3) with rfl | rfl | rfl | rfl <;> rfl
/-- Both rows are new. -/
theorem Row4.start (P : Prog6 D fp) (hp : Pair D fp w B g1 g2 s1 s2) (L L' : List (List UInt8)) :
    Row4 fp ((w.alloc (.cells #[.slice none 0 0, .slice none 0 0, .slice none 0 0, .slice none 0 0] 45)).alloc (.cells #[.slice none 0 0, .slice none 0 0, .slice none 0 0, .slice none 0 0] 45)) g1 g2 w.heap.size (w.heap.size + 1) (fun _ => .slice none 0 0) 0 L ∧
    Row4 fp ((w.alloc (.cells #[.slice none 0 0, .slice none 0 0, .slice none 0 0, .slice none 0 0] 45)).alloc (.cells #[.slice none 0 0, .slice none 0 0, .slice none 0 0, .slice none 0 0] 45)) g1 g2 (w.heap.size + 1) w.heap.size (fun _ => .slice none 0 0) 0 L' := by
  have b1 : Below w.heap.size w (w.alloc (.cells #[.slice none 0 0, .slice none 0 0, .slice none 0 0, .slice none 0 0] 45)) := (Below.refl _ _).alloc (Nat.le_refl _) _
  have hs : (w.alloc (.cells #[.slice none 0 0, .slice none 0 0, .slice none 0 0, .slice none 0 0] 45)).heap.size = w.heap.size + 1 := by
    show (w.heap.push _).size = _
    simp
  have b2 : Below (w.alloc (.cells #[.slice none 0 0, .slice none 0 0, .slice none 0 0, .slice none 0 0] 45)).heap.size (w.alloc (.cells #[.slice none 0 0, .slice none 0 0, .slice none 0 0, .slice none 0 0] 45)) ((w.alloc (.cells #[.slice none 0 0, .slice none 0 0, .slice none 0 0, .slice none 0 0] 45)).alloc (.cells #[.slice none 0 0, .slice none 0 0, .slice none 0 0, .slice none 0 0] 45)) := (Below.refl _ _).alloc (Nat.le_refl _) _
  have b3 := below_then b1 b2
  refine ⟨⟨(b2.block _ (by rw [hs]; omega)).trans (by rw [heap_alloc_new]), hp.one1.apart P b3 (Nat.le_refl _), hp.one2.apart P b3 (Nat.le_refl _), by omega, fun k hk => absurd hk (Nat.not_lt_zero k)⟩, ⟨?_, hp.one1.apart P b3 (by omega), hp.one2.apart P b3 (by omega), by omega, fun k hk => absurd hk (Nat.not_lt_zero k)⟩⟩
  rw [← hs, heap_alloc_new]
end
end Go.Proofs.Ythknlimhenbhfaa

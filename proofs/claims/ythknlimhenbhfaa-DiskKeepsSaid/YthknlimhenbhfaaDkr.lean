/- The reference's disk in memory; its methods fails, FailAfter, PowerOn. -/
import Derived.Test.YthknlimhenbhfaaCel
import Derived.Test.YthknlimhenbhfaaDkp
namespace Go.Proofs.Ythknlimhenbhfaa
open Go.RowKit Dig
set_option linter.unusedVariables false

/-- Sectors as cells. -/
def secC (L : List (List UInt8)) : List Value := (L.map Y).flatten
/-- Pending writes as cells. -/
def penC (P : List (Nat × List UInt8)) : List Value := (P.map fun p => Value.int .i64 (p.1 : Int) :: Y p.2).flatten
/-- The fields of a disk. -/
def Dkc (w : World) (T : TypeId) (g : Nat) (v1 v2 : Value) (off armed : Bool) (z : Int) : Prop := w.heap[g]? = some (.cells #[v1, v2, .bool off, .bool armed, .int .i64 z] T (0, 0))
section
variable {w w' : World} {T : TypeId} {g : Nat} {v1 v2 x : Value} {off armed b : Bool} {z y : Int}
theorem Dkc.lt (h : Dkc w T g v1 v2 off armed z) : g < w.heap.size := lt_of_heap h
theorem Dkc.cells (h : Dkc w T g v1 v2 off armed z) : w.cell? ⟨g, 0, none⟩ = some v1 ∧ w.cell? ⟨g, 1, none⟩ = some v2 ∧ w.cell? ⟨g, 2, none⟩ = some (.bool off) ∧ w.cell? ⟨g, 3, none⟩ = some (.bool armed) ∧ w.cell? ⟨g, 4, none⟩ = some (.int .i64 z) := by
  unfold Dkc at h
  refine ⟨?_, ?_, ?_, ?_, ?_⟩ <;> rw [cell_of_row w g _ _ _ (0, 0) h] <;> rfl
theorem Dkc.thaw (h : Dkc w T g v1 v2 off armed z) (i : Nat) : w.frozen? ⟨g, i, none⟩ = false := by
  unfold Dkc at h
  simp [World.frozen?, h]
theorem Dkc.below (h : Dkc w T g v1 v2 off armed z) (hB : Below w.heap.size w w') : Dkc w' T g v1 v2 off armed z := by
  have hlt := h.lt
  unfold Dkc at h ⊢
  rw [hB.block g hlt]
  exact h
theorem Dkc.put0 (h : Dkc w T g v1 v2 off armed z) (u : Value) : Dkc (w.setCell ⟨g, 0, none⟩ u) T g u v2 off armed z := by
  unfold Dkc at h ⊢
  simp [World.setCell, Array.getElem?_modify, h]
theorem Dkc.put1 (h : Dkc w T g v1 v2 off armed z) (u : Value) : Dkc (w.setCell ⟨g, 1, none⟩ u) T g v1 u off armed z := by
  unfold Dkc at h ⊢
  simp [World.setCell, Array.getElem?_modify, h]
theorem Dkc.put2 (h : Dkc w T g v1 v2 off armed z) (b : Bool) : Dkc (w.setCell ⟨g, 2, none⟩ (.bool b)) T g v1 v2 b armed z := by
  unfold Dkc at h ⊢
  simp [World.setCell, Array.getElem?_modify, h]
theorem Dkc.put3 (h : Dkc w T g v1 v2 off armed z) (b : Bool) : Dkc (w.setCell ⟨g, 3, none⟩ (.bool b)) T g v1 v2 off b z := by
  unfold Dkc at h ⊢
  simp [World.setCell, Array.getElem?_modify, h]
theorem Dkc.put4 (h : Dkc w T g v1 v2 off armed z) (y : Int) : Dkc (w.setCell ⟨g, 4, none⟩ (.int .i64 y)) T g v1 v2 off armed y := by
  unfold Dkc at h ⊢
  simp [World.setCell, Array.getElem?_modify, h]
theorem grown_put' (w : World) (g i : Nat) (u : Value) : w.grownBy (w.setCell ⟨g, i, none⟩ u) (some g) := grown_set (World.grownBy.refl w _) i u
end
/-- The reference's disk at g is in the state s. -/
def DskR (w : World) (g : Nat) (s : DS) : Prop := okDS s ∧ ∃ v1 v2, Dkc w 64 g v1 v2 s.off s.armed (s.left : Int) ∧ Cel w v1 64 s.dur.length (secC s.dur) ∧ Cel w v2 65 s.pend.length (penC s.pend) ∧ v1.ownBlock ≠ some g ∧ v2.ownBlock ≠ some g ∧ (∀ b, v1.ownBlock = some b ∨ v2.ownBlock = some b → b < w.heap.size)
section
variable {w w' : World} {g : Nat} {s : DS} {v1 v2 : Value}
theorem DskR.lt (h : DskR w g s) : g < w.heap.size := by
  obtain ⟨_, v1, v2, h1, _⟩ := h
  exact h1.lt
theorem DskR.below (h : DskR w g s) (hB : Below w.heap.size w w') : DskR w' g s := by
  obtain ⟨h0, v1, v2, h1, h2, h3, h4, h5, h6⟩ := h
  exact ⟨h0, v1, v2, h1.below hB, h2.below hB, h3.below hB, h4, h5, fun b e => Nat.lt_of_lt_of_le (h6 b e) hB.size⟩
/-- The blocks of a disk. -/
def foot (w : World) (g b : Nat) : Prop := b = g ∨ ∃ v, (w.cell? ⟨g, 0, none⟩ = some v ∨ w.cell? ⟨g, 1, none⟩ = some v) ∧ v.ownBlock = some b
/-- Its blocks are those that it had, or new ones. -/
def Feet (w w' : World) (g : Nat) : Prop := ∀ b, foot w' g b → foot w g b ∨ w.heap.size ≤ b
theorem Feet.refl (w : World) (g : Nat) : Feet w w g := fun b h => .inl h
theorem Feet.trans {w1 w2 : World} (h : Feet w w1 g) (h2 : Feet w1 w2 g) (hs : w.heap.size ≤ w1.heap.size) : Feet w w2 g := fun b hb => (h2 b hb).elim (h b) fun h3 => .inr (Nat.le_trans hs h3)
theorem foot_of {T : TypeId} {off armed : Bool} {z : Int} {b : Nat} (h : Dkc w T g v1 v2 off armed z) : foot w g b ↔ b = g ∨ v1.ownBlock = some b ∨ v2.ownBlock = some b := by
  obtain ⟨c0, c1, -⟩ := h.cells
  unfold foot
  rw [c0, c1]
  constructor
  · rintro (h | ⟨v, h | h, hv⟩)
    · exact .inl h
    · injection h with h
      rw [h]
      exact .inr (.inl hv)
    · injection h with h
      rw [h]
      exact .inr (.inr hv)
  · rintro (h | h | h)
    · exact .inl h
    · exact .inr ⟨v1, .inl rfl, h⟩
    · exact .inr ⟨v2, .inr rfl, h⟩
/-- A disk stays when its blocks stay. -/
theorem DskR.keep (h : DskR w g s) (hs : w.heap.size ≤ w'.heap.size) (hk : ∀ b, b < w.heap.size → foot w g b → w'.heap[b]? = w.heap[b]?) : DskR w' g s ∧ ∀ b, foot w' g b → foot w g b := by
  obtain ⟨h0, v1, v2, h1, h2, h3, h4, h5, h6⟩ := h
  have hc : Dkc w' 64 g v1 v2 s.off s.armed (s.left : Int) := by
    have hg := hk g h1.lt (.inl rfl)
    unfold Dkc at h1 ⊢
    rw [hg]
    exact h1
  exact ⟨⟨h0, v1, v2, hc, h2.keep hs (fun b hb hv => hk b hb ((foot_of h1).2 (.inr (.inl hv)))), h3.keep hs (fun b hb hv => hk b hb ((foot_of h1).2 (.inr (.inr hv)))), h4, h5, fun b e => Nat.lt_of_lt_of_le (h6 b e) hs⟩, fun b hb => (foot_of h1).2 ((foot_of hc).1 hb)⟩
theorem DskR.footLt (h : DskR w g s) {b : Nat} (hb : foot w g b) : b < w.heap.size := by
  obtain ⟨h0, v1, v2, h1, h2, h3, h4, h5, h6⟩ := h
  rcases (foot_of h1).1 hb with h | h | h
  · rw [h]; exact h1.lt
  · exact h6 b (.inl h)
  · exact h6 b (.inr h)
/-- The state behind a change of fields alone. -/
theorem DskR.fields {off armed : Bool} {z : Nat} (h : DskR w g s) (hc : ∀ v1 v2, Dkc w 64 g v1 v2 s.off s.armed (s.left : Int) → Dkc w' 64 g v1 v2 off armed (z : Int)) (hg : w.grownBy w' (some g)) (hz : z ≤ 9223372036854775807) :
    DskR w' g { s with off := off, armed := armed, left := z } ∧ Feet w w' g := by
  obtain ⟨h0, v1, v2, h1, h2, h3, h4, h5, h6⟩ := h
  exact ⟨⟨⟨h0.1, h0.2.1, hz⟩, v1, v2, hc v1 v2 h1, h2.grown hg (fun b hb e => h4 (hb.trans e.symm)), h3.grown hg (fun b hb e => h5 (hb.trans e.symm)), h4, h5, fun b e => Nat.lt_of_lt_of_le (h6 b e) hg.size⟩, fun b hb => .inl ((foot_of h1).2 ((foot_of (hc v1 v2 h1)).1 hb))⟩
/-- What a method of the disk at g hands back and leaves. -/
def RDk (w : World) (g : Nat) (v : Value) (s : DS) (e : Ending) (w' : World) : Prop := e = .returned v ∧ DskR w' g s ∧ w.grownBy w' (some g) ∧ Feet w w' g
set_option maxHeartbeats 1000000 in
theorem rfails_c (h : DskR w g s) : Calls Try.prog 38 #[.pointer (some ⟨g, 0, none⟩)] w (RDk w g (.bool (failsS s).1) (failsS s).2) := by
  have H := Lib.hid h
  have hl := h.1.2.2
  obtain ⟨_, v1, v2, hc, _⟩ := h
  obtain ⟨-, -, c2, c3, c4⟩ := hc.cells
  have z3 := hc.thaw 3
  have z2 := hc.thaw 2
  have z4 := hc.thaw 4
  unfold failsS
  by_cases ha : s.armed = false
  · rw [ha] at c3
    rw [if_pos ha]
    clear hl hc c4 z3 z4 z2 c2
    go_enter Try.func38, Try.ntmps38
    go_wp2_with fail
    go_ret
    exact ⟨rfl, H.out, World.grownBy.refl _ _, Feet.refl _ _⟩
  · have ha' : s.armed = true := by simpa using ha
    rw [if_neg ha]
    rw [ha'] at c3
    by_cases hz : 0 < s.left
    · rw [if_pos hz]
      have hzi : (0 : Int) < s.left := by omega
      have hli : (s.left : Int) ≤ 9223372036854775807 := by omega
      clear hl hc ha ha' z3 z2 c2
      go_enter Try.func38, Try.ntmps38
      go_wp2_with fail
      go_ret
      have e : ((s.left - 1 : Nat) : Int) = (s.left : Int) - 1 := by omega
      have := H.out.fields (w' := w.setCell ⟨g, 4, none⟩ (.int .i64 ((s.left : Int) - 1))) (z := s.left - 1) (fun v1 v2 hc => by rw [e]; exact hc.put4 _) (grown_put' _ _ _ _) (by omega)
      exact ⟨rfl, this.1, grown_put' _ _ _ _, this.2⟩
    · rw [if_neg hz]
      have hzi : ¬ (0 : Int) < s.left := by omega
      clear hl hc ha ha' 
      go_enter Try.func38, Try.ntmps38
      go_wp2_with fail
      go_ret
      have hf := H.out.fields (z := s.left) (fun v1 v2 hc => (hc.put3 false).put2 true) (grown_set (grown_put' _ _ _ _) _ _) H.out.1.2.2
      exact ⟨rfl, hf.1, grown_set (grown_put' _ _ _ _) _ _, hf.2⟩
theorem rfailAfter_c (h : DskR w g s) (n : Int) (h1 : -9223372036854775808 ≤ n) (h2 : n ≤ 9223372036854775807) : Calls Try.prog 26 #[.pointer (some ⟨g, 0, none⟩), .int .i64 n] w (RDk w g (.tuple #[]) (failAfterS s n)) := by
  have H := Lib.hid h
  obtain ⟨_, v1, v2, hc, _⟩ := h
  obtain ⟨-, -, c2, c3, c4⟩ := hc.cells
  have z3 := hc.thaw 3
  have z4 := hc.thaw 4
  clear hc
  unfold failAfterS
  by_cases hn : 0 ≤ n
  · have hd : decide (0 ≤ n) = true := by simpa using hn
    have hm : ¬ 0 > n := by omega
    obtain ⟨m, rfl⟩ := Int.eq_ofNat_of_zero_le hn
    have hmm := Lib.hid h2
    clear h1 h2
    go_enter Try.func26, Try.ntmps26
    go_wp2_with fail
    go_end0
    have hf := H.out.fields (armed := true) (z := m) (fun v1 v2 hc => (hc.put3 true).put4 _) (grown_set (grown_put' _ _ _ _) _ _) (by have := hmm.out; omega)
    exact ⟨rfl, hf.1, grown_set (grown_put' _ _ _ _) _ _, hf.2⟩
  · have hd : decide (0 ≤ n) = false := by simpa using hn
    have hm : 0 > n := by omega
    rw [hd, show n.toNat = 0 by omega]
    clear h1 h2 hn
    go_enter Try.func26, Try.ntmps26
    go_wp2_with fail
    go_end0
    have hf := H.out.fields (armed := false) (z := 0) (fun v1 v2 hc => (hc.put3 false).put4 _) (grown_set (grown_put' _ _ _ _) _ _) (by omega)
    exact ⟨rfl, hf.1, grown_set (grown_put' _ _ _ _) _ _, hf.2⟩
theorem rpower_c (h : DskR w g s) : Calls Try.prog 28 #[.pointer (some ⟨g, 0, none⟩)] w (RDk w g (.tuple #[]) (powerS s)) := by
  have H := Lib.hid h
  obtain ⟨_, v1, v2, hc, _⟩ := h
  obtain ⟨-, -, c2, c3, c4⟩ := hc.cells
  have z3 := hc.thaw 3
  have z2 := hc.thaw 2
  clear hc
  unfold powerS
  go_enter Try.func28, Try.ntmps28
  go_wp2_with fail
  go_end0
  have hf := H.out.fields (z := s.left) (fun v1 v2 hc => (hc.put2 false).put3 false) (grown_set (grown_put' _ _ _ _) _ _) H.out.1.2.2
  exact ⟨rfl, hf.1, grown_set (grown_put' _ _ _ _) _ _, hf.2⟩
end
end Go.Proofs.Ythknlimhenbhfaa

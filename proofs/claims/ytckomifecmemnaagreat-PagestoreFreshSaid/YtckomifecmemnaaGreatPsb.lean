/- The reference's page store in memory: lists of pages, kept versions, the store's fields. -/
import Derived.Test.YtckomifecmemnaaGreatPsa
import Derived.Test.YtckomifecmemnaaGreatDqo
namespace Go.Proofs.YtckomifecmemnaaGreat
open Go.RowKit Dig
set_option linter.unusedVariables false

/-- Bytes that lie in the blocks R. -/
def BytR (w : World) (R : Nat → Prop) (v : Value) (ts : List UInt8) : Prop := Byt w v ts ∧ (0 < ts.length → ∀ b, v.ownBlock = some b → R b)
abbrev PgE := Pg × Value
/-- The cells of pages: a number, and a slice of bytes. -/
def pgC (es : List PgE) : List Value := (es.map fun e => [Value.int .i64 (e.1.1 : Int), e.2]).flatten
theorem pgC_length (es : List PgE) : (pgC es).length = es.length * 2 := flat_length (fun e : PgE => [Value.int .i64 (e.1.1 : Int), e.2]) es fun _ _ => rfl
theorem pgC_snoc (es : List PgE) (e : PgE) : pgC (es ++ [e]) = pgC es ++ [Value.int .i64 (e.1.1 : Int), e.2] := by simp [pgC]
theorem pgC_part {es : List PgE} {i : Nat} (hi : i < es.length) : ((pgC es).drop (i * 2)).take 2 = [Value.int .i64 (es[i].1.1 : Int), es[i].2] :=
  flat_part (fun e : PgE => [Value.int .i64 (e.1.1 : Int), e.2]) es i hi fun _ _ => rfl
/-- A list of pages in the blocks R. -/
def PgsV (w : World) (R : Nat → Prop) (v : Value) (l : List Pg) : Prop :=
  ∃ es : List PgE, es.map (·.1) = l ∧ Cel w v 2 es.length (pgC es) ∧ (0 < es.length → ∀ b, v.ownBlock = some b → R b) ∧ ∀ e ∈ es, BytR w R e.2 e.1.2
/-- A list of pages that is a row of a call's own. -/
def PgO (w : World) (base : Nat) (R : Nat → Prop) (v : Value) (l : List Pg) : Prop :=
  ∃ es : List PgE, es.map (·.1) = l ∧ w.ownsRow base 80 2 v es.length (pgC es) ∧ ∀ e ∈ es, BytR w R e.2 e.1.2
abbrev KpE := List Pg × Value
/-- The kept versions in the blocks R. -/
def KepV (w : World) (R : Nat → Prop) (v : Value) (L : List (List Pg)) : Prop :=
  ∃ ks : List KpE, ks.map (·.1) = L ∧ Cel w v 1 ks.length (ks.map (·.2)) ∧ (0 < ks.length → ∀ b, v.ownBlock = some b → R b) ∧ ∀ k ∈ ks, PgsV w R k.2 k.1
/-- The fields of the reference's store. -/
def StoC (w : World) (m : Nat) (n : Nat) (kv wv : Value) : Prop := w.heap[m]? = some (.cells #[.int .i64 (n : Int), kv, wv] 78 (0, 0))
/-- The reference's store at m: all that it reaches lies in R. -/
def RSto (w : World) (R : Nat → Prop) (m : Nat) (s : SS) : Prop :=
  okSS s ∧ R m ∧ (∀ b, R b → b < w.heap.size) ∧ ∃ kv wv, StoC w m s.last kv wv ∧ KepV w (fun b => R b ∧ b ≠ m) kv s.kept ∧ PgsV w (fun b => R b ∧ b ≠ m) wv s.work
section
variable {w w' : World} {R R' : Nat → Prop} {v : Value} {ts : List UInt8} {l : List Pg} {L : List (List Pg)} {m n base : Nat} {kv wv u : Value} {s : SS}
theorem BytR.keep (h : BytR w R v ts) (hs : w.heap.size ≤ w'.heap.size) (hk : ∀ b, b < w.heap.size → R b → w'.heap[b]? = w.heap[b]?) (hR : ∀ b, R b → R' b) : BytR w' R' v ts := by
  obtain ⟨⟨A, c, e, h2, h3, h5⟩, hr⟩ := h
  refine ⟨⟨A, c, e, h2, h3, fun hp => ?_⟩, fun hp b hb => hR b (hr hp b hb)⟩
  obtain ⟨b, off, e1, hb, hc⟩ := h5 hp
  have hR' := hr hp b (by rw [e, e1]; rfl)
  refine ⟨b, off, e1, by omega, fun j hj => ?_⟩
  rw [World.cell?_of_block (a := ⟨b, off + j, none⟩) (hk b hb hR')]
  exact hc j hj
theorem PgsV.keep (h : PgsV w R v l) (hs : w.heap.size ≤ w'.heap.size) (hk : ∀ b, b < w.heap.size → R b → w'.heap[b]? = w.heap[b]?) (hR : ∀ b, R b → R' b) : PgsV w' R' v l := by
  obtain ⟨es, e1, hc, hr, hb⟩ := h
  refine ⟨es, e1, ?_, fun hp b hv => hR b (hr hp b hv), fun e he => (hb e he).keep hs hk hR⟩
  obtain ⟨hl, A, c, e2, h1, h2, h3⟩ := hc
  refine ⟨hl, A, c, e2, h1, h2, fun hp => ?_⟩
  obtain ⟨b, off, e3, hb, hrg⟩ := h3 hp
  have hR' := hr hp b (by rw [e2, e3]; rfl)
  refine ⟨b, off, e3, by omega, fun j u hj => ?_⟩
  rw [World.cell?_of_block (a := ⟨b, off + j, none⟩) (hk b hb hR')]
  exact hrg j u hj
theorem KepV.keep (h : KepV w R v L) (hs : w.heap.size ≤ w'.heap.size) (hk : ∀ b, b < w.heap.size → R b → w'.heap[b]? = w.heap[b]?) (hR : ∀ b, R b → R' b) : KepV w' R' v L := by
  obtain ⟨es, e1, hc, hr, hb⟩ := h
  refine ⟨es, e1, ?_, fun hp b hv => hR b (hr hp b hv), fun e he => (hb e he).keep hs hk hR⟩
  obtain ⟨hl, A, c, e2, h1, h2, h3⟩ := hc
  refine ⟨hl, A, c, e2, h1, h2, fun hp => ?_⟩
  obtain ⟨b, off, e3, hb, hrg⟩ := h3 hp
  have hR' := hr hp b (by rw [e2, e3]; rfl)
  refine ⟨b, off, e3, by omega, fun j u hj => ?_⟩
  rw [World.cell?_of_block (a := ⟨b, off + j, none⟩) (hk b hb hR')]
  exact hrg j u hj
theorem BytR.below (h : BytR w R v ts) (hB : Below w.heap.size w w') : BytR w' R v ts := h.keep hB.size (fun b hb _ => hB.block b hb) fun _ h => h
theorem PgsV.below (h : PgsV w R v l) (hB : Below w.heap.size w w') : PgsV w' R v l := h.keep hB.size (fun b hb _ => hB.block b hb) fun _ h => h
theorem KepV.below (h : KepV w R v L) (hB : Below w.heap.size w w') : KepV w' R v L := h.keep hB.size (fun b hb _ => hB.block b hb) fun _ h => h
theorem PgsV.wide (h : PgsV w R v l) (hR : ∀ b, R b → R' b) : PgsV w R' v l := h.keep (Nat.le_refl _) (fun _ _ _ => rfl) hR
theorem KepV.wide (h : KepV w R v L) (hR : ∀ b, R b → R' b) : KepV w R' v L := h.keep (Nat.le_refl _) (fun _ _ _ => rfl) hR
theorem PgO.pgs (h : PgO w base R v l) (hR : ∀ b, v.ownBlock = some b → R b) : PgsV w R v l := by
  obtain ⟨es, e1, ho, hb⟩ := h
  exact ⟨es, e1, own_cel ho, fun _ b hv => hR b hv, hb⟩
theorem PgsV.form (h : PgsV w R v l) : ∃ A c, v = .slice A l.length c := by
  obtain ⟨es, rfl, hc, _⟩ := h
  obtain ⟨A, c, e⟩ := hc.form
  exact ⟨A, c, by rw [List.length_map]; exact e⟩
theorem KepV.form (h : KepV w R v L) : ∃ A c, v = .slice A L.length c := by
  obtain ⟨es, rfl, hc, _⟩ := h
  obtain ⟨A, c, e⟩ := hc.form
  exact ⟨A, c, by rw [List.length_map]; exact e⟩
/-- One page of a list. -/
theorem PgsV.at' {A : Option Addr} {k c : Nat} (h : PgsV w R (.slice A k c) l) {j : Nat} (hj : j < l.length) : ∃ b off vb, A = some ⟨b, off, none⟩ ∧ b < w.heap.size ∧ w.rangeAt b (off + j * 2) [Value.int .i64 (l[j].1 : Int), vb] ∧ BytR w R vb l[j].2 := by
  obtain ⟨es, rfl, hc, hr, hb⟩ := h
  have hje : j < es.length := by simpa using hj
  have hl := hc.bounds.1
  subst hl
  obtain ⟨b, off, rfl, hbl, hrg⟩ := hc.range (by omega)
  have hrp := range_part hrg (j * 2) 2
  rw [pgC_part hje] at hrp
  refine ⟨b, off, es[j].2, rfl, hbl, ?_, ?_⟩
  · rw [List.getElem_map]
    exact hrp
  · rw [List.getElem_map]
    exact hb _ (List.getElem_mem hje)
/-- One version of the kept ones. -/
theorem KepV.at' {A : Option Addr} {k c : Nat} (h : KepV w R (.slice A k c) L) {j : Nat} (hj : j < L.length) : ∃ b off vb, A = some ⟨b, off, none⟩ ∧ b < w.heap.size ∧ w.cell? ⟨b, off + j, none⟩ = some vb ∧ PgsV w R vb L[j] := by
  obtain ⟨ks, rfl, hc, hr, hb⟩ := h
  have hje : j < ks.length := by simpa using hj
  have hl := hc.bounds.1
  subst hl
  obtain ⟨b, off, rfl, hbl, hrg⟩ := hc.range (by omega)
  refine ⟨b, off, ks[j].2, rfl, hbl, hrg j _ (by simp [hje]), ?_⟩
  rw [List.getElem_map]
  exact hb _ (List.getElem_mem hje)
theorem StoC.lt (h : StoC w m n kv wv) : m < w.heap.size := lt_of_heap h
theorem StoC.cells (h : StoC w m n kv wv) : w.cell? ⟨m, 0, none⟩ = some (.int .i64 (n : Int)) ∧ w.cell? ⟨m, 1, none⟩ = some kv ∧ w.cell? ⟨m, 2, none⟩ = some wv := by
  unfold StoC at h
  refine ⟨?_, ?_, ?_⟩ <;> rw [cell_of_row w m _ _ _ (0, 0) h] <;> rfl
theorem StoC.thaw (h : StoC w m n kv wv) (i : Nat) : w.frozen? ⟨m, i, none⟩ = false := by
  unfold StoC at h
  simp [World.frozen?, h]
theorem StoC.keepB (h : StoC w m n kv wv) (hk : w'.heap[m]? = w.heap[m]?) : StoC w' m n kv wv := by
  unfold StoC at h ⊢
  rw [hk]
  exact h
theorem StoC.put0 (h : StoC w m n kv wv) (k : Nat) : StoC (w.setCell ⟨m, 0, none⟩ (.int .i64 (k : Int))) m k kv wv := by
  unfold StoC at h ⊢
  simp [World.setCell, Array.getElem?_modify, h]
theorem StoC.put1 (h : StoC w m n kv wv) (u : Value) : StoC (w.setCell ⟨m, 1, none⟩ u) m n u wv := by
  unfold StoC at h ⊢
  simp [World.setCell, Array.getElem?_modify, h]
theorem StoC.put2 (h : StoC w m n kv wv) (u : Value) : StoC (w.setCell ⟨m, 2, none⟩ u) m n kv u := by
  unfold StoC at h ⊢
  simp [World.setCell, Array.getElem?_modify, h]
theorem RSto.keep (h : RSto w R m s) (hs : w.heap.size ≤ w'.heap.size) (hk : ∀ b, R b → w'.heap[b]? = w.heap[b]?) : RSto w' R m s := by
  obtain ⟨h0, h1, h2, kv, wv, hc, hK, hW⟩ := h
  exact ⟨h0, h1, fun b hb => Nat.lt_of_lt_of_le (h2 b hb) hs, kv, wv, hc.keepB (hk m h1), hK.keep hs (fun b _ hb => hk b hb.1) fun _ h => h, hW.keep hs (fun b _ hb => hk b hb.1) fun _ h => h⟩
theorem RSto.below (h : RSto w R m s) (hB : Below w.heap.size w w') : RSto w' R m s := h.keep hB.size fun b hb => hB.block b (h.2.2.1 b hb)
end
/-- The blocks R and those that are new. -/
def MoreR (R : Nat → Prop) (w w' : World) (b : Nat) : Prop := R b ∨ (w.heap.size ≤ b ∧ b < w'.heap.size)
/-- What a method of the reference's store hands back and leaves. -/
def RSd (w : World) (R : Nat → Prop) (m : Nat) (v : Value) (s : SS) (e : Ending) (w' : World) : Prop := e = .returned v ∧ RSto w' (MoreR R w w') m s ∧ Turn (fun b => b = m) w w'
end Go.Proofs.YtckomifecmemnaaGreat

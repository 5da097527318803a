/- The program's disk in memory, however many writes are pending. -/
import Derived.Maps.RangeWalk
import Derived.Test.YtckomifecmemnaaGreatDqa
namespace Go.Proofs.YtckomifecmemnaaGreat
open Go.RowKit Dig Go.ChangeMaps
set_option linter.unusedVariables false

/-- A row of all sectors. -/
def rowV (b n : Nat) : Value := .slice (some ⟨b, 0, none⟩) (n * 64) (n * 64)
/-- All sectors in one block. -/
def SecB (w : World) (b : Nat) (L : List (List UInt8)) : Prop := w.heap[b]? = some (.cells (secC L).toArray 5 (0, 0))
abbrev Ent := (Nat × List UInt8) × Nat
/-- The cells of pending writes: a place, and 64 bytes of their own. -/
def entC (es : List Ent) : List Value := (es.map fun e => [Value.int .i64 (e.1.1 : Int), .slice (some ⟨e.2, 0, none⟩) 64 64]).flatten
theorem entC_length (es : List Ent) : (entC es).length = es.length * 2 := flat_length (fun e : Ent => [Value.int .i64 (e.1.1 : Int), .slice (some ⟨e.2, 0, none⟩) 64 64]) es fun _ _ => rfl
theorem entC_snoc (es : List Ent) (e : Ent) : entC (es ++ [e]) = entC es ++ [Value.int .i64 (e.1.1 : Int), .slice (some ⟨e.2, 0, none⟩) 64 64] := by simp [entC]
theorem entC_one (es : List Ent) : ∀ u ∈ entC es, u.oneCell' = true := by
  intro u hu
  obtain ⟨l, hl, hu⟩ := List.mem_flatten.1 hu
  obtain ⟨x, _, rfl⟩ := List.mem_map.1 hl
  simp only [List.mem_cons, List.not_mem_nil, or_false] at hu
  rcases hu with rfl | rfl <;> rfl
theorem entC_part {es : List Ent} {i : Nat} (hi : i < es.length) : ((entC es).drop (i * 2)).take 2 = [Value.int .i64 (es[i].1.1 : Int), .slice (some ⟨es[i].2, 0, none⟩) 64 64] :=
  flat_part (fun e : Ent => [Value.int .i64 (e.1.1 : Int), .slice (some ⟨e.2, 0, none⟩) 64 64]) es i hi fun _ _ => rfl
section
variable {w w' : World} {g bd bv k n : Nat} {ve v u : Value} {on on' : Bool} {c c' : Int} {es : List Ent} {L V : List (List UInt8)} {e : TypeId} {base : Nat} {vs : List Value}
theorem SecB.lt (h : SecB w bd L) : bd < w.heap.size := lt_of_heap h
theorem own_keep (h : w.ownsRow base e k v n vs) (hk : ∀ b, b < w.heap.size → v.ownBlock = some b → w'.heap[b]? = w.heap[b]?) : w'.ownsRow base e k v n vs := by
  obtain ⟨hl, h⟩ := h
  refine ⟨hl, ?_⟩
  rcases h with h | ⟨g, cap, cur, e1, hg, hh, r⟩
  · exact .inl h
  · exact .inr ⟨g, cap, cur, e1, hg, by rw [hk g (lt_of_heap hh) (by rw [e1]; rfl)]; exact hh, r⟩
theorem LetB.keepB {b : Nat} {ts : List UInt8} (h : LetB w b ts) (hk : w'.heap[b]? = w.heap[b]?) : LetB w' b ts := by
  unfold LetB at h ⊢
  rw [hk]
  exact h
theorem SecB.keepB {b : Nat} (h : SecB w b L) (hk : w'.heap[b]? = w.heap[b]?) : SecB w' b L := by
  unfold SecB at h ⊢
  rw [hk]
  exact h
end
/-! ### The map of the writes between -/
/-- How an element of the map reads: by its block. -/
def blkR (v : Value) : Option (DataW Unit × List MemPlace) :=
  match v with
  | .slice (some ⟨b, 0, none⟩) 64 64 => some (.lit (.int .i64 (b : Int)), [])
  | _ => none
theorem blkR_of (b : Nat) : blkR (.slice (some ⟨b, 0, none⟩) 64 64) = some (.lit (.int .i64 (b : Int)), []) := rfl
theorem blkR_inv {v : Value} {y : DataW Unit × List MemPlace} (h : blkR v = some y) : ∃ b : Nat, v = .slice (some ⟨b, 0, none⟩) 64 64 ∧ y = (.lit (.int .i64 (b : Int)), []) := by
  unfold blkR at h
  split at h
  · cases h
    exact ⟨_, rfl, rfl⟩
  · cases h
theorem int_key : Maps.Keyed Tryz.prog 3 := Maps.int_keyed Tryz.underlying3
theorem key_of {k : Nat} (hk : k ≤ 1000000) : keyOf Tryz.prog 3 (.int .i64 (k : Int)) = some (.int .i64 (k : Int)) := by
  have hw : (Lit.int .i64 (k : Int)).wf = true := by
    have e1 : IntKind.i64.min = -9223372036854775808 := by decide
    have e2 : IntKind.i64.max = 9223372036854775807 := by decide
    simp [Lit.wf]
    omega
  simp [keyOf, mapKey, Tryz.underlying3, hw]
/-- The map D holds, for each sector that ms name, the block of the last write to it. -/
def Holds (w : World) (G : Nat → Prop) (D : DataW Unit) (ms : List (Nat × List UInt8)) : Prop :=
  (∀ x : Int, Maps.has D (.int .i64 x) = true → ∃ (k : Nat) (c : List UInt8), x = (k : Int) ∧ lastAt ms k = some c) ∧
  ∀ k c, lastAt ms k = some c → Maps.has D (.int .i64 (k : Int)) = true ∧ ∃ b : Nat, (∀ zd, D.atKey (.int .i64 (k : Int)) zd = .lit (.int .i64 (b : Int))) ∧ LetB w b c ∧ G b
theorem holds_start (w : World) (G : Nat → Prop) : Holds w G (.map []) [] := ⟨fun x h => (by cases h), fun k c h => (by cases h)⟩
section
variable {w w' : World} {G G' : Nat → Prop} {D : DataW Unit} {ms : List (Nat × List UInt8)} {p : Nat × List UInt8} {b : Nat}
theorem Holds.put (h : Holds w G D ms) (hD : Maps.IsMap D) (hp : p.1 ≤ 1000000) (hb : LetB w b p.2) (hG : G b) : Holds w G (D.put (.int .i64 (p.1 : Int)) (.lit (.int .i64 (b : Int)))) (ms ++ [p]) := by
  have hk := int_key.key (key_of hp)
  refine ⟨fun x hx => ?_, fun k c hc => ?_⟩
  · by_cases e : x = (p.1 : Int)
    · exact ⟨p.1, p.2, e, by rw [lastAt_snoc, if_pos rfl]⟩
    · rw [Maps.has_put_other (by intro e2; injection e2 with _ e2; exact e e2)] at hx
      obtain ⟨k, c, e1, e2⟩ := h.1 x hx
      exact ⟨k, c, e1, by rw [lastAt_snoc, if_neg (fun e3 => e (by rw [e1, e3]))]; exact e2⟩
  · rw [lastAt_snoc] at hc
    by_cases e : p.1 = k
    · subst e
      rw [if_pos rfl] at hc
      injection hc with hc
      subst hc
      exact ⟨Maps.has_put_same hD hk _, b, fun zd => Maps.atKey_put_same hD hk _ zd, hb, hG⟩
    · rw [if_neg e] at hc
      obtain ⟨h1, b', h2, h3, h4⟩ := h.2 k c hc
      have hne : Lit.int .i64 (k : Int) ≠ .int .i64 (p.1 : Int) := by intro e2; injection e2 with _ e2; exact e (by omega)
      exact ⟨by rw [Maps.has_put_other hne]; exact h1, b', fun zd => by rw [Maps.atKey_put_other hne]; exact h2 zd, h3, h4⟩
theorem Holds.keep (h : Holds w G D ms) (hk : ∀ b, b < w.heap.size → G b → w'.heap[b]? = w.heap[b]?) (hG : ∀ b, b < w.heap.size → G b → G' b) : Holds w' G' D ms := ⟨h.1, fun k c hc => by
  obtain ⟨h1, b, h2, h3, h4⟩ := h.2 k c hc
  exact ⟨h1, b, h2, h3.keepB (hk b h3.lt h4), hG b h3.lt h4⟩⟩
end
/-- The field that holds the map: nil until there is a write between. -/
def MapL (w : World) (G : Nat → Prop) (mv : Value) (ms : List (Nat × List UInt8)) : Prop :=
  (ms = [] ∧ mv = .map none) ∨ ∃ (bm n : Nat) (D : DataW Unit), ms ≠ [] ∧ mv = .map (some bm) ∧ G bm ∧ w.ownsMap Tryz.prog 3 blkR bm n D ∧ n ≤ ms.length ∧ Maps.IsMap D ∧ Holds w (fun b => G b ∧ b ≠ bm) D ms
/-- The cells of the last write and of the map. -/
abbrev Tl := Value × Value × Value
def t0 : Tl := (.int .i64 0, .slice none 0 0, .map none)
/-- The writes from number 63 on. -/
def Late (w : World) (G : Nat → Prop) (t : Tl) (ls : List (Nat × List UInt8)) : Prop :=
  (ls = [] ∧ t = t0) ∨ ∃ (ms : List (Nat × List UInt8)) (p : Nat × List UInt8) (b : Nat) (mv : Value), ls = ms ++ [p] ∧ t = (.int .i64 (p.1 : Int), .slice (some ⟨b, 0, none⟩) 64 64, mv) ∧ LetB w b p.2 ∧ G b ∧ mv ≠ .map (some b) ∧ MapL w G mv ms
section
variable {w w' : World} {G G' : Nat → Prop} {mv : Value} {ms ls : List (Nat × List UInt8)} {t : Tl}
theorem MapL.keep (h : MapL w G mv ms) (hs : w.heap.size ≤ w'.heap.size) (hk : ∀ b, b < w.heap.size → G b → w'.heap[b]? = w.heap[b]?) (hG : ∀ b, b < w.heap.size → G b → G' b) : MapL w' G' mv ms := by
  rcases h with h | ⟨bm, n, D, h1, h2, h3, h4, h5, h6, h7⟩
  · exact .inl h
  · have hlt := h4.lt
    refine .inr ⟨bm, n, D, h1, h2, hG bm hlt h3, ?_, h5, h6, h7.keep (fun b hb hg => hk b hb hg.1) (fun b hb hg => ⟨hG b hb hg.1, hg.2⟩)⟩
    obtain ⟨es, clock, hb, F, hss, hD⟩ := h4
    exact ⟨es, clock, (hk bm hlt h3).trans hb, F, hss, hD⟩
theorem Late.keep (h : Late w G t ls) (hs : w.heap.size ≤ w'.heap.size) (hk : ∀ b, b < w.heap.size → G b → w'.heap[b]? = w.heap[b]?) (hG : ∀ b, b < w.heap.size → G b → G' b) : Late w' G' t ls := by
  rcases h with h | ⟨ms, p, b, mv, h1, h2, h3, h4, h5, h6⟩
  · exact .inl h
  · exact .inr ⟨ms, p, b, mv, h1, h2, h3.keepB (hk b h3.lt h4), hG b h3.lt h4, h5, h6.keep hs hk hG⟩
end
/-! ### The disk -/
/-- The fields of a disk. -/
def FldG (w : World) (g bd bv : Nat) (ve : Value) (k : Nat) (t : Tl) (n : Nat) (on : Bool) (c : Int) : Prop :=
  w.heap[g]? = some (.cells #[rowV bd n, rowV bv n, .int .i64 (k : Int), ve, t.1, t.2.1, t.2.2, .bool on, .int .i64 c] 60 (0, 0))
/-- What is beside the blocks that are written. -/
def Besd (F : Nat → Prop) (g bd bv : Nat) (ve : Value) (b : Nat) : Prop := F b ∧ b ≠ g ∧ b ≠ bd ∧ b ≠ bv ∧ ve.ownBlock ≠ some b
/-- The program's disk in memory: all that it reaches lies in F. The durable sectors L in block bd, those that reads see, V, in block bv, the first 63 pending writes es, the later ones ls. -/
structure MemG (w : World) (F : Nat → Prop) (g bd bv : Nat) (ve : Value) (t : Tl) (n : Nat) (on : Bool) (c : Int) (es : List Ent) (ls : List (Nat × List UInt8)) (L V : List (List UInt8)) : Prop where
  fld : FldG w g bd bv ve (es.length + ls.length) t n on c
  dur : SecB w bd L
  vis : SecB w bv V
  own : w.ownsRow 0 55 2 ve es.length (entC es)
  lets : ∀ e ∈ es, LetB w e.2 e.1.2 ∧ Besd F g bd bv ve e.2
  late : Late w (Besd F g bd bv ve) t ls
  gd : bd ≠ g
  gv : bv ≠ g
  dv : bd ≠ bv
  eg : ve.ownBlock ≠ some g
  ed : ve.ownBlock ≠ some bd
  ev : ve.ownBlock ≠ some bv
  fin : F g ∧ F bd ∧ F bv ∧ ∀ b, ve.ownBlock = some b → F b
  flt : ∀ b, F b → b < w.heap.size
section
variable {w w' : World} {F F' : Nat → Prop} {g bd bv k n : Nat} {ve v u : Value} {t t' : Tl} {on on' : Bool} {c c' : Int} {es : List Ent} {ls : List (Nat × List UInt8)} {L V : List (List UInt8)}
theorem FldG.lt (h : FldG w g bd bv ve k t n on c) : g < w.heap.size := lt_of_heap h
theorem FldG.cells (h : FldG w g bd bv ve k t n on c) : w.cell? ⟨g, 0, none⟩ = some (rowV bd n) ∧ w.cell? ⟨g, 1, none⟩ = some (rowV bv n) ∧ w.cell? ⟨g, 2, none⟩ = some (.int .i64 (k : Int)) ∧ w.cell? ⟨g, 3, none⟩ = some ve ∧ w.cell? ⟨g, 7, none⟩ = some (.bool on) ∧ w.cell? ⟨g, 8, none⟩ = some (.int .i64 c) := by
  unfold FldG at h
  refine ⟨?_, ?_, ?_, ?_, ?_, ?_⟩ <;> rw [cell_of_row w g _ _ _ (0, 0) h] <;> rfl
theorem FldG.tail (h : FldG w g bd bv ve k t n on c) : w.cell? ⟨g, 4, none⟩ = some t.1 ∧ w.cell? ⟨g, 5, none⟩ = some t.2.1 ∧ w.cell? ⟨g, 6, none⟩ = some t.2.2 := by
  unfold FldG at h
  refine ⟨?_, ?_, ?_⟩ <;> rw [cell_of_row w g _ _ _ (0, 0) h] <;> rfl
theorem FldG.thaw (h : FldG w g bd bv ve k t n on c) (i : Nat) : w.frozen? ⟨g, i, none⟩ = false := by
  unfold FldG at h
  simp [World.frozen?, h]
theorem FldG.put7 (h : FldG w g bd bv ve k t n on c) (b : Bool) : FldG (w.setCell ⟨g, 7, none⟩ (.bool b)) g bd bv ve k t n b c := by
  unfold FldG at h ⊢
  simp [World.setCell, Array.getElem?_modify, h]
theorem FldG.put8 (h : FldG w g bd bv ve k t n on c) (z : Int) : FldG (w.setCell ⟨g, 8, none⟩ (.int .i64 z)) g bd bv ve k t n on z := by
  unfold FldG at h ⊢
  simp [World.setCell, Array.getElem?_modify, h]
theorem FldG.put2 (h : FldG w g bd bv ve k t n on c) (m : Nat) : FldG (w.setCell ⟨g, 2, none⟩ (.int .i64 (m : Int))) g bd bv ve m t n on c := by
  unfold FldG at h ⊢
  simp [World.setCell, Array.getElem?_modify, h]
theorem FldG.put3 (h : FldG w g bd bv ve k t n on c) (v : Value) : FldG (w.setCell ⟨g, 3, none⟩ v) g bd bv v k t n on c := by
  unfold FldG at h ⊢
  simp [World.setCell, Array.getElem?_modify, h]
theorem FldG.put6 (h : FldG w g bd bv ve k t n on c) (v : Value) : FldG (w.setCell ⟨g, 6, none⟩ v) g bd bv ve k (t.1, t.2.1, v) n on c := by
  unfold FldG at h ⊢
  simp [World.setCell, Array.getElem?_modify, h]
theorem FldG.keepB (h : FldG w g bd bv ve k t n on c) (hk : w'.heap[g]? = w.heap[g]?) : FldG w' g bd bv ve k t n on c := by
  unfold FldG at h ⊢
  rw [hk]
  exact h
/-- One law for all: the fields, the two rows and the row of early writes are told anew, what is beside them stays. -/
theorem MemG.step {L' V' : List (List UInt8)} {n' : Nat} (h : MemG w F g bd bv ve t n on c es ls L V) (hs : w.heap.size ≤ w'.heap.size)
    (hk : ∀ b, b < w.heap.size → Besd F g bd bv ve b → w'.heap[b]? = w.heap[b]?) (hf : FldG w' g bd bv ve (es.length + ls.length) t n' on' c') (hd : SecB w' bd L') (hv : SecB w' bv V') (ho : w'.ownsRow 0 55 2 ve es.length (entC es)) (hF : ∀ b, F b → F' b) (hF' : ∀ b, F' b → b < w'.heap.size) : MemG w' F' g bd bv ve t n' on' c' es ls L' V' where
  fld := hf
  dur := hd
  vis := hv
  own := ho
  lets := fun e he => ⟨(h.lets e he).1.keepB (hk _ (h.lets e he).1.lt (h.lets e he).2), hF _ (h.lets e he).2.1, (h.lets e he).2.2⟩
  late := h.late.keep hs hk fun b _ hb => ⟨hF b hb.1, hb.2⟩
  gd := h.gd
  gv := h.gv
  dv := h.dv
  eg := h.eg
  ed := h.ed
  ev := h.ev
  fin := ⟨hF _ h.fin.1, hF _ h.fin.2.1, hF _ h.fin.2.2.1, fun b hb => hF b (h.fin.2.2.2 b hb)⟩
  flt := hF'
theorem MemG.keepB (h : MemG w F g bd bv ve t n on c es ls L V) (hs : w.heap.size ≤ w'.heap.size) (hk : ∀ b, F b → w'.heap[b]? = w.heap[b]?) : MemG w' F g bd bv ve t n on c es ls L V :=
  h.step hs (fun b _ hb => hk b hb.1) (h.fld.keepB (hk _ h.fin.1)) (h.dur.keepB (hk _ h.fin.2.1)) (h.vis.keepB (hk _ h.fin.2.2.1)) (own_keep h.own fun b _ hv => hk b (h.fin.2.2.2 b hv)) (fun _ h => h) fun b hb => Nat.lt_of_lt_of_le (h.flt b hb) hs
theorem MemG.below (h : MemG w F g bd bv ve t n on c es ls L V) (hB : Below w.heap.size w w') : MemG w' F g bd bv ve t n on c es ls L V := h.keepB hB.size fun b hb => hB.block b (h.flt b hb)
/-- More blocks are counted among its own. -/
theorem MemG.wide (h : MemG w F g bd bv ve t n on c es ls L V) (hF : ∀ b, F b → F' b) (hF' : ∀ b, F' b → b < w.heap.size) : MemG w F' g bd bv ve t n on c es ls L V :=
  h.step (Nat.le_refl _) (fun _ _ _ => rfl) h.fld h.dur h.vis h.own hF hF'
/-- A change of fields alone. -/
theorem MemG.fields (h : MemG w F g bd bv ve t n on c es ls L V) (hf : FldG w' g bd bv ve (es.length + ls.length) t n on' c') (hg : w.grownBy w' (some g)) : MemG w' F g bd bv ve t n on' c' es ls L V :=
  h.step hg.size (fun b hb hx => hg.block b hb fun e => hx.2.1 (by injection e)) hf (h.dur.keepB (hg.block bd h.dur.lt fun e => h.gd (by injection e))) (h.vis.keepB (hg.block bv h.vis.lt fun e => h.gv (by injection e))) (own_keep h.own fun b hb hv => hg.block b hb (fun e => h.eg (by injection e with e; rw [hv, e]))) (fun _ h => h) fun b hb => Nat.lt_of_lt_of_le (h.flt b hb) hg.size
/-- The sectors that reads see are replaced. -/
theorem MemG.seen {V' : List (List UInt8)} (h : MemG w F g bd bv ve t n on c es ls L V) (hv : SecB w' bv V') (hg : w.grownBy w' (some bv)) : MemG w' F g bd bv ve t n on c es ls L V' :=
  h.step hg.size (fun b hb hx => hg.block b hb fun e => hx.2.2.2.1 (by injection e)) (h.fld.keepB (hg.block g h.fld.lt fun e => h.gv (by injection e with e; exact e.symm))) (h.dur.keepB (hg.block bd h.dur.lt fun e => h.dv (by injection e))) hv (own_keep h.own fun b hb hv => hg.block b hb (fun e => h.ev (by injection e with e; rw [hv, e]))) (fun _ h => h) fun b hb => Nat.lt_of_lt_of_le (h.flt b hb) hg.size
/-- The durable sectors are replaced. -/
theorem MemG.done {L' : List (List UInt8)} (h : MemG w F g bd bv ve t n on c es ls L V) (hv : SecB w' bd L') (hg : w.grownBy w' (some bd)) : MemG w' F g bd bv ve t n on c es ls L' V :=
  h.step hg.size (fun b hb hx => hg.block b hb fun e => hx.2.2.1 (by injection e)) (h.fld.keepB (hg.block g h.fld.lt fun e => h.gd (by injection e with e; exact e.symm))) hv (h.vis.keepB (hg.block bv h.vis.lt fun e => h.dv (by injection e with e; exact e.symm))) (own_keep h.own fun b hb hv => hg.block b hb (fun e => h.ed (by injection e with e; rw [hv, e]))) (fun _ h => h) fun b hb => Nat.lt_of_lt_of_le (h.flt b hb) hg.size
/-- No write is pending any more. -/
theorem MemG.bare (h : MemG w F g bd bv ve t n on c es ls L V) (hf : FldG w' g bd bv (.slice none 0 0) 0 t0 n on' c') (hg : w.grownBy w' (some g)) : MemG w' F g bd bv (.slice none 0 0) t0 n on' c' [] [] L V where
  fld := hf
  dur := h.dur.keepB (hg.block bd h.dur.lt (fun e => h.gd (by injection e)))
  vis := h.vis.keepB (hg.block bv h.vis.lt (fun e => h.gv (by injection e)))
  own := World.ownsRow_nil w' 0 _ 2
  lets := fun e he => (List.not_mem_nil he).elim
  late := .inl ⟨rfl, rfl⟩
  gd := h.gd
  gv := h.gv
  dv := h.dv
  eg := by simp [Value.ownBlock]
  ed := by simp [Value.ownBlock]
  ev := by simp [Value.ownBlock]
  fin := ⟨h.fin.1, h.fin.2.1, h.fin.2.2.1, fun b hb => by simp [Value.ownBlock] at hb⟩
  flt := fun b hb => Nat.lt_of_lt_of_le (h.flt b hb) hg.size
end
/-- The program's disk at g is in the state s; all that it reaches lies in F. -/
def Disk (w : World) (F : Nat → Prop) (g : Nat) (s : DS) : Prop :=
  okDS s ∧ ∃ bd bv ve t c es ls, MemG w F g bd bv ve t s.dur.length (!s.off) c es ls s.dur (secs s) ∧ es.map (·.1) ++ ls = s.pend ∧ es.length ≤ 63 ∧ (ls ≠ [] → es.length = 63) ∧ Lnk s c ∧ s.dur.length ≤ 8192
/-- The blocks F and those that are new. -/
def More (F : Nat → Prop) (w w' : World) (b : Nat) : Prop := F b ∨ (w.heap.size ≤ b ∧ b < w'.heap.size)
/-- What a method of the program's disk hands back and leaves. -/
def GDk (w : World) (F : Nat → Prop) (g : Nat) (v : Value) (s : DS) (e : Ending) (w' : World) : Prop :=
  e = .returned v ∧ Disk w' (More F w w') g s ∧ Turn F w w'
theorem Disk.lt {w : World} {F : Nat → Prop} {g b : Nat} {s : DS} (h : Disk w F g s) (hb : F b) : b < w.heap.size := by
  obtain ⟨_, bd, bv, ve, t, c, es, ls, hm, _⟩ := h
  exact hm.flt b hb
theorem Disk.keep {w w' : World} {F : Nat → Prop} {g : Nat} {s : DS} (h : Disk w F g s) (hs : w.heap.size ≤ w'.heap.size) (hk : ∀ b, F b → w'.heap[b]? = w.heap[b]?) : Disk w' F g s := by
  obtain ⟨h0, bd, bv, ve, t, c, es, ls, hm, h1⟩ := h
  exact ⟨h0, bd, bv, ve, t, c, es, ls, hm.keepB hs hk, h1⟩
theorem Disk.below {w w' : World} {F : Nat → Prop} {g : Nat} {s : DS} (h : Disk w F g s) (hB : Below w.heap.size w w') : Disk w' F g s := h.keep hB.size fun b hb => hB.block b (h.lt hb)
theorem Disk.wide {w : World} {F F' : Nat → Prop} {g : Nat} {s : DS} (h : Disk w F g s) (hF : ∀ b, F b → F' b) (hF' : ∀ b, F' b → b < w.heap.size) : Disk w F' g s := by
  obtain ⟨h0, bd, bv, ve, t, c, es, ls, hm, h1⟩ := h
  exact ⟨h0, bd, bv, ve, t, c, es, ls, hm.wide hF hF', h1⟩
end Go.Proofs.YtckomifecmemnaaGreat

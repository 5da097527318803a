/- Bytes in memory: a slice whose bytes can be read, a slice that owns its bytes; append, make, conversion. -/
import Derived.WalkKit
import Derived.Deep.Draws
import Derived.Laws.IdiomStrings
import Derived.Test.YtpbkmkcfhkdjjaaDoorGnd
namespace Go.Proofs.YtpbkmkcfhkdjjaaDoor
open Go.RowKit Dig
set_option linter.unusedVariables false

/-- Bytes as values. -/
def Y (ts : List UInt8) : List Value := ts.map fun (c : UInt8) => Value.int .u8 (c.toNat : Int)
theorem Y_length (ts : List UInt8) : (Y ts).length = ts.length := by simp [Y]
theorem Y_append (ts us : List UInt8) : Y (ts ++ us) = Y ts ++ Y us := by simp [Y]
theorem Y_get (ts : List UInt8) (j : Nat) (h : j < ts.length) : (Y ts)[j]? = some (.int .u8 ((ts.getD j 0).toNat : Int)) := by
  simp [Y, List.getD_eq_getElem?_getD, List.getElem?_eq_getElem h]
theorem Y_oneCell (ts : List UInt8) : ∀ u ∈ Y ts, u.oneCell' = true := by
  intro u hu
  simp only [Y, List.mem_map] at hu
  obtain ⟨d, _, rfl⟩ := hu
  rfl

/-- A slice whose elements are the bytes ts, which can be read. -/
def Byt (w : World) (v : Value) (ts : List UInt8) : Prop :=
  ∃ A c, v = .slice A ts.length c ∧ (ts.length ≤ c ∧ (A = none → c = 0)) ∧ c ≤ maxLen ∧
    (0 < ts.length → ∃ b off, A = some ⟨b, off, none⟩ ∧ b < w.heap.size ∧ ∀ j, j < ts.length → w.cell? ⟨b, off + j, none⟩ = some (.int .u8 ((ts.getD j 0).toNat : Int)))
/-- A slice that owns its bytes. -/
def OwB (base : Nat) (w : World) (v : Value) (ts : List UInt8) : Prop :=
  (v = .slice none 0 0 ∧ ts = []) ∨ ∃ g rest, v = .slice (some ⟨g, 0, none⟩) ts.length (ts.length + rest.length) ∧ base ≤ g ∧ ts.length + rest.length ≤ maxLen ∧ w.heap[g]? = some (.cells (Y ts ++ rest).toArray 5 (0, 0))

theorem getD_takeB (ts : List UInt8) (k j : Nat) (h : j < k) : (ts.take k).getD j 0 = ts.getD j 0 := by
  simp [List.getD_eq_getElem?_getD, h]
theorem lt_of_heap {w : World} {g : Nat} {o : Obj} (h : w.heap[g]? = some o) : g < w.heap.size := by
  rcases Nat.lt_or_ge g w.heap.size with hlt | hge
  · exact hlt
  · rw [Array.getElem?_eq_none hge] at h; cases h
section
variable {w w' : World} {v : Value} {ts us : List UInt8} {base : Nat}
theorem Byt.nil (w : World) : Byt w (.slice none 0 0) [] := ⟨none, 0, rfl, ⟨Nat.le_refl _, fun _ => rfl⟩, by unfold maxLen; omega, fun h => absurd h (by simp)⟩
theorem Byt.keep (h : Byt w v ts) (hs : w.heap.size ≤ w'.heap.size) (hk : ∀ b o, b < w.heap.size → (∀ j, j < ts.length → True) → (0 < ts.length → ∃ p n c, v = .slice (some ⟨b, p, none⟩) n c) → w'.cell? ⟨b, o, none⟩ = w.cell? ⟨b, o, none⟩) : Byt w' v ts := by
  obtain ⟨A, c, h1, h2, h3, h5⟩ := h
  refine ⟨A, c, h1, h2, h3, fun hp => ?_⟩
  obtain ⟨b, off, e, hb, hc⟩ := h5 hp
  subst e
  exact ⟨b, off, rfl, by omega, fun j hj => (hk _ _ hb (fun _ _ => trivial) (fun _ => ⟨off, _, _, h1⟩)).trans (hc j hj)⟩
theorem Byt.below (h : Byt w v ts) (hb : Below w.heap.size w w') : Byt w' v ts := h.keep hb.size fun b o hlt _ _ => hb.cell (p := ⟨b, o, none⟩) hlt
theorem Byt.drewN (h : Byt w v ts) (n : Nat) : Byt (w.drewN n) v ts := h
theorem Byt.alloc (h : Byt w v ts) (o : Obj) : Byt (w.alloc o) v ts := h.below ((Below.refl _ _).alloc (Nat.le_refl _) o)
theorem Byt.form (h : Byt w v ts) : ∃ A c, v = .slice A ts.length c := by
  obtain ⟨A, c, e, _⟩ := h
  exact ⟨A, c, e⟩
theorem Byt.bounds {A : Option Addr} {n c : Nat} (h : Byt w (.slice A n c) ts) : n = ts.length ∧ n ≤ c ∧ c ≤ maxLen := by
  obtain ⟨A', c', e, ⟨hc, hn⟩, hm, hr⟩ := h
  simp only [Value.slice.injEq] at e
  obtain ⟨rfl, rfl, rfl⟩ := e
  exact ⟨rfl, hc, hm⟩
theorem Byt.cells {A : Option Addr} {n c : Nat} (h : Byt w (.slice A n c) ts) (hp : 0 < ts.length) : ∃ b off, A = some ⟨b, off, none⟩ ∧ b < w.heap.size ∧ ∀ j, j < ts.length → w.cell? ⟨b, off + j, none⟩ = some (.int .u8 ((ts.getD j 0).toNat : Int)) := by
  obtain ⟨A', c', e, ⟨hc, hn⟩, hm, hr⟩ := h
  simp only [Value.slice.injEq] at e
  obtain ⟨rfl, rfl, rfl⟩ := e
  exact hr hp
theorem OwB.nil (base : Nat) (w : World) : OwB base w (.slice none 0 0) [] := .inl ⟨rfl, rfl⟩
theorem OwB.byt (h : OwB base w v ts) : Byt w v ts := by
  rcases h with ⟨rfl, rfl⟩ | ⟨g, rest, rfl, hb, hm, hg⟩
  · exact Byt.nil w
  · refine ⟨_, _, rfl, ⟨by omega, fun e => by simp at e⟩, hm, fun _ => ⟨g, 0, rfl, lt_of_heap hg, fun j hj => ?_⟩⟩
    rw [cell_of_row w g _ _ _ (0, 0) hg, List.getElem?_toArray, Nat.zero_add, List.getElem?_append_left (by rw [Y_length]; exact hj)]
    exact Y_get ts j hj
theorem OwB.mono {base' : Nat} (h : OwB base w v ts) (hb : base' ≤ base) : OwB base' w v ts := by
  rcases h with h | ⟨g, rest, e, hg, hm, hh⟩
  · exact .inl h
  · exact .inr ⟨g, rest, e, by omega, hm, hh⟩
theorem OwB.below {B : Nat} (h : OwB base w v ts) (hb : Below B w w') (hB : w.heap.size ≤ B) : OwB base w' v ts := by
  rcases h with h | ⟨g, rest, e, hg, hm, hh⟩
  · exact .inl h
  · exact .inr ⟨g, rest, e, hg, hm, by rw [hb.block g (by have := lt_of_heap hh; omega)]; exact hh⟩
theorem OwB.alloc (h : OwB base w v ts) (o : Obj) : OwB base (w.alloc o) v ts := h.below ((Below.refl w.heap.size _).alloc (Nat.le_refl _) o) (Nat.le_refl _)
theorem OwB.drewN (h : OwB base w v ts) (n : Nat) : OwB base (w.drewN n) v ts := h
theorem OwB.block (h : OwB base w v ts) : ∀ g, v.ownBlock = some g → base ≤ g ∧ g < w.heap.size := by
  intro g hg
  rcases h with ⟨rfl, _⟩ | ⟨g', rest, rfl, hb, _, hseg⟩
  · simp [Value.ownBlock] at hg
  · simp [Value.ownBlock] at hg
    subst hg
    exact ⟨hb, lt_of_heap hseg⟩
theorem below_ownB {w w1 w' : World} {v : Value} {base : Nat} {ts : List UInt8} (h : Below w.heap.size w w1) (hg : w1.grownBy w' v.ownBlock) (hb : OwB base w1 v ts) (hbase : w.heap.size ≤ base) : Below w.heap.size w w' :=
  h.grown hg h.size (fun k e => by have := (hb.block k e).1; omega)
theorem OwB.ownsRow (h : OwB base w v ts) : w.ownsRow base 5 1 v ts.length (Y ts) := by
  rcases h with ⟨rfl, rfl⟩ | ⟨g, rest, rfl, hg, hm, hh⟩
  · exact World.ownsRow_nil w base _ 1
  · exact ⟨by simp [Y_length], .inr ⟨g, _, _, rfl, hg, hh, by omega, hm, by simp [Y_length], by simp [Y_length]⟩⟩
theorem OwB.of_ownsRow (h : w.ownsRow base 5 1 v ts.length (Y ts)) : OwB base w v ts := by
  rcases h.2 with ⟨rfl, hl⟩ | ⟨g, cap, cur, rfl, hb, hh, hn, hm, hz, ht⟩
  · exact .inl ⟨rfl, List.eq_nil_of_length_eq_zero hl⟩
  · have hl : cur.toList.length = cap := by simpa using hz
    have e : cur.toList = Y ts ++ cur.toList.drop ts.length := by
      conv => lhs; rw [← List.take_append_drop ts.length cur.toList]
      rw [Nat.mul_one] at ht
      rw [ht]
    refine .inr ⟨g, cur.toList.drop ts.length, ?_, hb, ?_, ?_⟩
    · rw [List.length_drop, hl, Nat.add_sub_cancel' hn]
    · rw [List.length_drop, hl, Nat.add_sub_cancel' hn]; exact hm
    · rw [hh, ← e]
/-- A new row of one byte. -/
theorem OwB.one (w : World) (x : Int) (c : UInt8) (hx : x = (c.toNat : Int)) : OwB w.heap.size (w.alloc (.cells #[.int .u8 x] 5)) (.slice (some ⟨w.heap.size, 0, none⟩) 1 1) [c] := by
  subst hx
  refine .inr ⟨w.heap.size, [], rfl, Nat.le_refl _, by unfold maxLen; simp, ?_⟩
  rw [heap_alloc_new]
  simp [Y]
theorem Byt.one (w : World) (x : Int) (c : UInt8) (hx : x = (c.toNat : Int)) : Byt (w.alloc (.cells #[.int .u8 x] 5)) (.slice (some ⟨w.heap.size, 0, none⟩) 1 1) [c] := (OwB.one w x c hx).byt
/-- A part of the bytes. -/
theorem Byt.cut {A : Option Addr} {n c k : Nat} (h : Byt w (.slice A n c) ts) (hk : k ≤ n) : Byt w (.slice A k c) (ts.take k) := by
  obtain ⟨A', c', e, ⟨hc, hn⟩, hm, hr⟩ := h
  simp only [Value.slice.injEq] at e
  obtain ⟨rfl, rfl, rfl⟩ := e
  have hl : (ts.take k).length = k := by rw [List.length_take, Nat.min_eq_left hk]
  refine ⟨A, c, by rw [hl], ⟨by omega, hn⟩, hm, fun hp => ?_⟩
  obtain ⟨b, off, e, hb, hcell⟩ := hr (by omega)
  refine ⟨b, off, e, hb, fun j hj => ?_⟩
  rw [hcell j (by omega), getD_takeB ts k j (by omega)]
end

/-- Where a tail begins. -/
def tailB (A : Option Addr) (c k : Nat) : Option Addr := if c = k then A else A.map (·.add k)
theorem Byt.tail {w : World} {A : Option Addr} {ts : List UInt8} {n c k : Nat} (h : Byt w (.slice A n c) ts) (hk : k ≤ n) : Byt w (.slice (tailB A c k) (n - k) (c - k)) (ts.drop k) := by
  have hn := h.bounds.1
  subst hn
  have hl : (ts.drop k).length = ts.length - k := List.length_drop
  have h' := h
  obtain ⟨A', c', e, ⟨h2, h3⟩, h4, h5⟩ := h'
  simp only [Value.slice.injEq] at e
  obtain ⟨rfl, -, rfl⟩ := e
  unfold tailB
  by_cases hc : c = k
  · rw [if_pos hc]
    exact ⟨A, c - k, by rw [hl], ⟨by omega, fun e => by have := h3 e; omega⟩, by omega, fun hp => by omega⟩
  · rw [if_neg hc]
    rcases Nat.eq_zero_or_pos ts.length with h0 | h0
    · refine ⟨_, c - k, by rw [hl], ⟨by omega, fun e => ?_⟩, by omega, fun hp => by omega⟩
      have : A = none := by simpa using e
      have := h3 this
      omega
    · obtain ⟨b, off, rfl, hb, hcell⟩ := h5 h0
      refine ⟨some ⟨b, off + k, none⟩, c - k, by rw [hl]; simp [Addr.add], ⟨by omega, fun e => by cases e⟩, by omega, fun hp => ⟨b, off + k, rfl, hb, fun j hj => ?_⟩⟩
      rw [Nat.add_assoc, hcell (k + j) (by omega)]
      simp [List.getD_eq_getElem?_getD, List.getElem?_drop]
/-- Block g holds just these bytes. -/
def LetB (w : World) (g : Nat) (ts : List UInt8) : Prop := w.heap[g]? = some (.cells (Y ts).toArray 5 (0, 0))
section
variable {w w' : World} {g : Nat} {ts : List UInt8}
theorem LetB.lt (h : LetB w g ts) : g < w.heap.size := lt_of_heap h
theorem LetB.frozen (h : LetB w g ts) (i : Nat) : w.frozen? ⟨g, i, none⟩ = false := by
  unfold LetB at h
  simp [World.frozen?, h]
theorem LetB.cell (h : LetB w g ts) {j : Nat} (hj : j < ts.length) : w.cell? ⟨g, j, none⟩ = some (.int .u8 ((ts.getD j 0).toNat : Int)) := by
  rw [cell_of_row w g _ _ _ (0, 0) h, List.getElem?_toArray]
  exact Y_get ts j hj
theorem LetB.put (h : LetB w g ts) (j : Nat) (c : UInt8) (q : Int) (hq : q = (c.toNat : Int)) : LetB (w.setCell ⟨g, j, none⟩ (.int .u8 q)) g (ts.set j c) := by
  subst hq
  unfold LetB at h ⊢
  simp only [World.setCell, Array.getElem?_modify, h]
  simp [Y, List.map_set]
theorem LetB.own {base n : Nat} (h : LetB w g ts) (hb : base ≤ g) (hn : ts.length = n) (hz : n ≤ 9223372036854775807) : OwB base w (.slice (some ⟨g, 0, none⟩) n n) ts := by
  subst hn
  exact .inr ⟨g, [], by simp, hb, by simp; unfold maxLen; omega, by rw [List.append_nil]; exact h⟩
theorem LetB.below {B : Nat} (h : LetB w g ts) (hb : Below B w w') (hB : g < B) : LetB w' g ts := by
  unfold LetB at h ⊢
  rw [hb.block g hB]
  exact h
end
theorem info_byte : (Tryd.prog.info? 5).map (fun i => (i.zero, i.size, i.bytes)) = some (some (.int .u8 0), 1, 1) := by kernel_rfl
theorem size_byte : (Tryd.prog.info? 5).map (·.size) = some 1 := by kernel_rfl

section
variable {w : World} {ops : Array Oper} {rest : List Oper} {o : Oper} {a : Act} {Q : Exit → Act → World → Prop}
theorem wp_appendB (hgd : o.guard = none) (s x : Operand) (ho : o.op = .call { callee := .builtin .append, args := #[s, x], argTypes := #[33, 33] })
    (base : Nat) (v : Value) (ts : List UInt8) (hs : a.eval s = v) (hown : OwB base w v ts) (u : Value) (us : List UInt8) (hx : a.eval x = u) (hr : Byt w u us)
    (hb : ts.length + us.length ≤ 70368744177664) (hbase : base ≤ w.heap.size)
    (h : ∀ v' w', OwB base w' v' (ts ++ us) → w.grownBy w' v.ownBlock → wpList Tryd.prog ops Q rest (a.put o.dst v') w') :
    wpList Tryd.prog ops Q (o :: rest) a w := by
  obtain ⟨i0, hi, hz0, hz1, hz2⟩ := info_parts info_byte
  obtain ⟨A, c, e, ⟨hc, hn⟩, hm, hcell⟩ := hr
  have ho' := hown.ownsRow
  cases A with
  | none =>
    have hc0 := hn rfl
    subst hc0
    have hl : us = [] := List.eq_nil_of_length_eq_zero (by omega)
    subst hl
    subst e
    refine wpList_plain hgd fun K hK => ?_
    have hrun := run_append_owned_none (P := Tryd.prog) (w := w) base 33 o.type 5 i0 1 Tryd.underlying33 hi v ts.length (Y ts) ho'
    unfold Oper.wp
    simp only [List.length_nil] at hx
    simp [execOp, ho, resolve, invoke, builtin, hs, hx, hrun, Result.andThen]
    exact hK _ _ (h v w (by simpa using hown) (World.grownBy.refl w _))
  | some ad =>
    subst e
    have hnews : ∀ j u, (Y us)[j]? = some u → w.cell? (ad.add j) = some u := by
      intro j u hu
      rcases Nat.lt_or_ge j us.length with hj | hj
      · obtain ⟨b, off, e, _, hcc⟩ := hcell (by omega)
        cases e
        rw [Y_get us j hj] at hu
        have hu := Option.some.inj hu
        subst hu
        have : (⟨b, off, none⟩ : Addr).add j = ⟨b, off + j, none⟩ := by unfold Addr.add; split <;> simp_all
        rw [this]
        exact hcc j hj
      · rw [List.getElem?_eq_none (by rw [Y_length]; exact hj)] at hu
        cases hu
    refine wpList_append_own w hgd s x 33 ho base 5 i0 (.int .u8 0) 1 1 Tryd.underlying33 hi hz0 hz1 hz2 rfl (by decide) v ts.length (Y ts) hs ho' ad us.length c (Y us) hx (by simp [Y_length]) hnews (Y_oneCell us) (by unfold maxLen; omega) (by omega) hbase ?_
    intro v' w' h1 h2 _
    refine h v' w' (OwB.of_ownsRow ?_) h2
    rw [Y_append, List.length_append]
    exact h1
/-- The same as one step of a region that draws. -/
theorem step_appendB {K : Act → World → Prop} {E : Prop} (hgd : o.guard = none) (s x : Operand) (ho : o.op = .call { callee := .builtin .append, args := #[s, x], argTypes := #[33, 33] })
    (base : Nat) (v : Value) (ts : List UInt8) (hs : a.eval s = v) (hown : OwB base w v ts) (u : Value) (us : List UInt8) (hx : a.eval x = u) (hr : Byt w u us)
    (hb : ts.length + us.length ≤ 70368744177664) (hbase : base ≤ w.heap.size)
    (h : ∀ v' w', OwB base w' v' (ts ++ us) → w.grownBy w' v.ownBlock → K (a.put o.dst v') w') :
    if Region.wanted o (yielded ops a.tmps) = true then Oper.wp Tryd.prog o a w K Q else E := by
  have hw : Region.wanted o (yielded ops a.tmps) = true := by simp [Region.wanted, hgd]
  rw [if_pos hw]
  obtain ⟨i0, hi, hz0, hz1, hz2⟩ := info_parts info_byte
  obtain ⟨A, c, e, ⟨hc, hn⟩, hm, hcell⟩ := hr
  have ho' := hown.ownsRow
  cases A with
  | none =>
    have hc0 := hn rfl
    subst hc0
    have hl : us = [] := List.eq_nil_of_length_eq_zero (by omega)
    subst hl
    subst e
    have hrun := run_append_owned_none (P := Tryd.prog) (w := w) base 33 o.type 5 i0 1 Tryd.underlying33 hi v ts.length (Y ts) ho'
    unfold Oper.wp
    simp only [List.length_nil] at hx
    simp [execOp, ho, resolve, invoke, builtin, hs, hx, hrun, Result.andThen]
    exact h v w (by simpa using hown) (World.grownBy.refl w _)
  | some ad =>
    subst e
    have hnews : ∀ j u, (Y us)[j]? = some u → w.cell? (ad.add j) = some u := by
      intro j u hu
      rcases Nat.lt_or_ge j us.length with hj | hj
      · obtain ⟨b, off, e, _, hcc⟩ := hcell (by omega)
        cases e
        rw [Y_get us j hj] at hu
        have hu := Option.some.inj hu
        subst hu
        have : (⟨b, off, none⟩ : Addr).add j = ⟨b, off + j, none⟩ := by unfold Addr.add; split <;> simp_all
        rw [this]
        exact hcc j hj
      · rw [List.getElem?_eq_none (by rw [Y_length]; exact hj)] at hu
        cases hu
    refine wp_append_own w s x 33 ho base 5 i0 (.int .u8 0) 1 1 Tryd.underlying33 hi hz0 hz1 hz2 rfl (by decide) v ts.length (Y ts) hs ho' ad us.length c (Y us) hx (by simp [Y_length]) hnews (Y_oneCell us) (by unfold maxLen; omega) (by omega) hbase ?_
    intro v' w' h1 h2 _
    refine h v' w' (OwB.of_ownsRow ?_) h2
    rw [Y_append, List.length_append]
    exact h1
theorem run_noneB (w : World) : (Instr.buildSlice 33 0 #[]).run Tryd.prog w = .ok (.slice (some ⟨w.heap.size, 0, none⟩) 0 0) (w.alloc (.cells #[] 5)) := by
  obtain ⟨i0, hi, hz0, hz1, hz2⟩ := info_parts info_byte
  simp [Instr.buildSlice, run_underlying Tryd.underlying33, sizeOf, typeInfo, hi, newRow, Instr.fill]
  rw [show (Array.range 0 : Array Nat) = #[] from Array.eq_empty_of_size_eq_zero (by simp), Array.map_empty]
theorem OwB.none (w : World) : OwB w.heap.size (w.alloc (.cells #[] 5)) (.slice (some ⟨w.heap.size, 0, Option.none⟩) 0 0) [] := by
  refine .inr ⟨w.heap.size, [], rfl, Nat.le_refl _, by unfold maxLen; simp, ?_⟩
  rw [heap_alloc_new]
  simp [Y]
/-- An empty literal of bytes: a new block without cells. -/
theorem wp_noneB (hg : o.guard = none) (ho : o.op = .buildSlice 33 0 #[])
    (h : ∀ w', OwB w.heap.size w' (.slice (some ⟨w.heap.size, 0, Option.none⟩) 0 0) [] → Below w.heap.size w w' → wpList Tryd.prog ops Q rest (a.put o.dst (.slice (some ⟨w.heap.size, 0, Option.none⟩) 0 0)) w') :
    wpList Tryd.prog ops Q (o :: rest) a w := by
  refine wpList_plain hg fun K hK => ?_
  unfold Oper.wp execOp
  simp only [ho, Sem.run_bind, Array.map_empty, run_noneB w, Result.andThen_ok]
  exact hK _ _ (h _ (OwB.none w) ((Below.refl _ _).alloc (Nat.le_refl _) _))
theorem wp_makeB (hg : o.guard = none) (l c : Operand) (hop : o.op = Op.makeSlice 33 l c) (L C : Int) (n : Nat)
    (hl : a.eval l = .int .i64 L) (hc : a.eval c = .int .i64 C) (hL : L = (n : Int)) (hC : C = (n : Int)) (hn : n ≤ 140737488355328)
    (hK : ∀ w', LetB w' w.heap.size (List.replicate n 0) → Below w.heap.size w w' → wpList Tryd.prog ops Q rest (a.put o.dst (.slice (some ⟨w.heap.size, 0, none⟩) n n)) w') :
    wpList Tryd.prog ops Q (o :: rest) a w := by
  obtain ⟨i0, hi, hz0, hz1, hz2⟩ := info_parts info_byte
  refine wpList_make_full w hg l c 33 hop w.heap.size 5 i0 (.int .u8 0) 1 Tryd.underlying33 hi hz0 hz1 .i64 .i64 L C n hl hc hL hC (by rw [hz2]; omega) (by unfold maxLen; omega) (Nat.le_refl _) ?_
  intro w' h1 h2
  refine hK w' ?_ ((Below.refl _ _).grown h2 (Nat.le_refl _) (fun k e => by cases e))
  rcases h1.2 with ⟨e, _⟩ | ⟨g, cap, cur, e, _, hh, _, _, hz, ht⟩
  · simp at e
  · simp only [Value.slice.injEq, Option.some.injEq, Addr.mk.injEq, and_true, true_and] at e
    obtain ⟨rfl, rfl⟩ := e
    have e1 : (madeCells (Value.int IntKind.u8 0).cells (n * 1)).toList = List.replicate n (.int .u8 0) := by
      rw [Nat.mul_one]; exact toList_madeCells_one _ _
    rw [e1, List.take_of_length_le (by simp; omega)] at ht
    have : cur = (List.replicate n (Value.int .u8 0)).toArray := by rw [← ht]
    unfold LetB
    rw [hh, this]
    simp [Y]
theorem run_stringB (w : World) (u : Value) (ts : List UInt8) (ht : Byt w u ts) : (convert 33 9 u).run Tryd.prog w = .ok (.string ⟨ts.toArray⟩) w := by
  obtain ⟨A, c, rfl, ⟨hc, hn⟩, hm, hr⟩ := ht
  cases A with
  | none =>
    have hc0 := hn rfl
    subst hc0
    have hl : ts = [] := List.eq_nil_of_length_eq_zero (by omega)
    subst hl
    rw [run_convert_bytes_string w 33 9 5 none _ _ Tryd.underlying33 Tryd.underlying5 Tryd.underlying9]
    rfl
  | some ad =>
    refine run_convert_bytes_back w 33 9 5 ad c ts Tryd.underlying33 Tryd.underlying5 Tryd.underlying9 fun j hj => ?_
    obtain ⟨b, off, e, _, hcc⟩ := hr (by omega)
    cases e
    have e : (⟨b, off, none⟩ : Addr).add j = ⟨b, off + j, none⟩ := by unfold Addr.add; split <;> simp_all
    rw [e, hcc j hj]
    simp [List.getD_eq_getElem?_getD, List.getElem?_eq_getElem hj]
theorem wp_stringB (hgd : o.guard = none) (x : Operand) (hop : o.op = .convert 33 9 x)
    (u : Value) (ts : List UInt8) (hx : a.eval x = u) (ht : Byt w u ts)
    (h : wpList Tryd.prog ops Q rest (a.put o.dst (.string ⟨ts.toArray⟩)) w) :
    wpList Tryd.prog ops Q (o :: rest) a w := by
  refine wpList_plain hgd fun K hK => ?_
  have hrun := run_stringB w u ts ht
  unfold Oper.wp
  simp only [execOp, hop, hx, hrun, Result.andThen, Sem.run_bind, Sem.run_pure]
  exact hK _ _ h
end
end Go.Proofs.YtpbkmkcfhkdjjaaDoor

/- A row of bytes that came in is a slice of bytes that can be read. -/
namespace Go.Proofs.YtpbkmkcfhkdjjaaDoor
open Go.RowKit Dig
set_option linter.unusedVariables false

theorem wf_byte {n : Int} (h : (Lit.int .u8 n).wf = true) : 0 ≤ n ∧ n < 256 := by
  have e1 : IntKind.u8.min = 0 := by decide
  have e2 : IntKind.u8.max = 255 := by decide
  simp [Lit.wf] at h
  rw [e1, e2] at h
  omega
theorem wf_u64 {n : Int} (h : (Lit.int .u64 n).wf = true) : 0 ≤ n ∧ n < 18446744073709551616 := by
  have e1 : IntKind.u64.min = 0 := by decide
  have e2 : IntKind.u64.max = 18446744073709551615 := by decide
  simp [Lit.wf] at h
  rw [e1, e2] at h
  omega
theorem wf_i64 {n : Int} (h : (Lit.int .i64 n).wf = true) : -9223372036854775808 ≤ n ∧ n ≤ 9223372036854775807 := by
  have e1 : IntKind.i64.min = -9223372036854775808 := by decide
  have e2 : IntKind.i64.max = 9223372036854775807 := by decide
  simp [Lit.wf] at h
  omega
theorem byt_of_row {w : World} {a : Option Addr} {len cap : Nat} {zs : List Int}
    (h : (a = none ∧ len = 0 ∧ cap = 0 ∧ zs = []) ∨ ∃ x, a = some x ∧ len ≤ cap ∧ cap ≤ maxLen ∧ zs.length = cap ∧ (∀ i, i < zs.length → w.cell? (x.add i) = some (.int .u8 (zs.getD i 0))) ∧ ∀ n ∈ zs, (Lit.int .u8 n).wf = true) :
    ∃ ts, Byt w (.slice a len cap) ts := by
  rcases h with ⟨rfl, rfl, rfl, rfl⟩ | ⟨x, rfl, hl, hm, hz, hcell, hwz⟩
  · exact ⟨[], Byt.nil w⟩
  · have hlen : ((zs.take len).map fun z => oct z.toNat).length = len := by simp; omega
    have hbd : ∀ j, j < zs.length → 0 ≤ zs.getD j 0 ∧ zs.getD j 0 < 256 := by
      intro j hj
      have h1 : zs.getD j 0 ∈ zs := by
        rw [List.getD_eq_getElem?_getD, List.getElem?_eq_getElem hj]
        exact List.getElem_mem hj
      exact wf_byte (hwz _ h1)
    have hget : ∀ j, j < len → ((((zs.take len).map fun z => oct z.toNat).getD j 0).toNat : Int) = zs.getD j 0 := by
      intro j hj
      have h1 : j < zs.length := by omega
      have h2 := hbd j h1
      have e : ((zs.take len).map fun z => oct z.toNat).getD j 0 = oct (zs.getD j 0).toNat := by
        simp [List.getD_eq_getElem?_getD, hj, List.getElem?_eq_getElem h1]
      rw [e, oct_toNat (by omega)]
      omega
    refine ⟨(zs.take len).map fun z => oct z.toNat, some x, cap, by rw [hlen], ⟨by omega, fun e => by cases e⟩, hm, fun hp => ?_⟩
    rw [hlen] at hp ⊢
    obtain ⟨b, off, spot⟩ := x
    have hc := hcell 0 (by omega)
    have hspot : spot = none := by simpa [Addr.add] using World.cell?_spot hc
    subst hspot
    refine ⟨b, off, rfl, ?_, fun j hj => ?_⟩
    · have := World.block_lt_of_cell? w _ hc
      simpa [Addr.add] using this
    · have e : (⟨b, off, none⟩ : Addr).add j = ⟨b, off + j, none⟩ := by unfold Addr.add; split <;> simp_all
      have h1 := hcell j (by omega)
      rw [e] at h1
      rw [h1, hget j hj]
end Go.Proofs.YtpbkmkcfhkdjjaaDoor

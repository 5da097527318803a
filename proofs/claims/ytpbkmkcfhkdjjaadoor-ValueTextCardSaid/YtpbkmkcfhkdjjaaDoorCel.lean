/- Slices whose elements take several cells each: rows that can be read, rows of a call's own. -/
import Derived.Deep.MidRow
import Derived.Laws.OwnMore
import Derived.Deep.Onto
import Derived.Laws.MakeOwn
import Derived.OwnWalk
import Derived.Test.YtpbkmkcfhkdjjaaDoorGnd
namespace Go.Proofs.YtpbkmkcfhkdjjaaDoor
open Go.RowKit
set_option linter.unusedVariables false

/-- The n elements of a slice, k cells each, lie in memory as vs. -/
def Cel (w : World) (v : Value) (k n : Nat) (vs : List Value) : Prop :=
  vs.length = n * k ∧ ∃ A c, v = .slice A n c ∧ (n ≤ c ∧ (A = none → c = 0)) ∧ c ≤ maxLen ∧ (0 < n → ∃ b off, A = some ⟨b, off, none⟩ ∧ b < w.heap.size ∧ w.rangeAt b off vs)
section
variable {w w' : World} {v : Value} {k n base : Nat} {vs : List Value} {e : TypeId}
theorem Cel.nil (w : World) (k : Nat) : Cel w (.slice none 0 0) k 0 [] := ⟨by simp, none, 0, rfl, ⟨Nat.le_refl _, fun _ => rfl⟩, by unfold maxLen; omega, fun h => absurd h (by omega)⟩
theorem Cel.form (h : Cel w v k n vs) : ∃ A c, v = .slice A n c := by
  obtain ⟨_, A, c, e, _⟩ := h
  exact ⟨A, c, e⟩
theorem Cel.keep (h : Cel w v k n vs) (hs : w.heap.size ≤ w'.heap.size) (hk : ∀ b, b < w.heap.size → v.ownBlock = some b → w'.heap[b]? = w.heap[b]?) : Cel w' v k n vs := by
  obtain ⟨hl, A, c, e, h1, h2, h3⟩ := h
  refine ⟨hl, A, c, e, h1, h2, fun hp => ?_⟩
  obtain ⟨b, off, rfl, hb, hr⟩ := h3 hp
  refine ⟨b, off, rfl, by omega, fun j u hj => ?_⟩
  rw [World.cell?_of_block (a := ⟨b, off + j, none⟩) (hk b hb (by rw [e]; rfl))]
  exact hr j u hj
theorem Cel.below (h : Cel w v k n vs) (hb : Below w.heap.size w w') : Cel w' v k n vs := h.keep hb.size fun b hlt _ => hb.block b hlt
theorem Cel.grown {row : Option Nat} (h : Cel w v k n vs) (hg : w.grownBy w' row) (hne : ∀ b, v.ownBlock = some b → row ≠ some b) : Cel w' v k n vs :=
  h.keep hg.size fun b hlt hb => hg.block b hlt (fun e => hne b hb e.symm)
theorem Cel.bounds {A : Option Addr} {m c : Nat} (h : Cel w (.slice A m c) k n vs) : m = n ∧ n ≤ c ∧ c ≤ maxLen ∧ vs.length = n * k := by
  obtain ⟨hl, A', c', e, ⟨h1, _⟩, h2, _⟩ := h
  simp only [Value.slice.injEq] at e
  obtain ⟨_, rfl, rfl⟩ := e
  exact ⟨rfl, h1, h2, hl⟩
/-- The cells of a row. -/
theorem Cel.range {A : Option Addr} {m c : Nat} (h : Cel w (.slice A m c) k n vs) (hp : 0 < n) : ∃ b off, A = some ⟨b, off, none⟩ ∧ b < w.heap.size ∧ w.rangeAt b off vs := by
  obtain ⟨_, A', c', e, _, _, h3⟩ := h
  simp only [Value.slice.injEq] at e
  obtain ⟨rfl, _, _⟩ := e
  exact h3 hp
/-- A part of a row. -/
theorem range_part {b off : Nat} (h : w.rangeAt b off vs) (i m : Nat) : w.rangeAt b (off + i) ((vs.drop i).take m) := fun j u hj => by
  rw [List.getElem?_take] at hj
  split at hj
  · rw [List.getElem?_drop] at hj
    rw [Nat.add_assoc]
    exact h _ u hj
  · cases hj
theorem own_cel (h : w.ownsRow base e k v n vs) : Cel w v k n vs := by
  obtain ⟨hl, h⟩ := h
  rcases h with ⟨rfl, rfl⟩ | ⟨g, cap, cur, rfl, hb, hh, hn, hm, hs, ht⟩
  · refine ⟨hl, none, 0, rfl, ⟨Nat.le_refl _, fun _ => rfl⟩, by unfold maxLen; omega, fun h => absurd h (by omega)⟩
  · refine ⟨hl, some ⟨g, 0, none⟩, cap, rfl, ⟨hn, fun e => by cases e⟩, hm, fun _ => ⟨g, 0, rfl, ?_, fun j u hj => ?_⟩⟩
    · rcases Nat.lt_or_ge g w.heap.size with h | h
      · exact h
      · rw [Array.getElem?_eq_none h] at hh; cases hh
    · rw [cell_of_row w g _ _ _ (0, 0) hh, Nat.zero_add]
      rw [← ht, List.getElem?_take] at hj
      split at hj
      · simpa using hj
      · cases hj
theorem own_below {B : Nat} (h : w.ownsRow base e k v n vs) (hb : Below B w w') (hB : w.heap.size ≤ B) : w'.ownsRow base e k v n vs := by
  obtain ⟨hl, h⟩ := h
  refine ⟨hl, ?_⟩
  rcases h with h | ⟨g, cap, cur, e1, hg, hh, r⟩
  · exact .inl h
  · have hlt : g < w.heap.size := by
      rcases Nat.lt_or_ge g w.heap.size with h | h
      · exact h
      · rw [Array.getElem?_eq_none h] at hh; cases hh
    exact .inr ⟨g, cap, cur, e1, hg, by rw [hb.block g (by omega)]; exact hh, r⟩
theorem own_grown {row : Option Nat} (h : w.ownsRow base e k v n vs) (hg : w.grownBy w' row) (hne : ∀ g, v.ownBlock = some g → row ≠ some g) : w'.ownsRow base e k v n vs :=
  h.kept hg (by
    cases hv : v.ownBlock with
    | none => exact .inl rfl
    | some g => exact .inr (by rw [← hv]; intro e2; exact hne g hv (by rw [← e2, hv])))
theorem own_mono {base' : Nat} (h : w.ownsRow base e k v n vs) (hb : base' ≤ base) : w.ownsRow base' e k v n vs := h.mono hb
theorem below_own {w w1 w' : World} {v : Value} {base : Nat} (h : Below w.heap.size w w1) (hg : w1.grownBy w' v.ownBlock) (hb : w1.ownsRow base e k v n vs) (hbase : w.heap.size ≤ base) : Below w.heap.size w w' :=
  h.grown hg h.size (fun g hgv => Nat.le_trans hbase (hb.lt g hgv).1)
end
section
variable {w : World} {ops : Array Oper} {rest : List Oper} {o : Oper} {a : Act} {Q : Exit → Act → World → Prop}
/-- append(s, x...) where s is of the call's own. -/
theorem wp_appendC {T e : TypeId} {z : Value} {k by' : Nat} (hT : Tryd.prog.underlying T = some (.slice e)) (hI : (Tryd.prog.info? e).map (fun i => (i.zero, i.size, i.bytes)) = some (some z, k, by')) (hz : z.cells.size = k) (hk : 0 < k)
    (hgd : o.guard = none) (s x : Operand) (ho : o.op = .call { callee := .builtin .append, args := #[s, x], argTypes := #[T, T] })
    (base : Nat) (v : Value) (n : Nat) (vs : List Value) (hs : a.eval s = v) (hown : w.ownsRow base e k v n vs) (u : Value) (m : Nat) (us : List Value) (hx : a.eval x = u) (hr : Cel w u k m us) (h1 : ∀ y ∈ us, y.oneCell' = true)
    (h63 : n + m ≤ 1000000) (hby : by' ≤ 1000000) (hbase : base ≤ w.heap.size)
    (h : ∀ v' w', w'.ownsRow base e k v' (n + m) (vs ++ us) → w.grownBy w' v.ownBlock → wpList Tryd.prog ops Q rest (a.put o.dst v') w') :
    wpList Tryd.prog ops Q (o :: rest) a w := by
  cases hq : Tryd.prog.info? e with
  | none => simp [hq] at hI
  | some i0 =>
    simp [hq] at hI
    obtain ⟨hz0, hz1, hz2⟩ := hI
    obtain ⟨hl, A, c, e1, ⟨hc, hn⟩, hm, hcell⟩ := hr
    cases A with
    | none =>
      have hc0 := hn rfl
      subst hc0
      obtain rfl : m = 0 := by omega
      have hl : us = [] := List.eq_nil_of_length_eq_zero (by omega)
      subst hl
      subst e1
      refine wpList_plain hgd fun K hK => ?_
      have hrun := run_append_owned_none (P := Tryd.prog) (w := w) base T o.type e i0 k hT hq v n vs hown
      unfold Oper.wp
      simp [execOp, ho, resolve, invoke, builtin, hs, hx, hrun, Result.andThen]
      exact hK _ _ (h v w (by simpa using hown) (World.grownBy.refl w _))
    | some ad =>
      subst e1
      have hnews : ∀ j y, us[j]? = some y → w.cell? (ad.add j) = some y := by
        intro j y hj
        have hpos : 0 < m := by
          rcases Nat.eq_zero_or_pos m with h0 | h0
          · subst h0
            have := (List.getElem?_eq_some_iff.1 hj).1
            omega
          · exact h0
        obtain ⟨b, off, e2, _, hr⟩ := hcell hpos
        cases e2
        have : (⟨b, off, none⟩ : Addr).add j = ⟨b, off + j, none⟩ := by unfold Addr.add; split <;> simp_all
        rw [this]
        exact hr j y hj
      have hbytes : (n + m) * by' ≤ 140737488355328 := Nat.le_trans (Nat.mul_le_mul h63 hby) (by omega)
      refine wpList_append_own w hgd s x T ho base e i0 z k by' hT hq hz0 hz1 hz2 hz hk v n vs hs hown ad m c us hx hl hnews h1 (by unfold maxLen; omega) hbytes hbase ?_
      intro v' w' h1 h2 _
      exact h v' w' h1 h2
/-- An empty literal. -/
theorem wp_noneC {T e : TypeId} {z : Value} {k by' : Nat} (hT : Tryd.prog.underlying T = some (.slice e)) (hI : (Tryd.prog.info? e).map (fun i => (i.zero, i.size, i.bytes)) = some (some z, k, by'))
    (hg : o.guard = none) (ho : o.op = .buildSlice T 0 #[])
    (h : ∀ w', w'.ownsRow w.heap.size e k (.slice (some ⟨w.heap.size, 0, none⟩) 0 0) 0 [] → Below w.heap.size w w' → wpList Tryd.prog ops Q rest (a.put o.dst (.slice (some ⟨w.heap.size, 0, none⟩) 0 0)) w') :
    wpList Tryd.prog ops Q (o :: rest) a w := by
  cases hq : Tryd.prog.info? e with
  | none => simp [hq] at hI
  | some i0 =>
    refine wpList_plain hg fun K hK => ?_
    have hr : (Instr.buildSlice T 0 #[]).run Tryd.prog w = .ok (.slice (some ⟨w.heap.size, 0, none⟩) 0 0) (w.alloc (.cells #[] e)) := by
      simp [hq] at hI
      simp [Instr.buildSlice, run_underlying hT, sizeOf, typeInfo, hq, newRow, Instr.fill]
      rw [show (Array.range 0 : Array Nat) = #[] from Array.eq_empty_of_size_eq_zero (by simp), Array.map_empty]
    unfold Oper.wp execOp
    simp only [ho, Sem.run_bind, Array.map_empty, hr, Result.andThen_ok]
    exact hK _ _ (h _ (World.ownsRow_made w #[] 0 (Nat.le_refl _) (by unfold maxLen; omega) (by simp)) ((Below.refl _ _).alloc (Nat.le_refl _) _))
end
end Go.Proofs.YtpbkmkcfhkdjjaaDoor

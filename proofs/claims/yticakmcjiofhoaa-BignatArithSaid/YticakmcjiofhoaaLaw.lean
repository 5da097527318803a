/- Laws for the walk over slices of digits: append onto a number of the call's own, make, copy. -/
import Derived.Test.YticakmcjiofhoaaCmp
import Derived.Laws.CopyOwn
namespace Go.Proofs.Yticakmcjiofhoaa
open Go.RowKit Dig

theorem info_digit : (Try.prog.info? 50).map (fun i => (i.zero, i.size, i.bytes)) = some (some (.int .u32 0), 1, 4) := by kernel_rfl
theorem size_digit : (Try.prog.info? 50).map (·.size) = some 1 := by kernel_rfl

section
variable {w : World} {ops : Array Oper} {rest : List Oper} {o : Oper} {a : Act} {Q : Exit → Act → World → Prop}

theorem wp_append (hgd : o.guard = none) (s x : Operand) (ho : o.op = .call { callee := .builtin .append, args := #[s, x], argTypes := #[24, 24] })
    (base : Nat) (v : Value) (xs : List Nat) (hs : a.eval s = v) (hown : Own base w v xs) (u : Value) (ys : List Nat) (hx : a.eval x = u) (hr : Num w u ys)
    (hb : xs.length + ys.length ≤ 17592186044416) (hbase : base ≤ w.heap.size)
    (h : ∀ v' w', Own base w' v' (xs ++ ys) → w.grownBy w' v.ownBlock → (v' = .slice none 0 0 ↔ v = .slice none 0 0 ∧ ys.length = 0) → wpList Try.prog ops Q rest (a.put o.dst v') w') :
    wpList Try.prog ops Q (o :: rest) a w := by
  obtain ⟨i0, hi, hz0, hz1, hz2⟩ := info_parts info_digit
  obtain ⟨A, c, e, ⟨hc, hn⟩, hm, hsm, hcell⟩ := hr
  have ho' := hown.ownsRow
  cases A with
  | none =>
    have hc0 := hn rfl
    subst hc0
    have hl : ys = [] := List.eq_nil_of_length_eq_zero (by omega)
    subst hl
    subst e
    refine wpList_plain hgd fun K hK => ?_
    have hrun := run_append_owned_none (P := Try.prog) (w := w) base 24 o.type 50 i0 1 Try.underlying24 hi v xs.length (U xs) ho'
    unfold Oper.wp
    simp only [List.length_nil] at hx
    simp [execOp, ho, resolve, invoke, builtin, hs, hx, hrun, Result.andThen]
    exact hK _ _ (h v w (by simpa using hown) (World.grownBy.refl w _) (by simp))
  | some ad =>
    subst e
    have hnews : ∀ j u, (U ys)[j]? = some u → w.cell? (ad.add j) = some u := by
      intro j u hu
      rcases Nat.lt_or_ge j ys.length with hj | hj
      · obtain ⟨b, off, e, _, hcc⟩ := hcell (by omega)
        cases e
        rw [U_get ys j hj] at hu
        injection hu with hu
        subst hu
        have : (⟨b, off, none⟩ : Addr).add j = ⟨b, off + j, none⟩ := by unfold Addr.add; split <;> simp_all
        rw [this]
        exact hcc j hj
      · rw [List.getElem?_eq_none (by rw [U_length]; exact hj)] at hu
        cases hu
    refine wpList_append_own w hgd s x 24 ho base 50 i0 (.int .u32 0) 1 4 Try.underlying24 hi hz0 hz1 hz2 rfl (by decide) v xs.length (U xs) hs ho' ad ys.length c (U ys) hx (by simp [U_length]) hnews (U_oneCell ys) (by unfold maxLen; omega) (by omega) hbase ?_
    intro v' w' h1 h2 h3
    refine h v' w' (Own.of_ownsRow ?_ (hown.small.append hsm)) h2 h3
    rw [U_append, List.length_append]
    exact h1

theorem wp_make (hg : o.guard = none) (l c : Operand) (hop : o.op = Op.makeSlice 24 l c) (L C : Int) (n : Nat)
    (hl : a.eval l = .int .i64 L) (hc : a.eval c = .int .i64 C) (hL : L = (n : Int)) (hC : C = (n : Int)) (hn : n ≤ 35184372088832)
    (hK : ∀ w', Seg w' w.heap.size [] (List.replicate n 0) [] → Below w.heap.size w w' → wpList Try.prog ops Q rest (a.put o.dst (.slice (some ⟨w.heap.size, 0, none⟩) n n)) w') :
    wpList Try.prog ops Q (o :: rest) a w := by
  obtain ⟨i0, hi, hz0, hz1, hz2⟩ := info_parts info_digit
  refine wpList_make_full w hg l c 24 hop w.heap.size 50 i0 (.int .u32 0) 1 Try.underlying24 hi hz0 hz1 .i64 .i64 L C n hl hc hL hC (by rw [hz2]; omega) (by unfold maxLen; omega) (Nat.le_refl _) ?_
  intro w' h1 h2
  refine hK w' ?_ ((Below.refl _ _).grown h2 (Nat.le_refl _) (fun k e => by cases e))
  rcases h1.2 with ⟨e, _⟩ | ⟨g, cap, cur, e, _, hh, _, _, hz, ht⟩
  · simp at e
  · simp only [Value.slice.injEq, Option.some.injEq, Addr.mk.injEq, and_true, true_and] at e
    obtain ⟨rfl, rfl⟩ := e
    unfold Seg
    rw [hh]
    have e1 : (madeCells (Value.int IntKind.u32 0).cells (n * 1)).toList = List.replicate n (.int .u32 0) := by
      rw [Nat.mul_one]; exact toList_madeCells_one _ _
    rw [e1, List.take_of_length_le (by simp; omega)] at ht
    have : cur = (List.replicate n (Value.int .u32 0)).toArray := by rw [← ht]
    rw [this, U_replicate]
    simp

/-- copy onto the first digits of a segment. -/
theorem wp_copy (hgd : o.guard = none) (d s : Operand) (ho : o.op = .call { callee := .builtin .copy, args := #[d, s], argTypes := #[24, 24] })
    (g off n c : Nat) (hd : a.eval d = .slice (some ⟨g, off, none⟩) n c) (u : Value) (ys : List Nat) (hs : a.eval s = u) (hr : Num w u ys)
    (pre post : List Value) (xs : List Nat) (hseg : Seg w g pre xs post) (hoff : pre.length = off) (hn : xs.length = n) (hle : ys.length ≤ xs.length)
    (h : ∀ w', Seg w' g pre (ys ++ xs.drop ys.length) post → w.grownBy w' (some g) → w'.heap.size = w.heap.size → wpList Try.prog ops Q rest (a.put o.dst (goInt ys.length)) w') :
    wpList Try.prog ops Q (o :: rest) a w := by
  obtain ⟨A, c', e, ⟨hc, hnn⟩, hm, hsm, hcell⟩ := hr
  subst e
  have hmin : Nat.min ys.length n = ys.length := Nat.min_eq_left (by omega)
  by_cases h0 : ys.length = 0
  · have e0 : ys = [] := List.eq_nil_of_length_eq_zero h0
    subst e0
    exact wpList_copy_nothing hgd d s _ _ ho 50 Try.underlying24 size_digit _ _ n c _ c' hd hs (by simp) (h w (by simpa using hseg) (World.grownBy.refl w _) rfl)
  · obtain ⟨b, so, rfl, hb, hcc⟩ := hcell (by omega)
    have hsrc : ∀ j v, (U ys)[j]? = some v → w.cell? ((⟨b, so, none⟩ : Addr).add j) = some v := by
      intro j v hu
      have hj : j < ys.length := by
        rcases Nat.lt_or_ge j ys.length with hj | hj
        · exact hj
        · rw [List.getElem?_eq_none (by rw [U_length]; exact hj)] at hu; cases hu
      rw [U_get ys j hj] at hu
      injection hu with hu
      subst hu
      have : (⟨b, so, none⟩ : Addr).add j = ⟨b, so + j, none⟩ := by unfold Addr.add; split <;> simp_all
      rw [this]
      exact hcc j hj
    refine wpList_copy_own hgd d s _ _ ho 50 Try.underlying24 size_digit g off n c ⟨b, so, none⟩ ys.length c' hd hs (pre ++ U xs ++ post).toArray 50 hseg (U ys) (by rw [U_length, hmin]) hsrc ?_ (U_oneCell ys) ?_
    · simp [U_length]; omega
    · have := h (w.setRow g ((pre ++ U xs ++ post).toArray.toList.take off ++ (U ys ++ (pre ++ U xs ++ post).toArray.toList.drop (off + (U ys).length))).toArray) ?_ ?_ ?_
      · simpa [U_length] using this
      · unfold Seg
        rw [setRow_heap w g _ _ _ _ hseg]
        congr 3
        have e1 : (pre ++ U xs ++ post).take off = pre := by rw [List.append_assoc, ← hoff]; exact List.take_left
        have e2 : (pre ++ U xs ++ post).drop (off + ys.length) = U (xs.drop ys.length) ++ post := by
          rw [List.append_assoc, ← hoff, List.drop_append, List.drop_of_length_le (by omega), Nat.add_sub_cancel_left, List.drop_append, U_length]
          have : (U xs).drop ys.length = U (xs.drop ys.length) := by simp [U, List.map_drop]
          rw [this, show ys.length - xs.length = 0 by omega]
          simp
        simp only [U_length]
        rw [e1, e2, U_append]
        simp
      · exact ⟨rfl, rfl, rfl, by simp [World.setRow], fun k _ hk => setRow_other w g k _ (fun e => hk (by rw [e]))⟩
      · simp [World.setRow]
end
end Go.Proofs.Yticakmcjiofhoaa

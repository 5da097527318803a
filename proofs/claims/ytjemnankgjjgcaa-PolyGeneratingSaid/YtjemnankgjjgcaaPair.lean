/- Two numbers in blocks of their own, each about to take a digit more: append onto the parts of a fraction's variable. -/
import Derived.Test.YtjemnankgjjgcaaLoad
import Derived.Test.YtjemnankgjjgcaaPlans
import Derived.Test.YtjemnankgjjgcaaInts
namespace Go.Proofs.Ytjemnankgjjgcaa
open Go.RowKit Dig
set_option linter.unusedVariables false

theorem Own.inside {base h : Nat} {w : World} {v : Value} {xs : List Nat} (o : Own base w v xs) (hh : v.ownBlock = some h) : base ≤ h ∧ h < w.heap.size := by
  obtain ⟨hs, o⟩ := o
  rcases o with ⟨rfl, _⟩ | ⟨g', rest, rfl, hb, hm, hS⟩
  · simp [Value.ownBlock] at hh
  · simp [Value.ownBlock] at hh
    subst hh
    exact ⟨hb, hS.lt⟩
theorem Own.shape {base : Nat} {w : World} {v : Value} {xs : List Nat} (o : Own base w v xs) : ∃ A n c, v = .slice A n c := by
  obtain ⟨hs, o⟩ := o
  rcases o with ⟨rfl, _⟩ | ⟨g', rest, rfl, hb, hm, hS⟩
  · exact ⟨_, _, _, rfl⟩
  · exact ⟨_, _, _, rfl⟩
theorem Own.moved {base : Nat} {w w' : World} {v : Value} {xs : List Nat} (o : Own base w v xs) (hk : ∀ h, v.ownBlock = some h → w'.heap[h]? = w.heap[h]?) : Own base w' v xs := by
  obtain ⟨hs, o⟩ := o
  refine ⟨hs, ?_⟩
  rcases o with o | ⟨g', rest, rfl, hb, hm, hS⟩
  · exact .inl o
  · exact .inr ⟨g', rest, rfl, hb, hm, hS.of_block (hk g' (by simp [Value.ownBlock]))⟩
/-- A row of one digit 0 in block h. -/
def One (w : World) (h : Nat) : Prop := Num w (.slice (some ⟨h, 0, none⟩) 1 1) [0]
theorem One.lt {w : World} {h : Nat} (o : One w h) : h < w.heap.size := by
  obtain ⟨A, c, e, _, _, _, h5⟩ := o
  obtain ⟨b, off, e2, hb, _⟩ := h5 (by simp)
  cases e
  cases e2
  exact hb
theorem One.moved {w w' : World} {h : Nat} (o : One w h) (hs : w.heap.size ≤ w'.heap.size) (hk : w'.heap[h]? = w.heap[h]?) : One w' h := by
  obtain ⟨A, c, e, h2, h3, h4, h5⟩ := o
  refine ⟨A, c, e, h2, h3, h4, fun hp => ?_⟩
  obtain ⟨b, off, e2, hb, hc⟩ := h5 hp
  cases e
  cases e2
  exact ⟨_, _, rfl, by omega, fun j hj => (World.cell?_of_block (a := ⟨h, 0 + j, none⟩) hk).trans (hc j hj)⟩
theorem one_new (w : World) : One (w.alloc (.cells #[.int .u32 0] 53)) w.heap.size := Num.one w 0 0 (by omega) rfl

/-- An append of one digit 0 onto a number of its own. -/
theorem run_append_u {base h : Nat} {w : World} {v : Value} {xs : List Nat} (hown : Own base w v xs) (h1 : One w h) (hb : xs.length ≤ 1000000) (hbase : base ≤ w.heap.size) (ty : TypeId) :
    ∃ v' w', (Builtin.append_ #[27, 27] ty #[v, .slice (some ⟨h, 0, none⟩) 1 1]).run Try.prog w = .ok v' w' ∧ Own base w' v' (xs ++ [0]) ∧ w.grownBy w' v.ownBlock ∧ (v'.ownBlock = v.ownBlock ∨ v'.ownBlock = some w.heap.size) := by
  obtain ⟨i0, hi, hz0, hz1, hz2⟩ := info_parts info_digit
  have ho' := hown.ownsRow
  have hcells : ∀ j u, (U [0])[j]? = some u → w.cell? ((⟨h, 0, none⟩ : Addr).add j) = some u := by
    intro j u hu
    obtain ⟨A, c, e, _, _, _, h5⟩ := h1
    obtain ⟨b, off, e2, hbb, hc⟩ := h5 (by simp)
    cases e
    cases e2
    have hj : j < 1 := by
      have := (List.getElem?_eq_some_iff.1 hu).1
      simpa [U_length] using this
    have := hc j (by simpa using hj)
    obtain rfl : j = 0 := by omega
    rw [U_get [0] 0 (by simp)] at hu
    cases hu
    simpa [Addr.add] using this
  obtain ⟨v', w', hrun, h2, h3, h4⟩ := run_append_own (P := Try.prog) w base 27 ty 53 i0 (.int .u32 0) 1 4 Try.underlying27 hi hz0 hz1 hz2 rfl (by decide) v xs.length (U xs) ho' ⟨h, 0, none⟩ 1 1 (U [0]) (by simp [U_length]) hcells (U_oneCell [0]) (by unfold maxLen; omega) (by omega) hbase
  have hO : Own base w' v' (xs ++ [0]) := Own.of_ownsRow (by rw [U_append, List.length_append]; exact h2) (hown.small.append (by intro d hd; simp at hd; omega))
  refine ⟨v', w', hrun, hO, h3, ?_⟩
  obtain ⟨hs, o⟩ := hown
  rcases o with ⟨rfl, rfl⟩ | ⟨g, rest, rfl, hbg, hm, hS⟩
  · have hr2 := run_append_nil (P := Try.prog) w 27 ty 53 i0 _ Try.underlying27 hi hz0 ⟨h, 0, none⟩ 1 1 (U [0]) (by simp [U_length, hz1]) hcells (by omega) (by omega) (by rw [hz2]; omega)
    rw [hr2] at hrun
    injection hrun with e1 e2
    rw [← e1]
    exact .inr rfl
  · by_cases hroom : 1 ≤ rest.length
    · have hr2 := run_append_room (P := Try.prog) w 27 ty 53 i0 Try.underlying27 hi g xs.length (xs.length + rest.length) _ hS ⟨h, 0, none⟩ 1 1 (U [0]) (by simp [U_length, hz1]) hcells (U_oneCell [0]) (by omega) (by simp [U_length, hz1]; omega)
      rw [hr2] at hrun
      injection hrun with e1 e2
      rw [← e1]
      exact .inl rfl
    · have hold : ∀ j u, (U xs)[j]? = some u → w.cell? ((⟨g, 0, none⟩ : Addr).add j) = some u := by
        intro j u hu
        have hj : j < xs.length := by
          have := (List.getElem?_eq_some_iff.1 hu).1
          simpa [U_length] using this
        rw [U_get xs j hj] at hu
        cases hu
        have := hS.cell hj
        have e : (⟨g, 0, none⟩ : Addr).add j = ⟨g, j, none⟩ := by unfold Addr.add; split <;> simp_all
        rw [e]
        simpa using this
      have hr2 := run_append_grow (P := Try.prog) w 27 ty 53 i0 _ Try.underlying27 hi hz0 ⟨g, 0, none⟩ xs.length (xs.length + rest.length) (U xs) (by simp [U_length, hz1]) hold ⟨h, 0, none⟩ 1 1 (U [0]) (by simp [U_length, hz1]) hcells (by omega) (by omega) (growslice_fits (by omega) (by rw [hz2]; omega))
      rw [hr2] at hrun
      injection hrun with e1 e2
      rw [← e1]
      exact .inr rfl

/-- The state of a region that appends to both parts of the variable in block g: p, q are the blocks of the rows to append. -/
structure Pair (w : World) (base g : Nat) (X Y : Value) (xs ys : List Nat) (p q : Option Nat) : Prop where
  ox : Own base w X xs
  oy : Own base w Y ys
  gx : X.ownBlock ≠ some g
  gy : Y.ownBlock ≠ some g
  xy : ∀ h, X.ownBlock = some h → Y.ownBlock ≠ some h
  op : ∀ h, p = some h → One w h ∧ h ≠ g ∧ X.ownBlock ≠ some h ∧ Y.ownBlock ≠ some h
  oq : ∀ h, q = some h → One w h ∧ h ≠ g ∧ X.ownBlock ≠ some h ∧ Y.ownBlock ≠ some h
  lt : g < w.heap.size
section
variable {w w' : World} {base g h : Nat} {X Y X' : Value} {xs ys : List Nat} {p q : Option Nat}
theorem Pair.swap (k : Pair w base g X Y xs ys p q) : Pair w base g Y X ys xs q p :=
  ⟨k.oy, k.ox, k.gy, k.gx, fun h h1 h2 => k.xy h h2 h1, fun h e => by obtain ⟨a, b, c, d⟩ := k.oq h e; exact ⟨a, b, d, c⟩, fun h e => by obtain ⟨a, b, c, d⟩ := k.op h e; exact ⟨a, b, d, c⟩, k.lt⟩
theorem Pair.build (k : Pair w base g X Y xs ys p q) : Pair (w.alloc (.cells #[.int .u32 0] 53)) base g X Y xs ys (some w.heap.size) q := by
  have hsz : w.heap.size ≤ (w.alloc (.cells #[.int .u32 0] 53)).heap.size := by simp
  refine ⟨k.ox.alloc _, k.oy.alloc _, k.gx, k.gy, k.xy, fun h e => ?_, fun h e => ?_, Nat.lt_of_lt_of_le k.lt hsz⟩
  · cases e
    refine ⟨one_new w, fun e => ?_, fun e => ?_, fun e => ?_⟩
    · have := k.lt; omega
    · have := (k.ox.inside e).2; omega
    · have := (k.oy.inside e).2; omega
  · obtain ⟨a, b, c, d⟩ := k.oq h e
    exact ⟨a.moved hsz (Below.heap_alloc _ _ _ a.lt), b, c, d⟩
theorem Pair.grow (k : Pair w base g X Y xs ys p q) (ho : Own base w' X' (xs ++ [0])) (hg : w.grownBy w' X.ownBlock) (hx : X'.ownBlock = X.ownBlock ∨ X'.ownBlock = some w.heap.size) : Pair w' base g X' Y (xs ++ [0]) ys p q := by
  have hl := k.lt
  have other : ∀ h, h < w.heap.size → X.ownBlock ≠ some h → w'.heap[h]? = w.heap[h]? := fun h hh hn => hg.block h hh (fun e => hn e.symm)
  have apart : ∀ h, h < w.heap.size → X.ownBlock ≠ some h → X'.ownBlock ≠ some h := fun h hh hn e => by
    rcases hx with hx | hx
    · exact hn (hx ▸ e)
    · rw [hx] at e; cases e; omega
  refine ⟨ho, k.oy.moved fun h e => other h (k.oy.inside e).2 (fun e2 => k.xy h e2 e), apart g hl k.gx, k.gy, fun h e1 e2 => ?_, fun h e => ?_, fun h e => ?_, Nat.lt_of_lt_of_le hl hg.size⟩
  · exact apart h (k.oy.inside e2).2 (fun e => k.xy h e e2) e1
  · obtain ⟨a, b, c, d⟩ := k.op h e
    exact ⟨a.moved hg.size (other h a.lt c), b, apart h a.lt c, d⟩
  · obtain ⟨a, b, c, d⟩ := k.oq h e
    exact ⟨a.moved hg.size (other h a.lt c), b, apart h a.lt c, d⟩
theorem Pair.store (k : Pair w base g X Y xs ys p q) (i : Nat) (u : Value) : Pair (w.setCell ⟨g, i, none⟩ u) base g X Y xs ys p q := by
  have hs : (w.setCell ⟨g, i, none⟩ u).heap.size = w.heap.size := by simp [World.setCell]
  have hh : ∀ h, h ≠ g → (w.setCell ⟨g, i, none⟩ u).heap[h]? = w.heap[h]? := fun h hn => Below.heap_setCell w ⟨g, i, none⟩ u h hn
  refine ⟨k.ox.moved fun h e => hh h (fun e2 => k.gx (e2 ▸ e)), k.oy.moved fun h e => hh h (fun e2 => k.gy (e2 ▸ e)), k.gx, k.gy, k.xy, fun h e => ?_, fun h e => ?_, by rw [hs]; exact k.lt⟩
  · obtain ⟨a, b, c, d⟩ := k.op h e
    exact ⟨a.moved (by rw [hs]; exact Nat.le_refl _) (hh h b), b, c, d⟩
  · obtain ⟨a, b, c, d⟩ := k.oq h e
    exact ⟨a.moved (by rw [hs]; exact Nat.le_refl _) (hh h b), b, c, d⟩
theorem Pair.drew (k : Pair w base g X Y xs ys p q) : Pair w.drew base g X Y xs ys p q := ⟨k.ox, k.oy, k.gx, k.gy, k.xy, k.op, k.oq, k.lt⟩
theorem Pair.done (k : Pair w base g X Y xs ys p q) : Pair w base g X Y xs ys none none := ⟨k.ox, k.oy, k.gx, k.gy, k.xy, fun h e => (by cases e), fun h e => (by cases e), k.lt⟩
/-- Two numbers whose blocks were there when the variable was made. -/
theorem Pair.new (ox : Own base w X xs) (oy : Own base w Y ys) (xy : ∀ h, X.ownBlock = some h → Y.ownBlock ≠ some h) (o : Obj) : Pair (w.alloc o) base w.heap.size X Y xs ys none none :=
  ⟨ox.alloc _, oy.alloc _, fun e => (by have := (ox.inside e).2; omega), fun e => (by have := (oy.inside e).2; omega), xy, fun h e => (by cases e), fun h e => (by cases e), by simp⟩
end
theorem Fcl.part1 {w : World} {g : Nat} {b : Bool} {x y : Value} (h : Fcl w g b x y) (v : Value) : Fcl (w.setCell ⟨g, 1, none⟩ v) g b v y := by
  unfold Fcl at h ⊢
  simp [World.setCell, Array.getElem?_modify, h]
theorem Fcl.part2 {w : World} {g : Nat} {b : Bool} {x y : Value} (h : Fcl w g b x y) (v : Value) : Fcl (w.setCell ⟨g, 2, none⟩ v) g b x v := by
  unfold Fcl at h ⊢
  simp [World.setCell, Array.getElem?_modify, h]
/-- The variable in block g holds the number q, in parts of at most k digits in blocks of their own. -/
def PF (k : Nat) (B w : World) (g : Nat) (q : Rat) : Prop := ∃ b X Y xs ys, Fcl w g b X Y ∧ Pair w B.heap.size g X Y xs ys none none ∧ xs.length ≤ k ∧ ys.length ≤ k ∧ fr b (val xs) (val ys) = q ∧ Below B.heap.size B w ∧ B.heap.size ≤ g
theorem PF.put {B w : World} {g : Nat} {q : Rat} {b : Bool} {X Y : Value} {xs ys : List Nat} {p r : Option Nat} (hF : Fcl w g b X Y) (hP : Pair w B.heap.size g X Y (xs ++ [0]) (ys ++ [0]) p r) (hx : xs.length ≤ 2) (hy : ys.length ≤ 2)
    (hq : fr b (val xs) (val ys) = q) (hB : Below B.heap.size B w) (hg : B.heap.size ≤ g) : PF 3 B w g q := by
  have e : ∀ zs : List Nat, val (zs ++ [0]) = val zs := fun zs => by rw [val_append]; simp [val]
  exact ⟨b, X, Y, _, _, hF, hP.done, by simp; omega, by simp; omega, by rw [e, e]; exact hq, hB, hg⟩
theorem PF.le {B w : World} {g k l : Nat} {q : Rat} (h : PF k B w g q) (hl : k ≤ l) : PF l B w g q := by
  obtain ⟨b, X, Y, xs, ys, hF, hP, hx, hy, hq, hB, hg⟩ := h
  exact ⟨b, X, Y, xs, ys, hF, hP, by omega, by omega, hq, hB, hg⟩
theorem PF.open {B w : World} {g k : Nat} {q : Rat} (h : PF k B w g q) : ∃ b A m c A' m' c', Fcl w g b (.slice A m c) (.slice A' m' c') ∧ FracV w (.agg #[.bool b, .slice A m c, .slice A' m' c']) q k ∧ Below B.heap.size B w ∧ B.heap.size ≤ g := by
  obtain ⟨b, X, Y, xs, ys, hF, hP, hx, hy, hq, hB, hg⟩ := h
  obtain ⟨A, m, c, rfl⟩ := hP.ox.shape
  obtain ⟨A', m', c', rfl⟩ := hP.oy.shape
  exact ⟨b, A, m, c, A', m', c', hF, ⟨b, _, _, _, _, rfl, ⟨xs, hP.ox.num, rfl, hx⟩, ⟨ys, hP.oy.num, rfl, hy⟩, hq⟩, hB, hg⟩
/-! Operations of such a region. -/
section
variable {P : Program} {ops : Array Oper} {Q : Exit → Act → World → Prop}
/-- An append of one digit 0. -/
theorem op_app {i base h : Nat} {K : Act → World → Prop} {a : Act} {w : World} {v : Value} {xs : List Nat} (d : Option Tmp) (s x : Operand) (hi : (ops[i]?).isSome = true) (hd : (opI ops i).dst = d)
    (hw : Region.wanted (opI ops i) (yielded ops a.tmps) = true) (ho : (opI ops i).op = .call { callee := .builtin .append, args := #[s, x], argTypes := #[27, 27] })
    (hs : a.eval s = v) (hx : a.eval x = .slice (some ⟨h, 0, none⟩) 1 1) (hown : Own base w v xs) (h1 : One w h) (hb : xs.length ≤ 1000000) (hbase : base ≤ w.heap.size)
    (hK : ∀ v' w', Own base w' v' (xs ++ [0]) → w.grownBy w' v.ownBlock → (v'.ownBlock = v.ownBlock ∨ v'.ownBlock = some w.heap.size) → K (a.put d v') w') : wpOp Try.prog ops Q i K a w := by
  obtain ⟨v', w', hrun, r1, r2, r3⟩ := run_append_u hown h1 hb hbase (opI ops i).type
  refine op_do d v' w' hi hd hw ?_ (hK _ _ r1 r2 r3)
  unfold execOp
  simp [ho, resolve, invoke, builtin, hs, hx, hrun, Result.andThen]
end
section
variable {ev : Operand → Value} {o : Oper} {w w' : World}
theorem exec_append {T : TypeId} {u v v' : Value} (s x : Operand) (ho : o.op = .call { callee := .builtin .append, args := #[s, x], argTypes := #[T, T] }) (hs : ev s = v) (hx : ev x = u)
    (hrun : (Builtin.append_ #[T, T] o.type #[v, u]).run Try.prog w = .ok v' w') : (execOp ev o).run Try.prog w = .ok (.value v') w' := by
  unfold execOp
  simp [ho, resolve, invoke, builtin, hs, hx, hrun, Result.andThen]
theorem exec_zero1 (ho : o.op = .buildSlice 27 1 #[(0, .const (.int .u32 0))]) (hev : ev (.const (.int .u32 0)) = .int .u32 0) :
    (execOp ev o).run Try.prog w = .ok (.value (.slice (some ⟨w.heap.size, 0, none⟩) 1 1)) (w.alloc (.cells #[.int .u32 0] 53)) := by
  cases o
  simp only at ho
  subst ho
  unfold execOp
  go_simp
theorem exec_storeNat {p : Addr} {A : Option Addr} {n c : Nat} {y : Value} (t s : Tmp) (ho : o.op = .store 27 (.tmp t) (.tmp s)) (hx : ev (.tmp t) = .pointer (some p)) (hy : ev (.tmp s) = .slice A n c)
    (hz : w.frozen? p = false) (hc : w.cell? p = some y) : (execOp ev o).run Try.prog w = .ok .skip (w.setCell p (.slice A n c)) := by
  unfold execOp
  simp only [ho, hx, hy]
  go_simp
end
end Go.Proofs.Ytjemnankgjjgcaa

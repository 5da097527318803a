/- A region that draws its order, walked by a plan: what its operations yield in every world that meets a condition is taken when it is ready; a call comes up alone. -/
import Derived.OrdersHeld
import Derived.WalkKit
import Derived.BigFrame
import Derived.Laws.Rows
import Derived.Laws.Tables
import Derived.Test.YtpbkmkcfhkdjjaaDoorGnd
namespace Go.Proofs.YtpbkmkcfhkdjjaaDoor
open Go.RowKit

section
variable {P : Program} {ops : Array Oper} {Q : Exit → Act → World → Prop} {md : Region.Mode} {S : World → Prop}
/-- A plan fits a region: what is taken is ready and free, what is not taken is all that is ready. -/
def okS (md : Region.Mode) (ops : Array Oper) : List (Nat × Bool) → Array Bool → Bool
  | [], L => (Region.ready md ops L).isEmpty
  | (i, true) :: r, L => Region.free md ops L i && (Region.ready md ops L).contains i && okS md ops r (L.setIfInBounds i true)
  | (i, false) :: r, L => (Region.ready md ops L == [i]) && okS md ops r (L.setIfInBounds i true)
/-- The walk along a plan. -/
def wkS (P : Program) (ops : Array Oper) (Q : Exit → Act → World → Prop) (S : World → Prop) : List (Nat × Bool) → Act → World → Prop
  | [], a, w => Q .normal a w
  | (i, true) :: r, a, w => ∃ o v, ops[i]? = some o ∧ YieldsIf P ops S o v a ∧ wkS P ops Q S r (a.put o.dst v) w
  | (i, false) :: r, a, w => wpOp P ops Q i (fun a' w' => S w' ∧ wkS P ops Q S r a' w') a w
theorem wkS_sound (hs : Region.noSelect ops = true) (hQ : ∀ c (a : Act) d v w, Q (.panic c) (a.put d v) w → Q (.panic c) a w) :
    ∀ (l : List (Nat × Bool)) (L : Array Bool) (a : Act) (w : World), okS md ops l L = true → S w → wkS P ops Q S l a w → wpAnyH P md ops Q S l.length L a w
  | [], L, a, w, hok, hS, h => wpAnyH_done (by simpa [okS] using hok) h _
  | (i, true) :: r, L, a, w, hok, hS, h => by
    simp only [okS, Bool.and_eq_true] at hok
    obtain ⟨⟨h1, h2⟩, h3⟩ := hok
    obtain ⟨o, v, ho, hy, hr⟩ := h
    exact wpAnyH_take ho hs h1 h2 (fun c a w h => hQ c a o.dst v w h) hy hS (wkS_sound hs hQ r _ _ _ h3 hS hr)
  | (i, false) :: r, L, a, w, hok, hS, h => by
    simp only [okS, Bool.and_eq_true, beq_iff_eq] at hok
    obtain ⟨h1, h2⟩ := hok
    refine wpAnyH_all h1 (by simp) fun j hj => ?_
    rw [List.mem_singleton.1 hj]
    exact wpOp_mono (fun a' w' h' => ⟨h'.1, wkS_sound hs hQ r _ _ _ h2 h'.1 h'.2⟩) h
theorem wp_region_plan {id : Nat} {a : Act} {w : World} (l : List (Nat × Bool)) (hm : P.follows .mixedOrders = true) (hs : Region.noSelect ops = true) (hl : (l.length == ops.size) = true)
    (hok : okS .any ops l (Array.replicate ops.size false) = true) (hQ : ∀ c (a : Act) d v w, Q (.panic c) (a.put d v) w → Q (.panic c) a w) (hS : S w.drew) (h : wkS P ops Q S l a w.drew) : (Code.region id ops true).wp P Q a w := by
  refine wp_region_held (S := S) hm ?_
  have := wkS_sound (md := .any) hs hQ l _ a w.drew hok hS h
  rwa [show l.length = ops.size by simpa using hl] at this
/-- The operation at a place. -/
def opI (ops : Array Oper) (i : Nat) : Oper := (ops[i]?).getD default
/-- An operation that yields its value. -/
theorem wkS_take {i : Nat} {r : List (Nat × Bool)} {a : Act} {w : World} (d : Option Tmp) (v : Value) (hi : (ops[i]?).isSome = true) (hd : (opI ops i).dst = d)
    (hw : Region.wanted (opI ops i) (yielded ops a.tmps) = true) (hv : ∀ w, S w → (execOp a.eval (opI ops i)).run P w = .ok (.value v) w) (h : wkS P ops Q S r (a.put d v) w) : wkS P ops Q S ((i, true) :: r) a w := by
  obtain ⟨o, ho⟩ := Option.isSome_iff_exists.1 hi
  have e : opI ops i = o := by unfold opI; rw [ho]; rfl
  rw [e] at hd hw hv
  rw [← hd] at h
  exact ⟨o, v, ho, .inl ⟨hw, hv⟩, h⟩
/-- An operation whose guard does not stand. -/
theorem wkS_skip {i : Nat} {r : List (Nat × Bool)} {a : Act} {w : World} (d : Option Tmp) (hi : (ops[i]?).isSome = true) (hd : (opI ops i).dst = d)
    (hw : Region.wanted (opI ops i) (yielded ops a.tmps) = false) (h : wkS P ops Q S r (a.put d undef) w) : wkS P ops Q S ((i, true) :: r) a w := by
  obtain ⟨o, ho⟩ := Option.isSome_iff_exists.1 hi
  have e : opI ops i = o := by unfold opI; rw [ho]; rfl
  rw [e] at hd hw
  rw [← hd] at h
  exact ⟨o, undef, ho, .inr ⟨hw, rfl⟩, h⟩
theorem wkS_skipC {i : Nat} {r : List (Nat × Bool)} {a : Act} {w : World} (d : Option Tmp) (hi : (ops[i]?).isSome = true) (hd : (opI ops i).dst = d)
    (hw : Region.wanted (opI ops i) (yielded ops a.tmps) = false) (hS : S w) (h : wkS P ops Q S r (a.put d undef) w) : wkS P ops Q S ((i, false) :: r) a w := by
  obtain ⟨o, ho⟩ := Option.isSome_iff_exists.1 hi
  have e : opI ops i = o := by unfold opI; rw [ho]; rfl
  rw [e] at hd hw
  show wpOp P ops Q i _ a w
  unfold wpOp
  rw [ho]
  simp only [hw, Bool.false_eq_true, if_false]
  rw [hd]
  exact ⟨hS, h⟩
theorem wkS_done {a : Act} {w : World} (h : Q .normal a w) : wkS P ops Q S [] a w := h
/-- The load of one cell. -/
theorem exec_loadCell {ev : Operand → Value} {o : Oper} {w : World} (T : TypeId) (x : Operand) (p : Addr) (v : Value) (d : TypeDesc) (ho : o.op = .load T x) (hx : ev x = .pointer (some p))
    (hc : w.cell? p = some v) (hu : P.underlying T = some d) (hd : (match d with | .struct _ | .array _ _ => true | _ => false) = false) :
    (execOp ev o).run P w = .ok (.value v) w := by
  have hagg : (isAgg T).run P w = .ok false w := by
    unfold isAgg
    rw [Sem.run_bind, run_underlying hu w]
    cases d <;> simp_all
  unfold execOp
  simp [ho, hx, Instr.loadAt, Instr.sureAddr, Sem.run_bind, loadVar, hagg, hc]
/-- The storing of a whole row. -/
theorem exec_storeRow {ev : Operand → Value} {o : Oper} {w : World} (T : TypeId) (x y : Operand) (g : Nat) (old cs : Array Value) (ho : o.op = .store T x y) (hx : ev x = .pointer (some ⟨g, 0, none⟩)) (hy : ev y = .agg cs)
    (hg : w.heap[g]? = some (.cells old T (0, 0))) (hi : (P.info? T).map (·.size) = some cs.size) (hold : old.size = cs.size) (h1 : cs.all (·.oneCell') = true) :
    (execOp ev o).run P w = .ok .skip (w.setRow g cs) := by
  unfold execOp
  simp only [ho, hx, hy, Instr.storeAt, Instr.sureAddr, Sem.run_bind, Sem.run_pure, Result.andThen_ok, run_storeVar_row w g T T old cs hg hi hold h1]
/-! The same walk with branches: at each place those operations that may come up are told anew. -/
theorem hk_begin {id : Nat} {a : Act} {w : World} (n : Nat) (hm : P.follows .mixedOrders = true) (hn : (ops.size == n) = true)
    (h : wpAnyH P .any ops Q S n (Array.replicate ops.size false) a w.drew) : (Code.region id ops true).wp P Q a w := by
  obtain rfl : ops.size = n := by simpa using hn
  exact wp_region_held (S := S) hm h
theorem hk_take {i n : Nat} {L : Array Bool} {a : Act} {w : World} (d : Option Tmp) (v : Value) (hs : Region.noSelect ops = true) (hf : Region.free md ops L i = true) (hr : (Region.ready md ops L).contains i = true)
    (hi : (ops[i]?).isSome = true) (hd : (opI ops i).dst = d) (hw : Region.wanted (opI ops i) (yielded ops a.tmps) = true) (hv : ∀ w, S w → (execOp a.eval (opI ops i)).run P w = .ok (.value v) w)
    (hQ : ∀ c (a : Act) d v w, Q (.panic c) (a.put d v) w → Q (.panic c) a w) (hS : S w) (h : wpAnyH P md ops Q S n (L.setIfInBounds i true) (a.put d v) w) : wpAnyH P md ops Q S (n + 1) L a w := by
  obtain ⟨o, ho⟩ := Option.isSome_iff_exists.1 hi
  have e : opI ops i = o := by unfold opI; rw [ho]; rfl
  rw [e] at hd hw hv
  rw [← hd] at h
  exact wpAnyH_take ho hs hf hr (fun c a w h => hQ c a o.dst v w h) (.inl ⟨hw, hv⟩) hS h
theorem hk_one {i n : Nat} {L : Array Bool} {a : Act} {w : World} (hr : (Region.ready md ops L == [i]) = true)
    (h : wpOp P ops Q i (fun a' w' => S w' ∧ wpAnyH P md ops Q S n (L.setIfInBounds i true) a' w') a w) : wpAnyH P md ops Q S (n + 1) L a w := by
  refine wpAnyH_all (by simpa using hr) (by simp) fun j hj => ?_
  rw [List.mem_singleton.1 hj]
  exact h
theorem hk_two {i j n : Nat} {L : Array Bool} {a : Act} {w : World} (hr : (Region.ready md ops L == [i, j]) = true)
    (h : wpOp P ops Q i (fun a' w' => S w' ∧ wpAnyH P md ops Q S n (L.setIfInBounds i true) a' w') a w)
    (h' : wpOp P ops Q j (fun a' w' => S w' ∧ wpAnyH P md ops Q S n (L.setIfInBounds j true) a' w') a w) : wpAnyH P md ops Q S (n + 1) L a w := by
  refine wpAnyH_all (by simpa using hr) (by simp) fun x hx => ?_
  simp only [List.mem_cons, List.not_mem_nil, or_false] at hx
  rcases hx with rfl | rfl
  · exact h
  · exact h'
theorem hk_three {i j k n : Nat} {L : Array Bool} {a : Act} {w : World} (hr : (Region.ready md ops L == [i, j, k]) = true)
    (h : wpOp P ops Q i (fun a' w' => S w' ∧ wpAnyH P md ops Q S n (L.setIfInBounds i true) a' w') a w)
    (h' : wpOp P ops Q j (fun a' w' => S w' ∧ wpAnyH P md ops Q S n (L.setIfInBounds j true) a' w') a w)
    (h'' : wpOp P ops Q k (fun a' w' => S w' ∧ wpAnyH P md ops Q S n (L.setIfInBounds k true) a' w') a w) : wpAnyH P md ops Q S (n + 1) L a w := by
  refine wpAnyH_all (by simpa using hr) (by simp) fun x hx => ?_
  simp only [List.mem_cons, List.not_mem_nil, or_false] at hx
  rcases hx with rfl | rfl | rfl
  · exact h
  · exact h'
  · exact h''
theorem hk_done {n : Nat} {L : Array Bool} {a : Act} {w : World} (hr : (Region.ready md ops L).isEmpty = true) (h : Q .normal a w) : wpAnyH P md ops Q S n L a w :=
  wpAnyH_done (by simpa using hr) h n
theorem op_call {i : Nat} {K : Act → World → Prop} {a : Act} {w : World} (d : Option Tmp) (f : FuncId) (args : Array Value) (hi : (ops[i]?).isSome = true) (hd : (opI ops i).dst = d)
    (hw : Region.wanted (opI ops i) (yielded ops a.tmps) = true) (he : ∀ w, (execOp a.eval (opI ops i)).run P w = .ok (.enter f args) w)
    (h : Calls P f args w fun e w' => ∃ v, e = .returned v ∧ K (a.put d v) w') : wpOp P ops Q i K a w := by
  obtain ⟨o, ho⟩ := Option.isSome_iff_exists.1 hi
  have e : opI ops i = o := by unfold opI; rw [ho]; rfl
  rw [e] at hd hw he
  unfold wpOp
  rw [ho]
  simp only [hw, if_true]
  refine .inl ?_
  unfold Oper.wp
  rw [he w]
  simp only [Oper.upon]
  refine h.mono ?_
  rintro e w' ⟨v, rfl, hr⟩
  rw [← hd] at hr
  exact hr
theorem op_do {i : Nat} {K : Act → World → Prop} {a : Act} {w : World} (d : Option Tmp) (v : Value) (w' : World) (hi : (ops[i]?).isSome = true) (hd : (opI ops i).dst = d)
    (hw : Region.wanted (opI ops i) (yielded ops a.tmps) = true) (he : (execOp a.eval (opI ops i)).run P w = .ok (.value v) w') (h : K (a.put d v) w') : wpOp P ops Q i K a w := by
  obtain ⟨o, ho⟩ := Option.isSome_iff_exists.1 hi
  have e : opI ops i = o := by unfold opI; rw [ho]; rfl
  rw [e] at hd hw he
  unfold wpOp
  rw [ho]
  simp only [hw, if_true]
  refine .inl ?_
  unfold Oper.wp
  rw [he]
  simp only [Oper.upon]
  rw [← hd] at h
  exact h
theorem op_skip {i : Nat} {K : Act → World → Prop} {a : Act} {w : World} (d : Option Tmp) (w' : World) (hi : (ops[i]?).isSome = true) (hd : (opI ops i).dst = d)
    (hw : Region.wanted (opI ops i) (yielded ops a.tmps) = true) (he : (execOp a.eval (opI ops i)).run P w = .ok .skip w') (h : K (a.put d undef) w') : wpOp P ops Q i K a w := by
  obtain ⟨o, ho⟩ := Option.isSome_iff_exists.1 hi
  have e : opI ops i = o := by unfold opI; rw [ho]; rfl
  rw [e] at hd hw he
  unfold wpOp
  rw [ho]
  simp only [hw, if_true]
  refine .inl ?_
  unfold Oper.wp
  rw [he]
  simp only [Oper.upon]
  rw [← hd] at h
  exact h
/-- A guard that does not stand. -/
theorem op_unwanted {i : Nat} {K : Act → World → Prop} {a : Act} {w : World} (d : Option Tmp) (hi : (ops[i]?).isSome = true) (hd : (opI ops i).dst = d)
    (hw : Region.wanted (opI ops i) (yielded ops a.tmps) = false) (h : K (a.put d undef) w) : wpOp P ops Q i K a w := by
  obtain ⟨o, ho⟩ := Option.isSome_iff_exists.1 hi
  have e : opI ops i = o := by unfold opI; rw [ho]; rfl
  rw [e] at hd hw
  unfold wpOp
  rw [ho]
  simp only [hw, Bool.false_eq_true, if_false]
  rw [hd]
  exact h
/-- The load of a whole row. -/
theorem exec_loadRow {ev : Operand → Value} {o : Oper} {w : World} (T : TypeId) (x : Operand) (g : Nat) (cs : Array Value) (d : TypeDesc) (ho : o.op = .load T x) (hx : ev x = .pointer (some ⟨g, 0, none⟩))
    (hg : w.heap[g]? = some (.cells cs T (0, 0))) (hu : P.underlying T = some d) (hd : (match d with | .struct _ | .array _ _ => true | _ => false) = true) (hi : (P.info? T).map (·.size) = some cs.size) :
    (execOp ev o).run P w = .ok (.value (.agg cs)) w := by
  unfold execOp
  simp only [ho, hx, Instr.loadAt, Instr.sureAddr, Sem.run_bind, Sem.run_pure, Result.andThen_ok, run_loadVar_row w g T T cs (0, 0) d hg hu hd hi]
/-- An operation that is not taken, yields its value and does nothing else. -/
theorem wkS_do {i : Nat} {r : List (Nat × Bool)} {a : Act} {w : World} (d : Option Tmp) (v : Value) (hi : (ops[i]?).isSome = true) (hd : (opI ops i).dst = d)
    (hw : Region.wanted (opI ops i) (yielded ops a.tmps) = true) (he : (execOp a.eval (opI ops i)).run P w = .ok (.value v) w) (hS : S w) (h : wkS P ops Q S r (a.put d v) w) :
    wkS P ops Q S ((i, false) :: r) a w :=
  op_do d v w hi hd hw he ⟨hS, h⟩
/-- A call of a function. -/
theorem wkS_call {i : Nat} {r : List (Nat × Bool)} {a : Act} {w : World} (d : Option Tmp) (f : FuncId) (args : Array Value) (hi : (ops[i]?).isSome = true) (hd : (opI ops i).dst = d)
    (hw : Region.wanted (opI ops i) (yielded ops a.tmps) = true) (he : ∀ w, (execOp a.eval (opI ops i)).run P w = .ok (.enter f args) w)
    (h : Calls P f args w fun e w' => ∃ v, e = .returned v ∧ S w' ∧ wkS P ops Q S r (a.put d v) w') :
    wkS P ops Q S ((i, false) :: r) a w := by
  obtain ⟨o, ho⟩ := Option.isSome_iff_exists.1 hi
  have e : opI ops i = o := by unfold opI; rw [ho]; rfl
  rw [e] at hd hw he
  show wpOp P ops Q i _ a w
  unfold wpOp
  rw [ho]
  simp only [hw, if_true]
  refine .inl ?_
  unfold Oper.wp
  rw [he w]
  simp only [Oper.upon]
  refine h.mono ?_
  rintro e w' ⟨v, rfl, hS, hr⟩
  rw [← hd] at hr
  exact ⟨hS, hr⟩
end

/-! The frames of the goal, written out: where a text says act_lit, merge.py lays 'simp only' with these. -/
theorem put_lit (l : List Value) (r : List Deferred) (d : Nat) (v : Value) : (Act.mk l.toArray r).put (some d) v = Act.mk (l.set d v).toArray r := by
  simp [Act.put]
theorem put_non (a : Act) (v : Value) : a.put none v = a := rfl
end Go.Proofs.YtpbkmkcfhkdjjaaDoor

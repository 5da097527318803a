/- A region that draws its order: a load may be taken ahead although a store of the region hits its cell, for that store waits for the load. -/
import Derived.Test.YtjemnankgjjgcaaPlans
namespace Go.Proofs.Ytjemnankgjjgcaa
open Go.RowKit
section
variable {P : Program} {ops : Array Oper} {Q : Exit → Act → World → Prop} {md : Region.Mode} {S : Array Bool → World → Prop}
/-- Whatever order is picked, and S holds of what has come up and of the world. -/
def wpL (P : Program) (md : Region.Mode) (ops : Array Oper) (Q : Exit → Act → World → Prop) (S : Array Bool → World → Prop) : Nat → Array Bool → Act → World → Prop
  | 0, L, a, w => Region.ready md ops L = [] ∧ Q .normal a w
  | n + 1, L, a, w => (Region.ready md ops L = [] → Q .normal a w) ∧
    ∀ i ∈ Region.ready md ops L, wpOp P ops Q i (fun a' w' => S (L.setIfInBounds i true) w' ∧ wpL P md ops Q S n (L.setIfInBounds i true) a' w') a w
theorem any_of_L : ∀ (n : Nat) (L : Array Bool) (a : Act) (w : World), wpL P md ops Q S n L a w → wpAny P md ops Q n L a w
  | 0, _, _, _, h => h
  | n + 1, _, _, _, h => ⟨h.1, fun i hi => wpOp_mono (fun a' w' h' => any_of_L n _ a' w' h'.2) (h.2 i hi)⟩
/-- All that waits for what has not come up has not come up. -/
def shutL (md : Region.Mode) (ops : Array Oper) (L : Array Bool) : Prop :=
  ∀ k o, ops[k]? = some o → L.getD k false = true → ∀ e ∈ o.after, Region.binds md e = true → L.getD e.on false = true
theorem getD_ne {L : Array Bool} {i j : Nat} (d : Bool) (h : i ≠ j) : (L.setIfInBounds i true).getD j d = L.getD j d := getD_set_ne d h
theorem shut_step {L : Array Bool} {j : Nat} (h : shutL md ops L) (hj : j ∈ Region.ready md ops L) : shutL md ops (L.setIfInBounds j true) := by
  intro k o ho hk e he hb
  obtain ⟨_, oj, hoj, hall⟩ := mem_ready.1 hj
  by_cases hkj : j = k
  · subst hkj
    rw [hoj] at ho
    cases ho
    exact getD_set_true (hall e he hb)
  · rw [getD_ne false hkj] at hk
    exact getD_set_true (h k o ho hk e he hb)
/-- Operation k waits for operation m. -/
def waits (md : Region.Mode) (ops : Array Oper) (k m : Nat) : Bool := match ops[k]? with | some o => o.after.any (fun e => Region.binds md e && e.on == m) | none => false
theorem shut_waits {L : Array Bool} {k m : Nat} (h : shutL md ops L) (hw : waits md ops k m = true) (hm : L.getD m false = false) : L.getD k false = false := by
  unfold waits at hw
  split at hw
  · rename_i o ho
    rw [Array.any_eq_true] at hw
    obtain ⟨x, hx, he⟩ := hw
    simp only [Bool.and_eq_true, beq_iff_eq] at he
    cases hk : L.getD k false with
    | false => rfl
    | true =>
      have := h k o ho hk _ (Array.getElem_mem hx) he.1
      rw [he.2, hm] at this
      exact this.symm
  · cases hw
theorem getD_dft {L : Array Bool} {i : Nat} (h : L.getD i true = false) : L.getD i false = false := by
  rcases Nat.lt_or_ge i L.size with h' | h'
  · simp [h'] at h ⊢; exact h
  · simp [Array.getElem?_eq_none h'] at h
theorem L_first {i : Nat} {oi : Oper} {v : Value} {T : World → Prop} (hi : ops[i]? = some oi) (hsel : ∀ (j : Nat) (o : Oper) cs b, ops[j]? = some o → o.op ≠ .select cs b)
    (hQ : ∀ c a w, Q (.panic c) (a.put oi.dst v) w → Q (.panic c) a w) (hS1 : ∀ L w, S L w → S (L.setIfInBounds i true) w) (hS2 : ∀ L w, S (L.setIfInBounds i true) w → S L w)
    (hT : ∀ L w, shutL md ops L → L.getD i false = false → S L w → T w) :
    ∀ (n : Nat) (L : Array Bool) (a : Act) (w : World),
      (∀ j oj, ops[j]? = some oj → j ≠ i → L.getD j true = false → (∀ e ∈ oj.after, Region.binds md e = true → e.on ≠ i) → oi.apart ops oj = true) →
      shutL md ops L → i ∈ Region.ready md ops L → YieldsIf P ops T oi v a → S L w →
      wpL P md ops Q S n (L.setIfInBounds i true) (a.put oi.dst v) w → wpL P md ops Q S (n + 1) L a w := by
  intro n
  induction n with
  | zero =>
    intro L a w _ hsh hr hy hS H
    refine ⟨fun h => (by rw [h] at hr; cases hr), fun j hj => ?_⟩
    by_cases hji : j = i
    · subst hji
      exact hy.wpOp hi (hT L w hsh (getD_dft (mem_ready.1 hr).1) hS) ⟨hS1 _ _ hS, H⟩
    · have := ready_mono hj hji
      rw [H.1] at this
      cases this
  | succ n ih =>
    intro L a w hfree hsh hr hy hS H
    refine ⟨fun h => (by rw [h] at hr; cases hr), fun j hj => ?_⟩
    by_cases hji : j = i
    · subst hji
      exact hy.wpOp hi (hT L w hsh (getD_dft (mem_ready.1 hr).1) hS) ⟨hS1 _ _ hS, H⟩
    · have h1 := H.2 j (ready_mono hj hji)
      obtain ⟨hjun, oj, hoj, hall⟩ := mem_ready.1 hj
      have hir := (mem_ready.1 hr).1
      have hnot : ∀ e ∈ oj.after, Region.binds md e = true → e.on ≠ i := fun e he hb heq => by
        have h1 := hall e he hb
        rw [heq, getD_dft hir] at h1
        cases h1
      have h2 := wpOp_putIf hoj (hfree j oj hoj hji hjun hnot) (fun cs b => hsel i oi cs b hi) (fun cs b => hsel j oj cs b hoj) hQ hy h1
      have hfree' : ∀ k ok, ops[k]? = some ok → k ≠ i → (L.setIfInBounds j true).getD k true = false →
          (∀ e ∈ ok.after, Region.binds md e = true → e.on ≠ i) → oi.apart ops ok = true := fun k ok hk hki hun hno => by
        refine hfree k ok hk hki ?_ hno
        by_cases hjk : j = k
        · subst hjk; exact hjun
        · rw [getD_ne true hjk] at hun; exact hun
      refine wpOp_mono (fun a' w' h3 => ?_) h2
      obtain ⟨h4, h5, h6⟩ := h3
      rw [Array.setIfInBounds_comm _ _ (Ne.symm hji)] at h5 h6
      exact ⟨hS2 _ _ h5, ih (L.setIfInBounds j true) a' w' hfree' (shut_step hsh hj) (ready_mono hr (Ne.symm hji)) h4 (hS2 _ _ h5) h6⟩
/-- What a load reads, until its store comes up: two loads, two stores. -/
def till (k l : Nat) (T U : World → Prop) (L : Array Bool) (w : World) : Prop := (L.getD k false = false → T w) ∧ (L.getD l false = false → U w)
section
variable {k l : Nat} {T U : World → Prop}
theorem lw_begin {id : Nat} {a : Act} {w : World} (n : Nat) (hm : P.follows .mixedOrders = true) (hn : (ops.size == n) = true)
    (h : wpL P .any ops Q S n (Array.replicate ops.size false) a w.drew) : (Code.region id ops true).wp P Q a w := by
  obtain rfl : ops.size = n := by simpa using hn
  exact wp_region_any hm (any_of_L _ _ _ _ h)
theorem shut_start (n : Nat) : shutL md ops (Array.replicate n false) := by
  intro k o ho hk
  rcases Nat.lt_or_ge k n with h | h
  · simp [h] at hk
  · simp [Array.getElem?_eq_none (by simpa using h : (Array.replicate n false).size ≤ k)] at hk
/-- An operation that yields in whatever world. -/
theorem lw_any {i n : Nat} {L : Array Bool} {a : Act} {w : World} (d : Option Tmp) (v : Value) (hs : Region.noSelect ops = true) (hf : Region.free md ops L i = true) (hr : (Region.ready md ops L).contains i = true)
    (hi : (ops[i]?).isSome = true) (hd : (opI ops i).dst = d) (hw : Region.wanted (opI ops i) (yielded ops a.tmps) = true) (hv : ∀ w, (execOp a.eval (opI ops i)).run P w = .ok (.value v) w)
    (hik : i ≠ k) (hil : i ≠ l) (hsh : shutL md ops L) (hQ : ∀ c (a : Act) d v w, Q (.panic c) (a.put d v) w → Q (.panic c) a w) (hS : till k l T U L w)
    (h : shutL md ops (L.setIfInBounds i true) → till k l T U (L.setIfInBounds i true) w → wpL P md ops Q (till k l T U) n (L.setIfInBounds i true) (a.put d v) w) : wpL P md ops Q (till k l T U) (n + 1) L a w := by
  obtain ⟨o, ho⟩ := Option.isSome_iff_exists.1 hi
  have e : opI ops i = o := by unfold opI; rw [ho]; rfl
  rw [e] at hd hw hv
  rw [← hd] at h
  have hr' : i ∈ Region.ready md ops L := by simpa using hr
  have h1 : ∀ L w, till k l T U L w → till k l T U (L.setIfInBounds i true) w := fun L w h => ⟨fun e => h.1 (by rwa [getD_ne false hik] at e), fun e => h.2 (by rwa [getD_ne false hil] at e)⟩
  exact L_first (T := fun _ => True) ho (Region.noSelect_spec hs) (fun c a w h => hQ c a o.dst v w h) h1
    (fun L w h => ⟨fun e => h.1 (by rwa [getD_ne false hik]), fun e => h.2 (by rwa [getD_ne false hil])⟩) (fun _ _ _ _ _ => trivial) n L a w (Region.free_spec ho hf) hsh hr' (.inl ⟨hw, fun w _ => hv w⟩) hS (h (shut_step hsh hr') (h1 _ _ hS))
/-- The load whose store is k; the store waits for m, which waits for the load. -/
theorem lw_load {i n m : Nat} {L : Array Bool} {a : Act} {w : World} (d : Option Tmp) (v : Value) (hs : Region.noSelect ops = true) (hf : Region.free md ops L i = true) (hr : (Region.ready md ops L).contains i = true)
    (hi : (ops[i]?).isSome = true) (hd : (opI ops i).dst = d) (hw : Region.wanted (opI ops i) (yielded ops a.tmps) = true) (hv : ∀ w, T w → (execOp a.eval (opI ops i)).run P w = .ok (.value v) w)
    (hkm : waits md ops k m = true) (hmi : waits md ops m i = true)
    (hik : i ≠ k) (hil : i ≠ l) (hsh : shutL md ops L) (hQ : ∀ c (a : Act) d v w, Q (.panic c) (a.put d v) w → Q (.panic c) a w) (hS : till k l T U L w)
    (h : shutL md ops (L.setIfInBounds i true) → till k l T U (L.setIfInBounds i true) w → wpL P md ops Q (till k l T U) n (L.setIfInBounds i true) (a.put d v) w) : wpL P md ops Q (till k l T U) (n + 1) L a w := by
  obtain ⟨o, ho⟩ := Option.isSome_iff_exists.1 hi
  have e : opI ops i = o := by unfold opI; rw [ho]; rfl
  rw [e] at hd hw hv
  rw [← hd] at h
  have hr' : i ∈ Region.ready md ops L := by simpa using hr
  have h1 : ∀ L w, till k l T U L w → till k l T U (L.setIfInBounds i true) w := fun L w h => ⟨fun e => h.1 (by rwa [getD_ne false hik] at e), fun e => h.2 (by rwa [getD_ne false hil] at e)⟩
  exact L_first (T := T) ho (Region.noSelect_spec hs) (fun c a w h => hQ c a o.dst v w h) h1
    (fun L w h => ⟨fun e => h.1 (by rwa [getD_ne false hik]), fun e => h.2 (by rwa [getD_ne false hil])⟩) (fun L w h0 h2 h3 => h3.1 (shut_waits h0 hkm (shut_waits h0 hmi h2))) n L a w (Region.free_spec ho hf) hsh hr' (.inl ⟨hw, hv⟩) hS (h (shut_step hsh hr') (h1 _ _ hS))
theorem lw_load2 {i n m : Nat} {L : Array Bool} {a : Act} {w : World} (d : Option Tmp) (v : Value) (hs : Region.noSelect ops = true) (hf : Region.free md ops L i = true) (hr : (Region.ready md ops L).contains i = true)
    (hi : (ops[i]?).isSome = true) (hd : (opI ops i).dst = d) (hw : Region.wanted (opI ops i) (yielded ops a.tmps) = true) (hv : ∀ w, U w → (execOp a.eval (opI ops i)).run P w = .ok (.value v) w)
    (hkm : waits md ops l m = true) (hmi : waits md ops m i = true)
    (hik : i ≠ k) (hil : i ≠ l) (hsh : shutL md ops L) (hQ : ∀ c (a : Act) d v w, Q (.panic c) (a.put d v) w → Q (.panic c) a w) (hS : till k l T U L w)
    (h : shutL md ops (L.setIfInBounds i true) → till k l T U (L.setIfInBounds i true) w → wpL P md ops Q (till k l T U) n (L.setIfInBounds i true) (a.put d v) w) : wpL P md ops Q (till k l T U) (n + 1) L a w := by
  have e : till k l T U = till l k U T := by
    funext L w
    exact propext ⟨fun h => ⟨h.2, h.1⟩, fun h => ⟨h.2, h.1⟩⟩
  rw [e] at hS h ⊢
  exact lw_load d v hs hf hr hi hd hw hv hkm hmi hil hik hsh hQ hS h
/-- The same as a test. -/
def shutB (md : Region.Mode) (ops : Array Oper) (L : Array Bool) : Bool := (List.range ops.size).all fun k => match ops[k]? with
  | some o => !(L.getD k false) || o.after.all (fun e => !(Region.binds md e) || L.getD e.on false)
  | none => true
theorem shut_of {L : Array Bool} (h : shutB md ops L = true) : shutL md ops L := by
  intro k o ho hk e he hb
  unfold shutB at h
  rw [List.all_eq_true] at h
  have h1 := h k (List.mem_range.2 (Array.getElem?_eq_some_iff.1 ho).1)
  rw [ho] at h1
  simp only [hk, Bool.not_true, Bool.false_or] at h1
  have h2 := Array.all_eq_true_iff_forall_mem.1 h1 e he
  simpa [hb] using h2
theorem lw_free {i n : Nat} {L : Array Bool} {a : Act} {w : World} (d : Option Tmp) (v : Value) (hs : Region.noSelect ops = true) (hf : Region.free md ops L i = true) (hr : (Region.ready md ops L).contains i = true)
    (hi : (ops[i]?).isSome = true) (hd : (opI ops i).dst = d) (hw : Region.wanted (opI ops i) (yielded ops a.tmps) = true) (hv : ∀ w, (execOp a.eval (opI ops i)).run P w = .ok (.value v) w)
    (hik : i ≠ k) (hil : i ≠ l) (hsh : shutB md ops L = true) (hQ : ∀ c (a : Act) d v w, Q (.panic c) (a.put d v) w → Q (.panic c) a w) (hS : till k l T U L w)
    (h : wpL P md ops Q (till k l T U) n (L.setIfInBounds i true) (a.put d v) w) : wpL P md ops Q (till k l T U) (n + 1) L a w :=
  lw_any d v hs hf hr hi hd hw hv hik hil (shut_of hsh) hQ hS fun _ _ => h
theorem till_swap : till k l T U = till l k U T := by
  funext L w
  exact propext ⟨fun h => ⟨h.2, h.1⟩, fun h => ⟨h.2, h.1⟩⟩
theorem lw_one {i n : Nat} {L : Array Bool} {a : Act} {w : World} (hr : (Region.ready md ops L == [i]) = true)
    (h : wpOp P ops Q i (fun a' w' => S (L.setIfInBounds i true) w' ∧ wpL P md ops Q S n (L.setIfInBounds i true) a' w') a w) : wpL P md ops Q S (n + 1) L a w := by
  have hr : Region.ready md ops L = [i] := by simpa using hr
  refine ⟨fun h0 => absurd (hr ▸ h0) (by simp), fun j hj => ?_⟩
  rw [hr] at hj
  rw [List.mem_singleton.1 hj]
  exact h
theorem lw_two {i j n : Nat} {L : Array Bool} {a : Act} {w : World} (hr : (Region.ready md ops L == [i, j]) = true)
    (h : wpOp P ops Q i (fun a' w' => S (L.setIfInBounds i true) w' ∧ wpL P md ops Q S n (L.setIfInBounds i true) a' w') a w)
    (h' : wpOp P ops Q j (fun a' w' => S (L.setIfInBounds j true) w' ∧ wpL P md ops Q S n (L.setIfInBounds j true) a' w') a w) : wpL P md ops Q S (n + 1) L a w := by
  have hr : Region.ready md ops L = [i, j] := by simpa using hr
  refine ⟨fun h0 => absurd (hr ▸ h0) (by simp), fun x hx => ?_⟩
  rw [hr] at hx
  simp only [List.mem_cons, List.not_mem_nil, or_false] at hx
  rcases hx with rfl | rfl
  · exact h
  · exact h'
theorem lw_done {n : Nat} {L : Array Bool} {a : Act} {w : World} (hr : (Region.ready md ops L).isEmpty = true) (h : Q .normal a w) : wpL P md ops Q S n L a w := by
  have hr : Region.ready md ops L = [] := by simpa using hr
  cases n with
  | zero => exact ⟨hr, h⟩
  | succ n => exact ⟨fun _ => h, by rw [hr]; simp⟩
end
end
end Go.Proofs.Ytjemnankgjjgcaa

/- The versions that a page store keeps: plain definitions. -/
import Derived.Test.YtckomifecmemnaaGreatBytes
namespace Go.Proofs.YtckomifecmemnaaGreat
open Dig
set_option linter.unusedVariables false

abbrev Pg := Nat × List UInt8
/-- A page store: the number of the last version, the kept versions, the working copy. -/
structure SS where
  last : Nat
  kept : List (List Pg)
  work : List Pg
/-- One page of With: what is out, and whether the new page is among it. -/
def with1 (no : Nat) (b : List UInt8) (s : List Pg × Bool) (p : Pg) : List Pg × Bool :=
  (s.1 ++ (if s.2 = false ∧ no ≤ p.1 then [(no, b)] else []) ++ (if p.1 = no then [] else [p]), s.2 || decide (no ≤ p.1))
def withP (no : Nat) (b : List UInt8) (l : List Pg) : List Pg × Bool := l.foldl (with1 no b) ([], false)
def withS (l : List Pg) (no : Nat) (b : List UInt8) : List Pg := if (withP no b l).2 = true then (withP no b l).1 else (withP no b l).1 ++ [(no, b)]
def withoutS (l : List Pg) (no : Nat) : List Pg := l.filter fun p => decide (p.1 ≠ no)
def putS (s : SS) (no : Int) (b : List UInt8) : Int × SS :=
  if no < 0 ∨ 256 ≤ no then (6, s) else if 1024 < b.length then (4, s) else (0, { s with work := withS s.work no.toNat b })
def deleteS (s : SS) (no : Int) : Int × SS :=
  if no < 0 ∨ 256 ≤ no then (6, s) else if (withoutS s.work no.toNat).length < s.work.length then (0, { s with work := withoutS s.work no.toNat }) else (7, s)
def commitS (s : SS) : SS := { last := s.last + 1, kept := if 4 < s.kept.length + 1 then (s.kept ++ [s.work]).drop 1 else s.kept ++ [s.work], work := s.work }
def rollbackS (s : SS) : SS := { s with work := s.kept.getLastD [] }
def findS (s : SS) (v : Int) : Option (List Pg) :=
  if v = (s.last : Int) + 1 then some s.work else if v > s.last ∨ v < 0 ∨ (s.kept.length : Int) - 1 - (s.last - v) < 0 then none else s.kept[((s.kept.length : Int) - 1 - (s.last - v)).toNat]?
def getP (l : List Pg) (no : Nat) : Option (List UInt8) := (l.find? fun p => p.1 = no).map (·.2)
def getS (s : SS) (v no : Int) : Int × List UInt8 :=
  match findS s v with
  | none => (7, [])
  | some l => if no < 0 ∨ 256 ≤ no then (6, []) else match getP l no.toNat with
    | none => (7, [])
    | some b => (0, b)
def pagesS (s : SS) (v : Int) : List Nat := ((findS s v).getD []).map (·.1)
def versionsS (s : SS) : List Int := (List.range s.kept.length).map fun i : Nat => (s.last : Int) - s.kept.length + 1 + (i : Int)
def pageNeed (p : Pg) : Nat := 1 + (p.2.length + 63) / 64
def listNeed (l : List Pg) : Nat := 2 + (l.map pageNeed).sum
def needS (s : SS) : Nat := 8 + (((commitS s).kept).map listNeed).sum
def emptyS : SS := ⟨0, [[]], []⟩
def okPg (p : Pg) : Prop := p.1 < 256 ∧ p.2.length ≤ 1024
/-- Few versions, each of at most 256 pages. -/
def okSS (s : SS) : Prop := 1 ≤ s.kept.length ∧ s.kept.length ≤ 4 ∧ s.kept.length ≤ s.last + 1 ∧ (∀ l ∈ s.kept, ∀ p ∈ l, okPg p) ∧ (∀ p ∈ s.work, okPg p)
/-! ### What stays true -/
theorem withP_mem (no : Nat) (b : List UInt8) : ∀ (l : List Pg) (s : List Pg × Bool), ∀ p ∈ (l.foldl (with1 no b) s).1, p ∈ s.1 ∨ p ∈ l ∨ p = (no, b)
  | [], s, p, h => .inl h
  | q :: l, s, p, h => by
    rcases withP_mem no b l (with1 no b s q) p h with h1 | h1 | h1
    · unfold with1 at h1
      rcases List.mem_append.1 h1 with h2 | h2
      · rcases List.mem_append.1 h2 with h3 | h3
        · exact .inl h3
        · split at h3
          · exact .inr (.inr (List.mem_singleton.1 h3))
          · exact (List.not_mem_nil h3).elim
      · split at h2
        · exact (List.not_mem_nil h2).elim
        · exact .inr (.inl (by rw [List.mem_singleton.1 h2]; exact List.mem_cons_self))
    · exact .inr (.inl (List.mem_cons_of_mem _ h1))
    · exact .inr (.inr h1)
theorem withS_mem {l : List Pg} {no : Nat} {b : List UInt8} {p : Pg} (h : p ∈ withS l no b) : p ∈ l ∨ p = (no, b) := by
  unfold withS at h
  split at h
  · exact (withP_mem no b l _ p h).elim (fun h => (List.not_mem_nil h).elim) id
  · rcases List.mem_append.1 h with h | h
    · exact (withP_mem no b l _ p h).elim (fun h => (List.not_mem_nil h).elim) id
    · exact .inr (List.mem_singleton.1 h)
theorem withP_length (no : Nat) (b : List UInt8) : ∀ (l : List Pg) (s : List Pg × Bool), (l.foldl (with1 no b) s).1.length ≤ s.1.length + 2 * l.length
  | [], s => Nat.le_refl _
  | q :: l, s => by
    have h1 := withP_length no b l (with1 no b s q)
    have h2 : (with1 no b s q).1.length ≤ s.1.length + 2 := by
      unfold with1
      simp only [List.length_append]
      split <;> split <;> simp
    rw [List.foldl_cons, List.length_cons]
    omega
theorem withP_take (no : Nat) (b : List UInt8) (l : List Pg) {j : Nat} (hj : j < l.length) : withP no b (l.take (j + 1)) = with1 no b (withP no b (l.take j)) l[j] := by
  unfold withP
  rw [List.take_add_one, List.getElem?_eq_getElem hj, List.foldl_append]
  rfl
theorem put_ok {s : SS} (h : okSS s) (no : Int) (b : List UInt8) : okSS (putS s no b).2 := by
  unfold putS
  split
  · exact h
  · split
    · exact h
    · rename_i h1 h2
      refine ⟨h.1, h.2.1, h.2.2.1, h.2.2.2.1, fun p hp => ?_⟩
      rcases withS_mem hp with hp | hp
      · exact h.2.2.2.2 p hp
      · rw [hp]
        exact ⟨by show no.toNat < 256; omega, by show b.length ≤ 1024; omega⟩
theorem delete_ok {s : SS} (h : okSS s) (no : Int) : okSS (deleteS s no).2 := by
  unfold deleteS
  split
  · exact h
  · split
    · exact ⟨h.1, h.2.1, h.2.2.1, h.2.2.2.1, fun p hp => h.2.2.2.2 p (List.mem_filter.1 hp).1⟩
    · exact h
theorem commit_ok {s : SS} (h : okSS s) : okSS (commitS s) := by
  obtain ⟨h1, h2, h3, h4, h5⟩ := h
  have hall : ∀ l ∈ s.kept ++ [s.work], ∀ p ∈ l, okPg p := fun l hl p hp => by
    rcases List.mem_append.1 hl with hl | hl
    · exact h4 l hl p hp
    · rw [List.mem_singleton.1 hl] at hp
      exact h5 p hp
  unfold commitS
  split
  · refine ⟨?_, ?_, ?_, fun l hl => hall l (List.mem_of_mem_drop hl), h5⟩ <;> simp only [List.length_drop, List.length_append, List.length_singleton] <;> omega
  · refine ⟨?_, ?_, ?_, hall, h5⟩ <;> simp only [List.length_append, List.length_singleton] <;> omega
theorem rollback_ok {s : SS} (h : okSS s) : okSS (rollbackS s) := by
  refine ⟨h.1, h.2.1, h.2.2.1, h.2.2.2.1, fun p hp => ?_⟩
  have hne : s.kept ≠ [] := fun e => by have := h.1; rw [e] at this; simp at this
  have hm : s.kept.getLastD [] ∈ s.kept := by
    rw [List.getLastD_eq_getLast?, List.getLast?_eq_some_getLast hne]
    exact List.getLast_mem hne
  exact h.2.2.2.1 _ hm p hp
theorem empty_ok : okSS emptyS := ⟨by decide, by decide, by decide, fun l hl p hp => by
  have : l = [] := by simpa [emptyS] using hl
  rw [this] at hp
  exact (List.not_mem_nil hp).elim, fun p hp => (List.not_mem_nil hp).elim⟩
end Go.Proofs.YtckomifecmemnaaGreat

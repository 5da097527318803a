/- A disk by its state: what its methods answer and leave. Plain definitions and lemmas. -/
import Derived.Test.YtpbkmkcfhkdjjaaDoorBytes
namespace Go.Proofs.YtpbkmkcfhkdjjaaDoor
open Dig
set_option linter.unusedVariables false

/-- A disk: durable sectors, pending writes, no power, an armed failure and how many calls succeed before it. -/
structure DS where
  dur : List (List UInt8)
  pend : List (Nat × List UInt8)
  off : Bool
  armed : Bool
  left : Nat
/-- What a disk keeps true. -/
def okDS (s : DS) : Prop := (∀ x ∈ s.dur, x.length = 64) ∧ (∀ p ∈ s.pend, p.1 < s.dur.length ∧ p.2.length = 64) ∧ s.left ≤ 9223372036854775807
def put1 (L : List (List UInt8)) (p : Nat × List UInt8) : List (List UInt8) := L.set p.1 p.2
/-- What reads see. -/
def secs (s : DS) : List (List UInt8) := s.pend.foldl put1 s.dur
def failsS (s : DS) : Bool × DS :=
  if s.armed = false then (false, s) else if 0 < s.left then (false, { s with left := s.left - 1 }) else (true, { s with armed := false, off := true })
def padS (b : List UInt8) : List UInt8 := b ++ List.replicate (64 - b.length) 0
/-- The error that a write meets ahead of a failure of the power; 0: none. -/
def badS (s : DS) (at' : Int) (n : Nat) : Int := if s.off = true then 10 else if at' < 0 ∨ (s.dur.length : Int) ≤ at' then 6 else if 64 < n then 4 else 0
def writeS (s : DS) (at' : Int) (b : List UInt8) : Int × DS :=
  if badS s at' b.length ≠ 0 then (badS s at' b.length, s) else if (failsS s).1 = true then (10, (failsS s).2) else (0, { (failsS s).2 with pend := s.pend ++ [(at'.toNat, padS b)] })
/-- What a read hands back: an error and bytes. -/
def readS (s : DS) (at' : Int) : Int × List UInt8 :=
  if badS s at' 0 ≠ 0 then (badS s at' 0, []) else (0, (secs s).getD at'.toNat [])
def flushS (s : DS) : Int × DS :=
  if s.off = true then (10, s) else if (failsS s).1 = true then (10, (failsS s).2) else (0, { (failsS s).2 with dur := secs s, pend := [] })
def failAfterS (s : DS) (n : Int) : DS := { s with armed := decide (0 ≤ n), left := n.toNat }
def powerS (s : DS) : DS := { s with off := false, armed := false }
/-- Does pending write i survive? -/
def survS (keep i : Nat) : Bool := keep / 2 ^ (min i 63) % 2 == 1
/-- The number of the last survivor among the first m, one more; 0: none. -/
def lastS (keep : Nat) : Nat → Nat
  | 0 => 0
  | m + 1 => if survS keep m = true then m + 1 else lastS keep m
/-- How many bytes of write i take effect. -/
def tornS (last : Nat) (torn : Int) (i : Nat) : Nat := if i + 1 = last ∧ 0 ≤ torn ∧ torn < 64 then torn.toNat else 64
/-- What write i leaves. -/
def crash1 (keep last : Nat) (torn : Int) (L : List (List UInt8)) (i : Nat) (p : Nat × List UInt8) : List (List UInt8) :=
  if survS keep i = true then L.set p.1 (p.2.take (tornS last torn i) ++ (L.getD p.1 []).drop (tornS last torn i)) else L
def crashL (keep last : Nat) (torn : Int) : List (List UInt8) → Nat → List (Nat × List UInt8) → List (List UInt8)
  | L, _, [] => L
  | L, i, p :: ps => crashL keep last torn (crash1 keep last torn L i p) (i + 1) ps
def crashS (s : DS) (keep : Nat) (torn : Int) : DS :=
  { dur := crashL keep (lastS keep s.pend.length) torn s.dur 0 s.pend, pend := [], off := true, armed := false, left := s.left }
def newS (n : Nat) : DS := { dur := List.replicate n (List.replicate 64 0), pend := [], off := false, armed := false, left := 0 }

/-! ### What stays true -/
theorem put1_ok {L : List (List UInt8)} {p : Nat × List UInt8} (h : ∀ x ∈ L, x.length = 64) (hp : p.2.length = 64) : ∀ x ∈ put1 L p, x.length = 64 := by
  intro x hx
  rcases List.mem_or_eq_of_mem_set hx with h1 | h1
  · exact h x h1
  · rw [h1]; exact hp
theorem put1_length (L : List (List UInt8)) (p : Nat × List UInt8) : (put1 L p).length = L.length := by simp [put1]
theorem fold_ok : ∀ (P : List (Nat × List UInt8)) (L : List (List UInt8)), (∀ x ∈ L, x.length = 64) → (∀ p ∈ P, p.1 < L.length ∧ p.2.length = 64) → (∀ x ∈ P.foldl put1 L, x.length = 64) ∧ (P.foldl put1 L).length = L.length
  | [], L, h, _ => ⟨h, rfl⟩
  | p :: P, L, h, hp => by
    have h1 := hp p (by simp)
    have := fold_ok P (put1 L p) (put1_ok h h1.2) (fun q hq => by rw [put1_length]; exact hp q (by simp [hq]))
    exact ⟨this.1, by rw [List.foldl_cons, this.2, put1_length]⟩
theorem secs_ok {s : DS} (h : okDS s) : (∀ x ∈ secs s, x.length = 64) ∧ (secs s).length = s.dur.length := fold_ok s.pend s.dur h.1 h.2.1
theorem failsS_ok {s : DS} (h : okDS s) : okDS (failsS s).2 := by
  unfold failsS
  split
  · exact h
  · split
    · exact ⟨h.1, h.2.1, by have := h.2.2; show s.left - 1 ≤ _; omega⟩
    · exact h
theorem failsS_same (s : DS) : (failsS s).2.dur = s.dur ∧ (failsS s).2.pend = s.pend := by
  unfold failsS
  split
  · exact ⟨rfl, rfl⟩
  · split <;> exact ⟨rfl, rfl⟩
theorem padS_length {b : List UInt8} (h : b.length ≤ 64) : (padS b).length = 64 := by simp [padS]; omega
end Go.Proofs.YtpbkmkcfhkdjjaaDoor

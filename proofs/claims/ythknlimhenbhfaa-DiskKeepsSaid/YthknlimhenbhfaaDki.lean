/- What the laws of stage 6 ask of package disk, whatever its fields are; two disks side by side. -/
import Derived.Test.YthknlimhenbhfaaDky
import Derived.Test.YthknlimhenbhfaaDkn
import Derived.Test.YthknlimhenbhfaaSm6
namespace Go.Proofs.Ythknlimhenbhfaa
open Go.RowKit Dig
set_option linter.unusedVariables false

/-- Nothing turns but what lies in the blocks F; there may be new blocks. -/
def Turn (F : Nat → Prop) (w w' : World) : Prop := w'.os = w.os ∧ w'.tape = w.tape ∧ w'.output = w.output ∧ w.heap.size ≤ w'.heap.size ∧ ∀ b, b < w.heap.size → ¬ F b → w'.heap[b]? = w.heap[b]?
/-- What a method of the program's disk hands back and leaves. -/
def PDk (D : World → Nat → DS → Prop) (fp : World → Nat → Nat → Prop) (w : World) (g : Nat) (v : Value) (s : DS) (e : Ending) (w' : World) : Prop :=
  e = .returned v ∧ D w' g s ∧ Turn (fp w g) w w' ∧ ∀ b, fp w' g b → fp w g b ∨ w.heap.size ≤ b
/-- Few sectors, few writes pending. -/
def fewD (s : DS) : Prop := s.dur.length ≤ 10000 ∧ s.pend.length ≤ 62
/-- The contracts of package disk. -/
structure Prog6 (D : World → Nat → DS → Prop) (fp : World → Nat → Nat → Prop) : Prop where
  ok : ∀ {w g s}, D w g s → okDS s
  fpLt : ∀ {w g s b}, D w g s → fp w g b → b < w.heap.size
  keep : ∀ {w w' : World} {g s}, D w g s → w.heap.size ≤ w'.heap.size → (∀ b, b < w.heap.size → fp w g b → w'.heap[b]? = w.heap[b]?) → D w' g s ∧ ∀ b, fp w' g b → fp w g b
  new : ∀ (w : World) (n : Nat), 1 ≤ n → n ≤ 8192 → Calls Try.prog 10 #[.int .i64 (n : Int)] w fun e w' => ∃ g, e = .returned (.tuple #[.pointer (some ⟨g, 0, none⟩), .int .i64 0]) ∧ D w' g (newS n) ∧ Below w.heap.size w w' ∧ ∀ b, fp w' g b → w.heap.size ≤ b
  newBad : ∀ (w : World) (n : Int), n < 1 ∨ 8192 < n → Calls Try.prog 10 #[.int .i64 n] w (RVal w (.tuple #[.pointer none, .int .i64 1]))
  size : ∀ {w g s}, D w g s → Calls Try.prog 15 #[.pointer (some ⟨g, 0, none⟩)] w (RVal w (.int .i64 (s.dur.length : Int)))
  online : ∀ {w g s}, D w g s → Calls Try.prog 24 #[.pointer (some ⟨g, 0, none⟩)] w (RVal w (.bool (!s.off)))
  pending : ∀ {w g s}, D w g s → Calls Try.prog 22 #[.pointer (some ⟨g, 0, none⟩)] w (RVal w (.int .i64 (s.pend.length : Int)))
  read : ∀ {w g s}, D w g s → fewD s → ∀ at' : Int, Calls Try.prog 16 #[.pointer (some ⟨g, 0, none⟩), .int .i64 at'] w fun e w' => ∃ r, e = .returned (.tuple #[r, .int .i64 (readS s at').1]) ∧ OwB w.heap.size w' r (readS s at').2 ∧ Below w.heap.size w w'
  write : ∀ {w g s}, D w g s → fewD s → ∀ (at' : Int) (v : Value) (b : List UInt8), Byt w v b → b.length ≤ 1000000 → (0 < b.length → ∀ k, v.ownBlock = some k → ¬ fp w g k) → Calls Try.prog 17 #[.pointer (some ⟨g, 0, none⟩), .int .i64 at', v] w (PDk D fp w g (.int .i64 (writeS s at' b).1) (writeS s at' b).2)
  flush : ∀ {w g s}, D w g s → fewD s → Calls Try.prog 19 #[.pointer (some ⟨g, 0, none⟩)] w (PDk D fp w g (.int .i64 (flushS s).1) (flushS s).2)
  failAfter : ∀ {w g s}, D w g s → ∀ n : Int, -9223372036854775808 ≤ n → n ≤ 9223372036854775807 → Calls Try.prog 23 #[.pointer (some ⟨g, 0, none⟩), .int .i64 n] w (PDk D fp w g (.tuple #[]) (failAfterS s n))
  crash : ∀ {w g s}, D w g s → fewD s → ∀ (keep : Nat) (torn : Int), keep < 18446744073709551616 → Calls Try.prog 20 #[.pointer (some ⟨g, 0, none⟩), .int .u64 (keep : Int), .int .i64 torn] w (PDk D fp w g (.tuple #[]) (crashS s keep torn))
  power : ∀ {w g s}, D w g s → Calls Try.prog 21 #[.pointer (some ⟨g, 0, none⟩)] w (PDk D fp w g (.tuple #[]) (powerS s))
/-- The program's disk and the model, apart from one another and from what was there. -/
def Two (D : World → Nat → DS → Prop) (fp : World → Nat → Nat → Prop) (w : World) (B g1 g2 : Nat) (s1 s2 : DS) : Prop :=
  D w g1 s1 ∧ DskR w g2 s2 ∧ (∀ b, fp w g1 b → B ≤ b) ∧ (∀ b, foot w g2 b → B ≤ b) ∧ (∀ b, fp w g1 b → ¬ foot w g2 b)
section
variable {D : World → Nat → DS → Prop} {fp : World → Nat → Nat → Prop} {w w' : World} {B g1 g2 : Nat} {s1 s2 s : DS} {v : Value} {e : Ending}
theorem Two.prog (P : Prog6 D fp) (h : Two D fp w B g1 g2 s1 s2) (hB : B ≤ w.heap.size) (hd : PDk D fp w g1 v s e w') : e = .returned v ∧ Two D fp w' B g1 g2 s s2 ∧ Below B w w' := by
  obtain ⟨hD, hR, h1, h2, h3⟩ := h
  obtain ⟨he, hD', ⟨t1, t2, t3, t4, t5⟩, hf⟩ := hd
  have hk := hR.keep t4 (fun b hb hfb => t5 b hb (fun hF => h3 b hF hfb))
  refine ⟨he, ⟨hD', hk.1, fun b hb => (hf b hb).elim (h1 b) (fun h => Nat.le_trans hB h), fun b hb => h2 b (hk.2 b hb), fun b hb hb2 => ?_⟩, t1, t2, t3, t4, fun b hb => t5 b (by omega) (fun hF => by have := h1 b hF; omega)⟩
  have h2' := hk.2 b hb2
  rcases hf b hb with h | h
  · exact h3 b h h2'
  · exact absurd (hR.footLt h2') (by omega)
theorem Two.ref (P : Prog6 D fp) (h : Two D fp w B g1 g2 s1 s2) (hB : B ≤ w.heap.size) (hd : RDk w g2 v s e w') : e = .returned v ∧ Two D fp w' B g1 g2 s1 s ∧ Below B w w' := by
  obtain ⟨hD, hR, h1, h2, h3⟩ := h
  obtain ⟨he, hR', hg, hF⟩ := hd
  have hg2 : foot w g2 g2 := .inl rfl
  have hk := P.keep hD hg.size (fun b hb hfb => hg.block b hb (fun e => by injection e with e; exact h3 b hfb (e ▸ hg2)))
  refine ⟨he, ⟨hk.1, hR', fun b hb => h1 b (hk.2 b hb), fun b hb => (hF b hb).elim (h2 b) (fun h => Nat.le_trans hB h), fun b hb hb2 => ?_⟩, hg.os, hg.tape, hg.output, hg.size, fun b hb => hg.block b (by omega) (fun e => by injection e with e; have := h2 g2 hg2; omega)⟩
  have h1' := hk.2 b hb
  rcases hF b hb2 with h | h
  · exact h3 b h1' h
  · exact absurd (P.fpLt hD h1') (by omega)
theorem Two.below (P : Prog6 D fp) (h : Two D fp w B g1 g2 s1 s2) (hB : Below w.heap.size w w') : Two D fp w' B g1 g2 s1 s2 := by
  obtain ⟨hD, hR, h1, h2, h3⟩ := h
  have hk := P.keep hD hB.size (fun b hb _ => hB.block b hb)
  have hr := hR.keep hB.size (fun b hb _ => hB.block b hb)
  exact ⟨hk.1, hr.1, fun b hb => h1 b (hk.2 b hb), fun b hb => h2 b (hr.2 b hb), fun b hb hb2 => h3 b (hk.2 b hb) (hr.2 b hb2)⟩
end
end Go.Proofs.Ythknlimhenbhfaa

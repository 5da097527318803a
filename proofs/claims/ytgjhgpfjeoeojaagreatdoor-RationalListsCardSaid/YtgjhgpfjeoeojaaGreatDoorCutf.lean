/- Parts of a row of fractions: the tail, the head, as the model cuts them. -/
import Derived.Test.YtgjhgpfjeoeojaaGreatDoorGrw
namespace Go.Proofs.YtgjhgpfjeoeojaaGreatDoor
open Go.RowKit Dig
set_option linter.unusedVariables false

/-- Where a tail begins. -/
def tailA (A : Option Addr) (c k : Nat) : Option Addr := if c = k then A else A.map (·.add (k * 3))
section
variable {E : World → Value → Rat → Prop} {w : World} {A : Option Addr} {qs : List Rat} {c k n : Nat}
theorem Fls.tail (h : Fls E w (.slice A qs.length c) qs) (hk : k ≤ qs.length) : Fls E w (.slice (tailA A c k) (qs.length - k) (c - k)) (qs.drop k) := by
  have hl : (qs.drop k).length = qs.length - k := List.length_drop
  have h' := h
  obtain ⟨A', c', e, ⟨h2, h3⟩, h4, h5⟩ := h'
  simp only [Value.slice.injEq] at e
  obtain ⟨rfl, -, rfl⟩ := e
  unfold tailA
  by_cases hc : c = k
  · rw [if_pos hc]
    exact ⟨A, c - k, by rw [hl], ⟨by omega, fun e => by have := h3 e; omega⟩, by omega, fun hp => by omega⟩
  · rw [if_neg hc]
    rcases Nat.eq_zero_or_pos qs.length with h0 | h0
    · refine ⟨_, c - k, by rw [hl], ⟨by omega, fun e => ?_⟩, by omega, fun hp => by omega⟩
      have : A = none := by simpa using e
      have := h3 this
      omega
    · obtain ⟨b, off, rfl, _⟩ := h5 h0
      have := h.drop hk
      have e : (some (⟨b, off, none⟩ : Addr)).map (·.add (k * 3)) = some ⟨b, off + k * 3, none⟩ := by simp [Addr.add]
      rw [e]
      exact this
end
section
variable {ev : Operand → Value} {o : Oper} {w : World} {A : Option Addr} {n c k : Nat}
theorem exec_rowTo (t x : Tmp) (ho : o.op = .slice 45 (.tmp t) none (some (.tmp x)) none) (hx : ev (.tmp t) = .slice A n c) (hh : ev (.tmp x) = .int .i64 (k : Int)) (hk : k ≤ n) (hn : n ≤ c) :
    (execOp ev o).run Tryz.prog w = .ok (.value (.slice A k c)) w := by
  have hpi : (k : Int) ≤ (c : Int) := by omega
  unfold execOp
  simp only [ho, hx, hh, Option.map]
  go_simp
theorem exec_rowFrom (t x : Tmp) (ho : o.op = .slice 45 (.tmp t) (some (.tmp x)) none none) (hx : ev (.tmp t) = .slice A n c) (hh : ev (.tmp x) = .int .i64 (k : Int)) (hk : k ≤ n) (hn : n ≤ c) :
    (execOp ev o).run Tryz.prog w = .ok (.value (.slice (tailA A c k) (n - k) (c - k))) w := by
  have hpi : (k : Int) ≤ (n : Int) := by omega
  unfold execOp
  simp only [ho, hx, hh, Option.map]
  go_simp
  rfl
end
end Go.Proofs.YtgjhgpfjeoeojaaGreatDoor

/- The contracts of the reference functions NatNorm, NatOf, NatBits, NatCmp. -/
import Derived.Test.YtpmjhkpjhfpfpaaDoorVals
import Derived.Test.YtpmjhkpjhfpfpaaDoorAdds
namespace Go.Proofs.YtpmjhkpjhfpfpaaDoor
open Go.RowKit Dig
set_option linter.unusedVariables false

section
variable {w : World} {ops : Array Oper} {rest : List Oper} {o : Oper} {a : Act} {Q : Exit → Act → World → Prop}
theorem run_none (w : World) : (Instr.buildSlice 25 0 #[]).run Tryd.prog w = .ok (.slice (some ⟨w.heap.size, 0, none⟩) 0 0) (w.alloc (.cells #[] 22)) := by
  obtain ⟨i0, hi, hz0, hz1, hz2⟩ := info_parts info_digit
  simp [Instr.buildSlice, run_underlying Tryd.underlying25, sizeOf, typeInfo, hi, newRow, Instr.fill]
  rw [show (Array.range 0 : Array Nat) = #[] from Array.eq_empty_of_size_eq_zero (by simp), Array.map_empty]
/-- An empty literal of digits: a new block without cells. -/
theorem wp_none (hg : o.guard = none) (ho : o.op = .buildSlice 25 0 #[])
    (h : ∀ w', Seg w' w.heap.size [] [] [] → Below w.heap.size w w' → wpList Tryd.prog ops Q rest (a.put o.dst (.slice (some ⟨w.heap.size, 0, none⟩) 0 0)) w') :
    wpList Tryd.prog ops Q (o :: rest) a w := by
  refine wpList_plain hg fun K hK => ?_
  unfold Oper.wp execOp
  simp only [ho, Sem.run_bind, Array.map_empty, run_none w, Result.andThen_ok]
  refine hK _ _ (h _ ?_ ((Below.refl _ _).alloc (Nat.le_refl _) _))
  unfold Seg
  rw [heap_alloc_new]
  simp [U]
end
theorem Num.cut {w : World} {A : Option Addr} {n c : Nat} {xs : List Nat} (h : Num w (.slice A n c) xs) (k : Nat) (hk : k ≤ n) : Num w (.slice A k c) (xs.take k) := by
  obtain ⟨A', c', e, ⟨hc, hn⟩, hm, hs, hr⟩ := h
  simp only [Value.slice.injEq] at e
  obtain ⟨rfl, rfl, rfl⟩ := e
  have hl : (xs.take k).length = k := by rw [List.length_take, Nat.min_eq_left hk]
  refine ⟨A, c, by rw [hl], ⟨by omega, hn⟩, hm, hs.take k, fun hp => ?_⟩
  obtain ⟨b, off, e, hb, hcell⟩ := hr (by omega)
  refine ⟨b, off, e, hb, fun j hj => ?_⟩
  rw [hcell j (by omega), getD_take _ _ _ (by omega)]
theorem Own.empty {w w' : World} (h : Seg w' w.heap.size [] [] []) : Own w.heap.size w' (.slice (some ⟨w.heap.size, 0, none⟩) 0 0) [] :=
  ⟨Small.nil, .inr ⟨w.heap.size, [], rfl, Nat.le_refl _, by unfold maxLen; simp, h⟩⟩



namespace Dig
theorem nbits_half (n : Nat) (h : 0 < n) : nbits n = nbits (n / 2) + 1 := by
  obtain ⟨h1, h2⟩ := nbits_le n h
  have h3 := nbits_lt n
  obtain ⟨m, hm⟩ : ∃ m, nbits n = m + 1 := ⟨nbits n - 1, by omega⟩
  rw [hm] at h2 h3 ⊢
  rw [Nat.add_sub_cancel] at h2
  rcases Nat.eq_zero_or_pos m with h0 | h0
  · subst h0
    have : n / 2 = 0 := by omega
    rw [this, nbits_zero]
  · obtain ⟨j, rfl⟩ : ∃ j, m = j + 1 := ⟨m - 1, by omega⟩
    rw [nbits_unique (n / 2) j]
    · rw [Nat.pow_succ] at h2; omega
    · rw [Nat.pow_succ] at h3; omega
end Dig

end Go.Proofs.YtpmjhkpjhfpfpaaDoor

/- The contract of the reference function NatCmp. -/
namespace Go.Proofs.YtpmjhkpjhfpfpaaDoor
open Go.RowKit Dig
set_option linter.unusedVariables false

def RInt (w : World) (z : Int) (e : Ending) (w' : World) : Prop := e = .returned (.int .i64 z) ∧ Below w.heap.size w w'

section
variable (w : World) (va vb : Value) (xs ys : List Nat) (ha : Num w va xs) (hb : Num w vb ys) (hza : xs.length ≤ 8796093022208) (hzb : ys.length ≤ 8796093022208)
include ha hb hza hzb



end
end Go.Proofs.YtpmjhkpjhfpfpaaDoor

/- The contract of the reference function NatMul. -/
namespace Go.Proofs.YtpmjhkpjhfpfpaaDoor
open Go.RowKit Dig
set_option linter.unusedVariables false

end Go.Proofs.YtpmjhkpjhfpfpaaDoor

/- The contract of the reference function NatSub. -/
namespace Go.Proofs.YtpmjhkpjhfpfpaaDoor
open Go.RowKit Dig
set_option linter.unusedVariables false

/-- What is owned is a segment at the head of a block, or has no digits. -/
theorem Own.seg {base : Nat} {w : World} {A : Option Addr} {n c : Nat} {xs : List Nat} (h : Own base w (.slice A n c) xs) (h0 : 0 < n) :
    ∃ g rest, A = some ⟨g, 0, none⟩ ∧ n = xs.length ∧ c = n + rest.length ∧ base ≤ g ∧ c ≤ 9223372036854775807 ∧ Seg w g [] xs rest := by
  obtain ⟨hs, h⟩ := h
  rcases h with ⟨e, _⟩ | ⟨g, rest, e, hg, hm, hh⟩
  · simp only [Value.slice.injEq] at e; omega
  · simp only [Value.slice.injEq] at e
    obtain ⟨rfl, rfl, rfl⟩ := e
    exact ⟨g, rest, rfl, rfl, rfl, hg, by unfold maxLen at hm; omega, hh⟩

theorem Own.put0 {base : Nat} {w : World} {g n c : Nat} {xs : List Nat} (h : Own base w (.slice (some ⟨g, 0, none⟩) n c) xs) (hn : xs.length = n) (k d : Nat) (v : Int) (hk : k < n) (hv : v = (d : Int)) (hd : d < 4294967296) :
    Own base (w.setCell ⟨g, k, none⟩ (.int .u32 v)) (.slice (some ⟨g, 0, none⟩) n c) (xs.set k d) := by
  obtain ⟨g', rest, e, h1, h2, h3, h4, h5⟩ := h.seg (by omega)
  simp only [Option.some.injEq, Addr.mk.injEq, and_true] at e
  subst e
  refine ⟨h.small.set k d hd, .inr ⟨g, rest, ?_, h3, ?_, h5.put0 k d v (by omega) hv⟩⟩
  · rw [List.length_set, h2, hn]
  · rw [List.length_set, hn]; unfold maxLen; omega

section
variable (w : World) (va vb : Value) (xs ys : List Nat) (ha : Num w va xs) (hb : Num w vb ys) (hza : xs.length ≤ 4398046511104) (hzb : ys.length ≤ 4398046511104)
include ha hb hza hzb


end
end Go.Proofs.YtpmjhkpjhfpfpaaDoor

/- Rows of whole numbers of 64 bits that came in: what can be read of them. -/
import Derived.Test.YtjemnankgjjgcaaBown
import Derived.Test.YtjemnankgjjgcaaFlst
import Derived.Test.YtjemnankgjjgcaaPlyb
namespace Go.Proofs.Ytjemnankgjjgcaa
open Go.RowKit Dig
set_option linter.unusedVariables false

namespace Dig
/-- The coefficient that the laws build of a whole number. -/
def ofq (z : Int) : Rat := if bits .and .i64 z 3 = 3 then 0 else bq z
/-- The list that the laws build of a row. -/
def ofl (zs : List Int) : List Rat := (zs.take 7).map ofq
theorem ofl_length (zs : List Int) : (ofl zs).length = min 7 zs.length := by unfold ofl; rw [List.length_map, List.length_take]
end Dig
/-- v is a slice of the whole numbers zs. -/
def Ints (w : World) (v : Value) (zs : List Int) : Prop :=
  ∃ A c, v = .slice A zs.length c ∧ (zs.length ≤ c ∧ (A = none → c = 0)) ∧ c ≤ maxLen ∧
    (0 < zs.length → ∃ b off, A = some ⟨b, off, none⟩ ∧ b < w.heap.size ∧ ∀ j, j < zs.length → w.cell? ⟨b, off + j, none⟩ = some (.int .i64 (zs.getD j 0)) ∧ Fits64 (zs.getD j 0))
section
variable {w w' : World} {v : Value} {zs : List Int} {A : Option Addr} {n c : Nat}
theorem Ints.form (h : Ints w v zs) : ∃ A c, v = .slice A zs.length c := by
  obtain ⟨A, c, e, _⟩ := h
  exact ⟨A, c, e⟩
theorem Ints.len (h : Ints w (.slice A n c) zs) : n = zs.length ∧ n ≤ c ∧ c ≤ 9223372036854775807 := by
  obtain ⟨A', c', e, h1, h2, _⟩ := h
  cases e
  unfold maxLen at h2
  omega
theorem Ints.below (h : Ints w v zs) (hb : Below w.heap.size w w') : Ints w' v zs := by
  obtain ⟨A, c, h1, h2, h3, h5⟩ := h
  refine ⟨A, c, h1, h2, h3, fun hp => ?_⟩
  obtain ⟨b, off, e, hbb, hc⟩ := h5 hp
  exact ⟨b, off, e, Nat.lt_of_lt_of_le hbb hb.size, fun j hj => ⟨(hb.cell (p := ⟨b, _, none⟩) hbb).trans (hc j hj).1, (hc j hj).2⟩⟩
theorem Ints.cells (h : Ints w (.slice A n c) zs) (hp : 0 < n) : ∃ b off, A = some ⟨b, off, none⟩ ∧ b < w.heap.size ∧ ∀ j, j < n → w.cell? ⟨b, off + j, none⟩ = some (.int .i64 (zs.getD j 0)) ∧ Fits64 (zs.getD j 0) := by
  obtain ⟨A', c', e, h2, h3, h5⟩ := h
  cases e
  exact h5 hp
end
theorem wf_i64 {n : Int} (h : (Lit.int .i64 n).wf = true) : Fits64 n := by
  have e1 : IntKind.i64.min = -9223372036854775808 := by decide
  have e2 : IntKind.i64.max = 9223372036854775807 := by decide
  simp [Lit.wf, e1, e2] at h
  unfold Fits64
  omega
/-- What the row tells of a slice of whole numbers that came in. -/
theorem ints_of_row {w : World} {a : Option Addr} {len cap : Nat} {zs : List Int}
    (h : (a = none ∧ len = 0 ∧ cap = 0 ∧ zs = []) ∨ ∃ x, a = some x ∧ len ≤ cap ∧ cap ≤ maxLen ∧ zs.length = cap ∧ (∀ i, i < zs.length → w.cell? (x.add i) = some (.int .i64 (zs.getD i 0))) ∧ ∀ n ∈ zs, (Lit.int .i64 n).wf = true) :
    ∃ ls, Ints w (.slice a len cap) ls := by
  rcases h with ⟨rfl, rfl, rfl, rfl⟩ | ⟨x, rfl, hl, hm, hz, hcell, hwz⟩
  · exact ⟨[], none, 0, rfl, ⟨Nat.le_refl _, fun _ => rfl⟩, by unfold maxLen; omega, fun h => absurd h (by simp)⟩
  · have hlen : (zs.take len).length = len := by simp; omega
    have hget : ∀ j, j < len → (zs.take len).getD j 0 = zs.getD j 0 := fun j hj => getD_take hj
    refine ⟨zs.take len, some x, cap, by rw [hlen], ⟨by omega, fun e => by cases e⟩, hm, fun hp => ?_⟩
    rw [hlen] at hp ⊢
    obtain ⟨b, off, spot⟩ := x
    have hc := hcell 0 (by omega)
    have hspot : spot = none := by simpa [Addr.add] using World.cell?_spot hc
    subst hspot
    refine ⟨b, off, rfl, ?_, fun j hj => ?_⟩
    · have := World.block_lt_of_cell? w _ hc
      simpa [Addr.add] using this
    · have e : (⟨b, off, none⟩ : Addr).add j = ⟨b, off + j, none⟩ := by unfold Addr.add; split <;> simp_all
      have h1 := hcell j (by omega)
      rw [e] at h1
      rw [h1, hget j hj]
      refine ⟨rfl, wf_i64 (hwz _ ?_)⟩
      have h2 : j < zs.length := by omega
      rw [List.getD_eq_getElem?_getD, List.getElem?_eq_getElem h2]
      exact List.getElem_mem h2
end Go.Proofs.Ytjemnankgjjgcaa

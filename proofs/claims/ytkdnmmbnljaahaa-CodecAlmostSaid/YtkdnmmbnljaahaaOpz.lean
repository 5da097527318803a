/- A list of operations in memory, three cells for each: a byte, a number, a count. -/
import Derived.Deep.Slices
import Derived.Deep.Strs
import Derived.ChangeSame
import Derived.Test.YtkdnmmbnljaahaaStp
import Derived.Test.YtkdnmmbnljaahaaBytes
namespace Go.Proofs.Ytkdnmmbnljaahaa
open Go.RowKit Dig
set_option linter.unusedVariables false

/-- What an operation's parts may be. -/
def OkOp (o : Nat × Nat × Int) : Prop := o.1 < 256 ∧ o.2.1 < 18446744073709551616 ∧ -9223372036854775808 ≤ o.2.2 ∧ o.2.2 ≤ 9223372036854775807
/-- v is a list of operations. -/
def Ops (w : World) (v : Value) (l : List (Nat × Nat × Int)) : Prop :=
  ∃ A c, v = .slice A l.length c ∧ l.length ≤ c ∧ c ≤ maxLen ∧ (∀ o ∈ l, OkOp o) ∧ (0 < l.length → ∃ b off, A = some ⟨b, off, none⟩ ∧ b < w.heap.size ∧ ∀ j, j < l.length →
    w.cell? ⟨b, off + j * 3, none⟩ = some (.int .u8 ((l.getD j default).1 : Int)) ∧ w.cell? ⟨b, off + j * 3 + 1, none⟩ = some (.int .u64 ((l.getD j default).2.1 : Int)) ∧ w.cell? ⟨b, off + j * 3 + 2, none⟩ = some (.int .i64 (l.getD j default).2.2))
section
variable {w w' : World} {v : Value} {l : List (Nat × Nat × Int)}
theorem Ops.form (h : Ops w v l) : ∃ A c, v = .slice A l.length c := by
  obtain ⟨A, c, e, _⟩ := h
  exact ⟨A, c, e⟩
theorem Ops.below (h : Ops w v l) (hB : Below w.heap.size w w') : Ops w' v l := by
  obtain ⟨A, c, h1, h2, h3, h4, h5⟩ := h
  refine ⟨A, c, h1, h2, h3, h4, fun hp => ?_⟩
  obtain ⟨b, off, e, hb, hc⟩ := h5 hp
  refine ⟨b, off, e, Nat.lt_of_lt_of_le hb hB.size, fun j hj => ?_⟩
  obtain ⟨c0, c1, c2⟩ := hc j hj
  refine ⟨?_, ?_, ?_⟩
  · rw [World.cell?_of_block (a := ⟨b, off + j * 3, none⟩) (hB.block b hb)]
    exact c0
  · rw [World.cell?_of_block (a := ⟨b, off + j * 3 + 1, none⟩) (hB.block b hb)]
    exact c1
  · rw [World.cell?_of_block (a := ⟨b, off + j * 3 + 2, none⟩) (hB.block b hb)]
    exact c2
theorem Ops.bound (h : Ops w v l) : l.length ≤ maxLen := by
  obtain ⟨A, c, _, h2, h3, _⟩ := h
  omega
theorem Ops.ok (h : Ops w v l) {j : Nat} (hj : j < l.length) : OkOp (l.getD j default) := by
  obtain ⟨A, c, _, _, _, h4, _⟩ := h
  have e : l.getD j default = l[j] := by simp [List.getD_eq_getElem?_getD, hj]
  rw [e]
  exact h4 _ (List.getElem_mem hj)
/-- The cells of one operation. -/
theorem Ops.cells {A : Option Addr} {n c : Nat} (h : Ops w (.slice A n c) l) {j : Nat} (hj : j < l.length) : ∃ b off, A = some ⟨b, off, none⟩ ∧ b < w.heap.size ∧
    w.cell? ⟨b, off + j * 3, none⟩ = some (.int .u8 ((l.getD j default).1 : Int)) ∧ w.cell? ⟨b, off + j * 3 + 1, none⟩ = some (.int .u64 ((l.getD j default).2.1 : Int)) ∧ w.cell? ⟨b, off + j * 3 + 2, none⟩ = some (.int .i64 (l.getD j default).2.2) := by
  obtain ⟨A', c', e, _, _, _, h5⟩ := h
  obtain ⟨b, off, e2, hb, hc⟩ := h5 (by omega)
  injection e with e3 _ _
  obtain ⟨c0, c1, c2⟩ := hc j hj
  exact ⟨b, off, e3.trans e2, hb, c0, c1, c2⟩
end
end Go.Proofs.Ytkdnmmbnljaahaa

/- A list of operations that came in as an argument can be read. -/
namespace Go.Proofs.Ytkdnmmbnljaahaa
open Go.RowKit Go.ChangeShapes Go.WideShapes Go.Deep Dig
set_option linter.unusedVariables false

theorem ops_of_trod {H : Type} {enc : TypeId × Value → H} {P : Program} {w : World} {base fuel : Nat} {spare : Nat → Bool} {held : Bool} {t e : TypeId} {f0 f1 f2 : Field} {v : Value} {x : DataW H × List MemPlace}
    (ht : P.underlying t = some (.slice e)) (he : P.underlying e = some (.struct #[f0, f1, f2])) (hC : P.cellsOf e = 3) (o : f0.offset = 0 ∧ f1.offset = 1 ∧ f2.offset = 2) (c : P.cellsOf f0.type = 1 ∧ P.cellsOf f1.type = 1 ∧ P.cellsOf f2.type = 1)
    (i0 : P.underlying f0.type = some (.int .u8)) (i1 : P.underlying f1.type = some (.int .u64)) (i2 : P.underlying f2.type = some (.int .i64)) (h : DataW.trod enc P w base spare held fuel t [v] = some x) :
    ∃ l, Ops w v l := by
  obtain ⟨o0, o1, o2⟩ := o
  obtain ⟨c0, c1, c2⟩ := c
  rcases open_slice ht h with ⟨hcs, _⟩ | ⟨a, len, cap, m, n, D, Pl, hcs, _, hl, hm, hmm, _, hi⟩
  · obtain rfl : v = .slice none 0 0 := by simpa using hcs
    exact ⟨[], none, 0, rfl, Nat.le_refl _, Nat.zero_le _, fun o ho => (List.not_mem_nil ho).elim, fun hp => (Nat.lt_irrefl _ hp).elim⟩
  · obtain rfl : v = .slice (some a) len cap := by simpa using hcs
    have hlm : len ≤ m := by rw [hmm]; split <;> omega
    have key : ∀ j, j < len → ∃ q : Nat × Nat × Int, OkOp q ∧ w.cell? (a.add (j * 3)) = some (.int .u8 (q.1 : Int)) ∧ w.cell? ((a.add (j * 3)).add 1) = some (.int .u64 (q.2.1 : Int)) ∧ w.cell? ((a.add (j * 3)).add 2) = some (.int .i64 q.2.2) := by
      intro j hj
      obtain ⟨cs, hc, hd⟩ := hi j (by omega)
      rw [hC] at hc
      obtain ⟨_, hcl, hat⟩ := World.cells?_some hc
      obtain ⟨y0, y1, y2, k, _, _, d0, d1, d2⟩ := trod_struct3 he hd
      match cs, hcl with
      | [x0, x1, x2], _ =>
        rw [o0, c0] at d0
        rw [o1, c1] at d1
        rw [o2, c2] at d2
        obtain ⟨z0, e0, _, g0⟩ := DataW.trod_int i0 d0
        obtain ⟨z1, e1, _, g1⟩ := DataW.trod_int i1 d1
        obtain ⟨z2, e2, _, g2⟩ := DataW.trod_int i2 d2
        obtain rfl : x0 = .int .u8 z0 := by simpa using e0
        obtain rfl : x1 = .int .u64 z1 := by simpa using e1
        obtain rfl : x2 = .int .i64 z2 := by simpa using e2
        have b0 := wf_byte g0
        have b1 := wf_u64 g1
        have b2 := wf_i64 g2
        have a0 := hat 0 (by omega)
        have a1 := hat 1 (by omega)
        have a2 := hat 2 (by omega)
        refine ⟨(z0.toNat, z1.toNat, z2), ⟨by show z0.toNat < _; omega, by show z1.toNat < _; omega, b2.1, b2.2⟩, ?_, ?_, ?_⟩
        · have e : (a.add (j * 3)).add 0 = a.add (j * 3) := by rw [add_add, Nat.add_zero]
          rw [e] at a0
          rw [a0]
          show some (Value.int .u8 z0) = some (.int .u8 (z0.toNat : Int))
          rw [Int.toNat_of_nonneg b0.1]
        · rw [a1]
          show some (Value.int .u64 z1) = some (.int .u64 (z1.toNat : Int))
          rw [Int.toNat_of_nonneg b1.1]
        · rw [a2]
          rfl
    have hex : ∀ j : Nat, ∃ q : Nat × Nat × Int, j < len → OkOp q ∧ w.cell? (a.add (j * 3)) = some (.int .u8 (q.1 : Int)) ∧ w.cell? ((a.add (j * 3)).add 1) = some (.int .u64 (q.2.1 : Int)) ∧ w.cell? ((a.add (j * 3)).add 2) = some (.int .i64 q.2.2) := by
      intro j
      by_cases hj : j < len
      · obtain ⟨q, hq⟩ := key j hj
        exact ⟨q, fun _ => hq⟩
      · exact ⟨(0, 0, 0), fun h => absurd h hj⟩
    obtain ⟨Q, hQ⟩ := Classical.axiomOfChoice hex
    have hlen : ((List.range len).map Q).length = len := by simp
    have hget : ∀ j, j < len → ((List.range len).map Q).getD j default = Q j := by
      intro j hj
      simp [List.getD_eq_getElem?_getD, hj]
    refine ⟨(List.range len).map Q, some a, cap, by rw [hlen], by rw [hlen]; exact hl, hm, ?_, fun hp => ?_⟩
    · intro q hq
      obtain ⟨j, hj, rfl⟩ := List.mem_map.1 hq
      exact (hQ j (List.mem_range.1 hj)).1
    · rw [hlen] at hp ⊢
      obtain ⟨b, off, spot⟩ := a
      obtain ⟨_, hc, _, _⟩ := hQ 0 hp
      have hspot : spot = none := by simpa [Addr.add] using World.cell?_spot hc
      subst hspot
      have e : ∀ o j, (⟨b, o, none⟩ : Addr).add j = ⟨b, o + j, none⟩ := by intro o j; unfold Addr.add; split <;> simp_all
      refine ⟨b, off, rfl, ?_, fun j hj => ?_⟩
      · have := World.block_lt_of_cell? w _ hc
        rwa [e] at this
      · obtain ⟨_, h0, h1, h2⟩ := hQ j hj
        rw [e] at h0 h1 h2
        rw [e] at h1 h2
        rw [hget j hj]
        exact ⟨h0, h1, h2⟩
end Go.Proofs.Ytkdnmmbnljaahaa

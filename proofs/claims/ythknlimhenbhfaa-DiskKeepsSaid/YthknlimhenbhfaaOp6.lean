/- A list of calls of a disk that came in as an argument: five cells each, the last of them a slice of bytes. -/
import Derived.Deep.Slices
import Derived.ChangeSame
import Derived.Test.YthknlimhenbhfaaBytes
namespace Go.Proofs.Ythknlimhenbhfaa
open Go.RowKit Go.ChangeShapes Go.WideShapes Go.Deep Dig
set_option linter.unusedVariables false

/-- One call: its kind, a place, a number, the writes kept, bytes. -/
structure Op6 where
  kind : Nat
  at' : Int
  num : Int
  keep : Nat
  data : List UInt8
instance : Inhabited Op6 := ⟨⟨0, 0, 0, 0, []⟩⟩
def OkOp6 (o : Op6) : Prop := o.kind < 256 ∧ (-9223372036854775808 ≤ o.at' ∧ o.at' ≤ 9223372036854775807) ∧ (-9223372036854775808 ≤ o.num ∧ o.num ≤ 9223372036854775807) ∧ o.keep < 18446744073709551616
/-- The cells of a call at place p of block b. -/
def AtOp6 (w : World) (b p : Nat) (o : Op6) : Prop :=
  w.cell? ⟨b, p, none⟩ = some (.int .u8 (o.kind : Int)) ∧ w.cell? ⟨b, p + 1, none⟩ = some (.int .i64 o.at') ∧ w.cell? ⟨b, p + 2, none⟩ = some (.int .i64 o.num) ∧ w.cell? ⟨b, p + 3, none⟩ = some (.int .u64 (o.keep : Int)) ∧ ∃ v, w.cell? ⟨b, p + 4, none⟩ = some v ∧ Byt w v o.data
def Ops6 (w : World) (v : Value) (l : List Op6) : Prop :=
  ∃ A c, v = .slice A l.length c ∧ l.length ≤ c ∧ c ≤ maxLen ∧ (∀ o ∈ l, OkOp6 o) ∧ (0 < l.length → ∃ b off, A = some ⟨b, off, none⟩ ∧ b < w.heap.size ∧ ∀ j, j < l.length → AtOp6 w b (off + j * 5) (l.getD j default))
section
variable {w w' : World} {v : Value} {l : List Op6}
theorem Ops6.form (h : Ops6 w v l) : ∃ A c, v = .slice A l.length c := by
  obtain ⟨A, c, e, _⟩ := h
  exact ⟨A, c, e⟩
theorem Ops6.below (h : Ops6 w v l) (hB : Below w.heap.size w w') : Ops6 w' v l := by
  obtain ⟨A, c, h1, h2, h3, h4, h5⟩ := h
  refine ⟨A, c, h1, h2, h3, h4, fun hp => ?_⟩
  obtain ⟨b, off, e, hb, hc⟩ := h5 hp
  refine ⟨b, off, e, Nat.lt_of_lt_of_le hb hB.size, fun j hj => ?_⟩
  obtain ⟨c0, c1, c2, c3, u, c4, hu⟩ := hc j hj
  have hx : ∀ p, w'.cell? ⟨b, p, none⟩ = w.cell? ⟨b, p, none⟩ := fun p => hB.cell (p := ⟨b, p, none⟩) hb
  exact ⟨(hx _).trans c0, (hx _).trans c1, (hx _).trans c2, (hx _).trans c3, u, (hx _).trans c4, hu.below hB⟩
theorem Ops6.ok (h : Ops6 w v l) {j : Nat} (hj : j < l.length) : OkOp6 (l.getD j default) := by
  obtain ⟨A, c, _, _, _, h4, _⟩ := h
  have e : l.getD j default = l[j] := by simp [List.getD_eq_getElem?_getD, hj]
  rw [e]
  exact h4 _ (List.getElem_mem hj)
theorem Ops6.cells {A : Option Addr} {n c : Nat} (h : Ops6 w (.slice A n c) l) {j : Nat} (hj : j < l.length) : ∃ b off, A = some ⟨b, off, none⟩ ∧ b < w.heap.size ∧ AtOp6 w b (off + j * 5) (l.getD j default) := by
  obtain ⟨A', c', e, _, _, _, h5⟩ := h
  obtain ⟨b, off, e2, hb, hc⟩ := h5 (by omega)
  injection e with e3 _ _
  exact ⟨b, off, e3.trans e2, hb, hc j hj⟩
theorem byt_of_cells {a : Addr} {len cap : Nat} {zs : List Int} (hl : len ≤ cap) (hm : cap ≤ maxLen) (hz : len ≤ zs.length) (hcell : ∀ i, i < zs.length → w.cell? (a.add i) = some (.int .u8 (zs.getD i 0))) (hwz : ∀ n ∈ zs, (Lit.int .u8 n).wf = true) :
    ∃ ts, Byt w (.slice (some a) len cap) ts := by
  have hlen : ((zs.take len).map fun z => oct z.toNat).length = len := by simp; omega
  have hbd : ∀ j, j < zs.length → 0 ≤ zs.getD j 0 ∧ zs.getD j 0 < 256 := by
    intro j hj
    have h1 : zs.getD j 0 ∈ zs := by
      rw [List.getD_eq_getElem?_getD, List.getElem?_eq_getElem hj]
      exact List.getElem_mem hj
    exact wf_byte (hwz _ h1)
  have hget : ∀ j, j < len → ((((zs.take len).map fun z => oct z.toNat).getD j 0).toNat : Int) = zs.getD j 0 := by
    intro j hj
    have h1 : j < zs.length := by omega
    have h2 := hbd j h1
    have e : ((zs.take len).map fun z => oct z.toNat).getD j 0 = oct (zs.getD j 0).toNat := by
      simp [List.getD_eq_getElem?_getD, hj, List.getElem?_eq_getElem h1]
    rw [e, oct_toNat (by omega)]
    omega
  refine ⟨(zs.take len).map fun z => oct z.toNat, some a, cap, by rw [hlen], ⟨by omega, fun e => by cases e⟩, hm, fun hp => ?_⟩
  rw [hlen] at hp ⊢
  obtain ⟨b, off, spot⟩ := a
  have hc := hcell 0 (by omega)
  have hspot : spot = none := by simpa [Addr.add] using World.cell?_spot hc
  subst hspot
  refine ⟨b, off, rfl, ?_, fun j hj => ?_⟩
  · have := World.block_lt_of_cell? w _ hc
    simpa [Addr.add] using this
  · have e : (⟨b, off, none⟩ : Addr).add j = ⟨b, off + j, none⟩ := by unfold Addr.add; split <;> simp_all
    have h1 := hcell j (by omega)
    rw [e] at h1
    rw [h1, hget j hj]
end
theorem ops6_of_trod {H : Type} {enc : TypeId × Value → H} {P : Program} {w : World} {base fuel : Nat} {spare : Nat → Bool} {held : Bool} {t e tb u : TypeId} {f0 f1 f2 f3 f4 : Field} {v : Value} {x : DataW H × List MemPlace}
    (ht : P.underlying t = some (.slice e)) (he : P.underlying e = some (.struct #[f0, f1, f2, f3, f4])) (hC : P.cellsOf e = 5) (o : f0.offset = 0 ∧ f1.offset = 1 ∧ f2.offset = 2 ∧ f3.offset = 3 ∧ f4.offset = 4) (c : P.cellsOf f0.type = 1 ∧ P.cellsOf f1.type = 1 ∧ P.cellsOf f2.type = 1 ∧ P.cellsOf f3.type = 1 ∧ P.cellsOf f4.type = 1)
    (i0 : P.underlying f0.type = some (.int .u8)) (i1 : P.underlying f1.type = some (.int .i64)) (i2 : P.underlying f2.type = some (.int .i64)) (i3 : P.underlying f3.type = some (.int .u64)) (i4 : P.underlying f4.type = some (.slice u)) (iu : P.underlying u = some (.int .u8)) (hu : P.cellsOf u = 1)
    (h : DataW.trod enc P w base spare held fuel t [v] = some x) : ∃ l, Ops6 w v l := by
  obtain ⟨o0, o1, o2, o3, o4⟩ := o
  obtain ⟨c0, c1, c2, c3, c4⟩ := c
  rcases open_slice ht h with ⟨hcs, _⟩ | ⟨a, len, cap, m, n, D, Pl, hcs, _, hl, hm, hmm, _, hi⟩
  · obtain rfl : v = .slice none 0 0 := by simpa using hcs
    exact ⟨[], none, 0, rfl, Nat.le_refl _, Nat.zero_le _, fun o ho => (List.not_mem_nil ho).elim, fun hp => (Nat.lt_irrefl _ hp).elim⟩
  · obtain rfl : v = .slice (some a) len cap := by simpa using hcs
    have hlm : len ≤ m := by rw [hmm]; split <;> omega
    have key : ∀ j, j < len → ∃ q : Op6, OkOp6 q ∧ w.cell? (a.add (j * 5)) = some (.int .u8 (q.kind : Int)) ∧ w.cell? ((a.add (j * 5)).add 1) = some (.int .i64 q.at') ∧ w.cell? ((a.add (j * 5)).add 2) = some (.int .i64 q.num) ∧ w.cell? ((a.add (j * 5)).add 3) = some (.int .u64 (q.keep : Int)) ∧ ∃ y, w.cell? ((a.add (j * 5)).add 4) = some y ∧ Byt w y q.data := by
      intro j hj
      obtain ⟨cs, hc, hd⟩ := hi j (by omega)
      rw [hC] at hc
      obtain ⟨_, hcl, hat⟩ := World.cells?_some hc
      obtain ⟨ys, k, _, _, _, hyl, hf⟩ := DataW.trod_struct he hd
      match cs, hcl, ys, hyl with
      | [x0, x1, x2, x3, x4], _, [y0, y1, y2, y3, y4], _ =>
        have d0 := hf 0 f0 rfl
        have d1 := hf 1 f1 rfl
        have d2 := hf 2 f2 rfl
        have d3 := hf 3 f3 rfl
        have d4 := hf 4 f4 rfl
        rw [o0, c0] at d0
        rw [o1, c1] at d1
        rw [o2, c2] at d2
        rw [o3, c3] at d3
        rw [o4, c4] at d4
        obtain ⟨z0, e0, _, g0⟩ := DataW.trod_int i0 d0
        obtain ⟨z1, e1, _, g1⟩ := DataW.trod_int i1 d1
        obtain ⟨z2, e2, _, g2⟩ := DataW.trod_int i2 d2
        obtain ⟨z3, e3, _, g3⟩ := DataW.trod_int i3 d3
        obtain rfl : x0 = .int .u8 z0 := by simpa using e0
        obtain rfl : x1 = .int .i64 z1 := by simpa using e1
        obtain rfl : x2 = .int .i64 z2 := by simpa using e2
        obtain rfl : x3 = .int .u64 z3 := by simpa using e3
        have hb : ∃ ts, Byt w x4 ts := by
          rcases open_ints i4 iu hu d4 with ⟨e4, _⟩ | ⟨a4, l4, k4, zs, e4, _, h1, h2, h3, _, h5, h6⟩
          · obtain rfl : x4 = .slice none 0 0 := by simpa using e4
            exact ⟨[], Byt.nil w⟩
          · obtain rfl : x4 = .slice (some a4) l4 k4 := by simpa using e4
            exact byt_of_cells h1 h2 (by rw [h3]; split <;> omega) h5 h6
        obtain ⟨ts, hts⟩ := hb
        have b0 := wf_byte g0
        have b1 := wf_i64 g1
        have b2 := wf_i64 g2
        have b3 := wf_u64 g3
        have a0 := hat 0 (by omega)
        have a1 := hat 1 (by omega)
        have a2 := hat 2 (by omega)
        have a3 := hat 3 (by omega)
        have a4 := hat 4 (by omega)
        refine ⟨⟨z0.toNat, z1, z2, z3.toNat, ts⟩, ⟨by show z0.toNat < _; omega, b1, b2, by show z3.toNat < _; omega⟩, ?_, a1, a2, ?_, x4, a4, hts⟩
        · have e : (a.add (j * 5)).add 0 = a.add (j * 5) := by rw [add_add, Nat.add_zero]
          rw [e] at a0
          rw [a0]
          show some (Value.int .u8 z0) = some (.int .u8 (z0.toNat : Int))
          rw [Int.toNat_of_nonneg b0.1]
        · rw [a3]
          show some (Value.int .u64 z3) = some (.int .u64 (z3.toNat : Int))
          rw [Int.toNat_of_nonneg b3.1]
    have hex : ∀ j : Nat, ∃ q : Op6, j < len → (OkOp6 q ∧ w.cell? (a.add (j * 5)) = some (.int .u8 (q.kind : Int)) ∧ w.cell? ((a.add (j * 5)).add 1) = some (.int .i64 q.at') ∧ w.cell? ((a.add (j * 5)).add 2) = some (.int .i64 q.num) ∧ w.cell? ((a.add (j * 5)).add 3) = some (.int .u64 (q.keep : Int)) ∧ ∃ y, w.cell? ((a.add (j * 5)).add 4) = some y ∧ Byt w y q.data) := by
      intro j
      by_cases hj : j < len
      · obtain ⟨q, hq⟩ := key j hj
        exact ⟨q, fun _ => hq⟩
      · exact ⟨default, fun h => absurd h hj⟩
    obtain ⟨Q, hQ⟩ := Classical.axiomOfChoice hex
    have hlen : ((List.range len).map Q).length = len := by simp
    have hget : ∀ j, j < len → ((List.range len).map Q).getD j default = Q j := by
      intro j hj
      simp [List.getD_eq_getElem?_getD, hj]
    refine ⟨(List.range len).map Q, some a, cap, by rw [hlen], by rw [hlen]; exact hl, hm, ?_, fun hp => ?_⟩
    · intro q hq
      obtain ⟨j, hj, rfl⟩ := List.mem_map.1 hq
      exact (hQ j (List.mem_range.1 hj)).1
    · rw [hlen] at hp ⊢
      obtain ⟨b, off, spot⟩ := a
      obtain ⟨_, hc, _⟩ := hQ 0 hp
      have hspot : spot = none := by simpa [Addr.add] using World.cell?_spot hc
      subst hspot
      have e : ∀ o j, (⟨b, o, none⟩ : Addr).add j = ⟨b, o + j, none⟩ := by intro o j; unfold Addr.add; split <;> simp_all
      refine ⟨b, off, rfl, ?_, fun j hj => ?_⟩
      · have := World.block_lt_of_cell? w _ hc
        rwa [e] at this
      · obtain ⟨_, h0, h1, h2, h3, y, h4, hy⟩ := hQ j hj
        rw [e] at h0 h1 h2 h3 h4
        rw [e] at h1 h2 h3 h4
        rw [hget j hj]
        exact ⟨h0, h1, h2, h3, y, h4, hy⟩
end Go.Proofs.Ythknlimhenbhfaa

/- A list of calls of a page store that came in as an argument: seven cells each, the fourth of them a slice of bytes. -/
import Derived.Test.YtckomifecmemnaaGreatBytes
import Derived.Deep.Slices
import Derived.ChangeSame
namespace Go.Proofs.YtckomifecmemnaaGreat
open Go.RowKit Go.ChangeShapes Go.WideShapes Go.Deep Dig
set_option linter.unusedVariables false

/-- One call: its kind, a page, a size, bytes, a failure, the writes kept, a tear. -/
structure Op7 where
  kind : Nat
  page : Int
  size : Int
  data : List UInt8
  fail : Int
  keep : Nat
  torn : Int
instance : Inhabited Op7 := ⟨⟨0, 0, 0, [], 0, 0, 0⟩⟩
def OkOp7 (o : Op7) : Prop := o.kind < 256 ∧ (-9223372036854775808 ≤ o.page ∧ o.page ≤ 9223372036854775807) ∧ (-9223372036854775808 ≤ o.size ∧ o.size ≤ 9223372036854775807) ∧ (-9223372036854775808 ≤ o.fail ∧ o.fail ≤ 9223372036854775807) ∧ o.keep < 18446744073709551616 ∧ (-9223372036854775808 ≤ o.torn ∧ o.torn ≤ 9223372036854775807)
/-- The cells of a call at place p of block b. -/
def AtOp7 (w : World) (b p : Nat) (o : Op7) : Prop :=
  w.cell? ⟨b, p, none⟩ = some (.int .u8 (o.kind : Int)) ∧ w.cell? ⟨b, p + 1, none⟩ = some (.int .i64 o.page) ∧ w.cell? ⟨b, p + 2, none⟩ = some (.int .i64 o.size) ∧ w.cell? ⟨b, p + 4, none⟩ = some (.int .i64 o.fail) ∧ w.cell? ⟨b, p + 5, none⟩ = some (.int .u64 (o.keep : Int)) ∧ w.cell? ⟨b, p + 6, none⟩ = some (.int .i64 o.torn) ∧ ∃ y, w.cell? ⟨b, p + 3, none⟩ = some y ∧ Byt w y o.data
def Ops7 (w : World) (v : Value) (l : List Op7) : Prop :=
  ∃ A c, v = .slice A l.length c ∧ l.length ≤ c ∧ c ≤ maxLen ∧ (∀ o ∈ l, OkOp7 o) ∧ (0 < l.length → ∃ b off, A = some ⟨b, off, none⟩ ∧ b < w.heap.size ∧ ∀ j (hj : j < l.length), AtOp7 w b (off + j * 7) l[j])
section
variable {w w' : World} {v : Value} {l : List Op7}
theorem Ops7.form (h : Ops7 w v l) : ∃ A c, v = .slice A l.length c := by
  obtain ⟨A, c, e, _⟩ := h
  exact ⟨A, c, e⟩
theorem Ops7.below (h : Ops7 w v l) (hB : Below w.heap.size w w') : Ops7 w' v l := by
  obtain ⟨A, c, h1, h2, h3, h4, h5⟩ := h
  refine ⟨A, c, h1, h2, h3, h4, fun hp => ?_⟩
  obtain ⟨b, off, e, hb, hc⟩ := h5 hp
  refine ⟨b, off, e, Nat.lt_of_lt_of_le hb hB.size, fun j hj => ?_⟩
  obtain ⟨c0, c1, c2, c4, c5, c6, u, cb, hu⟩ := hc j hj
  have hx : ∀ p, w'.cell? ⟨b, p, none⟩ = w.cell? ⟨b, p, none⟩ := fun p => hB.cell (p := ⟨b, p, none⟩) hb
  exact ⟨(hx _).trans c0, (hx _).trans c1, (hx _).trans c2, (hx _).trans c4, (hx _).trans c5, (hx _).trans c6, u, (hx _).trans cb, hu.below hB⟩
theorem Ops7.ok (h : Ops7 w v l) {j : Nat} (hj : j < l.length) : OkOp7 l[j] := by
  obtain ⟨A, c, _, _, _, h4, _⟩ := h
  exact h4 _ (List.getElem_mem hj)
theorem Ops7.cells {A : Option Addr} {k c : Nat} (h : Ops7 w (.slice A k c) l) {j : Nat} (hj : j < l.length) : ∃ b off, A = some ⟨b, off, none⟩ ∧ b < w.heap.size ∧ AtOp7 w b (off + j * 7) l[j] := by
  obtain ⟨A', c', e, _, _, _, h5⟩ := h
  obtain ⟨b, off, e2, hb, hc⟩ := h5 (by omega)
  injection e with e3 _ _
  exact ⟨b, off, e3.trans e2, hb, hc j hj⟩
theorem byt_of_cells7 {a : Addr} {len cap : Nat} {zs : List Int} (hl : len ≤ cap) (hm : cap ≤ maxLen) (hz : len ≤ zs.length) (hcell : ∀ i, i < zs.length → w.cell? (a.add i) = some (.int .u8 (zs.getD i 0))) (hwz : ∀ n ∈ zs, (Lit.int .u8 n).wf = true) :
    ∃ ts, Byt w (.slice (some a) len cap) ts := by
  have hlen : ((zs.take len).map fun z => oct z.toNat).length = len := by simp; omega
  have hbd : ∀ j, j < zs.length → 0 ≤ zs.getD j 0 ∧ zs.getD j 0 < 256 := by
    intro j hj
    have h1 : zs.getD j 0 ∈ zs := by
      rw [List.getD_eq_getElem?_getD, List.getElem?_eq_getElem hj]
      exact List.getElem_mem hj
    exact wf_byte (hwz _ h1)
  have hget : ∀ j, j < len → ((((zs.take len).map fun z => oct z.toNat).getD j 0).toNat : Int) = zs.getD j 0 := by
    intro j hj
    have h1 : j < zs.length := by omega
    have h2 := hbd j h1
    have e : ((zs.take len).map fun z => oct z.toNat).getD j 0 = oct (zs.getD j 0).toNat := by
      simp [List.getD_eq_getElem?_getD, hj, List.getElem?_eq_getElem h1]
    rw [e, oct_toNat (by omega)]
    omega
  refine ⟨(zs.take len).map fun z => oct z.toNat, some a, cap, by rw [hlen], ⟨by omega, fun e => by cases e⟩, hm, fun hp => ?_⟩
  rw [hlen] at hp ⊢
  obtain ⟨b, off, spot⟩ := a
  have hc := hcell 0 (by omega)
  have hspot : spot = none := by simpa [Addr.add] using World.cell?_spot hc
  subst hspot
  refine ⟨b, off, rfl, ?_, fun j hj => ?_⟩
  · have := World.block_lt_of_cell? w _ hc
    simpa [Addr.add] using this
  · have e : (⟨b, off, none⟩ : Addr).add j = ⟨b, off + j, none⟩ := by unfold Addr.add; split <;> simp_all
    have h1 := hcell j (by omega)
    rw [e] at h1
    rw [h1, hget j hj]
end
theorem ops7_of_trod {H : Type} {enc : TypeId × Value → H} {P : Program} {w : World} {base fuel : Nat} {spare : Nat → Bool} {held : Bool} {t e tb u : TypeId} {f0 f1 f2 f3 f4 f5 f6 : Field} {v : Value} {x : DataW H × List MemPlace}
    (ht : P.underlying t = some (.slice e)) (he : P.underlying e = some (.struct #[f0, f1, f2, f3, f4, f5, f6])) (hC : P.cellsOf e = 7) (o : f0.offset = 0 ∧ f1.offset = 1 ∧ f2.offset = 2 ∧ f3.offset = 3 ∧ f4.offset = 4 ∧ f5.offset = 5 ∧ f6.offset = 6) (c : P.cellsOf f0.type = 1 ∧ P.cellsOf f1.type = 1 ∧ P.cellsOf f2.type = 1 ∧ P.cellsOf f3.type = 1 ∧ P.cellsOf f4.type = 1 ∧ P.cellsOf f5.type = 1 ∧ P.cellsOf f6.type = 1)
    (i0 : P.underlying f0.type = some (.int .u8)) (i1 : P.underlying f1.type = some (.int .i64)) (i2 : P.underlying f2.type = some (.int .i64)) (i4 : P.underlying f4.type = some (.int .i64)) (i5 : P.underlying f5.type = some (.int .u64)) (i6 : P.underlying f6.type = some (.int .i64)) (i3 : P.underlying f3.type = some (.slice u)) (iu : P.underlying u = some (.int .u8)) (hu : P.cellsOf u = 1)
    (h : DataW.trod enc P w base spare held fuel t [v] = some x) : ∃ l, Ops7 w v l := by
  obtain ⟨o0, o1, o2, o3, o4, o5, o6⟩ := o
  obtain ⟨c0, c1, c2, c3, c4, c5, c6⟩ := c
  rcases open_slice ht h with ⟨hcs, _⟩ | ⟨a, len, cap, m, n, D, Pl, hcs, _, hl, hm, hmm, _, hi⟩
  · obtain rfl : v = .slice none 0 0 := by simpa using hcs
    exact ⟨[], none, 0, rfl, Nat.le_refl _, Nat.zero_le _, fun o ho => (List.not_mem_nil ho).elim, fun hp => (Nat.lt_irrefl _ hp).elim⟩
  · obtain rfl : v = .slice (some a) len cap := by simpa using hcs
    have hlm : len ≤ m := by rw [hmm]; split <;> omega
    have key : ∀ j, j < len → ∃ q : Op7, OkOp7 q ∧ w.cell? (a.add (j * 7)) = some (.int .u8 (q.kind : Int)) ∧ w.cell? ((a.add (j * 7)).add 1) = some (.int .i64 q.page) ∧ w.cell? ((a.add (j * 7)).add 2) = some (.int .i64 q.size) ∧ w.cell? ((a.add (j * 7)).add 4) = some (.int .i64 q.fail) ∧ w.cell? ((a.add (j * 7)).add 5) = some (.int .u64 (q.keep : Int)) ∧ w.cell? ((a.add (j * 7)).add 6) = some (.int .i64 q.torn) ∧ ∃ y, w.cell? ((a.add (j * 7)).add 3) = some y ∧ Byt w y q.data := by
      intro j hj
      obtain ⟨cs, hc, hd⟩ := hi j (by omega)
      rw [hC] at hc
      obtain ⟨_, hcl, hat⟩ := World.cells?_some hc
      obtain ⟨ys, k, _, _, _, hyl, hf⟩ := DataW.trod_struct he hd
      match cs, hcl, ys, hyl with
      | [x0, x1, x2, x3, x4, x5, x6], _, [y0, y1, y2, y3, y4, y5, y6], _ =>
        have d0 := hf 0 f0 rfl
        rw [o0, c0] at d0
        have d1 := hf 1 f1 rfl
        rw [o1, c1] at d1
        have d2 := hf 2 f2 rfl
        rw [o2, c2] at d2
        have d3 := hf 3 f3 rfl
        rw [o3, c3] at d3
        have d4 := hf 4 f4 rfl
        rw [o4, c4] at d4
        have d5 := hf 5 f5 rfl
        rw [o5, c5] at d5
        have d6 := hf 6 f6 rfl
        rw [o6, c6] at d6
        obtain ⟨z0, e0, _, g0⟩ := DataW.trod_int i0 d0
        obtain rfl : x0 = .int .u8 z0 := by simpa using e0
        have b0 := wf_byte g0
        obtain ⟨z1, e1, _, g1⟩ := DataW.trod_int i1 d1
        obtain rfl : x1 = .int .i64 z1 := by simpa using e1
        have b1 := wf_i64 g1
        obtain ⟨z2, e2, _, g2⟩ := DataW.trod_int i2 d2
        obtain rfl : x2 = .int .i64 z2 := by simpa using e2
        have b2 := wf_i64 g2
        obtain ⟨z4, e4, _, g4⟩ := DataW.trod_int i4 d4
        obtain rfl : x4 = .int .i64 z4 := by simpa using e4
        have b4 := wf_i64 g4
        obtain ⟨z5, e5, _, g5⟩ := DataW.trod_int i5 d5
        obtain rfl : x5 = .int .u64 z5 := by simpa using e5
        have b5 := wf_u64 g5
        obtain ⟨z6, e6, _, g6⟩ := DataW.trod_int i6 d6
        obtain rfl : x6 = .int .i64 z6 := by simpa using e6
        have b6 := wf_i64 g6
        have hb : ∃ ts, Byt w x3 ts := by
          rcases open_ints i3 iu hu d3 with ⟨e4, _⟩ | ⟨a4, l4, k4, zs, e4, _, h1, h2, h3, _, h5, h6⟩
          · obtain rfl : x3 = .slice none 0 0 := by simpa using e4
            exact ⟨[], Byt.nil w⟩
          · obtain rfl : x3 = .slice (some a4) l4 k4 := by simpa using e4
            exact byt_of_cells7 h1 h2 (by rw [h3]; split <;> omega) h5 h6
        obtain ⟨ts, hts⟩ := hb
        have a0 := hat 0 (by omega)
        have a1 := hat 1 (by omega)
        have a2 := hat 2 (by omega)
        have a3 := hat 3 (by omega)
        have a4 := hat 4 (by omega)
        have a5 := hat 5 (by omega)
        have a6 := hat 6 (by omega)
        refine ⟨⟨z0.toNat, z1, z2, ts, z4, z5.toNat, z6⟩, ⟨(by show z0.toNat < _; omega), b1, b2, b4, (by show z5.toNat < _; omega), b6⟩, ?_, a1, a2, a4, ?_, a6, x3, a3, hts⟩
        · have e : (a.add (j * 7)).add 0 = a.add (j * 7) := by rw [add_add, Nat.add_zero]
          rw [e] at a0
          rw [a0]
          show some (Value.int .u8 z0) = some (.int .u8 (z0.toNat : Int))
          rw [Int.toNat_of_nonneg b0.1]
        · rw [a5]
          show some (Value.int .u64 z5) = some (.int .u64 (z5.toNat : Int))
          rw [Int.toNat_of_nonneg b5.1]
    have hex : ∀ j : Nat, ∃ q : Op7, j < len → (OkOp7 q ∧ w.cell? (a.add (j * 7)) = some (.int .u8 (q.kind : Int)) ∧ w.cell? ((a.add (j * 7)).add 1) = some (.int .i64 q.page) ∧ w.cell? ((a.add (j * 7)).add 2) = some (.int .i64 q.size) ∧ w.cell? ((a.add (j * 7)).add 4) = some (.int .i64 q.fail) ∧ w.cell? ((a.add (j * 7)).add 5) = some (.int .u64 (q.keep : Int)) ∧ w.cell? ((a.add (j * 7)).add 6) = some (.int .i64 q.torn) ∧ ∃ y, w.cell? ((a.add (j * 7)).add 3) = some y ∧ Byt w y q.data) := by
      intro j
      by_cases hj : j < len
      · obtain ⟨q, hq⟩ := key j hj
        exact ⟨q, fun _ => hq⟩
      · exact ⟨default, fun h => absurd h hj⟩
    obtain ⟨Q, hQ⟩ := Classical.axiomOfChoice hex
    have hlen : ((List.range len).map Q).length = len := by simp
    have hget : ∀ j (hj : j < ((List.range len).map Q).length), ((List.range len).map Q)[j] = Q j := by
      intro j hj
      simp
    refine ⟨(List.range len).map Q, some a, cap, by rw [hlen], by rw [hlen]; exact hl, hm, ?_, fun hp => ?_⟩
    · intro q hq
      obtain ⟨j, hj, rfl⟩ := List.mem_map.1 hq
      exact (hQ j (List.mem_range.1 hj)).1
    · rw [hlen] at hp
      obtain ⟨b, off, spot⟩ := a
      obtain ⟨_, hc, _⟩ := hQ 0 hp
      have hspot : spot = none := by simpa [Addr.add] using World.cell?_spot hc
      subst hspot
      have e : ∀ o j, (⟨b, o, none⟩ : Addr).add j = ⟨b, o + j, none⟩ := by intro o j; unfold Addr.add; split <;> simp_all
      refine ⟨b, off, rfl, ?_, fun j hj => ?_⟩
      · have := World.block_lt_of_cell? w _ hc
        rwa [e] at this
      · have hjl := hj
        rw [hlen] at hjl
        obtain ⟨_, h0, h1, h2, h4, h5, h6, y, hb, hy⟩ := hQ j hjl
        rw [hget j hj]
        simp only [e] at h0 h1 h2 h4 h5 h6 hb
        exact ⟨h0, h1, h2, h4, h5, h6, y, hb, hy⟩
end Go.Proofs.YtckomifecmemnaaGreat

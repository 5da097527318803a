/- The contract of reduce. -/
import Derived.Test.YticakmcjiofhoaaComb
import Derived.Test.YticakmcjiofhoaaDiv
import Derived.Deep.RegionHeld3
namespace Go.Proofs.Yticakmcjiofhoaa
open Go.RowKit Dig
set_option linter.unusedVariables false

/-- What one or more steps of Euclid's algorithm hand back. -/
def Redu (w : World) (A B : Nat) (e : Ending) (w' : World) : Prop :=
  ∃ r s R S, e = .returned (.tuple #[r, s]) ∧ Num w' r (dg R) ∧ Num w' s (dg S) ∧ S < B ∧ S ≤ R ∧ R ≤ A ∧ Nat.gcd R S = Nat.gcd A B ∧ Below w.heap.size w w'

theorem cells_keep {w w' : World} {g : Nat} {v0 v1 v2 v3 : Value} (hB : Below w.heap.size w w') (h : w.cell? ⟨g, 0, none⟩ = some v0 ∧ w.cell? ⟨g, 1, none⟩ = some v1 ∧ w.cell? ⟨g, 2, none⟩ = some v2 ∧ w.cell? ⟨g, 3, none⟩ = some v3) :
    w'.cell? ⟨g, 0, none⟩ = some v0 ∧ w'.cell? ⟨g, 1, none⟩ = some v1 ∧ w'.cell? ⟨g, 2, none⟩ = some v2 ∧ w'.cell? ⟨g, 3, none⟩ = some v3 := by
  have hg : g < w.heap.size := World.block_lt_of_cell? w ⟨g, 0, none⟩ h.1
  rw [hB.cell (p := ⟨g, 0, none⟩) hg, hB.cell (p := ⟨g, 1, none⟩) hg, hB.cell (p := ⟨g, 2, none⟩) hg, hB.cell (p := ⟨g, 3, none⟩) hg]
  exact h

set_option maxHeartbeats 4000000 in
theorem reduce_c (w : World) (va vb : Value) (A B k : Nat) (ha : Num w va (dg A)) (hb : Num w vb (dg B)) (hk : k ≤ 1000000000) (hA : (dg A).length = k + 3) (hBA : B ≤ A) (hB : 2 < (dg B).length) :
    Calls Try.prog 53 #[va, vb] w (Redu w A B) := by
  have hB0 : 0 < B := by
    rcases Nat.eq_zero_or_pos B with h | h
    · rw [h, dg_zero] at hB; simp at hB
    · exact h
  have hlb := dg_length_mono hBA
  rw [hA] at hlb
  have SC := fun w1 (hB1 : Below w.heap.size w w1) => steps_c w1 va vb A B k (ha.below hB1) (hb.below hB1) (by omega) hA hBA
  have DC := fun w1 (hB1 : Below w.heap.size w w1) => div_c w1 va vb (dg A) (dg B) (ha.below hB1) (hb.below hB1) (by omega) (by rw [val_dg]; exact hB0)
  rw [val_dg, val_dg] at DC
  have HSC := Lib.hid SC
  have HDC := Lib.hid DC
  clear SC DC
  go_enter Try.func53, Try.ntmps53
  go_wp2_with fail
  refine (HSC.out w (Below.refl _ _)).mono ?_
  rintro e w1 ⟨a0, b0, a1, b1, o, rfl, hdone, hB1⟩
  by_cases hb0 : b0 = 0
  · subst hb0
    have hB2 : Below w.heap.size w (w1.alloc (.cells #[.int .u64 (a0 : Int), .int .u64 0, .int .u64 (a1 : Int), .int .u64 (b1 : Int), .bool o] 70)) := hB1.alloc hB1.size _
    go_wp2_with fail
    refine (HDC.out _ hB2).mono ?_
    rintro e w3 ⟨q, r, rfl, hq, hr, hB3⟩
    have hB4 := below_then hB2 hB3
    go_wp2_with fail
    go_ret2
    refine ⟨_, _, B, A % B, rfl, hb.below hB4, hr.num, Nat.mod_lt _ hB0, Nat.le_of_lt (Nat.mod_lt _ hB0), hBA, ?_, hB4⟩
    rw [Nat.gcd_comm B, ← Nat.gcd_rec, Nat.gcd_comm]
  · obtain ⟨r0, r1, h10, h0A, h1B, hg, hodd, heven, l1, l2, l3, l4⟩ := hdone hb0
    have hne : ((b0 : Int) != 0) = true := by rw [bne_iff_ne]; omega
    have hB2 : Below w.heap.size w (w1.alloc (.cells #[.int .u64 (a0 : Int), .int .u64 (b0 : Int), .int .u64 (a1 : Int), .int .u64 (b1 : Int), .bool o] 70)) := hB1.alloc hB1.size _
    have hS : Str (w1.alloc (.cells #[.int .u64 (a0 : Int), .int .u64 (b0 : Int), .int .u64 (a1 : Int), .int .u64 (b1 : Int), .bool o] 70)) w1.heap.size a0 b0 a1 b1 o := by
      unfold Str
      rw [heap_alloc_new]
    have hAl := dg_lt A
    rw [hA] at hAl
    have hmx := pow_le (show k + 3 ≤ max (dg A).length (dg B).length by omega)
    have hmx2 := pow_le (show k + 3 ≤ max (dg B).length (dg A).length by omega)
    cases o with
    | true =>
      obtain ⟨e0, e1⟩ := hodd rfl
      have C0 := fun w2 (hB : Below w.heap.size w w2) => comb_c w2 vb va (dg B) (dg A) b0 a0 r0 (hb.below hB) (ha.below hB) (by omega) (by omega) l2 l1 (by omega) (by rw [val_dg, val_dg]; exact e0)
      have C1 := fun w2 (hB : Below w.heap.size w w2) => comb_c w2 va vb (dg A) (dg B) a1 b1 r1 (ha.below hB) (hb.below hB) (by omega) (by omega) l3 l4 (by omega) (by rw [val_dg, val_dg]; exact e1)
      have HC0 := Lib.hid C0
      have HC1 := Lib.hid C1
      clear C0 C1 e0 e1 hodd heven hmx hmx2 hAl ha hb HSC HDC hdone
      go_wp2_with fail
      obtain ⟨d0, d1, d2, d3, d4⟩ := hS.cells
      have hd := And.intro d0 (And.intro d1 (And.intro d2 d3))
      generalize w1.alloc (.cells #[.int .u64 (a0 : Int), .int .u64 (b0 : Int), .int .u64 (a1 : Int), .int .u64 (b1 : Int), .bool true] 70) = w2 at *
      generalize w1.heap.size = g at *
      have hK : Below w2.heap.size w2 w2 := Below.refl _ _
      go_region_held3 (fun w' => w'.cell? ⟨g, 0, none⟩ = some (.int .u64 (a0 : Int)) ∧ w'.cell? ⟨g, 1, none⟩ = some (.int .u64 (b0 : Int)) ∧ w'.cell? ⟨g, 2, none⟩ = some (.int .u64 (a1 : Int)) ∧ w'.cell? ⟨g, 3, none⟩ = some (.int .u64 (b1 : Int))) (first | with_reducible exact hd | with_reducible exact cells_keep hK hd | exact hd) (first | (go_at_call_of 68 (Value.int IntKind.u64 (b0 : Int)); refine (HC0.out _ hB2.drew).mono ?_; rintro e w3 ⟨r, rfl, hO3, hBq⟩; have hK := below_undrew hBq) | (go_at_call_of 68 (Value.int IntKind.u64 (b1 : Int)); refine (HC1.out _ (below_then hB2 hK)).mono ?_; rintro e w4 ⟨s, rfl, hO4, hBs⟩; have hK := below_then hK hBs))
      go_wp2_with fail
      go_ret2
      exact ⟨_, _, r0, r1, rfl, hO3.num.below hBs, hO4.num, h1B, Nat.le_of_lt h10, h0A, hg, below_then hB2 hK⟩
    | false =>
      obtain ⟨e0, e1⟩ := heven rfl
      have C0 := fun w2 (hB : Below w.heap.size w w2) => comb_c w2 va vb (dg A) (dg B) a0 b0 r0 (ha.below hB) (hb.below hB) (by omega) (by omega) l1 l2 (by omega) (by rw [val_dg, val_dg]; exact e0)
      have C1 := fun w2 (hB : Below w.heap.size w w2) => comb_c w2 vb va (dg B) (dg A) b1 a1 r1 (hb.below hB) (ha.below hB) (by omega) (by omega) l4 l3 (by omega) (by rw [val_dg, val_dg]; exact e1)
      have HC0 := Lib.hid C0
      have HC1 := Lib.hid C1
      clear C0 C1 e0 e1 hodd heven hmx hmx2 hAl ha hb HSC HDC hdone
      go_wp2_with fail
      obtain ⟨d0, d1, d2, d3, d4⟩ := hS.cells
      have hd := And.intro d0 (And.intro d1 (And.intro d2 d3))
      generalize w1.alloc (.cells #[.int .u64 (a0 : Int), .int .u64 (b0 : Int), .int .u64 (a1 : Int), .int .u64 (b1 : Int), .bool false] 70) = w2 at *
      generalize w1.heap.size = g at *
      have hK : Below w2.heap.size w2 w2 := Below.refl _ _
      go_region_held3 (fun w' => w'.cell? ⟨g, 0, none⟩ = some (.int .u64 (a0 : Int)) ∧ w'.cell? ⟨g, 1, none⟩ = some (.int .u64 (b0 : Int)) ∧ w'.cell? ⟨g, 2, none⟩ = some (.int .u64 (a1 : Int)) ∧ w'.cell? ⟨g, 3, none⟩ = some (.int .u64 (b1 : Int))) (first | with_reducible exact hd | with_reducible exact cells_keep hK hd | exact hd) (first | (go_at_call_of 68 (Value.int IntKind.u64 (b0 : Int)); refine (HC0.out _ hB2.drew).mono ?_; rintro e w3 ⟨r, rfl, hO3, hBq⟩; have hK := below_undrew hBq) | (go_at_call_of 68 (Value.int IntKind.u64 (b1 : Int)); refine (HC1.out _ (below_then hB2 hK)).mono ?_; rintro e w4 ⟨s, rfl, hO4, hBs⟩; have hK := below_then hK hBs))
      go_wp2_with fail
      go_ret2
      exact ⟨_, _, r0, r1, rfl, hO3.num.below hBs, hO4.num, h1B, Nat.le_of_lt h10, h0A, hg, below_then hB2 hK⟩
end Go.Proofs.Yticakmcjiofhoaa

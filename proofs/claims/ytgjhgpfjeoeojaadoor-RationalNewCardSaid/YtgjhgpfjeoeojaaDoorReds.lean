/- The contract of combine. -/
import Derived.Deep.RegionHeld3
import Derived.Test.YtgjhgpfjeoeojaaDoorLeads
import Derived.Test.YtgjhgpfjeoeojaaDoorDivs
namespace Go.Proofs.YtgjhgpfjeoeojaaDoor
open Go.RowKit Dig
set_option linter.unusedVariables false

namespace Dig
/-- After k digits of u * xs - v * ys: pl and mi are the carries, br the borrow. -/
def CombRel (xs ys zs : List Nat) (u v n k pl mi br : Nat) : Prop :=
  zs.length = n ∧ Small zs ∧ u * val (xs.take k) + 4294967296 ^ k * (mi + br) = v * val (ys.take k) + val (zs.take k) + 4294967296 ^ k * pl ∧ pl < 4294967296 ∧ mi < 4294967296 ∧ br ≤ 1
theorem CombRel.start (xs ys : List Nat) (u v n : Nat) : CombRel xs ys (List.replicate n 0) u v n 0 0 0 0 := ⟨by simp, Small.replicate n, by simp [val], by omega, by omega, by omega⟩
theorem CombRel.step {xs ys zs : List Nat} {u v n k pl mi br x y z b : Nat} (h : CombRel xs ys zs u v n k pl mi br) (hk : k < n) (hx : xs.getD k 0 = x) (hy : ys.getD k 0 = y) (bx : x < 4294967296) (bb : y < 4294967296)
    (hu : u < 4294967296) (hv : v < 4294967296) (hz : z < 4294967296) (hb : b ≤ 1) (he : z + (mi + v * y) % 4294967296 + br = (pl + u * x) % 4294967296 + 4294967296 * b) :
    CombRel xs ys (zs.set k z) u v n (k + 1) ((pl + u * x) / 4294967296) ((mi + v * y) / 4294967296) b := by
  obtain ⟨hl, hs, ha, hp, hm, hbr⟩ := h
  have m1 := mul_le_digits hu bx
  have m2 := mul_le_digits hv bb
  refine ⟨by simpa using hl, hs.set _ _ hz, ?_, by omega, by omega, hb⟩
  rw [take_set_succ _ _ _ (by omega), take_all_getD xs, take_all_getD ys, hx, hy, Nat.pow_succ, Nat.mul_assoc, Nat.mul_assoc]
  have e0 := Nat.mod_add_div (pl + u * x) 4294967296
  have e1 := Nat.mod_add_div (mi + v * y) 4294967296
  generalize (pl + u * x) % 4294967296 = lo at *
  generalize (pl + u * x) / 4294967296 = hi at *
  generalize (mi + v * y) % 4294967296 = lo2 at *
  generalize (mi + v * y) / 4294967296 = hi2 at *
  generalize (4294967296 : Nat) ^ k = P at *
  generalize val (xs.take k) = X at *
  generalize val (ys.take k) = Y at *
  generalize val (zs.take k) = Z at *
  have f0 : P * (lo + 4294967296 * hi) = P * (pl + u * x) := by rw [e0]
  have f1 : P * (lo2 + 4294967296 * hi2) = P * (mi + v * y) := by rw [e1]
  have f2 : P * (z + lo2 + br) = P * (lo + 4294967296 * b) := by rw [he]
  have g1 : u * (P * x) = P * (u * x) := Nat.mul_left_comm _ _ _
  have g2 : v * (P * y) = P * (v * y) := Nat.mul_left_comm _ _ _
  rw [Nat.mul_add u, Nat.mul_add v, g1, g2]
  simp only [Nat.mul_add] at f0 f1 f2 ha ⊢
  omega
theorem CombRel.done {xs ys zs : List Nat} {u v n pl mi br r : Nat} (h : CombRel xs ys zs u v n n pl mi br) (hx : xs.length ≤ n) (hy : ys.length ≤ n) (hr : r < 4294967296 ^ n) (he : r + v * val ys = u * val xs) : val zs = r := by
  obtain ⟨hl, hs, ha, hp, hm, hbr⟩ := h
  rw [List.take_of_length_le hx, List.take_of_length_le hy, List.take_of_length_le (by omega)] at ha
  have hz := val_lt zs hs
  rw [hl] at hz
  generalize (4294967296 : Nat) ^ n = P at *
  have h1 : r + P * (mi + br) = val zs + P * pl := by omega
  rcases Nat.lt_trichotomy (mi + br) pl with h2 | h2 | h2
  · have := Nat.mul_le_mul_left P (show mi + br + 1 ≤ pl from h2)
    rw [Nat.mul_add, Nat.mul_one] at this
    omega
  · rw [h2] at h1; omega
  · have := Nat.mul_le_mul_left P (show pl + 1 ≤ mi + br from h2)
    rw [Nat.mul_add, Nat.mul_one] at this
    omega
end Dig

set_option maxHeartbeats 4000000 in
theorem comb_c (w : World) (va vb : Value) (xs ys : List Nat) (u v r : Nat) (ha : Num w va xs) (hb : Num w vb ys) (hza : xs.length ≤ 1000000000000) (hzb : ys.length ≤ 1000000000000) (hu : u < 4294967296) (hv : v < 4294967296)
    (hr : r < 4294967296 ^ (max xs.length ys.length)) (he : r + v * val ys = u * val xs) :
    Calls Tryd.prog 78 #[va, vb, .int .u64 (u : Int), .int .u64 (v : Int)] w (RNat w r) := by
  obtain ⟨A, c, rfl⟩ := ha.form
  obtain ⟨A', c', rfl⟩ := hb.form
  have hbd := ha.bounds.2
  have hbd' := hb.bounds.2
  obtain ⟨n, hn⟩ : ∃ n, max xs.length ys.length = n := ⟨_, rfl⟩
  have hni : max (xs.length : Int) (ys.length : Int) = (n : Int) := by omega
  rw [hn] at hr
  have HN := Lib.hid hn
  have HE := Lib.hid he
  have HR := Lib.hid hr
  clear hn he hr
  go_enter Tryd.func78, Tryd.ntmps78
  go_wp2_with (at_make; refine wp_make rfl _ _ rfl _ _ n rfl rfl (by omega) (by omega) (by omega) ?_; intro w1 hS hB1)
  go_loopw [10, 11, 12, 23] (fun pp mm bb i wr => ∃ (k pl mi br : Nat) (zs : List Nat), k ≤ n ∧ i = .int .i64 k ∧ pp = .int .u64 pl ∧ mm = .int .u64 mi ∧ bb = .int .u64 br ∧ CombRel xs ys zs u v n k pl mi br ∧ Seg wr w.heap.size [] zs [] ∧ Below w.heap.size w wr) (fun _ _ _ i _ => n - (intOf i).toNat)
  case atStart => exact ⟨0, 0, 0, 0, _, Nat.zero_le _, rfl, rfl, rfl, rfl, CombRel.start xs ys u v n, hS, hB1⟩
  case round =>
    clear hS hB1
    obtain ⟨k, pl, mi, br, zs, hk, rfl, rfl, rfl, rfl, hr, hseg, hbel⟩ := hrel
    have hpl := hr.2.2.2.1
    have hmi := hr.2.2.2.2.1
    have hbr := hr.2.2.2.2.2
    have hzl := hr.1
    by_cases hlt : k < n
    · have DX := digitAt_c wr _ xs k (ha.below hbel) (by omega)
      have DY := digitAt_c wr _ ys k (hb.below hbel) (by omega)
      have bx := ha.small.get k
      have bb := hb.small.get k
      generalize hxx : xs.getD k 0 = x at DX bx
      generalize hyy : ys.getD k 0 = y at DY bb
      have HDX := Lib.hid DX
      have HDY := Lib.hid DY
      have m1 := mul_le_digits hu bx
      have m2 := mul_le_digits hv bb
      have p1 : ((u * x : Nat) : Int) = (u : Int) * x := by simp
      have p2 : ((v * y : Nat) : Int) = (v : Int) * y := by simp
      have q1 : (u : Int) * x ≤ 18446744065119617025 := by rw [← p1]; omega
      have q2 : 0 ≤ (u : Int) * x := by rw [← p1]; omega
      have q3 : (v : Int) * y ≤ 18446744065119617025 := by rw [← p2]; omega
      have q4 : 0 ≤ (v : Int) * y := by rw [← p2]; omega
      obtain ⟨z, b1, hz, hb1, he, hw0, hw1, hw2⟩ := sub_wrap ((pl + u * x) % 4294967296) ((mi + v * y) % 4294967296) br (Nat.mod_lt _ (by omega)) (Nat.mod_lt _ (by omega)) hbr
      have HR2 := Lib.hid (hr.step hlt hxx hyy bx bb hu hv hz hb1 (by omega))
      have e2 : (((pl + u * x) % 4294967296 : Nat) : Int) = ((pl : Int) + (u : Int) * x) % 4294967296 := by rw [← p1]; rfl
      have e3 : (((mi + v * y) % 4294967296 : Nat) : Int) = ((mi : Int) + (v : Int) * y) % 4294967296 := by rw [← p2]; rfl
      have e4 : (((pl + u * x) / 4294967296 : Nat) : Int) = ((pl : Int) + (u : Int) * x) / 4294967296 := by rw [← p1]; rfl
      have e5 : (((mi + v * y) / 4294967296 : Nat) : Int) = ((mi : Int) + (v : Int) * y) / 4294967296 := by rw [← p2]; rfl
      rw [e2, e3] at hw0 hw1 hw2
      have hfx := hseg.frozen k
      have hcz := hseg.cell0 (j := k) (by omega)
      generalize ((zs.getD k 0 : Nat) : Int) = z0 at hcz
      have HS := Lib.hid (hseg.put0 k z _ (by omega) hw1)
      have HB := Lib.hid (hbel.setCell (p := ⟨w.heap.size, k, none⟩) (Nat.le_refl _) (.int .u32 (IntKind.u64.wrap (IntKind.u64.wrap (((pl : Int) + (u : Int) * x) % 4294967296 - ((mi : Int) + (v : Int) * y) % 4294967296) - (br : Int)) % 4294967296)))
      have HW := Lib.hid hw2
      have HE4 := Lib.hid e4
      have HE5 := Lib.hid e5
      have hki : (k : Int) < n := by omega
      clear hr hseg hbel hxx hyy hw1 hw2 he e2 e3 e4 e5 hzl m1 m2 p1 p2 DX DY
      go_wp2_with fail
      refine (HDX.out).mono ?_
      rintro e wx ⟨rfl, rfl⟩
      go_wp2_with fail
      refine (HDY.out).mono ?_
      rintro e wy ⟨rfl, rfl⟩
      go_wp2_with fail
      go_roundw
      case rel => exact ⟨k + 1, (pl + u * x) / 4294967296, (mi + v * y) / 4294967296, b1, _, by omega, by go_num, congrArg (Value.int .u64) HE4.out.symm, congrArg (Value.int .u64) HE5.out.symm, congrArg (Value.int .u64) HW.out, HR2.out, HS.out, HB.out⟩
      case measure => simp [intOf]; omega
    · have : k = n := by omega
      subst this
      have hv2 := hr.done (by have := HN.out; omega) (by have := HN.out; omega) HR.out HE.out
      have hOq := Own.of_seg (base := w.heap.size) (c := k) hseg hr.2.1 hzl (Nat.le_refl _) (by simp) (by have := HN.out; omega)
      have T := trim_own_any wr _ _ zs hOq
      rw [hv2] at T
      have HT := Lib.hid T
      clear hr hv2 T hOq hseg hzl
      go_wp2_with fail
      refine (HT.out).mono ?_
      rintro e w4 ⟨q, rfl, hO4, rfl⟩
      go_wp2_with fail
      go_ret
      exact ⟨q, rfl, hO4, hbel⟩
end Go.Proofs.YtgjhgpfjeoeojaaDoor

/- The contract of reduce. -/
namespace Go.Proofs.YtgjhgpfjeoeojaaDoor
open Go.RowKit Dig
set_option linter.unusedVariables false

/-- What one or more steps of Euclid's algorithm hand back. -/
def Redu (w : World) (A B : Nat) (e : Ending) (w' : World) : Prop :=
  ∃ r s R S, e = .returned (.tuple #[r, s]) ∧ Num w' r (dg R) ∧ Num w' s (dg S) ∧ S < B ∧ S ≤ R ∧ R ≤ A ∧ Nat.gcd R S = Nat.gcd A B ∧ Below w.heap.size w w'

theorem cells_keep {w w' : World} {g : Nat} {v0 v1 v2 v3 : Value} (hB : Below w.heap.size w w') (h : w.cell? ⟨g, 0, none⟩ = some v0 ∧ w.cell? ⟨g, 1, none⟩ = some v1 ∧ w.cell? ⟨g, 2, none⟩ = some v2 ∧ w.cell? ⟨g, 3, none⟩ = some v3) :
    w'.cell? ⟨g, 0, none⟩ = some v0 ∧ w'.cell? ⟨g, 1, none⟩ = some v1 ∧ w'.cell? ⟨g, 2, none⟩ = some v2 ∧ w'.cell? ⟨g, 3, none⟩ = some v3 := by
  have hg : g < w.heap.size := World.block_lt_of_cell? w ⟨g, 0, none⟩ h.1
  rw [hB.cell (p := ⟨g, 0, none⟩) hg, hB.cell (p := ⟨g, 1, none⟩) hg, hB.cell (p := ⟨g, 2, none⟩) hg, hB.cell (p := ⟨g, 3, none⟩) hg]
  exact h

set_option maxHeartbeats 4000000 in
theorem reduce_c (w : World) (va vb : Value) (A B k : Nat) (ha : Num w va (dg A)) (hb : Num w vb (dg B)) (hk : k ≤ 1000000000) (hA : (dg A).length = k + 3) (hBA : B ≤ A) (hB : 2 < (dg B).length) :
    Calls Tryd.prog 61 #[va, vb] w (Redu w A B) := by
  have hB0 : 0 < B := by
    rcases Nat.eq_zero_or_pos B with h | h
    · rw [h, dg_zero] at hB; simp at hB
    · exact h
  have hlb := dg_length_mono hBA
  rw [hA] at hlb
  have SC := fun w1 (hB1 : Below w.heap.size w w1) => steps_c w1 va vb A B k (ha.below hB1) (hb.below hB1) (by omega) hA hBA
  have DC := fun w1 (hB1 : Below w.heap.size w w1) => div_c w1 va vb (dg A) (dg B) (ha.below hB1) (hb.below hB1) (by omega) (by rw [val_dg]; exact hB0)
  rw [val_dg, val_dg] at DC
  have HSC := Lib.hid SC
  have HDC := Lib.hid DC
  clear SC DC
  go_enter Tryd.func61, Tryd.ntmps61
  go_wp2_with fail
  refine (HSC.out w (Below.refl _ _)).mono ?_
  rintro e w1 ⟨a0, b0, a1, b1, o, rfl, hdone, hB1⟩
  by_cases hb0 : b0 = 0
  · subst hb0
    have hB2 : Below w.heap.size w (w1.alloc (.cells #[.int .u64 (a0 : Int), .int .u64 0, .int .u64 (a1 : Int), .int .u64 (b1 : Int), .bool o] 87)) := hB1.alloc hB1.size _
    go_wp2_with fail
    refine (HDC.out _ hB2).mono ?_
    rintro e w3 ⟨q, r, rfl, hq, hr, hB3⟩
    have hB4 := below_then hB2 hB3
    go_wp2_with fail
    go_ret2
    refine ⟨_, _, B, A % B, rfl, hb.below hB4, hr.num, Nat.mod_lt _ hB0, Nat.le_of_lt (Nat.mod_lt _ hB0), hBA, ?_, hB4⟩
    rw [Nat.gcd_comm B, ← Nat.gcd_rec, Nat.gcd_comm]
  · obtain ⟨r0, r1, h10, h0A, h1B, hg, hodd, heven, l1, l2, l3, l4⟩ := hdone hb0
    have hne : ((b0 : Int) != 0) = true := by rw [bne_iff_ne]; omega
    have hB2 : Below w.heap.size w (w1.alloc (.cells #[.int .u64 (a0 : Int), .int .u64 (b0 : Int), .int .u64 (a1 : Int), .int .u64 (b1 : Int), .bool o] 87)) := hB1.alloc hB1.size _
    have hS : Str (w1.alloc (.cells #[.int .u64 (a0 : Int), .int .u64 (b0 : Int), .int .u64 (a1 : Int), .int .u64 (b1 : Int), .bool o] 87)) w1.heap.size a0 b0 a1 b1 o := by
      unfold Str
      rw [heap_alloc_new]
    have hAl := dg_lt A
    rw [hA] at hAl
    have hmx := pow_le (show k + 3 ≤ max (dg A).length (dg B).length by omega)
    have hmx2 := pow_le (show k + 3 ≤ max (dg B).length (dg A).length by omega)
    cases o with
    | true =>
      obtain ⟨e0, e1⟩ := hodd rfl
      have C0 := fun w2 (hB : Below w.heap.size w w2) => comb_c w2 vb va (dg B) (dg A) b0 a0 r0 (hb.below hB) (ha.below hB) (by omega) (by omega) l2 l1 (by omega) (by rw [val_dg, val_dg]; exact e0)
      have C1 := fun w2 (hB : Below w.heap.size w w2) => comb_c w2 va vb (dg A) (dg B) a1 b1 r1 (ha.below hB) (hb.below hB) (by omega) (by omega) l3 l4 (by omega) (by rw [val_dg, val_dg]; exact e1)
      have HC0 := Lib.hid C0
      have HC1 := Lib.hid C1
      clear C0 C1 e0 e1 hodd heven hmx hmx2 hAl ha hb HSC HDC hdone
      go_wp2_with fail
      obtain ⟨d0, d1, d2, d3, d4⟩ := hS.cells
      have hd := And.intro d0 (And.intro d1 (And.intro d2 d3))
      generalize w1.alloc (.cells #[.int .u64 (a0 : Int), .int .u64 (b0 : Int), .int .u64 (a1 : Int), .int .u64 (b1 : Int), .bool true] 87) = w2 at *
      generalize w1.heap.size = g at *
      have hK : Below w2.heap.size w2 w2 := Below.refl _ _
      go_region_held3 (fun w' => w'.cell? ⟨g, 0, none⟩ = some (.int .u64 (a0 : Int)) ∧ w'.cell? ⟨g, 1, none⟩ = some (.int .u64 (b0 : Int)) ∧ w'.cell? ⟨g, 2, none⟩ = some (.int .u64 (a1 : Int)) ∧ w'.cell? ⟨g, 3, none⟩ = some (.int .u64 (b1 : Int))) (first | with_reducible exact hd | with_reducible exact cells_keep hK hd | exact hd) (first | (go_at_call_of 78 (Value.int IntKind.u64 (b0 : Int)); refine (HC0.out _ hB2.drew).mono ?_; rintro e w3 ⟨r, rfl, hO3, hBq⟩; have hK := below_undrew hBq) | (go_at_call_of 78 (Value.int IntKind.u64 (b1 : Int)); refine (HC1.out _ (below_then hB2 hK)).mono ?_; rintro e w4 ⟨s, rfl, hO4, hBs⟩; have hK := below_then hK hBs))
      go_wp2_with fail
      go_ret2
      exact ⟨_, _, r0, r1, rfl, hO3.num.below hBs, hO4.num, h1B, Nat.le_of_lt h10, h0A, hg, below_then hB2 hK⟩
    | false =>
      obtain ⟨e0, e1⟩ := heven rfl
      have C0 := fun w2 (hB : Below w.heap.size w w2) => comb_c w2 va vb (dg A) (dg B) a0 b0 r0 (ha.below hB) (hb.below hB) (by omega) (by omega) l1 l2 (by omega) (by rw [val_dg, val_dg]; exact e0)
      have C1 := fun w2 (hB : Below w.heap.size w w2) => comb_c w2 vb va (dg B) (dg A) b1 a1 r1 (hb.below hB) (ha.below hB) (by omega) (by omega) l4 l3 (by omega) (by rw [val_dg, val_dg]; exact e1)
      have HC0 := Lib.hid C0
      have HC1 := Lib.hid C1
      clear C0 C1 e0 e1 hodd heven hmx hmx2 hAl ha hb HSC HDC hdone
      go_wp2_with fail
      obtain ⟨d0, d1, d2, d3, d4⟩ := hS.cells
      have hd := And.intro d0 (And.intro d1 (And.intro d2 d3))
      generalize w1.alloc (.cells #[.int .u64 (a0 : Int), .int .u64 (b0 : Int), .int .u64 (a1 : Int), .int .u64 (b1 : Int), .bool false] 87) = w2 at *
      generalize w1.heap.size = g at *
      have hK : Below w2.heap.size w2 w2 := Below.refl _ _
      go_region_held3 (fun w' => w'.cell? ⟨g, 0, none⟩ = some (.int .u64 (a0 : Int)) ∧ w'.cell? ⟨g, 1, none⟩ = some (.int .u64 (b0 : Int)) ∧ w'.cell? ⟨g, 2, none⟩ = some (.int .u64 (a1 : Int)) ∧ w'.cell? ⟨g, 3, none⟩ = some (.int .u64 (b1 : Int))) (first | with_reducible exact hd | with_reducible exact cells_keep hK hd | exact hd) (first | (go_at_call_of 78 (Value.int IntKind.u64 (b0 : Int)); refine (HC0.out _ hB2.drew).mono ?_; rintro e w3 ⟨r, rfl, hO3, hBq⟩; have hK := below_undrew hBq) | (go_at_call_of 78 (Value.int IntKind.u64 (b1 : Int)); refine (HC1.out _ (below_then hB2 hK)).mono ?_; rintro e w4 ⟨s, rfl, hO4, hBs⟩; have hK := below_then hK hBs))
      go_wp2_with fail
      go_ret2
      exact ⟨_, _, r0, r1, rfl, hO3.num.below hBs, hO4.num, h1B, Nat.le_of_lt h10, h0A, hg, below_then hB2 hK⟩
end Go.Proofs.YtgjhgpfjeoeojaaDoor

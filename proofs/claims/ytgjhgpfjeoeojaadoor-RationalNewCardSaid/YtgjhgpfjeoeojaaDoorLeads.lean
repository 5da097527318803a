/- The contracts of digitAt and leadingBits. -/
import Derived.Deep.QuietTactic
import Derived.Laws.ResultCell
import Derived.Test.YtgjhgpfjeoeojaaDoorDivs
import Derived.Test.YtgjhgpfjeoeojaaDoorPlain
namespace Go.Proofs.YtgjhgpfjeoeojaaDoor
open Go.RowKit Dig
set_option linter.unusedVariables false

namespace Dig
theorem drop_any (zs : List Nat) (k : Nat) : val (zs.drop k) = zs.getD k 0 + 4294967296 * val (zs.drop (k + 1)) := by
  rcases Nat.lt_or_ge k zs.length with h | h
  · exact drop_getD' zs k h
  · rw [List.drop_of_length_le h, List.drop_of_length_le (by omega), List.getD_eq_getElem?_getD, List.getElem?_eq_none h]
    simp [val]
/-- The 64 bits of a number that end at digit k + 3 and begin s bits below it. -/
def leadOf (zs : List Nat) (k s : Nat) : Nat := (zs.getD (k + 1) 0 + 4294967296 * zs.getD (k + 2) 0) * 2 ^ s + zs.getD k 0 / 2 ^ (32 - s)
theorem lead_spec (zs : List Nat) (k s : Nat) (hz : Small zs) (hl : zs.length ≤ k + 3) (hs : s ≤ 31) :
    ∃ r, r < 2 ^ (32 - s) * 4294967296 ^ k ∧ val zs = leadOf zs k s * (2 ^ (32 - s) * 4294967296 ^ k) + r := by
  have hTU : 2 ^ s * 2 ^ (32 - s) = 4294967296 := by rw [← Nat.pow_add, show s + (32 - s) = 32 by omega]
  have e1 : val (zs.drop k) = zs.getD k 0 + 4294967296 * (zs.getD (k + 1) 0 + 4294967296 * zs.getD (k + 2) 0) := by
    have e3 : val (zs.drop (k + 3)) = 0 := by rw [List.drop_of_length_le hl]; rfl
    have h1 := drop_any zs k
    have h2 := drop_any zs (k + 1)
    have h3 := drop_any zs (k + 2)
    rw [show k + 1 + 1 = k + 2 by omega] at h2
    rw [show k + 2 + 1 = k + 3 by omega, e3] at h3
    omega
  have hU : 0 < 2 ^ (32 - s) := Nat.pow_pos (by omega)
  have hm := Nat.mod_lt (zs.getD k 0) hU
  have hd := Nat.div_add_mod (zs.getD k 0) (2 ^ (32 - s))
  have e2 : val zs = val (zs.take k) + 4294967296 ^ k * val (zs.drop k) := by
    rcases Nat.lt_or_ge zs.length k with h | h
    · rw [List.take_of_length_le (by omega), List.drop_of_length_le (by omega)]; simp [val]
    · exact val_take_drop zs k h
  have e4 : val (zs.take k) < 4294967296 ^ k := by
    have h1 := val_lt (zs.take k) (hz.take k)
    have h2 : (zs.take k).length ≤ k := by rw [List.length_take]; omega
    exact Nat.lt_of_lt_of_le h1 (pow_le h2)
  unfold leadOf
  generalize zs.getD k 0 = z0 at *
  generalize zs.getD (k + 1) 0 + 4294967296 * zs.getD (k + 2) 0 = z at *
  generalize 2 ^ (32 - s) = U at *
  generalize 2 ^ s = T at *
  generalize (4294967296 : Nat) ^ k = P at *
  rw [← hTU] at e1
  generalize z0 / U = c at *
  generalize z0 % U = m at *
  refine ⟨val (zs.take k) + P * m, ?_, ?_⟩
  · have h1 : P * (m + 1) ≤ P * U := Nat.mul_le_mul_left _ hm
    rw [Nat.mul_add, Nat.mul_one] at h1
    rw [Nat.mul_comm U P]
    omega
  · rw [e2, e1, ← hd]
    grind
theorem lead_lt (zs : List Nat) (k s : Nat) (hz : Small zs) (hs : s ≤ 31) (hov : zs.getD (k + 2) 0 * 2 ^ s < 4294967296) : leadOf zs k s < 18446744073709551616 := by
  have b0 := hz.get k
  have b1 := hz.get (k + 1)
  have h1 : zs.getD (k + 1) 0 * 2 ^ s + 2 ^ s ≤ 4294967296 * 2 ^ s := by rw [← Nat.succ_mul]; exact Nat.mul_le_mul_right _ b1
  have hTU : 2 ^ s * 2 ^ (32 - s) = 4294967296 := by rw [← Nat.pow_add, show s + (32 - s) = 32 by omega]
  have h2 : zs.getD k 0 / 2 ^ (32 - s) < 2 ^ s := by rw [Nat.div_lt_iff_lt_mul (Nat.pow_pos (by omega)), hTU]; exact b0
  unfold leadOf
  have h3 : 2 ^ s ∣ 4294967296 := ⟨2 ^ (32 - s), hTU.symm⟩
  have h4 : zs.getD (k + 2) 0 * 2 ^ s + 2 ^ s ≤ 4294967296 := by
    obtain ⟨q, hq⟩ := h3
    rw [hq] at hov ⊢
    rw [Nat.mul_comm (zs.getD (k + 2) 0)] at hov
    have := Nat.lt_of_mul_lt_mul_left hov
    rw [← Nat.succ_mul, Nat.mul_comm]
    exact Nat.mul_le_mul_left _ this
  rw [Nat.add_mul, Nat.mul_assoc]
  omega
end Dig

theorem or_hi (x q s : Nat) (hq : q < 2 ^ s) (hb : x * 2 ^ s < 18446744073709551616) (hq2 : q < 18446744073709551616) : bits .or .u64 ((x : Int) * 2 ^ s) (q : Int) = ((x * 2 ^ s + q : Nat) : Int) := by
  have h := u64_or_nat (x * 2 ^ s) q hb hq2
  have e : ((x * 2 ^ s : Nat) : Int) = (x : Int) * 2 ^ s := by rw [Int.natCast_mul, Int.natCast_pow]; rfl
  rw [e] at h
  rw [h]
  congr 1
  have := Nat.shiftLeft_add_eq_or_of_lt (i := s) (b := q) hq x
  rw [Nat.shiftLeft_eq] at this
  exact this.symm

set_option maxHeartbeats 1000000 in
theorem digitAt_c (w : World) (va : Value) (xs : List Nat) (i : Nat) (h : Num w va xs) (hi : i ≤ 9223372036854775807) :
    Calls Tryd.prog 94 #[va, .int .i64 (i : Int)] w fun e w' => e = .returned (.int .u64 ((xs.getD i 0 : Nat) : Int)) ∧ w = w' := by
  obtain ⟨A, c, rfl⟩ := h.form
  have hbd := h.bounds.2
  by_cases hlt : i < xs.length
  · obtain ⟨b, off, rfl, hb, hall⟩ := h.cells (by omega)
    have hc := hall i hlt
    have bx := h.small.get i
    have hli : (i : Int) < xs.length := by omega
    generalize xs.getD i 0 = x at *
    clear hall h
    go_enter Tryd.func94, Tryd.ntmps94
    go_wp2_with fail
    go_ret
    exact ⟨rfl, rfl⟩
  · have e : xs.getD i 0 = 0 := by rw [List.getD_eq_getElem?_getD, List.getElem?_eq_none (by omega)]; rfl
    rw [e]
    have hli : ¬ (i : Int) < xs.length := by omega
    clear h e
    go_enter Tryd.func94, Tryd.ntmps94
    go_wp2_with fail
    go_ret
    exact ⟨rfl, rfl⟩

theorem digitAt_z (w : World) (va : Value) (xs : List Nat) (z : Int) (i : Nat) (h : Num w va xs) (hz : z = (i : Int)) (hi : i ≤ 9223372036854775807) :
    Calls Tryd.prog 94 #[va, .int .i64 z] w fun e w' => e = .returned (.int .u64 ((xs.getD i 0 : Nat) : Int)) ∧ w = w' := by
  subst hz
  exact digitAt_c w va xs i h hi

set_option maxHeartbeats 2000000 in
theorem leadingBits_c (w : World) (va : Value) (zs : List Nat) (k s : Nat) (h : Num w va zs) (hk : k ≤ 1000000000000) (hs : s ≤ 31) (hov : zs.getD (k + 2) 0 * 2 ^ s < 4294967296) :
    Calls Tryd.prog 93 #[va, .int .i64 ((k + 3 : Nat) : Int), .int .i64 (s : Int)] w fun e w' => e = .returned (.int .u64 ((leadOf zs k s : Nat) : Int)) ∧ ∃ N, w' = w.drewN N := by
  have hlt := lead_lt zs k s h.small hs hov
  have D0 := fun N z hz => digitAt_z (w.drewN N) va zs z k (h.drewN N) hz (by omega)
  have D1 := fun z hz => digitAt_z w va zs z (k + 1) h hz (by omega)
  have D2 := fun z hz => digitAt_z w va zs z (k + 2) h hz (by omega)
  have b0 := h.small.get k
  have b1 := h.small.get (k + 1)
  have b2 := h.small.get (k + 2)
  unfold leadOf at hlt ⊢
  generalize zs.getD k 0 = z0 at *
  generalize zs.getD (k + 1) 0 = z1 at *
  generalize zs.getD (k + 2) 0 = z2 at *
  have o1 := or_u64 z1 z2 b1 b2
  generalize hzz : z1 + 4294967296 * z2 = z at *
  have e0 : ((z * 2 ^ s : Nat) : Int) = (z : Int) * 2 ^ s := by rw [Int.natCast_mul, Int.natCast_pow]; rfl
  have hzs : z * 2 ^ s < 18446744073709551616 := Nat.lt_of_le_of_lt (Nat.le_add_right _ _) hlt
  have hzb : (z : Int) < 18446744073709551616 := by omega
  have m2 : (z : Int) * 2 ^ s ≤ 18446744073709551615 := by rw [← e0]; omega
  have m3 : 0 ≤ (z : Int) * 2 ^ s := by rw [← e0]; exact Int.natCast_nonneg _
  have hq : z0 / 2 ^ (32 - s) < 2 ^ s := by
    rw [Nat.div_lt_iff_lt_mul (Nat.pow_pos (by omega)), ← Nat.pow_add, show s + (32 - s) = 32 by omega]
    exact b0
  have hq3 : z0 / 2 ^ (32 - s) ≤ z0 := Nat.div_le_self _ _
  have o2 := or_hi z (z0 / 2 ^ (32 - s)) s hq hzs (by omega)
  rw [Int.natCast_ediv, Int.natCast_pow] at o2
  have HO2 := Lib.hid o2
  have HD0 := Lib.hid D0
  have HD1 := Lib.hid D1
  have HD2 := Lib.hid D2
  have hsi : (s : Int) ≤ 31 := by omega
  have hki : (k : Int) ≤ 1000000000000 := by omega
  clear D0 D1 D2 h hlt e0 hzs hq hq3 hzz o2
  go_enter Tryd.func93, Tryd.ntmps93
  go_wp2_with fail
  refine (HD2.out _ (by omega)).mono ?_
  rintro e w1 ⟨rfl, rfl⟩
  go_wp2_with fail
  refine (HD1.out _ (by omega)).mono ?_
  rintro e w1 ⟨rfl, rfl⟩
  go_wp2_with fail
  go_quiet (first | (go_at_call 94; exact quiet_here (HD0.out _ _ (by omega))) | (go_at_call 94; exact quiet_now (HD0.out _ _ (by omega))))
  go_wp2_with fail
  go_ret
  exact ⟨ret_eq (congrArg (Value.int .u64) HO2.out), _, rfl⟩
end Go.Proofs.YtgjhgpfjeoeojaaDoor

/- The contract of leadingSteps. -/
namespace Go.Proofs.YtgjhgpfjeoeojaaDoor
open Go.RowKit Dig
set_option linter.unusedVariables false

namespace Dig
theorem top_div (zs : List Nat) (j : Nat) (hz : Small zs) (hl : zs.length ≤ j + 1) : val zs / 4294967296 ^ j = zs.getD j 0 := by
  have h1 := drop_any zs j
  rw [show val (zs.drop (j + 1)) = 0 by rw [List.drop_of_length_le hl]; rfl] at h1
  have e2 : val zs = val (zs.take j) + 4294967296 ^ j * val (zs.drop j) := by
    rcases Nat.lt_or_ge zs.length j with h | h
    · rw [List.take_of_length_le (by omega), List.drop_of_length_le (by omega)]; simp [val]
    · exact val_take_drop zs j h
  have e4 : val (zs.take j) < 4294967296 ^ j := by
    have h1 := val_lt (zs.take j) (hz.take j)
    have h2 : (zs.take j).length ≤ j := by rw [List.length_take]; omega
    exact Nat.lt_of_lt_of_le h1 (pow_le h2)
  rw [e2, Nat.add_mul_div_left _ _ (pow_pos' j), Nat.div_eq_of_lt e4, h1]
  omega
/-- What the steps found lead to. -/
def LehDone (A B a0 b0 a1 b1 : Nat) (o : Bool) : Prop := ∃ r0 r1 : Nat, r1 < r0 ∧ r0 ≤ A ∧ r1 < B ∧ Nat.gcd r0 r1 = Nat.gcd A B ∧ (o = true → r0 + a0 * A = b0 * B ∧ r1 + b1 * B = a1 * A) ∧ (o = false → r0 + b0 * B = a0 * A ∧ r1 + a1 * A = b1 * B) ∧ a0 < 4294967296 ∧ b0 < 4294967296 ∧ a1 < 4294967296 ∧ b1 < 4294967296
theorem lead_start {A B k s : Nat} (hA : (dg A).length = k + 3) (hBA : B ≤ A) (hs : s ≤ 31) (ht : s + nbits ((dg A).getD (k + 2) 0) = 32) :
    (dg A).getD (k + 2) 0 * 2 ^ s < 4294967296 ∧ (dg B).getD (k + 2) 0 * 2 ^ s < 4294967296 ∧
    ∃ H r t, r < H ∧ t < H ∧ Leh A B (leadOf (dg A) k s) (leadOf (dg B) k s) H r t (leadOf (dg A) k s) (leadOf (dg B) k s) 0 0 1 0 0 1 true := by
  have hlb : (dg B).length ≤ k + 3 := by have := dg_length_mono hBA; omega
  have h1 := top_div (dg A) (k + 2) (small_dg A) (by omega)
  have h2 := top_div (dg B) (k + 2) (small_dg B) hlb
  rw [val_dg] at h1 h2
  have h3 := Nat.div_le_div_right (c := 4294967296 ^ (k + 2)) hBA
  rw [h1, h2] at h3
  have h4 : (dg A).getD (k + 2) 0 * 2 ^ s < 4294967296 := by
    have h5 := nbits_lt ((dg A).getD (k + 2) 0)
    have h6 := Nat.mul_lt_mul_of_pos_right h5 (show 0 < 2 ^ s from Nat.pow_pos (by omega))
    rw [← Nat.pow_add, Nat.add_comm _ s, ht] at h6
    exact h6
  have h5 : (dg B).getD (k + 2) 0 * 2 ^ s < 4294967296 := Nat.lt_of_le_of_lt (Nat.mul_le_mul_right _ h3) h4
  obtain ⟨r, hr, er⟩ := lead_spec (dg A) k s (small_dg A) (by omega) hs
  obtain ⟨t, htt, et⟩ := lead_spec (dg B) k s (small_dg B) hlb hs
  rw [val_dg] at er et
  refine ⟨h4, h5, _, r, t, hr, htt, Leh.start er et ?_⟩
  rcases Nat.lt_or_ge (leadOf (dg A) k s) (leadOf (dg B) k s) with h6 | h6
  · exfalso
    have h7 := Nat.mul_le_mul_right (2 ^ (32 - s) * 4294967296 ^ k) (show leadOf (dg A) k s + 1 ≤ leadOf (dg B) k s from h6)
    rw [Nat.add_mul] at h7
    omega
  · exact h6
end Dig

/-- Block g holds these steps. -/
def Str (w : World) (g a0 b0 a1 b1 : Nat) (o : Bool) : Prop := w.heap[g]? = some (.cells #[.int .u64 (a0 : Int), .int .u64 (b0 : Int), .int .u64 (a1 : Int), .int .u64 (b1 : Int), .bool o] 87 (0, 0))
section
variable {w w' : World} {g a0 b0 a1 b1 : Nat} {o : Bool}
theorem Str.cells (h : Str w g a0 b0 a1 b1 o) : w.cell? ⟨g, 0, none⟩ = some (.int .u64 (a0 : Int)) ∧ w.cell? ⟨g, 1, none⟩ = some (.int .u64 (b0 : Int)) ∧ w.cell? ⟨g, 2, none⟩ = some (.int .u64 (a1 : Int)) ∧ w.cell? ⟨g, 3, none⟩ = some (.int .u64 (b1 : Int)) ∧ w.cell? ⟨g, 4, none⟩ = some (.bool o) := by
  unfold Str at h
  refine ⟨?_, ?_, ?_, ?_, ?_⟩ <;> rw [cell_of_row w g _ _ _ (0, 0) h] <;> rfl
theorem Str.frozen (h : Str w g a0 b0 a1 b1 o) (i : Nat) : w.frozen? ⟨g, i, none⟩ = false := by
  unfold Str at h
  simp [World.frozen?, h]
theorem Str.lt (h : Str w g a0 b0 a1 b1 o) : g < w.heap.size := by
  rcases Nat.lt_or_ge g w.heap.size with hlt | hge
  · exact hlt
  · unfold Str at h; rw [Array.getElem?_eq_none hge] at h; cases h
theorem Str.of_block (h : Str w g a0 b0 a1 b1 o) (e : w'.heap[g]? = w.heap[g]?) : Str w' g a0 b0 a1 b1 o := by
  unfold Str at h ⊢
  rw [e]
  exact h
theorem Str.put (h : Str w g a0 b0 a1 b1 o) (x0 y0 x1 y1 : Nat) (p : Bool) : Str (((((w.setCell ⟨g, 0, none⟩ (.int .u64 (x0 : Int))).setCell ⟨g, 2, none⟩ (.int .u64 (x1 : Int))).setCell ⟨g, 1, none⟩ (.int .u64 (y0 : Int))).setCell ⟨g, 3, none⟩ (.int .u64 (y1 : Int))).setCell ⟨g, 4, none⟩ (.bool p)) g x0 y0 x1 y1 p := by
  unfold Str at h ⊢
  simp [World.setCell, Array.getElem?_modify, h]
theorem Str.far (h : Str w g a0 b0 a1 b1 o) {p : Addr} (hp : g ≠ p.block) (u : Value) : Str (w.setCell p u) g a0 b0 a1 b1 o := h.of_block (Below.heap_setCell w p u g hp)
end

theorem wrap_chain (a q n : Nat) (h : a + q * n < 18446744073709551616) (hq : q < 18446744073709551616) : IntKind.u64.wrap ((a : Int) + IntKind.u64.wrap (IntKind.u64.wrap (q : Int) * (n : Int))) = ((a + q * n : Nat) : Int) := by
  have e : ((q * n : Nat) : Int) = (q : Int) * n := by simp
  simp only [IntKind.wrap_u64]
  rw [Int.emod_eq_of_lt (Int.natCast_nonneg q) (by omega), ← e]
  omega
theorem leadingBits_z (w : World) (va : Value) (zs : List Nat) (k s : Nat) (z : Int) (hz : z = ((k + 3 : Nat) : Int)) (h : Num w va zs) (hk : k ≤ 1000000000000) (hs : s ≤ 31) (hov : zs.getD (k + 2) 0 * 2 ^ s < 4294967296) :
    Calls Tryd.prog 93 #[va, .int .i64 z, .int .i64 (s : Int)] w fun e w' => e = .returned (.int .u64 ((leadOf zs k s : Nat) : Int)) ∧ ∃ N, w' = w.drewN N := by
  subst hz
  exact leadingBits_c w va zs k s h hk hs hov
set_option maxHeartbeats 4000000 in
theorem steps_c (w : World) (va vb : Value) (A B k : Nat) (ha : Num w va (dg A)) (hb : Num w vb (dg B)) (hk : k ≤ 1000000000000) (hA : (dg A).length = k + 3) (hBA : B ≤ A) :
    Calls Tryd.prog 77 #[va, vb] w fun e w' => ∃ (a0 b0 a1 b1 : Nat) (o : Bool), e = .returned (.tuple #[.agg #[.int .u64 (a0 : Int), .int .u64 (b0 : Int), .int .u64 (a1 : Int), .int .u64 (b1 : Int), .bool o], .bool ((b0 : Int) != 0)]) ∧ (b0 ≠ 0 → LehDone A B a0 b0 a1 b1 o) ∧ Below w.heap.size w w' := by
  obtain ⟨P, c, rfl⟩ := ha.form
  obtain ⟨P2, c2, rfl⟩ := hb.form
  have htp := dg_top A (k + 2) hA
  have htb := (small_dg A).get (k + 2)
  obtain ⟨nt1, nt2⟩ := nbits32 htp htb
  obtain ⟨s, hs⟩ : ∃ s, s + nbits ((dg A).getD (k + 2) 0) = 32 := ⟨32 - nbits ((dg A).getD (k + 2) 0), by omega⟩
  obtain ⟨ho1, ho2, H, r, t, hr, ht, hLeh⟩ := lead_start hA hBA (by omega) hs
  have LA := fun w1 (hB : Below w.heap.size w w1) z (hz : z = ((k + 3 : Nat) : Int)) => leadingBits_z w1 _ (dg A) k s z hz (ha.below hB) hk (by omega) ho1
  have LB := fun w1 (hB : Below w.heap.size w w1) z (hz : z = ((k + 3 : Nat) : Int)) => leadingBits_z w1 _ (dg B) k s z hz (hb.below hB) hk (by omega) ho2
  have hx0 := lead_lt (dg A) k s (small_dg A) (by omega) ho1
  have hy0 := lead_lt (dg B) k s (small_dg B) (by omega) ho2
  rw [hA] at ha LA ⊢
  have hbd := ha.bounds.2
  obtain ⟨b, off, rfl, hbb, hall⟩ := ha.cells (by omega)
  have hc := hall (k + 2) (by omega)
  clear hall
  generalize (dg A).getD (k + 2) 0 = top at *
  generalize leadOf (dg A) k s = x0 at *
  generalize leadOf (dg B) k s = y0 at *
  have hlz : ∀ w1 : World, Calls Tryd.prog 79 #[.int .u32 (top : Int)] w1 fun e w' => e = .returned (.int .i64 (s : Int)) ∧ w1 = w' := by
    intro w1
    have h := Tryd.bits_LeadingZeros32 (top : Int) w1 (by omega) (by omega)
    rw [Int.toNat_natCast, bitLen_eq top (by omega), show (32 : Int) - (nbits top : Int) = (s : Int) by omega] at h
    exact h.mono fun e w' ⟨a, b⟩ => ⟨a, b.symm⟩
  have HLZ := Lib.hid hlz
  have HLA := Lib.hid LA
  have HLB := Lib.hid LB
  have HLEH := Lib.hid hLeh
  have hki : (k : Int) ≤ 1000000000000 := by omega
  clear hlz LA LB hLeh hb ha hs ho1 ho2
  go_enter Tryd.func77, Tryd.ntmps77
  go_wp2_with fail
  refine (HLZ.out _).mono ?_
  rintro e w1 ⟨rfl, rfl⟩
  have hB1 : Below w.heap.size w (w.alloc (.cells #[.int .u64 0, .int .u64 0, .int .u64 0, .int .u64 0, .bool false] 87)) := (Below.refl _ _).alloc (Nat.le_refl _) _
  go_wp2_with fail
  refine (HLA.out _ hB1 _ (by omega)).mono ?_
  rintro e w2 ⟨rfl, N, rfl⟩
  go_wp2_with fail
  refine (HLB.out _ (below_drewN hB1 N) _ (by omega)).mono ?_
  rintro e w3 ⟨rfl, N2, rfl⟩
  have hB3 := below_drewN (below_drewN hB1 N) N2
  have hS1 : Str (w.alloc (.cells #[.int .u64 0, .int .u64 0, .int .u64 0, .int .u64 0, .bool false] 87)) w.heap.size 0 0 0 0 false := by
    unfold Str
    rw [heap_alloc_new]
    rfl
  go_wp2_with fail
  go_loopw [8, 9, 11, 12] (fun x y na nb wr => ∃ (x' y' a0 b0 a1 b1 nA nB : Nat) (o : Bool), x = .int .u64 (x' : Int) ∧ y = .int .u64 (y' : Int) ∧ na = .int .u64 (nA : Int) ∧ nb = .int .u64 (nB : Int) ∧ Leh A B x0 y0 H r t x' y' a0 b0 a1 b1 nA nB o ∧ Str wr (w.heap.size + 1) a0 b0 a1 b1 o ∧ Str wr w.heap.size 0 0 0 0 false ∧ Below w.heap.size w wr) (fun _ y _ _ _ => (intOf y).toNat)
  case atStart =>
    refine ⟨x0, y0, 0, 0, 1, 0, 0, 1, true, rfl, rfl, rfl, rfl, HLEH.out, ?_, ?_, ?_⟩
    · have hsz : ((w.alloc (.cells #[.int .u64 0, .int .u64 0, .int .u64 0, .int .u64 0, .bool false] 87)).drewN (N + N2)).heap.size = w.heap.size + 1 := by show (Array.push _ _).size = _; simp
      unfold Str
      rw [← hsz, heap_alloc_new]
      rfl
    · exact Str.of_block (w := w.alloc (.cells #[.int .u64 0, .int .u64 0, .int .u64 0, .int .u64 0, .bool false] 87)) hS1 (Below.heap_alloc _ _ _ hS1.lt)
    · exact (below_drewN hB1 (N + N2)).alloc (below_drewN hB1 (N + N2)).size _
  case round =>
    obtain ⟨x, y, a0, b0, a1, b1, nA, nB, o, rfl, rfl, rfl, rfl, hL, hS, hR, hB⟩ := hrel
    have hxy := hL.2.2.1
    have hn1 := hL.2.2.2.2.2.2.1
    have hx : x ≤ x0 := by
      have e1 : 1 * x ≤ nB * x := Nat.mul_le_mul_right _ hn1
      have := hL.1
      omega
    obtain ⟨c0, c1, c2, c3, c4⟩ := hS.cells
    have f0 := hS.frozen 0
    have f1 := hS.frozen 1
    have f2 := hS.frozen 2
    have f3 := hS.frozen 3
    have f4 := hS.frozen 4
    have HL := Lib.hid hL
    have HS := Lib.hid hS
    have HR := Lib.hid hR
    by_cases h1 : nB ≤ y
    · have hsum := hL.sum h1
      have hnext := hL.next h1
      have h1i : (nB : Int) ≤ y := by omega
      have hsi : (b1 : Int) + nB ≤ 18446744073709551615 := by omega
      have hxi : (y : Int) ≤ x := by omega
      have hx64 : (x : Int) ≤ 18446744073709551615 := by omega
      by_cases h2 : b1 + nB ≤ x - y
      · have hst := hL.step hx0 hr ht h1 h2
        have h2i : (b1 : Int) + nB ≤ x - y := by omega
        have hq : (x : Int) / (y : Int) = ((x / y : Nat) : Int) := rfl
        have hm : (x : Int) % (y : Int) = ((x % y : Nat) : Int) := rfl
        have hmy := Nat.mod_lt x (show 0 < y by omega)
        have hqx := Nat.div_le_self x y
        have HST := Lib.hid hst
        have hy1 : ((y : Int) == 0) = false := by rw [beq_eq_false_iff_ne]; omega
        generalize x / y = q at *
        generalize x % y = r2 at *
        have HWA := Lib.hid (wrap_chain a1 q nA (by omega) (by omega))
        have HWB := Lib.hid (wrap_chain b1 q nB (by omega) (by omega))
        have HM := Lib.hid hm
        have HB := Lib.hid hB
        clear hst hL hS hR hB hsum hnext HLA HLB hqx hm
        go_wp2_with fail
        go_quiet (fail)
        go_wp2_with fail
        go_roundw
        case rel => exact ⟨y, r2, a1, b1, nA, nB, a1 + q * nA, b1 + q * nB, !o, rfl, by rw [HM.out], by rw [HWA.out], by rw [HWB.out], HST.out, HS.out.put _ _ _ _ _, ((((HR.out.far (Nat.ne_of_lt (Nat.lt_succ_self _)) _).far (Nat.ne_of_lt (Nat.lt_succ_self _)) _).far (Nat.ne_of_lt (Nat.lt_succ_self _)) _).far (Nat.ne_of_lt (Nat.lt_succ_self _)) _).far (Nat.ne_of_lt (Nat.lt_succ_self _)) _, (((((below_drewN HB.out _).setCell (Nat.le_succ _) _).setCell (Nat.le_succ _) _).setCell (Nat.le_succ _) _).setCell (Nat.le_succ _) _).setCell (Nat.le_succ _) _⟩
        case measure => rw [HM.out]; simp [intOf]; omega
      · have h2i : ¬ (b1 : Int) + nB ≤ x - y := by omega
        have hdn : b0 ≠ 0 → LehDone A B a0 b0 a1 b1 o := hL.done
        have HDN := Lib.hid hdn
        clear hdn hL hS hR HLA HLB
        go_wp2_with fail
        obtain ⟨d0, d1, d2, d3, d4⟩ := HR.out.cells
        have e0 := HR.out.frozen 0
        have e1 := HR.out.frozen 1
        have e2 := HR.out.frozen 2
        have e3 := HR.out.frozen 3
        have e4 := HR.out.frozen 4
        go_region
        all_goals
          go_wp2_with fail
          refine bodyPost_ret (v := .tuple #[.agg #[.int .u64 (a0 : Int), .int .u64 (b0 : Int), .int .u64 (a1 : Int), .int .u64 (b1 : Int), .bool o], .bool ((b0 : Int) != 0)]) (by rw [results_cell_tmp rfl]; go_simp) rfl ?_
          exact ⟨a0, b0, a1, b1, o, rfl, HDN.out, by repeat' (first | exact hB | refine Below.drew ?_ | exact Nat.le_refl _ | apply Below.setCell)⟩
    · have h1i : ¬ (nB : Int) ≤ y := by omega
      have hdn : b0 ≠ 0 → LehDone A B a0 b0 a1 b1 o := hL.done
      have HDN := Lib.hid hdn
      clear hdn hL hS hR HLA HLB
      go_wp2_with fail
      obtain ⟨d0, d1, d2, d3, d4⟩ := HR.out.cells
      have e0 := HR.out.frozen 0
      have e1 := HR.out.frozen 1
      have e2 := HR.out.frozen 2
      have e3 := HR.out.frozen 3
      have e4 := HR.out.frozen 4
      go_region
      all_goals
        go_wp2_with fail
        refine bodyPost_ret (v := .tuple #[.agg #[.int .u64 (a0 : Int), .int .u64 (b0 : Int), .int .u64 (a1 : Int), .int .u64 (b1 : Int), .bool o], .bool ((b0 : Int) != 0)]) (by rw [results_cell_tmp rfl]; go_simp) rfl ?_
        exact ⟨a0, b0, a1, b1, o, rfl, HDN.out, by repeat' (first | exact hB | refine Below.drew ?_ | exact Nat.le_refl _ | apply Below.setCell)⟩
end Go.Proofs.YtgjhgpfjeoeojaaDoor

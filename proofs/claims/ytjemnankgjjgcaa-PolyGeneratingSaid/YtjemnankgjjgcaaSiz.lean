/- How large the coefficients grow: lists of fractions over a common denominator with bounded numerators. -/
import Derived.Test.YtjemnankgjjgcaaPlyz
import Derived.Test.YtjemnankgjjgcaaInts
namespace Go.Proofs.Ytjemnankgjjgcaa
open Go.RowKit Dig
set_option linter.unusedVariables false

namespace Dig
/-- All coefficients are whole numbers of at most H above D. -/
def Dby (rs : List Rat) (D H : Nat) : Prop := 0 < D ∧ ∀ i, ∃ z : Int, cf rs i = (z : Rat) / (D : Rat) ∧ z.natAbs ≤ H
theorem over_parts {q : Rat} {z : Int} {D : Nat} (h0 : 0 < D) (h : q = (z : Rat) / (D : Rat)) : q.den ∣ D ∧ q.num.natAbs ≤ z.natAbs := by
  have e : fr (decide (z < 0)) z.natAbs D = q := by
    rw [h]
    unfold fr
    rw [Rat.mkRat_eq_div]
    congr 2
    unfold sg
    split
    · rename_i h1; simp at h1; omega
    · rename_i h1; simp at h1; omega
  obtain ⟨h1, h2⟩ := fr_num (decide (z < 0)) (n := z.natAbs) (d := D) (by omega)
  rw [e] at h1 h2
  have hg := Nat.gcd_pos_of_pos_right z.natAbs h0
  refine ⟨by rw [h2]; exact Nat.div_dvd_of_dvd (Nat.gcd_dvd_right _ _), ?_⟩
  rw [h1, sg_natAbs]
  exact Nat.div_le_self _ _
theorem Dby.szd {rs : List Rat} {D H K M : Nat} (h : Dby rs D H) (hK : D < 4294967296 ^ K) (hM : H * D < 4294967296 ^ M) : Szd rs D K M := by
  obtain ⟨h0, h⟩ := h
  refine ⟨h0, hK, fun i => ?_, fun i => ?_⟩
  · obtain ⟨z, e, hz⟩ := h i
    exact (over_parts h0 e).1
  · obtain ⟨z, e, hz⟩ := h i
    exact Nat.lt_of_le_of_lt (Nat.mul_le_mul_right _ (Nat.le_trans (over_parts h0 e).2 hz)) hM
theorem Dby.tr {rs : List Rat} {D H : Nat} (h : Dby rs D H) : Dby (tr rs) D H := ⟨h.1, fun i => by rw [cf_tr]; exact h.2 i⟩
theorem Dby.le {rs : List Rat} {D H I : Nat} (h : Dby rs D H) (hI : H ≤ I) : Dby rs D I := ⟨h.1, fun i => by obtain ⟨z, e, hz⟩ := h.2 i; exact ⟨z, e, by omega⟩⟩
theorem Dby.add {rs ss : List Rat} {D H I : Nat} (h : Dby rs D H) (h' : Dby ss D I) : Dby (padd rs ss) D (H + I) := by
  refine ⟨h.1, fun i => ?_⟩
  obtain ⟨z, e, hz⟩ := h.2 i
  obtain ⟨y, e', hy⟩ := h'.2 i
  refine ⟨z + y, ?_, by omega⟩
  rw [cf_padd, e, e']
  push_cast
  grind
theorem Dby.zero {rs : List Rat} {D H : Nat} (h0 : 0 < D) (h : ∀ i, ∃ z : Int, cf rs i = (z : Rat) / (D : Rat) ∧ z.natAbs ≤ H) : Dby rs D H := ⟨h0, h⟩
theorem over_zero {z : Int} {D : Nat} (h0 : 0 < D) (h : (0 : Rat) = (z : Rat) / (D : Rat)) : z = 0 := by
  have hD : (D : Rat) ≠ 0 := by exact_mod_cast (by omega : D ≠ 0)
  have : (z : Rat) = 0 := by
    have h1 : (z : Rat) = ((z : Rat) / (D : Rat)) * (D : Rat) := by grind
    rw [h1, ← h]
    grind
  exact_mod_cast this
theorem sumZ_bound {F : Nat → Int} {B n : Nat} (h : ∀ i, i < n → (F i).natAbs ≤ B) : (sumZ n F).natAbs ≤ n * B := by
  induction n with
  | zero => simp [sumZ]
  | succ n ih =>
    rw [sumZ, Nat.succ_mul]
    have h1 := ih (fun i hi => h i (by omega))
    have h2 := h n (by omega)
    omega
theorem Dby.mul {rs ss : List Rat} {D E H I n : Nat} (h : Dby rs D H) (h' : Dby ss E I) (hn : rs.length ≤ n) : Dby (pmul rs ss) (D * E) (n * (H * I)) := by
  obtain ⟨z, hz⟩ := Classical.axiomOfChoice h.2
  obtain ⟨y, hy⟩ := Classical.axiomOfChoice h'.2
  have h0 := h.1
  have h0' := h'.1
  have hz0 : ∀ i, n ≤ i → z i = 0 := fun i hi => over_zero h0 (by rw [← (hz i).1, cf_over (by omega)])
  refine ⟨Nat.mul_pos h0 h0', fun i => ⟨sumZ (i + 1) (fun t => z t * y (i - t)), ?_, ?_⟩⟩
  · rw [cf_pmul, conv_sumZ (cf rs) (cf ss) z y (1 / (D : Rat)) (1 / (E : Rat)) i (fun i => by rw [(hz i).1]; grind) (fun i => by rw [(hy i).1]; grind)]
    have hD : (D : Rat) ≠ 0 := by exact_mod_cast (by omega : D ≠ 0)
    have hE : (E : Rat) ≠ 0 := by exact_mod_cast (by omega : E ≠ 0)
    push_cast
    grind
  · have hb : ∀ t, (z t * y (i - t)).natAbs ≤ H * I := fun t => by
      rw [Int.natAbs_mul]
      exact Nat.mul_le_mul (hz t).2 (hy _).2
    rcases Nat.le_total (i + 1) n with hi | hi
    · exact Nat.le_trans (sumZ_bound fun t _ => hb t) (Nat.mul_le_mul_right _ hi)
    · rw [sumZ_same (a := n) hi (fun t h1 _ => by rw [hz0 t h1, Int.zero_mul])]
      exact sumZ_bound fun t _ => hb t
theorem Dby.der {rs : List Rat} {D H n : Nat} (h : Dby rs D H) (hn : rs.length ≤ n) : Dby (pder rs) D (n * H) := by
  obtain ⟨z, hz⟩ := Classical.axiomOfChoice h.2
  have h0 := h.1
  have hz0 : ∀ i, n ≤ i → z i = 0 := fun i hi => over_zero h0 (by rw [← (hz i).1, cf_over (by omega)])
  refine ⟨h0, fun i => ⟨((i : Int) + 1) * z (i + 1), ?_, ?_⟩⟩
  · rw [cf_pder, Dig.der, (hz (i + 1)).1]
    push_cast
    grind
  · rcases Nat.lt_or_ge (i + 1) n with hi | hi
    · rw [Int.natAbs_mul, show (i : Int) + 1 = ((i + 1 : Nat) : Int) from rfl, Int.natAbs_natCast]
      exact Nat.mul_le_mul (by omega) (hz _).2
    · rw [hz0 _ hi]
      simp
theorem Dby.scale {rs : List Rat} {D E H I : Nat} {x : Int} {a : Rat} (h : Dby rs D H) (h0 : 0 < E) (ha : a = (x : Rat) / (E : Rat)) (hx : x.natAbs ≤ I) : Dby (pscale rs a) (E * D) (I * H) := by
  refine ⟨Nat.mul_pos h0 h.1, fun i => ?_⟩
  obtain ⟨z, e, hz⟩ := h.2 i
  refine ⟨x * z, ?_, by rw [Int.natAbs_mul]; exact Nat.mul_le_mul hx hz⟩
  rw [cf_pscale, ha, e]
  have hD : (D : Rat) ≠ 0 := by exact_mod_cast (by have := h.1; omega : D ≠ 0)
  have hE : (E : Rat) ≠ 0 := by exact_mod_cast (by omega : E ≠ 0)
  push_cast
  grind
/-- The least common multiple of the numbers to 32. -/
def LL : Nat := 144403552893600
theorem ll_dvd : ∀ y, y < 32 → (y + 1) ∣ LL := by decide +kernel
/-- The numbers that the laws build. -/
theorem bq_over (z : Int) : ∃ x : Int, bq z = (x : Rat) / (LL : Rat) ∧ x.natAbs ≤ 43 * LL := by
  obtain ⟨x, hx, ex⟩ := and_low z 6 (by omega)
  obtain ⟨y, hy, ey⟩ := and_low (z / 64) 5 (by omega)
  have ex : bits .and .i64 z 63 = (x : Int) := ex
  have ey : bits .and .i64 (z / 64) 31 = (y : Int) := ey
  unfold bq
  rw [ex, ey]
  obtain ⟨t, ht⟩ := ll_dvd y (by omega)
  have ht0 : t ≤ LL := by rw [ht]; exact Nat.le_mul_of_pos_left _ (by omega)
  refine ⟨((x : Int) - 20) * (t : Int), ?_, ?_⟩
  · unfold frz fr
    have e1 : sg (decide ((x : Int) - 20 < 0) != decide ((y : Int) + 1 < 0)) ((x : Int) - 20).natAbs = (x : Int) - 20 := by
      unfold sg
      have : decide ((y : Int) + 1 < 0) = false := by simp; omega
      rw [this, Bool.bne_false]
      split
      · rename_i h; simp at h; omega
      · rename_i h; simp at h; omega
    have e2 : ((y : Int) + 1).natAbs = y + 1 := by omega
    rw [e1, e2, Rat.mkRat_eq_div, ht]
    have h1 : ((y + 1 : Nat) : Rat) ≠ 0 := by exact_mod_cast (by omega : y + 1 ≠ 0)
    have h2 : (t : Rat) ≠ 0 := by
      have : t ≠ 0 := by rintro rfl; unfold LL at ht; omega
      exact_mod_cast this
    push_cast at h1 ⊢
    grind
  · rw [Int.natAbs_mul, Int.natAbs_natCast]
    exact Nat.mul_le_mul (by omega) ht0
theorem ofq_over (z : Int) : ∃ x : Int, ofq z = (x : Rat) / (LL : Rat) ∧ x.natAbs ≤ 43 * LL := by
  unfold ofq
  split
  · exact ⟨0, by simp [Rat.div_def], by simp⟩
  · exact bq_over z
theorem dby_ofl (zs : List Int) : Dby (ofl zs) LL (43 * LL) := by
  refine ⟨by decide, fun i => ?_⟩
  rcases Nat.lt_or_ge i (ofl zs).length with h | h
  · have hm := cf_mem h
    unfold ofl at hm ⊢
    obtain ⟨z, _, e⟩ := List.mem_map.1 hm
    rw [← e]
    exact ofq_over z
  · rw [cf_over h]
    exact ⟨0, by simp [Rat.div_def], by simp⟩
end Dig
end Go.Proofs.Ytjemnankgjjgcaa

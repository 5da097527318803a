/- Typed values by value: the text as the library's functions write and read it (stage 8, pure). -/
import Derived.Lib.ReplaceLaws
import Derived.Lib.Replace
import Derived.Lib.CountLaws
import Derived.Lib.IndexMore
import Derived.Lib.ItoaNum
import Derived.Lib.ParseIntB
import Derived.Lib.Strings
import Derived.Test.YtpbkmkcfhkdjjaaDoorVld
namespace Go.Proofs.YtpbkmkcfhkdjjaaDoor
open Dig
set_option linter.unusedVariables false

/-! ### Replacing -/
section
variable {old new : List UInt8} {c : UInt8} {s : List UInt8}
theorem index_miss1 (h : old.isPrefixOf (c :: s) = false) : Lib.index (c :: s) old = if Lib.index s old == -1 then -1 else Lib.index s old + 1 := by
  rw [Lib.index, h]
  simp
theorem replaceK_miss (h : old.isPrefixOf (c :: s) = false) : ∀ k, Lib.replaceK old new k (c :: s) = c :: Lib.replaceK old new k s
  | 0 => rfl
  | k + 1 => by
    have e := index_miss1 h
    have hge := Lib.index_ge s old
    by_cases hm : Lib.index s old = -1
    · rw [hm] at e
      rw [Lib.replaceK, Lib.replaceK, e, hm]
      rfl
    · obtain ⟨i, hi⟩ : ∃ i : Nat, Lib.index s old = i := ⟨(Lib.index s old).toNat, by omega⟩
      have e2 : Lib.index (c :: s) old = ((i + 1 : Nat) : Int) := by
        rw [e, hi, if_neg (by simp)]
        omega
      rw [Lib.replaceK_hit old new k s i hi, Lib.replaceK_hit old new k (c :: s) (i + 1) e2]
      rw [show i + 1 + old.length = (i + old.length) + 1 by omega]
      rfl
theorem count_miss1 (ho : old ≠ []) (h : old.isPrefixOf (c :: s) = false) : Lib.count (c :: s) old = Lib.count s old := by
  have e := index_miss1 h
  have hge := Lib.index_ge s old
  by_cases hm : Lib.index s old = -1
  · rw [hm] at e
    rw [Lib.count_miss hm, Lib.count_miss (by rw [e]; rfl)]
  · obtain ⟨i, hi⟩ : ∃ i : Nat, Lib.index s old = i := ⟨(Lib.index s old).toNat, by omega⟩
    have e2 : Lib.index (c :: s) old = ((i + 1 : Nat) : Int) := by
      rw [e, hi, if_neg (by simp)]
      omega
    rw [Lib.count_hit ho hi, Lib.count_hit ho e2, show i + 1 + old.length = (i + old.length) + 1 by omega]
    rfl
theorem index_hit1 (h : old.isPrefixOf (c :: s) = true) : Lib.index (c :: s) old = ((0 : Nat) : Int) := by
  rw [Lib.index, if_pos h]
  rfl
end
theorem rep_all {old new : List UInt8} (s : List UInt8) (h : (old == new) = false) : Lib.replaceAll s old new = Lib.replaceK old new (Lib.count s old) s := by
  unfold Lib.replaceAll Lib.replace Lib.replaceNum
  rw [if_neg (by rw [h]; simp), if_pos (Or.inl (by decide))]
theorem rep_two : ∀ s : List UInt8, Lib.replaceAll s [39] [39, 39] = qs s := by
  intro s
  rw [rep_all s (by decide)]
  induction s with
  | nil => rfl
  | cons c s ih =>
    by_cases e : c = 39
    · subst e
      have h : ([39] : List UInt8).isPrefixOf (39 :: s) = true := by simp
      have hi := index_hit1 h
      rw [Lib.count_hit (by simp) hi, Nat.add_comm 1, Lib.replaceK_hit _ _ _ _ 0 hi]
      show [] ++ [39, 39] ++ Lib.replaceK [39] [39, 39] (Lib.count s [39]) s = _
      rw [ih]
      rfl
    · have h : ([39] : List UInt8).isPrefixOf (c :: s) = false := by
        have : ((39 : UInt8) == c) = false := by
          rw [beq_eq_false_iff_ne]
          exact fun h => e h.symm
        show ((39 == c) && [].isPrefixOf s) = false
        rw [this]
        rfl
      rw [count_miss1 (by simp) h, replaceK_miss h, ih, qs_cons s e]
theorem rep_one : ∀ t : List UInt8, Lib.replaceAll (qs t) [39, 39] [39] = t := by
  intro t
  rw [rep_all (qs t) (by decide)]
  induction t with
  | nil => rfl
  | cons c t ih =>
    by_cases e : c = 39
    · subst e
      rw [qs_cons_q]
      have h : ([39, 39] : List UInt8).isPrefixOf (39 :: 39 :: qs t) = true := by simp
      have hi := index_hit1 h
      rw [Lib.count_hit (by simp) hi, Nat.add_comm 1, Lib.replaceK_hit _ _ _ _ 0 hi]
      show [] ++ [39] ++ Lib.replaceK [39, 39] [39] (Lib.count (qs t) [39, 39]) (qs t) = _
      rw [ih]
      rfl
    · rw [qs_cons t e]
      have h : ([39, 39] : List UInt8).isPrefixOf (c :: qs t) = false := by
        show ((39 == c) && _) = false
        have : ((39 : UInt8) == c) = false := by
          rw [beq_eq_false_iff_ne]
          exact fun h => e h.symm
        rw [this]
        rfl
      rw [count_miss1 (by simp) h, replaceK_miss h, ih]
theorem replaceK_length {old new : List UInt8} (h : new.length ≤ old.length) : ∀ (k : Nat) (s : List UInt8), (Lib.replaceK old new k s).length ≤ s.length
  | 0, s => Nat.le_refl _
  | k + 1, s => by
    have hge := Lib.index_ge s old
    by_cases hm : Lib.index s old = -1
    · rw [Lib.replaceK, hm]
      exact Nat.le_refl _
    · obtain ⟨i, hi⟩ : ∃ i : Nat, Lib.index s old = i := ⟨(Lib.index s old).toNat, by omega⟩
      have hr := Lib.index_room s old (by omega)
      rw [Lib.replaceK_hit old new k s i hi]
      have := replaceK_length h k (s.drop (i + old.length))
      simp only [List.length_append, List.length_take, List.length_drop] at this ⊢
      omega
/-! ### Numbers -/
theorem itoa_int (n : Int) : Lib.itoa n = intT n := by
  have hd : ∀ u, DecOf (Lib.decDigits u) u := by
    intro u
    induction u using Nat.strongRecOn with
    | _ u ih =>
      by_cases h : u < 10
      · rw [Lib.decDigits, dif_pos h]
        have e := ofNat_digit u h
        refine ⟨fun c hc => ?_, ?_, ?_⟩
        · obtain rfl : c = UInt8.ofNat (48 + u) := by simpa using hc
          exact isDig_digit u h
        · rw [dec_cons, e]
          simp [dec]
        · simp [lead]
          exact Classical.em _
      · rw [Lib.decDigits, dif_neg h]
        obtain ⟨h1, h2, h3⟩ := ih (u / 10) (by omega)
        have hm : u % 10 < 10 := Nat.mod_lt u (by decide)
        have e := ofNat_digit (u % 10) hm
        refine ⟨fun c hc => ?_, ?_, ?_⟩
        · rcases List.mem_append.1 hc with hc | hc
          · exact h1 c hc
          · obtain rfl : c = UInt8.ofNat (48 + u % 10) := by simpa using hc
            exact isDig_digit _ hm
        · rw [dec_append, h2, dec_cons, e]
          simp [dec]
          omega
        · obtain ⟨c, t, et, hc⟩ : ∃ c t, Lib.decDigits (u / 10) = c :: t ∧ c ≠ 48 := by
            cases e2 : Lib.decDigits (u / 10) with
            | nil =>
              rw [e2] at h3
              simp [lead] at h3
            | cons c t =>
              refine ⟨c, t, rfl, ?_⟩
              rintro rfl
              rw [e2] at h2 h3
              cases t with
              | nil =>
                simp [dec] at h2
                omega
              | cons d t => simp [lead] at h3
          rw [et]
          show lead (c :: (t ++ [_])) = true
          cases t <;> simp [lead, hc]
  unfold Lib.itoa intT
  split
  · rw [(hd n.natAbs).eq]
    rfl
  · rename_i h
    rw [(hd n.toNat).eq, show n.toNat = n.natAbs by omega]
    rfl
theorem parseM {M : Nat} (hM : M ≤ 18446744073709551615) : ∀ (l : List UInt8) (acc : Nat), (∀ c ∈ l, isDig c = true) → acc * 10 ^ l.length + dec l ≤ M → Lib.parseUintM M acc l = .ok (acc * 10 ^ l.length + dec l)
  | [], acc, _, h => by
    rw [Lib.parseUintM]
    simp [dec]
  | c :: l, acc, hd, h => by
    have hc := isDig_bd (hd c (by simp))
    rw [dec_cons, List.length_cons, Nat.pow_succ] at h ⊢
    have e : acc * (10 ^ l.length * 10) + ((c.toNat - 48) * 10 ^ l.length + dec l) = (acc * 10 + (c.toNat - 48)) * 10 ^ l.length + dec l := by
      rw [Nat.add_mul, Nat.mul_comm (10 ^ l.length) 10, ← Nat.mul_assoc, Nat.add_assoc]
    rw [e] at h ⊢
    have hp : 1 ≤ 10 ^ l.length := Nat.pow_pos (by decide)
    have hm := Nat.mul_le_mul_left (acc * 10 + (c.toNat - 48)) hp
    rw [Nat.mul_one] at hm
    have hx : acc * 10 + (c.toNat - 48) ≤ M := by omega
    rw [Lib.parseUintM, if_pos hc, if_neg (by omega), if_neg (by omega)]
    exact parseM hM l _ (fun x hx => hd x (by simp [hx])) h
theorem dig_sign {c : UInt8} (h : isDig c = true) : ¬ (c.toNat = 43 ∨ c.toNat = 45) := by
  have := isDig_bd h
  omega
theorem parse_int {n : Int} (h1 : -9223372036854775808 ≤ n) (h2 : n ≤ 9223372036854775807) : Lib.parseIntB 64 (intT n) = .ok n := by
  obtain ⟨d1, d2, d3⟩ := dtext_spec n.natAbs
  obtain ⟨c, t, e, hc⟩ := dtext_ne n.natAbs
  have hM : Lib.parseUintB 64 (dtext n.natAbs) = .ok n.natAbs := by
    unfold Lib.parseUintB
    rw [if_neg (by rw [e]; simp)]
    have := parseM (M := 2 ^ 64 - 1) (by decide) (dtext n.natAbs) 0 d1 (by rw [Nat.zero_mul, d2]; omega)
    rw [this, Nat.zero_mul, d2, Nat.zero_add]
  unfold intT
  by_cases h : n < 0
  · rw [if_pos h]
    show Lib.parseIntB 64 (45 :: dtext n.natAbs) = _
    unfold Lib.parseIntB
    simp only
    rw [if_pos (.inr (by decide)), hM]
    simp only
    rw [if_neg (by simp), if_neg (by simp; omega), if_pos (by decide)]
    congr 1
    omega
  · rw [if_neg h, List.nil_append]
    have hs := dig_sign hc
    rw [e] at hM ⊢
    unfold Lib.parseIntB
    simp only
    rw [if_neg hs, hM]
    have h45 : ¬ c.toNat = 45 := fun h => hs (.inr h)
    simp only
    rw [if_neg (by simp [h45]; omega), if_neg (by simp [h45]), if_neg h45]
    congr 1
    omega
theorem parse_range {s : List UInt8} {n : Int} (h : Lib.parseIntB 64 s = .ok n) : -9223372036854775808 ≤ n ∧ n ≤ 9223372036854775807 := by
  unfold Lib.parseIntB at h
  cases s with
  | nil => cases h
  | cons c r =>
    simp only at h
    generalize Lib.parseUintB 64 (if c.toNat = 43 ∨ c.toNat = 45 then r else c :: r) = q at h
    cases q with
    | ok u =>
      simp only at h
      split at h
      · cases h
      · split at h
        · cases h
        · injection h with h
          subst h
          rename_i a b
          split <;> simp_all <;> omega
    | _ => cases h
/-! ### The value that a text may be the text of -/
theorem trim_q (x : List UInt8) : Lib.trimSuffix (x ++ [39]) [39] = x := by
  unfold Lib.trimSuffix Lib.hasSuffix
  rw [if_pos (by simp)]
  simp
theorem trim_length (s p : List UInt8) : (Lib.trimSuffix s p).length ≤ s.length := by
  unfold Lib.trimSuffix
  split
  · simp
  · exact Nat.le_refl _
/-- The one value that may have the text s. -/
def candV (s : List UInt8) : Vl := match s with
  | 39 :: r => (2, 0, Lib.replaceAll (Lib.trimSuffix r [39]) [39, 39] [39])
  | _ => match Lib.parseIntB 64 s with
    | .ok n => (1, n, [])
    | _ => (0, 0, [])
theorem candV_q (r : List UInt8) : candV (39 :: r) = (2, 0, Lib.replaceAll (Lib.trimSuffix r [39]) [39, 39] [39]) := rfl
theorem candV_int {s : List UInt8} (h : ∀ r, s ≠ 39 :: r) : candV s = match Lib.parseIntB 64 s with
    | .ok n => (1, n, [])
    | _ => (0, 0, []) := by
  unfold candV
  split
  · rename_i r
    exact absurd rfl (h r)
  · rfl
theorem candV_of {s : List UInt8} {v : Vl} (h : IsTxt s v) : candV s = v := by
  obtain ⟨⟨hv, h1, h2⟩, rfl⟩ := h
  obtain ⟨t, n, x⟩ := v
  dsimp only at h1 h2
  rcases hv with ⟨e1, e2⟩ | ⟨e1, e2, -, -⟩
  · obtain rfl : t = 1 := e1
    obtain rfl : x = [] := e2
    show candV (intT n) = _
    obtain ⟨c, t, e, hc⟩ := intT_ne n
    rw [candV_int (by rw [e]; rintro r h; exact hc (List.cons.inj h).1), parse_int h1 h2]
  · obtain rfl : t = 2 := e1
    obtain rfl : n = 0 := e2
    show candV (39 :: (qs x ++ [39])) = _
    rw [candV_q, trim_q, rep_one]
theorem candV_range (s : List UInt8) : -9223372036854775808 ≤ (candV s).2.1 ∧ (candV s).2.1 ≤ 9223372036854775807 := by
  unfold candV
  split
  · exact ⟨show (-9223372036854775808 : Int) ≤ 0 by decide, show (0 : Int) ≤ 9223372036854775807 by decide⟩
  · split
    · rename_i n h
      exact parse_range h
    · exact ⟨by decide, by decide⟩
theorem candV_length (s : List UInt8) : (candV s).2.2.length ≤ s.length := by
  unfold candV
  split
  · rename_i r
    show (Lib.replaceAll (Lib.trimSuffix r [39]) [39, 39] [39]).length ≤ (39 :: r).length
    rw [rep_all _ (by decide)]
    have h1 := replaceK_length (old := [39, 39]) (new := [39]) (by decide) (Lib.count (Lib.trimSuffix r [39]) [39, 39]) (Lib.trimSuffix r [39])
    have h2 := trim_length r [39]
    simp only [List.length_cons]
    omega
  · split <;> exact Nat.zero_le _
/-- Whether s is the text of its candidate. -/
theorem txt_iff (s : List UInt8) (v : Vl) : IsTxt s v ↔ v = candV s ∧ validV v ∧ fmtV v = s := by
  constructor
  · intro h
    exact ⟨(candV_of h).symm, h.1.1, h.2⟩
  · rintro ⟨rfl, h1, h2⟩
    exact ⟨⟨h1, candV_range s⟩, h2⟩
end Go.Proofs.YtpbkmkcfhkdjjaaDoor

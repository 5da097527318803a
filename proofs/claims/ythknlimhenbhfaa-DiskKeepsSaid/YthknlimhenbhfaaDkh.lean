/- What crashes leave; lists of writes: states of DiskDurable and DiskKeeps. -/
import Derived.Test.YthknlimhenbhfaaDkj
namespace Go.Proofs.Ythknlimhenbhfaa
open Go.RowKit Dig
set_option linter.unusedVariables false

/-- A sector that no pending write names stays through a crash. -/
theorem crash_apart (keep last : Nat) (torn : Int) (q : Nat) : ∀ (P : List (Nat × List UInt8)) (L : List (List UInt8)) (i : Nat), (∀ p ∈ P, p.1 ≠ q) → (crashL keep last torn L i P).getD q [] = L.getD q []
  | [], L, i, _ => rfl
  | p :: P, L, i, h => by
    show (crashL keep last torn (crash1 keep last torn L i p) (i + 1) P).getD q [] = _
    rw [crash_apart keep last torn q P _ _ (fun x hx => h x (by simp [hx]))]
    unfold crash1
    split
    · rw [List.getD_eq_getElem?_getD, List.getElem?_set_ne (h p (by simp)), List.getD_eq_getElem?_getD]
    · rfl
theorem surv_none (i : Nat) : survS 0 i = false := by
  unfold survS
  rw [Nat.zero_div]
  rfl
theorem surv_all (i : Nat) : survS 18446744073709551615 i = true := by
  unfold survS
  have h : ∀ j, j < 64 → (18446744073709551615 / 2 ^ j % 2 == 1) = true := by decide
  exact h _ (by omega)
/-- A crash that keeps no write. -/
theorem crash_none (last : Nat) (torn : Int) : ∀ (P : List (Nat × List UInt8)) (L : List (List UInt8)) (i : Nat), crashL 0 last torn L i P = L
  | [], L, i => rfl
  | p :: P, L, i => by
    show crashL 0 last torn (crash1 0 last torn L i p) (i + 1) P = L
    rw [crash_none last torn P]
    unfold crash1
    rw [surv_none, if_neg (by simp)]
/-- A crash that keeps every write, none of them torn. -/
theorem crash_all (last : Nat) : ∀ (P : List (Nat × List UInt8)) (L : List (List UInt8)) (i : Nat), (∀ x ∈ L, x.length = 64) → (∀ p ∈ P, p.1 < L.length ∧ p.2.length = 64) → crashL 18446744073709551615 last (-1) L i P = P.foldl put1 L
  | [], L, i, _, _ => rfl
  | p :: P, L, i, hL, hP => by
    have hp := hP p (by simp)
    have e : crash1 18446744073709551615 last (-1) L i p = put1 L p := by
      unfold crash1 put1
      have ht : tornS last (-1) i = 64 := by
        unfold tornS
        rw [if_neg (by omega)]
      rw [surv_all, if_pos rfl, ht]
      have h1 : p.2.take 64 = p.2 := List.take_of_length_le (by omega)
      have h2 : (L.getD p.1 []).drop 64 = [] := by
        refine List.drop_eq_nil_of_le ?_
        rw [List.getD_eq_getElem?_getD, List.getElem?_eq_getElem hp.1]
        have := hL _ (List.getElem_mem hp.1)
        show (L[p.1]).length ≤ 64
        omega
      rw [h1, h2, List.append_nil]
    show crashL _ last (-1) (crash1 _ last (-1) L i p) (i + 1) P = P.foldl put1 (put1 L p)
    rw [e]
    exact crash_all last P _ _ (put1_ok hL hp.2) (fun x hx => by rw [put1_length]; exact hP x (by simp [hx]))
/-- Online and not armed. -/
def calm (s : DS) : Prop := s.off = false ∧ s.armed = false
theorem calm_new (n : Nat) : calm (newS n) := ⟨rfl, rfl⟩
/-- Does a write fit? -/
def fitW (s : DS) (a : Int) (b : List UInt8) : Prop := 0 ≤ a ∧ a < (s.dur.length : Int) ∧ b.length ≤ 64
theorem calm_fails {s : DS} (h : calm s) : failsS s = (false, s) := by
  unfold failsS
  rw [if_pos h.2]
theorem calm_write {s : DS} (h : calm s) {a : Int} {b : List UInt8} (hf : fitW s a b) : writeS s a b = (0, { s with pend := s.pend ++ [(a.toNat, padS b)] }) := by
  obtain ⟨h1, h2, h3⟩ := hf
  have hb : badS s a b.length = 0 := by
    unfold badS
    rw [if_neg (by rw [h.1]; simp), if_neg (by omega), if_neg (by omega)]
  unfold writeS
  rw [hb, if_neg (by simp), calm_fails h, if_neg (by simp)]
theorem calm_bad {s : DS} (h : calm s) {a : Int} {b : List UInt8} (hf : ¬ fitW s a b) : (writeS s a b).1 ≠ 0 ∧ (writeS s a b).2 = s := by
  have hb : badS s a b.length ≠ 0 := by
    unfold badS
    rw [if_neg (by rw [h.1]; simp)]
    unfold fitW at hf
    split
    · simp
    · rw [if_pos (by omega)]
      simp
  unfold writeS
  rw [if_pos hb]
  exact ⟨hb, rfl⟩
theorem calm_next {s : DS} (h : calm s) (a : Int) (b : List UInt8) : calm (writeS s a b).2 ∧ (writeS s a b).2.dur = s.dur := by
  by_cases hf : fitW s a b
  · rw [calm_write h hf]
    exact ⟨h, rfl⟩
  · rw [(calm_bad h hf).2]
    exact ⟨h, rfl⟩
theorem calm_flush {s : DS} (h : calm s) : flushS s = (0, { s with dur := secs s, pend := [] }) := by
  unfold flushS
  rw [if_neg (by rw [h.1]; simp), calm_fails h, if_neg (by simp)]
theorem calm_read {s : DS} (h : calm s) {i : Nat} (hi : i < s.dur.length) : readS s (i : Int) = (0, (secs s).getD i []) := by
  have hb : badS s (i : Int) 0 = 0 := by
    unfold badS
    rw [if_neg (by rw [h.1]; simp), if_neg (by omega), if_neg (by omega)]
  unfold readS
  rw [hb, if_neg (by simp), Int.toNat_natCast]
/-- The disk behind the first writes of a list. -/
def wrS (most : Int) (s : DS) : List Op6 → DS
  | [] => s
  | o :: l => wrS most (writeS s (smallS o.at' most) o.data).2 l
theorem wrS_snoc (most : Int) : ∀ (l : List Op6) (s : DS) (o : Op6), wrS most s (l ++ [o]) = (writeS (wrS most s l) (smallS o.at' most) o.data).2
  | [], s, o => rfl
  | p :: l, s, o => wrS_snoc most l _ o
theorem wrS_calm (most : Int) : ∀ (l : List Op6) {s : DS}, calm s → calm (wrS most s l) ∧ (wrS most s l).dur = s.dur ∧ (wrS most s l).pend.length ≤ s.pend.length + l.length
  | [], s, h => ⟨h, rfl, Nat.le_refl _⟩
  | o :: l, s, h => by
    have h1 := calm_next h (smallS o.at' most) o.data
    have h2 := wrS_calm most l h1.1
    have h3 := write_len s (smallS o.at' most) o.data
    refine ⟨h2.1, h2.2.1.trans h1.2, ?_⟩
    have := h2.2.2
    show (wrS most (writeS s (smallS o.at' most) o.data).2 l).pend.length ≤ s.pend.length + (o :: l).length
    rw [List.length_cons]
    omega
end Go.Proofs.Ythknlimhenbhfaa

/- The writes that survive a crash, performed one after another: what they leave. -/
import Derived.Test.YthknlimhenbhfaaDkh
namespace Go.Proofs.Ythknlimhenbhfaa
open Go.RowKit Dig
set_option linter.unusedVariables false

/-- The survivors among the writes from number i on. -/
def keptS (keep : Nat) : Nat → List (Nat × List UInt8) → List (Nat × List UInt8)
  | _, [] => []
  | i, p :: ps => if survS keep i = true then p :: keptS keep (i + 1) ps else keptS keep (i + 1) ps
/-- Write i of m, performed. -/
def perf1 (m : Nat) (torn : Int) (L : List (List UInt8)) (i : Nat) (p : Nat × List UInt8) : List (List UInt8) :=
  L.set p.1 (p.2.take (tornS m torn i) ++ (L.getD p.1 []).drop (tornS m torn i))
def perfL (m : Nat) (torn : Int) : List (List UInt8) → Nat → List (Nat × List UInt8) → List (List UInt8)
  | L, _, [] => L
  | L, i, p :: ps => perfL m torn (perf1 m torn L i p) (i + 1) ps
theorem kept_nil (keep : Nat) : ∀ (ps : List (Nat × List UInt8)) (i : Nat), keptS keep i ps = [] → ∀ t, i ≤ t → t < i + ps.length → survS keep t = false
  | [], i, _, t, h1, h2 => by simp at h2; omega
  | p :: ps, i, h, t, h1, h2 => by
    unfold keptS at h
    split at h
    · cases h
    · rename_i hs
      rcases Nat.eq_or_lt_of_le h1 with e | e
      · subst e
        simpa using hs
      · exact kept_nil keep ps (i + 1) h t e (by simp only [List.length_cons] at h2; omega)
theorem kept_some (keep : Nat) : ∀ (ps : List (Nat × List UInt8)) (i : Nat), keptS keep i ps ≠ [] → ∃ t, i ≤ t ∧ t < i + ps.length ∧ survS keep t = true
  | [], i, h => absurd rfl h
  | p :: ps, i, h => by
    unfold keptS at h
    split at h
    · rename_i hs
      exact ⟨i, Nat.le_refl _, by simp, hs⟩
    · obtain ⟨t, h1, h2, h3⟩ := kept_some keep ps (i + 1) h
      exact ⟨t, by omega, by simp only [List.length_cons]; omega, h3⟩
theorem last_over (keep : Nat) : ∀ (n i : Nat), (∀ t, i ≤ t → t < i + n → survS keep t = false) → lastS keep (i + n) = lastS keep i
  | 0, i, _ => rfl
  | n + 1, i, h => by
    show (if survS keep (i + n) = true then i + n + 1 else lastS keep (i + n)) = lastS keep i
    rw [h (i + n) (by omega) (by omega), if_neg (by simp)]
    exact last_over keep n i fun t h1 h2 => h t h1 (by omega)
theorem last_ge (keep t : Nat) (hs : survS keep t = true) : ∀ m, t < m → t + 1 ≤ lastS keep m
  | 0, h => by omega
  | m + 1, h => by
    show t + 1 ≤ if survS keep m = true then m + 1 else lastS keep m
    rcases Nat.eq_or_lt_of_le (Nat.le_of_lt_succ h) with e | e
    · subst e
      rw [if_pos hs]
      exact Nat.le_refl _
    · have := last_ge keep t hs m e
      split <;> omega
/-- A crash performs the survivors. -/
theorem crash_perf (keep : Nat) (torn : Int) : ∀ (ps : List (Nat × List UInt8)) (L : List (List UInt8)) (i k : Nat), crashL keep (lastS keep (i + ps.length)) torn L i ps = perfL (k + (keptS keep i ps).length) torn L k (keptS keep i ps)
  | [], L, i, k => rfl
  | p :: ps, L, i, k => by
    have e1 : i + (p :: ps).length = i + 1 + ps.length := by simp only [List.length_cons]; omega
    show crashL keep _ torn (crash1 keep _ torn L i p) (i + 1) ps = _
    rw [e1]
    unfold keptS crash1
    by_cases hs : survS keep i = true
    · rw [if_pos hs, if_pos hs]
      show _ = perfL _ torn (perf1 _ torn L k p) (k + 1) (keptS keep (i + 1) ps)
      rw [crash_perf keep torn ps _ (i + 1) (k + 1), List.length_cons, show k + ((keptS keep (i + 1) ps).length + 1) = k + 1 + (keptS keep (i + 1) ps).length by omega]
      have ht : tornS (lastS keep (i + 1 + ps.length)) torn i = tornS (k + 1 + (keptS keep (i + 1) ps).length) torn k := by
        unfold tornS
        by_cases hk : keptS keep (i + 1) ps = []
        · have h1 := last_over keep ps.length (i + 1) (kept_nil keep ps (i + 1) hk)
          have h2 : lastS keep (i + 1) = i + 1 := by
            show (if survS keep i = true then i + 1 else lastS keep i) = i + 1
            rw [if_pos hs]
          rw [h1, h2, hk]
          simp
        · obtain ⟨t, h1, h2, h3⟩ := kept_some keep ps (i + 1) hk
          have h4 := last_ge keep t h3 _ h2
          have h5 := List.length_pos_iff.2 hk
          rw [if_neg (by omega), if_neg (by omega)]
      unfold perf1
      rw [ht]
    · rw [if_neg hs, if_neg hs]
      exact crash_perf keep torn ps L (i + 1) k
theorem crash_kept (s : DS) (keep : Nat) (torn : Int) : (crashS s keep torn).dur = perfL (keptS keep 0 s.pend).length torn s.dur 0 (keptS keep 0 s.pend) := by
  have := crash_perf keep torn s.pend s.dur 0 0
  rw [Nat.zero_add, Nat.zero_add] at this
  exact this
theorem kept_all : ∀ (ps : List (Nat × List UInt8)) (i : Nat), keptS 18446744073709551615 i ps = ps
  | [], i => rfl
  | p :: ps, i => by
    unfold keptS
    rw [if_pos (surv_all i), kept_all ps]
theorem kept_mem (keep : Nat) : ∀ (ps : List (Nat × List UInt8)) (i : Nat), ∀ p ∈ keptS keep i ps, p ∈ ps
  | [], i, p, h => h
  | q :: ps, i, p, h => by
    unfold keptS at h
    split at h
    · rcases List.mem_cons.1 h with h | h
      · exact h ▸ List.mem_cons_self
      · exact List.mem_cons_of_mem _ (kept_mem keep ps _ p h)
    · exact List.mem_cons_of_mem _ (kept_mem keep ps _ p h)
theorem kept_length (keep : Nat) : ∀ (ps : List (Nat × List UInt8)) (i : Nat), (keptS keep i ps).length ≤ ps.length
  | [], i => Nat.le_refl _
  | q :: ps, i => by
    have := kept_length keep ps (i + 1)
    unfold keptS
    split <;> simp only [List.length_cons] <;> omega
theorem kept_snoc (keep : Nat) (p : Nat × List UInt8) : ∀ (ps : List (Nat × List UInt8)) (i : Nat), keptS keep i (ps ++ [p]) = keptS keep i ps ++ (if survS keep (i + ps.length) = true then [p] else [])
  | [], i => by simp only [List.nil_append, keptS, List.length_nil, Nat.add_zero]
  | q :: ps, i => by
    have := kept_snoc keep p ps (i + 1)
    rw [show i + 1 + ps.length = i + (ps.length + 1) by omega] at this
    rw [List.cons_append]
    unfold keptS
    rw [this, List.length_cons]
    split
    · rw [List.cons_append]
    · rfl
theorem perf_ok1 {m : Nat} {torn : Int} {L : List (List UInt8)} {i : Nat} {p : Nat × List UInt8} (h : ∀ x ∈ L, x.length = 64) (hp : p.1 < L.length ∧ p.2.length = 64) : (∀ x ∈ perf1 m torn L i p, x.length = 64) ∧ (perf1 m torn L i p).length = L.length := by
  refine ⟨fun x hx => ?_, List.length_set⟩
  unfold perf1 at hx
  rcases List.mem_or_eq_of_mem_set hx with h1 | h1
  · exact h x h1
  · rw [h1]
    have hg : (L.getD p.1 []).length = 64 := by
      rw [List.getD_eq_getElem?_getD, List.getElem?_eq_getElem hp.1]
      exact h _ (List.getElem_mem hp.1)
    exact mixS_length hp.2 hg (torn_le _ _ _)
theorem perf_ok (m : Nat) (torn : Int) : ∀ (P : List (Nat × List UInt8)) (L : List (List UInt8)) (i : Nat), (∀ x ∈ L, x.length = 64) → (∀ p ∈ P, p.1 < L.length ∧ p.2.length = 64) → (∀ x ∈ perfL m torn L i P, x.length = 64) ∧ (perfL m torn L i P).length = L.length
  | [], L, i, h, _ => ⟨h, rfl⟩
  | p :: P, L, i, h, hp => by
    have h1 := perf_ok1 (m := m) (torn := torn) (i := i) h (hp p (by simp))
    have := perf_ok m torn P (perf1 m torn L i p) (i + 1) h1.1 (fun q hq => by rw [h1.2]; exact hp q (by simp [hq]))
    exact ⟨this.1, this.2.trans h1.2⟩
theorem perf_snoc (m : Nat) (torn : Int) : ∀ (P : List (Nat × List UInt8)) (L : List (List UInt8)) (i : Nat) (p : Nat × List UInt8), perfL m torn L i (P ++ [p]) = perf1 m torn (perfL m torn L i P) (i + P.length) p
  | [], L, i, p => rfl
  | q :: P, L, i, p => by
    show perfL m torn (perf1 m torn L i q) (i + 1) (P ++ [p]) = _
    rw [perf_snoc m torn P, List.length_cons, show i + 1 + P.length = i + (P.length + 1) by omega]
    rfl
/-- All performed whole. -/
theorem perf_whole (m : Nat) : ∀ (P : List (Nat × List UInt8)) (L : List (List UInt8)) (i : Nat), (∀ x ∈ L, x.length = 64) → (∀ p ∈ P, p.1 < L.length ∧ p.2.length = 64) → perfL m 64 L i P = P.foldl put1 L
  | [], L, i, _, _ => rfl
  | p :: P, L, i, hL, hP => by
    have hp := hP p (by simp)
    have e : perf1 m 64 L i p = put1 L p := by
      unfold perf1 put1
      have ht : tornS m 64 i = 64 := by
        unfold tornS
        rw [if_neg (by omega)]
      rw [ht]
      have h1 : p.2.take 64 = p.2 := List.take_of_length_le (by omega)
      have h2 : (L.getD p.1 []).drop 64 = [] := by
        refine List.drop_eq_nil_of_le ?_
        rw [List.getD_eq_getElem?_getD, List.getElem?_eq_getElem hp.1]
        have := hL _ (List.getElem_mem hp.1)
        show (L[p.1]).length ≤ 64
        omega
      rw [h1, h2, List.append_nil]
    show perfL m 64 (perf1 m 64 L i p) (i + 1) P = P.foldl put1 (put1 L p)
    rw [e]
    exact perf_whole m P _ _ (put1_ok hL hp.2) (fun x hx => by rw [put1_length]; exact hP x (by simp [hx]))
theorem perf_flush {s : DS} (h : okDS s) : perfL (keptS 18446744073709551615 0 s.pend).length 64 s.dur 0 (keptS 18446744073709551615 0 s.pend) = secs s := by
  rw [kept_all]
  exact perf_whole _ _ _ _ h.1 h.2.1
/-- A part of a row of sectors is put. -/
theorem splice_more {vs ys : List Value} {o k : Nat} (h : o + ys.length + k ≤ vs.length) : splice vs o (ys ++ (vs.drop (o + ys.length)).take k) = splice vs o ys := by
  unfold splice
  rw [List.append_assoc, List.append_assoc, List.append_assoc, List.length_append, List.length_take, List.length_drop, Nat.min_eq_left (by omega)]
  congr 2
  rw [show o + (ys.length + k) = o + ys.length + k by omega, ← List.drop_drop (i := k), List.take_append_drop]
theorem secC_mix {L : List (List UInt8)} {i n : Nat} {y : List UInt8} (hi : i < L.length) (h : ∀ x ∈ L, x.length = 64) (hy : y.length = 64) (hn : n ≤ 64) : splice (secC L) (i * 64) (Y (y.take n)) = secC (L.set i (y.take n ++ (L.getD i []).drop n)) := by
  have hx := h _ (List.getElem_mem hi)
  have hg : L.getD i [] = L[i] := by simp [List.getD_eq_getElem?_getD, hi]
  have hl := secC_length h
  have hyn : (Y (y.take n)).length = n := by rw [Y_length, List.length_take]; omega
  have hm : i * 64 + 64 ≤ L.length * 64 := by omega
  have hp := secC_part hi h
  rw [hg]
  have hlen : (y.take n ++ L[i].drop n).length = 64 := by simp; omega
  rw [← secC_set hi h hlen, Y_append]
  have e : Y (L[i].drop n) = ((secC L).drop (i * 64 + (Y (y.take n)).length)).take (64 - n) := by
    rw [hyn, ← List.drop_drop, ← List.drop_take, hp]
    simp [Y, List.map_drop]
  rw [e]
  exact (splice_more (by rw [hyn, hl]; omega)).symm
end Go.Proofs.Ythknlimhenbhfaa

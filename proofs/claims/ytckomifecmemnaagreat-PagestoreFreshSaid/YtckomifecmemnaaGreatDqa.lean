/- A disk by its state: what performing the survivors leaves; many writes. Plain lemmas. -/
import Derived.Test.YtckomifecmemnaaGreatDqo
namespace Go.Proofs.YtckomifecmemnaaGreat
open Go.RowKit Dig
set_option linter.unusedVariables false

theorem crashL_snoc (keep last : Nat) (torn : Int) : ∀ (P : List (Nat × List UInt8)) (L : List (List UInt8)) (i : Nat) (p : Nat × List UInt8), crashL keep last torn L i (P ++ [p]) = crash1 keep last torn (crashL keep last torn L i P) (i + P.length) p
  | [], L, i, p => rfl
  | q :: P, L, i, p => by
    show crashL keep last torn (crash1 keep last torn L i q) (i + 1) (P ++ [p]) = _
    rw [crashL_snoc keep last torn P, List.length_cons, show i + 1 + P.length = i + (P.length + 1) by omega]
    rfl
theorem crash1_length (keep last : Nat) (torn : Int) (L : List (List UInt8)) (i : Nat) (p : Nat × List UInt8) : (crash1 keep last torn L i p).length = L.length := by
  unfold crash1
  split
  · exact List.length_set
  · rfl
theorem torn_le (last : Nat) (torn : Int) (i : Nat) : tornS last torn i ≤ 64 := by
  unfold tornS
  split <;> omega
/-- A sector the first k bytes of which are new. -/
def mixS (y x : List UInt8) (k : Nat) : List UInt8 := y.take k ++ x.drop k
theorem mixS_length {y x : List UInt8} {k : Nat} (hy : y.length = 64) (hx : x.length = 64) (hk : k ≤ 64) : (mixS y x k).length = 64 := by simp [mixS, hy, hx]; omega
theorem crash1_ok {keep last : Nat} {torn : Int} {L : List (List UInt8)} {i : Nat} {p : Nat × List UInt8} (h : ∀ x ∈ L, x.length = 64) (hp : p.1 < L.length ∧ p.2.length = 64) : ∀ x ∈ crash1 keep last torn L i p, x.length = 64 := by
  intro x hx
  unfold crash1 at hx
  split at hx
  · rcases List.mem_or_eq_of_mem_set hx with h1 | h1
    · exact h x h1
    · rw [h1]
      have hg : (L.getD p.1 []).length = 64 := by
        rw [List.getD_eq_getElem?_getD, List.getElem?_eq_getElem hp.1]
        exact h _ (List.getElem_mem hp.1)
      exact mixS_length hp.2 hg (torn_le _ _ _)
  · exact h x hx
theorem crashL_ok (keep last : Nat) (torn : Int) : ∀ (P : List (Nat × List UInt8)) (L : List (List UInt8)) (i : Nat), (∀ x ∈ L, x.length = 64) → (∀ p ∈ P, p.1 < L.length ∧ p.2.length = 64) → (∀ x ∈ crashL keep last torn L i P, x.length = 64) ∧ (crashL keep last torn L i P).length = L.length
  | [], L, i, h, _ => ⟨h, rfl⟩
  | p :: P, L, i, h, hp => by
    have hl := crash1_length keep last torn L i p
    have := crashL_ok keep last torn P (crash1 keep last torn L i p) (i + 1) (crash1_ok h (hp p (by simp))) (fun q hq => by rw [hl]; exact hp q (by simp [hq]))
    exact ⟨this.1, this.2.trans hl⟩
theorem surv_none (i : Nat) : survS 0 i = false := by
  unfold survS
  rw [Nat.zero_div]
  rfl
theorem surv_all (i : Nat) : survS 18446744073709551615 i = true := by
  unfold survS
  have h : ∀ j, j < 64 → (18446744073709551615 / 2 ^ j % 2 == 1) = true := by decide
  exact h _ (by omega)
/-- A crash that keeps no write. -/
theorem crash_none (last : Nat) (torn : Int) : ∀ (P : List (Nat × List UInt8)) (L : List (List UInt8)) (i : Nat), crashL 0 last torn L i P = L
  | [], L, i => rfl
  | p :: P, L, i => by
    show crashL 0 last torn (crash1 0 last torn L i p) (i + 1) P = L
    rw [crash_none last torn P]
    unfold crash1
    rw [surv_none, if_neg (by simp)]
/-- The survivors among the writes from number i on. -/
def keptS (keep : Nat) : Nat → List (Nat × List UInt8) → List (Nat × List UInt8)
  | _, [] => []
  | i, p :: ps => if survS keep i = true then p :: keptS keep (i + 1) ps else keptS keep (i + 1) ps
/-- Write i of m, performed. -/
def perf1 (m : Nat) (torn : Int) (L : List (List UInt8)) (i : Nat) (p : Nat × List UInt8) : List (List UInt8) :=
  L.set p.1 (p.2.take (tornS m torn i) ++ (L.getD p.1 []).drop (tornS m torn i))
def perfL (m : Nat) (torn : Int) : List (List UInt8) → Nat → List (Nat × List UInt8) → List (List UInt8)
  | L, _, [] => L
  | L, i, p :: ps => perfL m torn (perf1 m torn L i p) (i + 1) ps
theorem kept_nil (keep : Nat) : ∀ (ps : List (Nat × List UInt8)) (i : Nat), keptS keep i ps = [] → ∀ t, i ≤ t → t < i + ps.length → survS keep t = false
  | [], i, _, t, h1, h2 => by simp at h2; omega
  | p :: ps, i, h, t, h1, h2 => by
    unfold keptS at h
    split at h
    · cases h
    · rename_i hs
      rcases Nat.eq_or_lt_of_le h1 with e | e
      · subst e
        simpa using hs
      · exact kept_nil keep ps (i + 1) h t e (by simp only [List.length_cons] at h2; omega)
theorem kept_some (keep : Nat) : ∀ (ps : List (Nat × List UInt8)) (i : Nat), keptS keep i ps ≠ [] → ∃ t, i ≤ t ∧ t < i + ps.length ∧ survS keep t = true
  | [], i, h => absurd rfl h
  | p :: ps, i, h => by
    unfold keptS at h
    split at h
    · rename_i hs
      exact ⟨i, Nat.le_refl _, by simp, hs⟩
    · obtain ⟨t, h1, h2, h3⟩ := kept_some keep ps (i + 1) h
      exact ⟨t, by omega, by simp only [List.length_cons]; omega, h3⟩
theorem last_over (keep : Nat) : ∀ (n i : Nat), (∀ t, i ≤ t → t < i + n → survS keep t = false) → lastS keep (i + n) = lastS keep i
  | 0, i, _ => rfl
  | n + 1, i, h => by
    show (if survS keep (i + n) = true then i + n + 1 else lastS keep (i + n)) = lastS keep i
    rw [h (i + n) (by omega) (by omega), if_neg (by simp)]
    exact last_over keep n i fun t h1 h2 => h t h1 (by omega)
theorem last_ge (keep t : Nat) (hs : survS keep t = true) : ∀ m, t < m → t + 1 ≤ lastS keep m
  | 0, h => by omega
  | m + 1, h => by
    show t + 1 ≤ if survS keep m = true then m + 1 else lastS keep m
    rcases Nat.eq_or_lt_of_le (Nat.le_of_lt_succ h) with e | e
    · subst e
      rw [if_pos hs]
      exact Nat.le_refl _
    · have := last_ge keep t hs m e
      split <;> omega
/-- A crash performs the survivors. -/
theorem crash_perf (keep : Nat) (torn : Int) : ∀ (ps : List (Nat × List UInt8)) (L : List (List UInt8)) (i k : Nat), crashL keep (lastS keep (i + ps.length)) torn L i ps = perfL (k + (keptS keep i ps).length) torn L k (keptS keep i ps)
  | [], L, i, k => rfl
  | p :: ps, L, i, k => by
    have e1 : i + (p :: ps).length = i + 1 + ps.length := by simp only [List.length_cons]; omega
    show crashL keep _ torn (crash1 keep _ torn L i p) (i + 1) ps = _
    rw [e1]
    unfold keptS crash1
    by_cases hs : survS keep i = true
    · rw [if_pos hs, if_pos hs]
      show _ = perfL _ torn (perf1 _ torn L k p) (k + 1) (keptS keep (i + 1) ps)
      rw [crash_perf keep torn ps _ (i + 1) (k + 1), List.length_cons, show k + ((keptS keep (i + 1) ps).length + 1) = k + 1 + (keptS keep (i + 1) ps).length by omega]
      have ht : tornS (lastS keep (i + 1 + ps.length)) torn i = tornS (k + 1 + (keptS keep (i + 1) ps).length) torn k := by
        unfold tornS
        by_cases hk : keptS keep (i + 1) ps = []
        · have h1 := last_over keep ps.length (i + 1) (kept_nil keep ps (i + 1) hk)
          have h2 : lastS keep (i + 1) = i + 1 := by
            show (if survS keep i = true then i + 1 else lastS keep i) = i + 1
            rw [if_pos hs]
          rw [h1, h2, hk]
          simp
        · obtain ⟨t, h1, h2, h3⟩ := kept_some keep ps (i + 1) hk
          have h4 := last_ge keep t h3 _ h2
          have h5 := List.length_pos_iff.2 hk
          rw [if_neg (by omega), if_neg (by omega)]
      unfold perf1
      rw [ht]
    · rw [if_neg hs, if_neg hs]
      exact crash_perf keep torn ps L (i + 1) k
theorem crash_kept (s : DS) (keep : Nat) (torn : Int) : (crashS s keep torn).dur = perfL (keptS keep 0 s.pend).length torn s.dur 0 (keptS keep 0 s.pend) := by
  have := crash_perf keep torn s.pend s.dur 0 0
  rw [Nat.zero_add, Nat.zero_add] at this
  exact this
theorem kept_all : ∀ (ps : List (Nat × List UInt8)) (i : Nat), keptS 18446744073709551615 i ps = ps
  | [], i => rfl
  | p :: ps, i => by
    unfold keptS
    rw [if_pos (surv_all i), kept_all ps]
theorem kept_mem (keep : Nat) : ∀ (ps : List (Nat × List UInt8)) (i : Nat), ∀ p ∈ keptS keep i ps, p ∈ ps
  | [], i, p, h => h
  | q :: ps, i, p, h => by
    unfold keptS at h
    split at h
    · rcases List.mem_cons.1 h with h | h
      · exact h ▸ List.mem_cons_self
      · exact List.mem_cons_of_mem _ (kept_mem keep ps _ p h)
    · exact List.mem_cons_of_mem _ (kept_mem keep ps _ p h)
theorem kept_length (keep : Nat) : ∀ (ps : List (Nat × List UInt8)) (i : Nat), (keptS keep i ps).length ≤ ps.length
  | [], i => Nat.le_refl _
  | q :: ps, i => by
    have := kept_length keep ps (i + 1)
    unfold keptS
    split <;> simp only [List.length_cons] <;> omega
theorem kept_snoc (keep : Nat) (p : Nat × List UInt8) : ∀ (ps : List (Nat × List UInt8)) (i : Nat), keptS keep i (ps ++ [p]) = keptS keep i ps ++ (if survS keep (i + ps.length) = true then [p] else [])
  | [], i => by simp only [List.nil_append, keptS, List.length_nil, Nat.add_zero]
  | q :: ps, i => by
    have := kept_snoc keep p ps (i + 1)
    rw [show i + 1 + ps.length = i + (ps.length + 1) by omega] at this
    rw [List.cons_append]
    unfold keptS
    rw [this, List.length_cons]
    split
    · rw [List.cons_append]
    · rfl
theorem perf_ok1 {m : Nat} {torn : Int} {L : List (List UInt8)} {i : Nat} {p : Nat × List UInt8} (h : ∀ x ∈ L, x.length = 64) (hp : p.1 < L.length ∧ p.2.length = 64) : (∀ x ∈ perf1 m torn L i p, x.length = 64) ∧ (perf1 m torn L i p).length = L.length := by
  refine ⟨fun x hx => ?_, List.length_set⟩
  unfold perf1 at hx
  rcases List.mem_or_eq_of_mem_set hx with h1 | h1
  · exact h x h1
  · rw [h1]
    have hg : (L.getD p.1 []).length = 64 := by
      rw [List.getD_eq_getElem?_getD, List.getElem?_eq_getElem hp.1]
      exact h _ (List.getElem_mem hp.1)
    exact mixS_length hp.2 hg (torn_le _ _ _)
theorem perf_ok (m : Nat) (torn : Int) : ∀ (P : List (Nat × List UInt8)) (L : List (List UInt8)) (i : Nat), (∀ x ∈ L, x.length = 64) → (∀ p ∈ P, p.1 < L.length ∧ p.2.length = 64) → (∀ x ∈ perfL m torn L i P, x.length = 64) ∧ (perfL m torn L i P).length = L.length
  | [], L, i, h, _ => ⟨h, rfl⟩
  | p :: P, L, i, h, hp => by
    have h1 := perf_ok1 (m := m) (torn := torn) (i := i) h (hp p (by simp))
    have := perf_ok m torn P (perf1 m torn L i p) (i + 1) h1.1 (fun q hq => by rw [h1.2]; exact hp q (by simp [hq]))
    exact ⟨this.1, this.2.trans h1.2⟩
theorem perf_snoc (m : Nat) (torn : Int) : ∀ (P : List (Nat × List UInt8)) (L : List (List UInt8)) (i : Nat) (p : Nat × List UInt8), perfL m torn L i (P ++ [p]) = perf1 m torn (perfL m torn L i P) (i + P.length) p
  | [], L, i, p => rfl
  | q :: P, L, i, p => by
    show perfL m torn (perf1 m torn L i q) (i + 1) (P ++ [p]) = _
    rw [perf_snoc m torn P, List.length_cons, show i + 1 + P.length = i + (P.length + 1) by omega]
    rfl
/-- All performed whole. -/
theorem perf_whole (m : Nat) : ∀ (P : List (Nat × List UInt8)) (L : List (List UInt8)) (i : Nat), (∀ x ∈ L, x.length = 64) → (∀ p ∈ P, p.1 < L.length ∧ p.2.length = 64) → perfL m 64 L i P = P.foldl put1 L
  | [], L, i, _, _ => rfl
  | p :: P, L, i, hL, hP => by
    have hp := hP p (by simp)
    have e : perf1 m 64 L i p = put1 L p := by
      unfold perf1 put1
      have ht : tornS m 64 i = 64 := by
        unfold tornS
        rw [if_neg (by omega)]
      rw [ht]
      have h1 : p.2.take 64 = p.2 := List.take_of_length_le (by omega)
      have h2 : (L.getD p.1 []).drop 64 = [] := by
        refine List.drop_eq_nil_of_le ?_
        rw [List.getD_eq_getElem?_getD, List.getElem?_eq_getElem hp.1]
        have := hL _ (List.getElem_mem hp.1)
        show (L[p.1]).length ≤ 64
        omega
      rw [h1, h2, List.append_nil]
    show perfL m 64 (perf1 m 64 L i p) (i + 1) P = P.foldl put1 (put1 L p)
    rw [e]
    exact perf_whole m P _ _ (put1_ok hL hp.2) (fun x hx => by rw [put1_length]; exact hP x (by simp [hx]))
theorem perf_flush {s : DS} (h : okDS s) : perfL (keptS 18446744073709551615 0 s.pend).length 64 s.dur 0 (keptS 18446744073709551615 0 s.pend) = secs s := by
  rw [kept_all]
  exact perf_whole _ _ _ _ h.1 h.2.1
/-- A part of a row of sectors is put. -/
theorem splice_more {vs ys : List Value} {o k : Nat} (h : o + ys.length + k ≤ vs.length) : splice vs o (ys ++ (vs.drop (o + ys.length)).take k) = splice vs o ys := by
  unfold splice
  rw [List.append_assoc, List.append_assoc, List.append_assoc, List.length_append, List.length_take, List.length_drop, Nat.min_eq_left (by omega)]
  congr 2
  rw [show o + (ys.length + k) = o + ys.length + k by omega, ← List.drop_drop (i := k), List.take_append_drop]
theorem secC_mix {L : List (List UInt8)} {i n : Nat} {y : List UInt8} (hi : i < L.length) (h : ∀ x ∈ L, x.length = 64) (hy : y.length = 64) (hn : n ≤ 64) : splice (secC L) (i * 64) (Y (y.take n)) = secC (L.set i (y.take n ++ (L.getD i []).drop n)) := by
  have hx := h _ (List.getElem_mem hi)
  have hg : L.getD i [] = L[i] := by simp [List.getD_eq_getElem?_getD, hi]
  have hl := secC_length h
  have hyn : (Y (y.take n)).length = n := by rw [Y_length, List.length_take]; omega
  have hm : i * 64 + 64 ≤ L.length * 64 := by omega
  have hp := secC_part hi h
  rw [hg]
  have hlen : (y.take n ++ L[i].drop n).length = 64 := by simp; omega
  rw [← secC_set hi h hlen, Y_append]
  have e : Y (L[i].drop n) = ((secC L).drop (i * 64 + (Y (y.take n)).length)).take (64 - n) := by
    rw [hyn, ← List.drop_drop, ← List.drop_take, hp]
    simp [Y, List.map_drop]
  rw [e]
  exact (splice_more (by rw [hyn, hl]; omega)).symm
/-- How the count of calls hangs on an armed failure. -/
def Lnk (s : DS) (c : Int) : Prop := (s.armed = true → c = (s.left : Int)) ∧ (s.armed = false → c < 0) ∧ -9223372036854775808 ≤ c ∧ c ≤ 9223372036854775807
theorem lnk_off {s : DS} (hs : s.armed = false) : Lnk s (-1) := ⟨fun h => (by rw [hs] at h; cases h), fun _ => by omega, by omega, by omega⟩
/-- The count behind a call that would otherwise succeed. -/
def nextC (c : Int) : Int := if c = 0 then -1 else if 0 < c then c - 1 else c
theorem fails_lnk {s : DS} {c : Int} (h : Lnk s c) : (failsS s).1 = decide (c = 0) ∧ (!(failsS s).2.off) = (if c = 0 then false else !s.off) ∧ Lnk (failsS s).2 (nextC c) := by
  obtain ⟨h1, h2, h3, h4⟩ := h
  unfold failsS nextC
  by_cases ha : s.armed = false
  · have hc := h2 ha
    rw [if_pos ha, if_neg (by omega), if_neg (by omega), if_neg (by omega)]
    exact ⟨by simp; omega, rfl, h1, h2, h3, h4⟩
  · have ha' : s.armed = true := by simpa using ha
    have hc := h1 ha'
    rw [if_neg ha]
    by_cases hl : 0 < s.left
    · rw [if_pos hl, if_neg (by omega), if_neg (by omega), if_pos (by omega)]
      exact ⟨by simp; omega, rfl, fun _ => by show c - 1 = ((s.left - 1 : Nat) : Int); omega, fun h => absurd h ha, by omega, by omega⟩
    · rw [if_neg hl, if_pos (by omega), if_pos (by omega)]
      exact ⟨by simp; omega, rfl, lnk_off rfl⟩
theorem bad_zero {s : DS} {a : Int} (h : badS s a 0 = 0) : s.off = false ∧ ∃ k : Nat, a = (k : Int) ∧ k < s.dur.length := by
  unfold badS at h
  by_cases ho : s.off = true
  · rw [if_pos ho] at h
    omega
  · rw [if_neg ho] at h
    by_cases hb : a < 0 ∨ (s.dur.length : Int) ≤ a
    · rw [if_pos hb] at h
      omega
    · exact ⟨by simpa using ho, a.toNat, by omega, by omega⟩
theorem bad_split (s : DS) (a : Int) (n : Nat) : badS s a n = if badS s a 0 ≠ 0 then badS s a 0 else if 64 < n then 4 else 0 := by
  unfold badS
  by_cases ho : s.off = true
  · rw [if_pos ho, if_pos ho, if_pos (by decide)]
  · rw [if_neg ho, if_neg ho]
    by_cases hb : a < 0 ∨ (s.dur.length : Int) ≤ a
    · rw [if_pos hb, if_pos hb, if_pos (by decide)]
    · rw [if_neg hb, if_neg hb]
      simp
theorem pad_splice {b : List UInt8} (h : b.length ≤ 64) : splice (Y (List.replicate 64 0)) 0 (Y b) = Y (padS b) := by
  unfold splice padS
  rw [List.take_zero, List.nil_append, Y_append, Nat.zero_add, Y_length]
  congr 1
  unfold Y
  rw [List.map_replicate, List.drop_replicate, List.map_replicate]
theorem secs_snoc {s s1 : DS} {p : Nat × List UInt8} (h : s1.dur = s.dur ∧ s1.pend = s.pend) : secs { s1 with pend := s.pend ++ [p] } = put1 (secs s) p := by
  unfold secs
  show (s.pend ++ [p]).foldl put1 s1.dur = _
  rw [h.1, List.foldl_append]
  rfl
/-! ### Many writes: only the last one of each sector counts -/
def lastAt (ps : List (Nat × List UInt8)) (k : Nat) : Option (List UInt8) := ps.foldl (fun o p => if p.1 = k then some p.2 else o) none
theorem lastAt_snoc (ps : List (Nat × List UInt8)) (p : Nat × List UInt8) (k : Nat) : lastAt (ps ++ [p]) k = if p.1 = k then some p.2 else lastAt ps k := by
  unfold lastAt
  rw [List.foldl_append]
  rfl
theorem last_from (k : Nat) : ∀ (ps : List (Nat × List UInt8)) (o : Option (List UInt8)), ps.foldl (fun o p => if p.1 = k then some p.2 else o) o = (lastAt ps k).or o
  | [], o => rfl
  | p :: ps, o => by
    have h1 := last_from k ps (if p.1 = k then some p.2 else o)
    have h2 := last_from k ps (if p.1 = k then some p.2 else none)
    rw [List.foldl_cons, h1]
    show _ = (List.foldl _ none (p :: ps)).or o
    rw [List.foldl_cons, h2]
    split
    · rw [Option.or_assoc]; rfl
    · rw [Option.or_none]
theorem fold_get (k : Nat) : ∀ (ps : List (Nat × List UInt8)) (L : List (List UInt8)), (ps.foldl put1 L)[k]? = if k < L.length then (lastAt ps k).or L[k]? else none
  | [], L => by
    show L[k]? = _
    split
    · rfl
    · rename_i h
      exact List.getElem?_eq_none (by omega)
  | p :: ps, L => by
    rw [List.foldl_cons, fold_get k ps (put1 L p), put1_length]
    by_cases hk : k < L.length
    · rw [if_pos hk, if_pos hk]
      show _ = (List.foldl _ none (p :: ps)).or _
      rw [List.foldl_cons, last_from, Option.or_assoc]
      congr 1
      unfold put1
      rw [List.getElem?_set]
      by_cases e : p.1 = k
      · rw [if_pos e, if_pos e, if_pos (by omega)]
        rfl
      · rw [if_neg e, if_neg e]
        rfl
    · rw [if_neg hk, if_neg hk]
theorem fold_same {os ms : List (Nat × List UInt8)} (h : ∀ k, lastAt os k = lastAt ms k) (L : List (List UInt8)) : os.foldl put1 L = ms.foldl put1 L :=
  List.ext_getElem? fun k => by rw [fold_get, fold_get, h k]
theorem lastAt_mem {ps : List (Nat × List UInt8)} {k : Nat} {c : List UInt8} : lastAt ps k = some c → (k, c) ∈ ps := by
  intro h
  have key : ∀ (qs : List (Nat × List UInt8)) (o : Option (List UInt8)), qs.foldl (fun o p => if p.1 = k then some p.2 else o) o = some c → (k, c) ∈ qs ∨ o = some c := by
    intro qs
    induction qs with
    | nil => intro o h; exact .inr h
    | cons p qs ih =>
      intro o h
      rcases ih _ h with h1 | h1
      · exact .inl (List.mem_cons_of_mem _ h1)
      · have h1 : (if p.1 = k then some p.2 else o) = some c := h1
        by_cases e : p.1 = k
        · rw [if_pos e] at h1
          injection h1 with h1
          exact .inl (by rw [← e, ← h1]; exact List.mem_cons_self)
        · rw [if_neg e] at h1
          exact .inr h1
  exact (key ps none h).elim id fun h => by cases h
/-- A list of writes, the last of which may be torn. -/
theorem perf_fin (torn : Int) (p : Nat × List UInt8) : ∀ (A : List (Nat × List UInt8)) (L : List (List UInt8)) (i : Nat), (∀ x ∈ L, x.length = 64) → (∀ q ∈ A, q.1 < L.length ∧ q.2.length = 64) → perfL (i + A.length + 1) torn L i (A ++ [p]) = perf1 1 torn (A.foldl put1 L) 0 p
  | [], L, i, _, _ => by
    show perf1 (i + 0 + 1) torn L i p = _
    unfold perf1
    have : tornS (i + 0 + 1) torn i = tornS 1 torn 0 := by
      unfold tornS
      simp
    rw [this]
    rfl
  | q :: A, L, i, hL, hA => by
    have hq := hA q (by simp)
    have e : perf1 (i + (q :: A).length + 1) torn L i q = put1 L q := by
      unfold perf1 put1
      have ht : tornS (i + (q :: A).length + 1) torn i = 64 := by
        unfold tornS
        rw [if_neg (by simp only [List.length_cons]; omega)]
      rw [ht]
      have h1 : q.2.take 64 = q.2 := List.take_of_length_le (by omega)
      have h2 : (L.getD q.1 []).drop 64 = [] := by
        refine List.drop_eq_nil_of_le ?_
        rw [List.getD_eq_getElem?_getD, List.getElem?_eq_getElem hq.1]
        have := hL _ (List.getElem_mem hq.1)
        show (L[q.1]).length ≤ 64
        omega
      rw [h1, h2, List.append_nil]
    show perfL _ torn (perf1 _ torn L i q) (i + 1) (A ++ [p]) = _
    rw [e, List.length_cons, show i + (A.length + 1) + 1 = i + 1 + A.length + 1 by omega]
    exact perf_fin torn p A _ (i + 1) (put1_ok hL hq.2) (fun x hx => by rw [put1_length]; exact hA x (by simp [hx]))
/-- The writes between may be performed as a map holds them. -/
theorem perf_swap {torn : Int} {A os ms : List (Nat × List UInt8)} {p : Nat × List UInt8} {L : List (List UInt8)} (hL : ∀ x ∈ L, x.length = 64) (hA : ∀ q ∈ A, q.1 < L.length ∧ q.2.length = 64) (hO : ∀ q ∈ os, q.1 < L.length ∧ q.2.length = 64) (hM : ∀ q ∈ ms, q.1 < L.length ∧ q.2.length = 64) (h : ∀ k, lastAt os k = lastAt ms k) :
    perfL (A ++ os ++ [p]).length torn L 0 (A ++ os ++ [p]) = perfL (A ++ ms ++ [p]).length torn L 0 (A ++ ms ++ [p]) := by
  have e1 : (A ++ os ++ [p]).length = 0 + (A ++ os).length + 1 := by simp; omega
  have e2 : (A ++ ms ++ [p]).length = 0 + (A ++ ms).length + 1 := by simp; omega
  rw [e1, e2, perf_fin torn p _ _ _ hL (fun q hq => (List.mem_append.1 hq).elim (hA q) (hO q)), perf_fin torn p _ _ _ hL (fun q hq => (List.mem_append.1 hq).elim (hA q) (hM q)), List.foldl_append, List.foldl_append, fold_same h]
theorem kept_cons (keep i : Nat) (p : Nat × List UInt8) (ps : List (Nat × List UInt8)) : keptS keep i (p :: ps) = if survS keep i = true then p :: keptS keep (i + 1) ps else keptS keep (i + 1) ps := rfl
theorem kept_append (keep : Nat) (B : List (Nat × List UInt8)) : ∀ (A : List (Nat × List UInt8)) (i : Nat), keptS keep i (A ++ B) = keptS keep i A ++ keptS keep (i + A.length) B
  | [], i => rfl
  | p :: A, i => by
    have := kept_append keep B A (i + 1)
    rw [show i + 1 + A.length = i + (A.length + 1) by omega] at this
    rw [List.cons_append, kept_cons, kept_cons, this, List.length_cons]
    split
    · rw [List.cons_append]
    · rfl
theorem kept_late (keep : Nat) : ∀ (B : List (Nat × List UInt8)) (i : Nat), 63 ≤ i → keptS keep i B = if survS keep 63 = true then B else []
  | [], i, _ => by simp [keptS]
  | p :: B, i, h => by
    have e : survS keep i = survS keep 63 := by
      unfold survS
      rw [show min i 63 = 63 by omega]
      rfl
    have := kept_late keep B (i + 1) (by omega)
    unfold keptS
    rw [e, this]
    split <;> rfl
theorem surv_top {keep : Nat} (hk : keep < 18446744073709551616) : survS keep 63 = !decide (keep / 9223372036854775808 = 0) := by
  unfold survS
  have : keep / 2 ^ (min 63 63) < 2 := by
    show keep / 9223372036854775808 < 2
    omega
  show (keep / 9223372036854775808 % 2 == 1) = _
  rcases (by omega : keep / 9223372036854775808 = 0 ∨ keep / 9223372036854775808 = 1) with h | h <;> rw [h] <;> rfl
end Go.Proofs.YtckomifecmemnaaGreat

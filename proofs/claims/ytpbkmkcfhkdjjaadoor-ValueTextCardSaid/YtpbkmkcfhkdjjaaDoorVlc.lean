/- Typed values by value: their text (stage 8, pure). -/
import Derived.Test.YtpbkmkcfhkdjjaaDoorPlain
import Derived.Test.YtpbkmkcfhkdjjaaDoorVla
namespace Go.Proofs.YtpbkmkcfhkdjjaaDoor
open Dig
set_option linter.unusedVariables false

/-- An integer in decimal. -/
def intT (n : Int) : List UInt8 := (if n < 0 then [45] else []) ++ dtext n.natAbs
/-- Every single quote doubled. -/
def qs : List UInt8 → List UInt8
  | [] => []
  | c :: s => if c = 39 then 39 :: 39 :: qs s else c :: qs s
def strT (s : List UInt8) : List UInt8 := 39 :: (qs s ++ [39])
theorem dtext_inj {m n : Nat} (h : dtext m = dtext n) : m = n := by
  rw [← (dtext_spec m).2.1, ← (dtext_spec n).2.1, h]
theorem dtext_ne (n : Nat) : ∃ c t, dtext n = c :: t ∧ isDig c = true := by
  obtain ⟨h1, h2, h3⟩ := dtext_spec n
  cases e : dtext n with
  | nil =>
    rw [e] at h3
    simp [lead] at h3
  | cons c t => exact ⟨c, t, rfl, h1 c (by rw [e]; simp)⟩
theorem intT_ne (n : Int) : ∃ c t, intT n = c :: t ∧ c ≠ 39 := by
  unfold intT
  split
  · exact ⟨45, _, rfl, by decide⟩
  · obtain ⟨c, t, e, h⟩ := dtext_ne n.natAbs
    refine ⟨c, t, by rw [e]; rfl, ?_⟩
    rintro rfl
    revert h
    decide
theorem intT_inj {m n : Int} (h : intT m = intT n) : m = n := by
  unfold intT at h
  obtain ⟨c, t, e, hc⟩ := dtext_ne m.natAbs
  obtain ⟨c', t', e', hc'⟩ := dtext_ne n.natAbs
  by_cases h1 : m < 0
  · by_cases h2 : n < 0
    · rw [if_pos h1, if_pos h2] at h
      have := dtext_inj (List.append_cancel_left h)
      omega
    · rw [if_pos h1, if_neg h2, e'] at h
      have h4 : (45 : UInt8) = c' := (List.cons.inj (show 45 :: dtext m.natAbs = c' :: t' from h)).1
      rw [← h4] at hc'
      exact absurd hc' (by decide)
  · by_cases h2 : n < 0
    · rw [if_neg h1, if_pos h2, e] at h
      have h4 : c = (45 : UInt8) := (List.cons.inj (show c :: t = 45 :: dtext n.natAbs from h)).1
      rw [h4] at hc
      exact absurd hc (by decide)
    · rw [if_neg h1, if_neg h2] at h
      have := dtext_inj (List.append_cancel_left h)
      omega
theorem qs_cons_q (s : List UInt8) : qs (39 :: s) = 39 :: 39 :: qs s := rfl
theorem qs_cons {c : UInt8} (s : List UInt8) (h : c ≠ 39) : qs (c :: s) = c :: qs s := by
  show (if c = 39 then _ else _) = _
  rw [if_neg h]
theorem qs_inj : ∀ {s t : List UInt8}, qs s = qs t → s = t
  | [], [], _ => rfl
  | [], c :: t, h => by
    by_cases e : c = 39
    · subst e
      cases h
    · rw [qs_cons t e] at h
      cases h
  | c :: s, [], h => by
    by_cases e : c = 39
    · subst e
      cases h
    · rw [qs_cons s e] at h
      cases h
  | c :: s, d :: t, h => by
    by_cases e : c = 39
    · subst e
      by_cases e2 : d = 39
      · subst e2
        rw [qs_cons_q, qs_cons_q] at h
        rw [qs_inj (List.cons.inj (List.cons.inj h).2).2]
      · rw [qs_cons_q, qs_cons t e2] at h
        exact absurd (List.cons.inj h).1.symm e2
    · by_cases e2 : d = 39
      · subst e2
        rw [qs_cons_q, qs_cons s e] at h
        exact absurd (List.cons.inj h).1 e
      · rw [qs_cons s e, qs_cons t e2] at h
        rw [(List.cons.inj h).1, qs_inj (List.cons.inj h).2]
theorem qs_append : ∀ s t : List UInt8, qs (s ++ t) = qs s ++ qs t
  | [], t => rfl
  | c :: s, t => by
    by_cases e : c = 39
    · subst e
      show qs (39 :: (s ++ t)) = _
      rw [qs_cons_q, qs_cons_q, qs_append s t]
      rfl
    · show qs (c :: (s ++ t)) = _
      rw [qs_cons _ e, qs_cons _ e, qs_append s t]
      rfl
theorem qs_length : ∀ s : List UInt8, s.length ≤ (qs s).length ∧ (qs s).length ≤ 2 * s.length
  | [] => ⟨Nat.le_refl _, Nat.le_refl _⟩
  | c :: s => by
    have h := qs_length s
    by_cases e : c = 39
    · subst e
      rw [qs_cons_q]
      simp only [List.length_cons]
      omega
    · rw [qs_cons s e]
      simp only [List.length_cons]
      omega
theorem strT_inj {s t : List UInt8} (h : strT s = strT t) : s = t := qs_inj (List.append_cancel_right (List.cons.inj h).2)
/-- The text of a value. -/
noncomputable def fmtV (v : Vl) : List UInt8 := if v.1 = 1 then intT v.2.1 else strT v.2.2
/-- s is the text of the valid value v. -/
def IsTxt (s : List UInt8) (v : Vl) : Prop := okV v ∧ fmtV v = s
theorem fmtV_inj {v w : Vl} (hv : validV v) (hw : validV w) (h : fmtV v = fmtV w) : v = w := by
  obtain ⟨t, n, s⟩ := v
  obtain ⟨u, m, r⟩ := w
  rcases hv with ⟨e1, e2⟩ | ⟨e1, e2, -, -⟩
  · obtain rfl : t = 1 := e1
    obtain rfl : s = [] := e2
    rcases hw with ⟨e1, e2⟩ | ⟨e1, e2, -, -⟩
    · obtain rfl : u = 1 := e1
      obtain rfl : r = [] := e2
      have := intT_inj (show intT n = intT m from h)
      rw [this]
    · obtain rfl : u = 2 := e1
      obtain ⟨c, t, e, hc⟩ := intT_ne n
      have h2 : intT n = 39 :: (qs r ++ [39]) := h
      rw [e] at h2
      exact absurd (List.cons.inj h2).1 hc
  · obtain rfl : t = 2 := e1
    obtain rfl : n = 0 := e2
    rcases hw with ⟨e1, e2⟩ | ⟨e1, e2, -, -⟩
    · obtain rfl : u = 1 := e1
      obtain ⟨c, t, e, hc⟩ := intT_ne m
      have h2 : 39 :: (qs s ++ [39]) = intT m := h
      rw [e] at h2
      exact absurd (List.cons.inj h2).1.symm hc
    · obtain rfl : u = 2 := e1
      obtain rfl : m = 0 := e2
      rw [strT_inj (show strT s = strT r from h)]
theorem isTxt_uniq {s : List UInt8} {v w : Vl} (h : IsTxt s v) (h' : IsTxt s w) : v = w := fmtV_inj h.1.1 h'.1.1 (h.2.trans h'.2.symm)
end Go.Proofs.YtpbkmkcfhkdjjaaDoor

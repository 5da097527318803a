/- The texts of fractions, as lists of letters: what a text denotes; where it is cut; its leading zeros. Plain mathematics. -/
import Derived.Test.YtgjhgpfjeoeojaaDoorAdds
import Derived.Test.YtgjhgpfjeoeojaaDoorMuls
import Derived.Lib.IndexMore
import Derived.Lib.IndexBytes
import Derived.Lib.TrimByte
import Derived.Test.YtgjhgpfjeoeojaaDoorRati
namespace Go.Proofs.YtgjhgpfjeoeojaaDoor
open Go.RowKit Dig
namespace Dig

/-- l holds one or more digits and nothing else. -/
def okd (l : List UInt8) : Bool := !l.isEmpty && l.all isDig
def isSep (c : UInt8) : Bool := c == 47 || c == 46
def headPart (l : List UInt8) : List UInt8 := l.takeWhile (fun c => !isSep c)
def tailPart (l : List UInt8) : List UInt8 := l.dropWhile (fun c => !isSep c)
/-- A text without a sign: whether it has the form, its numerator, its denominator. -/
def bodyOf (l : List UInt8) : Bool × Nat × Nat :=
  match tailPart l with
  | [] => (okd l, dec l, 1)
  | c :: a => if c = 47 then (okd (headPart l) && okd a, dec (headPart l), dec a) else (okd (headPart l) && okd a, dec (headPart l) * 10 ^ a.length + dec a, 10 ^ a.length)
def signOf (l : List UInt8) : Bool := l.head? == some 45
def restOf (l : List UInt8) : List UInt8 := if signOf l then l.tail else l
/-- What Parse reports: 0, or the number of its error. -/
def ferr (l : List UInt8) : Int := if (bodyOf (restOf l)).1 = false then 2 else if (bodyOf (restOf l)).2.2 = 0 then 20 else 0
def fval (l : List UInt8) : Rat := fr (signOf l) (bodyOf (restOf l)).2.1 (bodyOf (restOf l)).2.2

theorem okd_nil : okd [] = false := rfl
theorem okd_all {l : List UInt8} (h : okd l = true) : (∀ c ∈ l, isDig c = true) ∧ 0 < l.length := by
  unfold okd at h
  simp only [Bool.and_eq_true, Bool.not_eq_true', List.all_eq_true] at h
  refine ⟨h.2, ?_⟩
  rcases l with _ | ⟨c, l⟩
  · simp at h
  · simp
theorem okd_of {l : List UInt8} (h : ∀ c ∈ l, isDig c = true) (hp : 0 < l.length) : okd l = true := by
  unfold okd
  simp only [Bool.and_eq_true, Bool.not_eq_true', List.all_eq_true]
  refine ⟨?_, h⟩
  rcases l with _ | ⟨c, l⟩
  · simp at hp
  · rfl
theorem isDig_sep {c : UInt8} (h : isSep c = true) : isDig c = false := by
  unfold isSep at h
  simp only [Bool.or_eq_true, beq_iff_eq] at h
  rcases h with rfl | rfl <;> rfl
theorem okd_sep {l : List UInt8} {c : UInt8} (h : c ∈ l) (hs : isSep c = true) : okd l = false := by
  cases hk : okd l with
  | false => rfl
  | true =>
    have := (okd_all hk).1 c h
    rw [isDig_sep hs] at this
    cases this
theorem okd_append_left {l r : List UInt8} (h : okd (l ++ r) = true) (hp : 0 < l.length) : okd l = true := okd_of (fun c hc => (okd_all h).1 c (by simp [hc])) hp

/-- Where a text is cut. -/
theorem split_at {l b a : List UInt8} {c : UInt8} (h : l = b ++ c :: a) (hb : ∀ x ∈ b, isSep x = false) (hc : isSep c = true) : headPart l = b ∧ tailPart l = c :: a := by
  subst h
  unfold headPart tailPart
  induction b with
  | nil => simp [hc]
  | cons x b ih =>
    have h1 := hb x (by simp)
    obtain ⟨h2, h3⟩ := ih (fun y hy => hb y (by simp [hy]))
    simp [h1, h2, h3]
theorem split_none {l : List UInt8} (h : ∀ x ∈ l, isSep x = false) : headPart l = l ∧ tailPart l = [] := by
  unfold headPart tailPart
  induction l with
  | nil => simp
  | cons x l ih =>
    have h1 := h x (by simp)
    obtain ⟨h2, h3⟩ := ih (fun y hy => h y (by simp [hy]))
    simp [h1, h2, h3]
theorem body_none {l : List UInt8} (h : ∀ x ∈ l, isSep x = false) : bodyOf l = (okd l, dec l, 1) := by
  unfold bodyOf
  rw [(split_none h).2]
theorem body_slash {l b a : List UInt8} (h : l = b ++ 47 :: a) (hb : ∀ x ∈ b, isSep x = false) : bodyOf l = (okd b && okd a, dec b, dec a) := by
  obtain ⟨h1, h2⟩ := split_at h hb rfl
  unfold bodyOf
  rw [h1, h2]
  rfl
theorem body_point {l b a : List UInt8} (h : l = b ++ 46 :: a) (hb : ∀ x ∈ b, isSep x = false) : bodyOf l = (okd b && okd a, dec b * 10 ^ a.length + dec a, 10 ^ a.length) := by
  obtain ⟨h1, h2⟩ := split_at h hb rfl
  unfold bodyOf
  rw [h1, h2]
  rfl
/-- A list holds a letter, or it does not. -/
theorem first_of (c : UInt8) (l : List UInt8) : c ∉ l ∨ ∃ b a, l = b ++ c :: a ∧ c ∉ b := by
  by_cases h : c ∈ l
  · obtain ⟨b, a, h1, h2⟩ := List.eq_append_cons_of_mem h
    exact .inr ⟨b, a, h1, h2⟩
  · exact .inl h
/-- A text with a point before the slash is refused. -/
theorem body_both {l b a : List UInt8} (h : l = b ++ 47 :: a) (hb : (46 : UInt8) ∈ b) (hn : (47 : UInt8) ∉ b) : (bodyOf l).1 = false := by
  rcases first_of 46 b with h1 | ⟨b1, b2, e, h2⟩
  · exact absurd hb h1
  · subst e
    have h3 : ∀ x ∈ b1, isSep x = false := by
      intro x hx
      unfold isSep
      simp only [Bool.or_eq_false_iff, beq_eq_false_iff_ne]
      refine ⟨fun e => hn (by rw [← e]; simp [hx]), fun e => h2 (e ▸ hx)⟩
    rw [body_point (b := b1) (a := b2 ++ 47 :: a) (by rw [h]; simp) h3]
    rw [okd_sep (l := b2 ++ 47 :: a) (c := 47) (by simp) rfl, Bool.and_false]
theorem no_sep {l : List UInt8} (h1 : (47 : UInt8) ∉ l) (h2 : (46 : UInt8) ∉ l) : ∀ x ∈ l, isSep x = false := by
  intro x hx
  unfold isSep
  simp only [Bool.or_eq_false_iff, beq_eq_false_iff_ne]
  exact ⟨fun e => h1 (e ▸ hx), fun e => h2 (e ▸ hx)⟩

/-- strings.Cut at one letter. -/
theorem cut_miss {l : List UInt8} {c : UInt8} (h : c ∉ l) : Lib.cut l [c] = (l, [], false) := by
  have hi : Lib.index l [c] = -1 := by
    rw [Lib.index_one]
    rcases Lib.index_spec l [c] with ⟨h1, _⟩ | ⟨i, h1, _, ho, _⟩
    · rw [Lib.index_one] at h1; exact h1
    · exfalso
      rw [Lib.index_one] at h1
      have := (Lib.indexByte_some h1).1
      exact h (List.mem_of_getElem? this)
  unfold Lib.cut
  rw [hi, if_neg (by omega)]
theorem cut_hit {l b a : List UInt8} {c : UInt8} (h : l = b ++ c :: a) (hb : c ∉ b) : Lib.cut l [c] = (b, a, true) := by
  have hi : Lib.index l [c] = (b.length : Int) := by
    rw [Lib.index_one]
    rcases Lib.index_spec l [c] with ⟨h1, _⟩ | ⟨i, h1, _, ho, _⟩
    · rw [Lib.index_one] at h1
      exact absurd (show l[b.length]? = some c by rw [h]; simp) (Lib.indexByte_none h1 _)
    · rw [Lib.index_one] at h1
      rw [h1]
      obtain ⟨h2, h3⟩ := Lib.indexByte_some h1
      rcases Nat.lt_trichotomy i b.length with hlt | he | hgt
      · exfalso
        rw [h, List.getElem?_append_left hlt] at h2
        exact hb (List.mem_of_getElem? h2)
      · rw [he]
      · exact absurd (show l[b.length]? = some c by rw [h]; simp) (h3 _ hgt)
  unfold Lib.cut
  rw [hi, if_pos (by omega)]
  subst h
  simp

/-- Leading zeros. -/
theorem dec_zero_cons (l : List UInt8) : dec (48 :: l) = dec l := by
  rw [dec_cons]
  simp
theorem trim_dec (l : List UInt8) : dec (Lib.trimLeftB l 48) = dec l ∧ (Lib.trimLeftB l 48).all isDig = l.all isDig ∧ (Lib.trimLeftB l 48).length ≤ l.length ∧ (Lib.trimLeftB l 48).head? ≠ some 48 := by
  unfold Lib.trimLeftB
  induction l with
  | nil => simp
  | cons c l ih =>
    by_cases h : c = 48
    · subst h
      obtain ⟨h1, h2, h3, h4⟩ := ih
      rw [dec_zero_cons]
      simp only [List.dropWhile_cons, beq_self_eq_true, if_true]
      refine ⟨h1, ?_, by simp; omega, h4⟩
      rw [h2, List.all_cons]
      rfl
    · have : (c == 48) = false := by simpa using h
      simp [this, h]
end Dig
end Go.Proofs.YtgjhgpfjeoeojaaDoor

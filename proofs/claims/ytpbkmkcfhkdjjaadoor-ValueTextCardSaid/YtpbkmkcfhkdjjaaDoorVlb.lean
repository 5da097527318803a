/- Typed values by value: what a key is the key of (stage 8, pure). -/
import Derived.Test.YtpbkmkcfhkdjjaaDoorVla
namespace Go.Proofs.YtpbkmkcfhkdjjaaDoor
set_option linter.unusedVariables false

/-- What big-endian bytes say. -/
def vW : List UInt8 → Nat
  | [] => 0
  | c :: t => c.toNat * 256 ^ t.length + vW t
theorem vW_lt : ∀ t : List UInt8, vW t < 256 ^ t.length
  | [] => by simp [vW]
  | c :: t => by
    have h1 := vW_lt t
    have h2 : c.toNat < 256 := c.toNat_lt
    have h3 : (c.toNat + 1) * 256 ^ t.length ≤ 256 * 256 ^ t.length := Nat.mul_le_mul_right _ h2
    rw [Nat.add_mul, Nat.one_mul] at h3
    rw [List.length_cons, Nat.pow_succ, Nat.mul_comm (256 ^ t.length) 256]
    show c.toNat * 256 ^ t.length + vW t < _
    omega
theorem beW_vW : ∀ t : List UInt8, beW t.length (vW t) = t
  | [] => rfl
  | c :: t => by
    have h1 := vW_lt t
    have hp : 0 < 256 ^ t.length := Nat.pow_pos (by omega)
    have e1 : (c.toNat * 256 ^ t.length + vW t) / 256 ^ t.length = c.toNat := by
      rw [Nat.mul_comm, Nat.mul_add_div hp, Nat.div_eq_of_lt h1, Nat.add_zero]
    have e2 : (c.toNat * 256 ^ t.length + vW t) % 256 ^ t.length = vW t := by
      rw [Nat.mul_comm, Nat.mul_add_mod, Nat.mod_eq_of_lt h1]
    show UInt8.ofNat ((c.toNat * 256 ^ t.length + vW t) / 256 ^ t.length) :: beW t.length ((c.toNat * 256 ^ t.length + vW t) % 256 ^ t.length) = c :: t
    rw [e1, e2, beW_vW t]
    simp
theorem vW_beW : ∀ (k n : Nat), n < 256 ^ k → vW (beW k n) = n
  | 0, n, h => by
    simp at h
    subst h
    rfl
  | k + 1, n, h => by
    have hp : 0 < 256 ^ k := Nat.pow_pos (by omega)
    rw [Nat.pow_succ] at h
    have h2 : n / 256 ^ k < 256 := (Nat.div_lt_iff_lt_mul hp).2 (by rw [Nat.mul_comm]; exact h)
    show (UInt8.ofNat (n / 256 ^ k)).toNat * 256 ^ (beW k (n % 256 ^ k)).length + vW (beW k (n % 256 ^ k)) = n
    rw [vW_beW k _ (Nat.mod_lt n hp), beW_length, UInt8.toNat_ofNat', Nat.mod_eq_of_lt h2, Nat.mul_comm]
    exact Nat.div_add_mod n (256 ^ k)
/-- The integer whose inverted form is n. -/
def dnI (n : Nat) : Int := (n : Int) - 9223372036854775808
theorem upI_dnI {n : Nat} (h : n < 256 ^ 8) : upI (dnI n) = n := by
  unfold upI dnI
  omega
theorem dnI_upI {n : Int} (h : -9223372036854775808 ≤ n) : dnI (upI n) = n := by
  unfold upI dnI
  omega
theorem dnI_range {n : Nat} (h : n < 256 ^ 8) : -9223372036854775808 ≤ dnI n ∧ dnI n ≤ 9223372036854775807 := by
  unfold dnI
  omega
/-- b is the key of the list l of valid values. -/
def IsKey (b : List UInt8) (l : List Vl) : Prop := (∀ v ∈ l, okV v) ∧ keyL l = b
theorem isKey_uniq {b : List UInt8} {l l' : List Vl} (h : IsKey b l) (h' : IsKey b l') : l = l' := keyL_inj h.1 h'.1 (h.2.trans h'.2.symm)
theorem isKey_cons {b : List UInt8} {v : Vl} {l : List Vl} : IsKey b (v :: l) ↔ okV v ∧ ∃ r, b = keyV v ++ r ∧ IsKey r l := by
  constructor
  · rintro ⟨h1, h2⟩
    exact ⟨h1 v (by simp), keyL l, h2.symm, fun x hx => h1 x (by simp [hx]), rfl⟩
  · rintro ⟨h1, r, rfl, h2, rfl⟩
    refine ⟨fun x hx => ?_, rfl⟩
    rcases List.mem_cons.1 hx with rfl | hx
    · exact h1
    · exact h2 x hx
theorem isKey_nil {l : List Vl} : IsKey [] l ↔ l = [] := by
  constructor
  · intro h
    cases l with
    | nil => rfl
    | cons v l =>
      obtain ⟨_, r, e, _⟩ := isKey_cons.1 h
      obtain ⟨c, t, e2⟩ := keyV_ne v
      rw [e2] at e
      cases e
  · rintro rfl
    exact ⟨fun v hv => (List.not_mem_nil hv).elim, rfl⟩
theorem isKey_one {t : List UInt8} {l : List Vl} : IsKey (1 :: t) l ↔ 8 ≤ t.length ∧ ∃ l', l = (1, dnI (vW (t.take 8)), []) :: l' ∧ IsKey (t.drop 8) l' := by
  constructor
  · intro h
    cases l with
    | nil => cases h.2
    | cons v l =>
      obtain ⟨hv, r, e, hr⟩ := isKey_cons.1 h
      obtain ⟨ty, n, s⟩ := v
      obtain ⟨hv, v1, v2⟩ := hv
      dsimp only at v1 v2
      rcases hv with ⟨e1, e2⟩ | ⟨e1, e2, e3, e4⟩
      · obtain rfl : ty = 1 := e1
        obtain rfl : s = [] := e2
        have e' : (1 : UInt8) :: t = 1 :: (beW 8 (upI n) ++ r) := e
        obtain rfl : t = beW 8 (upI n) ++ r := (List.cons.inj e').2
        have hl : (beW 8 (upI n)).length = 8 := beW_length 8 _
        refine ⟨by rw [List.length_append]; omega, l, ?_, ?_⟩
        · rw [List.take_left' hl, vW_beW 8 _ (upI_lt v1 v2), dnI_upI v1]
        · rw [List.drop_left' hl]
          exact hr
      · obtain rfl : ty = 2 := e1
        have e' : (1 : UInt8) :: t = 2 :: ((s ++ [0]) ++ r) := e
        exact absurd (List.cons.inj e').1 (by decide)
  · rintro ⟨hl, l', rfl, h⟩
    have hk : (t.take 8).length = 8 := by rw [List.length_take]; omega
    have hlt := vW_lt (t.take 8)
    rw [hk] at hlt
    refine isKey_cons.2 ⟨⟨.inl ⟨rfl, rfl⟩, (dnI_range hlt).1, (dnI_range hlt).2⟩, t.drop 8, ?_, h⟩
    show (1 : UInt8) :: t = 1 :: (beW 8 (upI (dnI (vW (t.take 8)))) ++ t.drop 8)
    have e := beW_vW (t.take 8)
    rw [hk] at e
    rw [upI_dnI hlt, e, List.take_append_drop]
theorem isKey_two {t : List UInt8} {l : List Vl} : IsKey (2 :: t) l ↔ ∃ s r l', t = s ++ 0 :: r ∧ validV (2, 0, s) ∧ l = (2, 0, s) :: l' ∧ IsKey r l' := by
  constructor
  · intro h
    cases l with
    | nil => cases h.2
    | cons v l =>
      obtain ⟨hv, r, e, hr⟩ := isKey_cons.1 h
      obtain ⟨ty, n, s⟩ := v
      obtain ⟨hv, v1, v2⟩ := hv
      rcases id hv with ⟨e1, e2⟩ | ⟨e1, e2, e3, e4⟩
      · obtain rfl : ty = 1 := e1
        have e' : (2 : UInt8) :: t = 1 :: (beW 8 (upI n) ++ r) := e
        exact absurd (List.cons.inj e').1 (by decide)
      · obtain rfl : ty = 2 := e1
        obtain rfl : n = 0 := e2
        have e' : (2 : UInt8) :: t = 2 :: ((s ++ [0]) ++ r) := e
        refine ⟨s, r, l, ?_, hv, rfl, hr⟩
        rw [(List.cons.inj e').2, List.append_assoc]
        rfl
  · rintro ⟨s, r, l', rfl, hv, rfl, h⟩
    refine isKey_cons.2 ⟨⟨hv, by show (-9223372036854775808 : Int) ≤ 0; omega, by show (0 : Int) ≤ 9223372036854775807; omega⟩, r, ?_, h⟩
    show (2 : UInt8) :: (s ++ 0 :: r) = 2 :: ((s ++ [0]) ++ r)
    rw [List.append_assoc]
    rfl
theorem isKey_bad {c : UInt8} {t : List UInt8} {l : List Vl} (h1 : c ≠ 1) (h2 : c ≠ 2) : ¬ IsKey (c :: t) l := by
  intro h
  cases l with
  | nil => cases h.2
  | cons v l =>
    obtain ⟨hv, r, e, hr⟩ := isKey_cons.1 h
    obtain ⟨ty, n, s⟩ := v
    rcases hv.1 with ⟨e1, e2⟩ | ⟨e1, e2, e3, e4⟩
    · obtain rfl : ty = 1 := e1
      have e' : c :: t = 1 :: (beW 8 (upI n) ++ r) := e
      exact h1 (List.cons.inj e').1
    · obtain rfl : ty = 2 := e1
      have e' : c :: t = 2 :: ((s ++ [0]) ++ r) := e
      exact h2 (List.cons.inj e').1
/-- The string ahead of the first zero. -/
theorem zero_split {s s' r r' : List UInt8} (h : ∀ c ∈ s, c ≠ 0) (h' : ∀ c ∈ s', c ≠ 0) (e : s ++ 0 :: r = s' ++ 0 :: r') : s = s' ∧ r = r' := by
  induction s generalizing s' with
  | nil =>
    cases s' with
    | nil => exact ⟨rfl, (List.cons.inj e).2⟩
    | cons x s' => exact absurd (List.cons.inj e).1.symm (h' x (by simp))
  | cons x s ih =>
    cases s' with
    | nil => exact absurd (List.cons.inj e).1 (h x (by simp))
    | cons y s' =>
      obtain ⟨e1, e2⟩ := List.cons.inj e
      obtain ⟨e3, e4⟩ := ih (fun c hc => h c (by simp [hc])) (fun c hc => h' c (by simp [hc])) e2
      exact ⟨by rw [e1, e3], e4⟩
theorem valid_nonzero {s : List UInt8} (h : validV (2, 0, s)) : ∀ c ∈ s, c ≠ 0 := by
  rcases h with ⟨e, _⟩ | ⟨_, _, _, h⟩
  · exact absurd (show (2 : Int) = 1 from e) (by decide)
  · rintro c hc rfl
    have := (h 0 hc).1
    exact absurd this (by decide)
/-- The string that a decoder finds: all up to the first zero. -/
theorem isKey_two_at {t : List UInt8} {l : List Vl} {k : Nat} (hk : t[k]? = some 0) (hn : ∀ i, i < k → t[i]? ≠ some 0) : IsKey (2 :: t) l ↔ validV (2, 0, t.take k) ∧ ∃ l', l = (2, 0, t.take k) :: l' ∧ IsKey (t.drop (k + 1)) l' := by
  obtain ⟨hlt, h0⟩ := List.getElem?_eq_some_iff.1 hk
  have e : t = t.take k ++ 0 :: t.drop (k + 1) := by
    have h1 := List.drop_eq_getElem_cons hlt
    rw [h0] at h1
    rw [← h1, List.take_append_drop]
  have hz : ∀ c ∈ t.take k, c ≠ 0 := by
    rintro c hc rfl
    obtain ⟨i, hi, he⟩ := List.mem_iff_getElem.1 hc
    have hi2 : i < k := by rw [List.length_take] at hi; omega
    refine hn i hi2 ?_
    rw [List.getElem_take] at he
    rw [← he]
    exact List.getElem?_eq_getElem _
  rw [isKey_two]
  constructor
  · rintro ⟨s, r, l', e2, hv, rfl, hr⟩
    rw [e] at e2
    obtain ⟨rfl, rfl⟩ := zero_split hz (valid_nonzero hv) e2
    exact ⟨hv, l', rfl, hr⟩
  · rintro ⟨hv, l', rfl, hr⟩
    exact ⟨_, _, l', e, hv, rfl, hr⟩
theorem isKey_two_none {t : List UInt8} {l : List Vl} (hn : ∀ i, i < t.length → t[i]? ≠ some 0) : ¬ IsKey (2 :: t) l := by
  rw [isKey_two]
  rintro ⟨s, r, l', rfl, -⟩
  refine hn s.length (by simp) ?_
  rw [List.getElem?_append_right (Nat.le_refl _), Nat.sub_self]
  rfl
end Go.Proofs.YtpbkmkcfhkdjjaaDoor

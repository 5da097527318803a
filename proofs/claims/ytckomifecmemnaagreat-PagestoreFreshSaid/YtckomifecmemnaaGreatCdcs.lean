/- Bytes: numbers in groups of seven bits, big-endian bytes, and what a reader of them does. Plain lemmas. -/
import Derived.Test.YtckomifecmemnaaGreatGnd
import Derived.Test.YtckomifecmemnaaGreatPlain
namespace Go.Proofs.YtckomifecmemnaaGreat
namespace Dig


/-- The groups of seven bits of a number, the least first; more to come: 128. -/
def encF : Nat → Nat → List UInt8
  | 0, n => [oct n]
  | f + 1, n => if n < 128 then [oct n] else oct (n % 128 + 128) :: encF f (n / 128)
theorem encF_fuel : ∀ (f g n : Nat), n ≤ f → n ≤ g → encF f n = encF g n
  | 0, 0, n, _, _ => rfl
  | 0, g + 1, n, h, _ => by
    have : n = 0 := by omega
    subst this
    simp [encF]
  | f + 1, 0, n, _, h => by
    have : n = 0 := by omega
    subst this
    simp [encF]
  | f + 1, g + 1, n, hf, hg => by
    unfold encF
    split
    · rfl
    · rw [encF_fuel f g (n / 128) (by omega) (by omega)]
def encU (n : Nat) : List UInt8 := encF n n
theorem encU_small {n : Nat} (h : n < 128) : encU n = [oct n] := by
  unfold encU
  cases n with
  | zero => rfl
  | succ n => unfold encF; rw [if_pos h]
theorem encU_step {n : Nat} (h : 128 ≤ n) : encU n = oct (n % 128 + 128) :: encU (n / 128) := by
  unfold encU
  obtain ⟨m, rfl⟩ : ∃ m, n = m + 1 := ⟨n - 1, by omega⟩
  conv => lhs; unfold encF
  rw [if_neg (by omega), encF_fuel m ((m + 1) / 128) _ (by omega) (by omega)]
theorem encU_pos (n : Nat) : 0 < (encU n).length := by
  rcases Nat.lt_or_ge n 128 with h | h
  · rw [encU_small h]; simp
  · rw [encU_step h]; simp
theorem encU_length : ∀ (k n : Nat), n < 128 ^ (k + 1) → (encU n).length ≤ k + 1
  | 0, n, h => by rw [encU_small (by simpa using h)]; simp
  | k + 1, n, h => by
    rcases Nat.lt_or_ge n 128 with h1 | h1
    · rw [encU_small h1]; simp
    · rw [encU_step h1]
      have := encU_length k (n / 128) (by rw [Nat.pow_succ] at h; omega)
      simp; omega
theorem encU_ten {n : Nat} (h : n < 18446744073709551616) : (encU n).length ≤ 10 := encU_length 9 n (Nat.lt_trans h (by decide))

/-- Reading a number: k bytes may be looked at yet, i were; acc is what they hold; the answer: the number, the error, the bytes that are left. -/
def rdF (max : Nat) : Nat → Nat → Nat → List UInt8 → Nat × Int × List UInt8
  | 0, _, _, _ => (0, 2, [])
  | _ + 1, _, _, [] => (0, 3, [])
  | k + 1, i, acc, c :: ts =>
    if 128 ≤ c.toNat then rdF max k (i + 1) (acc + (c.toNat - 128) * 128 ^ i) ts
    else if c.toNat = 0 ∧ 0 < i ∨ i = 9 ∧ 1 < c.toNat then (0, 2, [])
    else if max < acc + c.toNat * 128 ^ i then (0, 4, [])
    else (acc + c.toNat * 128 ^ i, 0, ts)
def rd (max : Nat) (ts : List UInt8) : Nat × Int × List UInt8 := rdF max 10 0 0 ts

theorem rdF_enc (max : Nat) : ∀ (k i acc m : Nat) (r : List UInt8), k + i = 10 → acc < 128 ^ i → acc + m * 128 ^ i ≤ max → acc + m * 128 ^ i < 18446744073709551616 → (0 < i → 0 < m) → rdF max k i acc (encU m ++ r) = (acc + m * 128 ^ i, 0, r) := by
  intro k
  induction k with
  | zero =>
    intro i acc m r hk ha hm hl h0
    have : i = 10 := by omega
    subst this
    have := h0 (by omega)
    have : 1 * 128 ^ 10 ≤ m * 128 ^ 10 := Nat.mul_le_mul_right _ this
    omega
  | succ k ih =>
    intro i acc m r hk ha hm hl h0
    rcases Nat.lt_or_ge m 128 with h | h
    · rw [encU_small h]
      show rdF max (k + 1) i acc (oct m :: r) = _
      unfold rdF
      rw [oct_toNat (by omega), if_neg (by omega), if_neg, if_neg (by omega)]
      rintro (⟨h1, h2⟩ | ⟨h1, h2⟩)
      · have := h0 h2; omega
      · subst h1
        have : 2 * 128 ^ 9 ≤ m * 128 ^ 9 := Nat.mul_le_mul_right _ h2
        omega
    · rw [encU_step h]
      show rdF max (k + 1) i acc (oct (m % 128 + 128) :: (encU (m / 128) ++ r)) = _
      unfold rdF
      rw [oct_toNat (by omega), if_pos (by omega), Nat.add_sub_cancel]
      have e : acc + m % 128 * 128 ^ i + m / 128 * 128 ^ (i + 1) = acc + m * 128 ^ i := by
        rw [Nat.pow_succ, Nat.add_assoc]
        congr 1
        rw [Nat.mul_comm (128 ^ i), ← Nat.mul_assoc, ← Nat.add_mul]
        congr 1
        omega
      rw [ih (i + 1) _ (m / 128) r (by omega) ?_ (by omega) (by omega) (fun _ => by omega), e]
      rw [Nat.pow_succ]
      have : m % 128 * 128 ^ i ≤ 127 * 128 ^ i := Nat.mul_le_mul_right _ (by omega)
      omega
theorem rd_enc {max n : Nat} (r : List UInt8) (h : n ≤ max) (hn : n < 18446744073709551616) : rd max (encU n ++ r) = (n, 0, r) := by
  have := rdF_enc max 10 0 0 n r rfl (by simp) (by simpa using h) (by simpa using hn) (by simp)
  unfold rd
  simpa using this

/-- A part of an encoding that is not whole ends early. -/
theorem rdF_cut (max : Nat) : ∀ (k i acc m j : Nat), (encU m).length ≤ k → j < (encU m).length → rdF max k i acc ((encU m).take j) = (0, 3, []) := by
  intro k
  induction k with
  | zero => intro i acc m j h hj; omega
  | succ k ih =>
    intro i acc m j h hj
    cases j with
    | zero => rfl
    | succ j =>
      rcases Nat.lt_or_ge m 128 with h1 | h1
      · rw [encU_small h1] at hj; simp at hj
      · rw [encU_step h1] at h hj ⊢
        simp only [List.length_cons, List.take_succ_cons] at h hj ⊢
        unfold rdF
        rw [oct_toNat (by omega), if_pos (by omega)]
        exact ih _ _ _ j (by omega) (by omega)
theorem rd_cut {max n j : Nat} (hn : n < 18446744073709551616) (hj : j < (encU n).length) : rd max ((encU n).take j) = (0, 3, []) := rdF_cut max 10 0 0 n j (encU_ten hn) hj

/-- What is read without an error is what was encoded. -/
theorem rdF_uniq (max : Nat) : ∀ (k i acc n : Nat) (ts r : List UInt8), k + i = 10 → rdF max k i acc ts = (n, 0, r) → ∃ m, ts = encU m ++ r ∧ n = acc + m * 128 ^ i ∧ (0 < i → 0 < m) := by
  intro k
  induction k with
  | zero => intro i acc n ts r hk h; simp [rdF] at h
  | succ k ih =>
    intro i acc n ts r hk h
    cases ts with
    | nil => simp [rdF] at h
    | cons c ts =>
      unfold rdF at h
      split at h
      · next hc =>
        obtain ⟨m, e, hn, h0⟩ := ih _ _ _ _ _ (by omega) h
        have hm := h0 (by omega)
        refine ⟨c.toNat - 128 + 128 * m, ?_, ?_, fun _ => by omega⟩
        · rw [encU_step (by omega), show (c.toNat - 128 + 128 * m) / 128 = m by have := oct_lt c; omega, show (c.toNat - 128 + 128 * m) % 128 + 128 = c.toNat by have := oct_lt c; omega, oct_of, e]
          rfl
        · rw [hn, Nat.pow_succ, Nat.add_mul, Nat.add_assoc]
          congr 2
          rw [Nat.mul_comm (128 ^ i), ← Nat.mul_assoc, Nat.mul_comm m]
      · next hc =>
        split at h
        · simp at h
        · next h1 =>
          split at h
          · simp at h
          · simp only [Prod.mk.injEq, true_and] at h
            obtain ⟨h2, h3⟩ := h
            refine ⟨c.toNat, by rw [encU_small (by omega), oct_of, h3]; rfl, h2.symm, fun hi => ?_⟩
            rcases Nat.eq_zero_or_pos c.toNat with h4 | h4
            · exact absurd (.inl ⟨h4, hi⟩) h1
            · exact h4
theorem rd_uniq {max n : Nat} {ts r : List UInt8} (h : rd max ts = (n, 0, r)) : ts = encU n ++ r := by
  obtain ⟨m, e, hn, _⟩ := rdF_uniq max 10 0 0 n ts r rfl h
  simp at hn
  subst hn
  exact e
theorem rdF_bad (max : Nat) : ∀ (k i acc : Nat) (ts : List UInt8), (rdF max k i acc ts).2.1 ≠ 0 → ∃ e, rdF max k i acc ts = (0, e, []) ∧ (e = 2 ∨ e = 3 ∨ e = 4) := by
  intro k
  induction k with
  | zero => intro i acc ts h; exact ⟨2, rfl, .inl rfl⟩
  | succ k ih =>
    intro i acc ts h
    cases ts with
    | nil => exact ⟨3, rfl, .inr (.inl rfl)⟩
    | cons c ts =>
      unfold rdF at h ⊢
      split
      · next hc => rw [if_pos hc] at h; exact ih _ _ _ h
      · next hc =>
        rw [if_neg hc] at h
        split
        · exact ⟨2, rfl, .inl rfl⟩
        · next h1 =>
          rw [if_neg h1] at h
          split
          · exact ⟨4, rfl, .inr (.inr rfl)⟩
          · next h2 => rw [if_neg h2] at h; exact absurd rfl h
/-- A read of a number: well, or with an error and nothing left. -/
theorem rd_cases (max : Nat) (ts : List UInt8) : (∃ n r, rd max ts = (n, 0, r) ∧ ts = encU n ++ r) ∨ ∃ e, rd max ts = (0, e, []) ∧ (e = 2 ∨ e = 3 ∨ e = 4) := by
  by_cases h : (rd max ts).2.1 = 0
  · left
    refine ⟨(rd max ts).1, (rd max ts).2.2, ?_, ?_⟩
    · rw [← h]
    · exact rd_uniq (by rw [← h])
  · right
    exact rdF_bad max 10 0 0 ts h
theorem rdF_le (max : Nat) : ∀ (k i acc n : Nat) (ts r : List UInt8), rdF max k i acc ts = (n, 0, r) → n ≤ max := by
  intro k
  induction k with
  | zero => intro i acc n ts r h; simp [rdF] at h
  | succ k ih =>
    intro i acc n ts r h
    cases ts with
    | nil => simp [rdF] at h
    | cons c ts =>
      unfold rdF at h
      split at h
      · exact ih _ _ _ _ _ h
      · split at h
        · simp at h
        · split at h
          · simp at h
          · simp at h; omega
theorem rd_le {max n : Nat} {ts r : List UInt8} (h : rd max ts = (n, 0, r)) : n ≤ max := rdF_le max 10 0 0 n ts r h

/-! Big-endian bytes. -/
def beV (ts : List UInt8) : Nat := ts.foldl (fun a c => a * 256 + c.toNat) 0
theorem beV_snoc (ts : List UInt8) (c : UInt8) : beV (ts ++ [c]) = beV ts * 256 + c.toNat := by simp [beV]
def beF : Nat → Nat → List UInt8
  | 0, _ => []
  | f + 1, n => if n = 0 then [] else beF f (n / 256) ++ [oct (n % 256)]
/-- The big-endian bytes of a number, as few as possible. -/
def beB (n : Nat) : List UInt8 := beF n n
theorem beF_fuel : ∀ (f g n : Nat), n ≤ f → n ≤ g → beF f n = beF g n
  | 0, 0, _, _, _ => rfl
  | 0, g + 1, n, h, _ => by
    have : n = 0 := by omega
    subst this
    simp [beF]
  | f + 1, 0, n, _, h => by
    have : n = 0 := by omega
    subst this
    simp [beF]
  | f + 1, g + 1, n, hf, hg => by
    unfold beF
    split
    · rfl
    · rw [beF_fuel f g (n / 256) (by omega) (by omega)]
theorem beB_zero : beB 0 = [] := rfl
theorem beB_step {n : Nat} (h : 0 < n) : beB n = beB (n / 256) ++ [oct (n % 256)] := by
  unfold beB
  obtain ⟨m, rfl⟩ : ∃ m, n = m + 1 := ⟨n - 1, by omega⟩
  conv => lhs; unfold beF
  rw [if_neg (by omega), beF_fuel m ((m + 1) / 256) _ (by omega) (by omega)]
theorem beV_beB (n : Nat) : beV (beB n) = n := by
  induction n using Nat.strongRecOn with
  | _ n ih =>
    rcases Nat.eq_zero_or_pos n with h | h
    · subst h; rfl
    · rw [beB_step h, beV_snoc, ih _ (Nat.div_lt_self h (by omega)), oct_toNat (Nat.mod_lt _ (by omega))]
      omega
theorem snoc_ind {P : List UInt8 → Prop} (h0 : P []) (h1 : ∀ l c, P l → P (l ++ [c])) (l : List UInt8) : P l := by
  have h : ∀ l : List UInt8, P l.reverse := by
    intro l
    induction l with
    | nil => exact h0
    | cons c l ih => rw [List.reverse_cons]; exact h1 _ _ ih
  have := h l.reverse
  rwa [List.reverse_reverse] at this
/-- No byte 0 ahead. -/
def noLead (ts : List UInt8) : Prop := ts.head? ≠ some 0
theorem beV_pos : ∀ (ts : List UInt8), noLead ts → ts ≠ [] → 0 < beV ts := by
  refine snoc_ind (fun _ hne => absurd rfl hne) ?_
  · intro l c ih h hne
    rw [beV_snoc]
    by_cases hl : l = []
    · subst hl
      have : c ≠ 0 := fun e => h (by simp [e])
      have : c.toNat ≠ 0 := fun e => this (by apply UInt8.toNat.inj; simpa using e)
      omega
    · have := ih (by
        intro e
        apply h
        rw [List.head?_append, e]; rfl) hl
      omega
theorem beB_noLead (n : Nat) : noLead (beB n) := by
  induction n using Nat.strongRecOn with
  | _ n ih =>
    rcases Nat.eq_zero_or_pos n with h | h
    · subst h; simp [noLead, beB_zero]
    · rw [beB_step h]
      have hi := ih (n / 256) (Nat.div_lt_self h (by omega))
      rcases Nat.eq_zero_or_pos (n / 256) with h1 | h1
      · rw [h1, beB_zero]
        intro e
        simp at e
        have := congrArg UInt8.toNat e
        rw [oct_toNat (show n % 256 < 256 by omega)] at this
        simp at this
        omega
      · unfold noLead at hi ⊢
        rw [List.head?_append]
        have : beB (n / 256) ≠ [] := by
          intro e
          have := beV_beB (n / 256)
          rw [e] at this
          simp [beV] at this
          omega
        cases hb : beB (n / 256) with
        | nil => exact absurd hb this
        | cons a l => rw [hb] at hi; simpa using hi
theorem beB_uniq : ∀ (ts : List UInt8), noLead ts → beB (beV ts) = ts := by
  refine snoc_ind (fun _ => rfl) ?_
  · intro l c ih h
    have hp := beV_pos _ h (by simp)
    rw [beB_step hp, beV_snoc]
    have hc := oct_lt c
    rw [show (beV l * 256 + c.toNat) / 256 = beV l by omega, show (beV l * 256 + c.toNat) % 256 = c.toNat by omega, oct_of]
    by_cases hl : l = []
    · subst hl; rfl
    · rw [ih (by
        intro e
        apply h
        rw [List.head?_append, e]; rfl)]
theorem beV_lt (ts : List UInt8) : beV ts < 256 ^ ts.length := by
  revert ts
  refine snoc_ind (by simp [beV]) ?_
  · intro l c ih
    rw [beV_snoc, List.length_append, Nat.pow_add]
    have := oct_lt c
    simp
    omega
theorem beB_length {n k : Nat} (h : n < 256 ^ k) : (beB n).length ≤ k := by
  induction k generalizing n with
  | zero => 
    have : n = 0 := by simpa using h
    subst this; simp [beB_zero]
  | succ k ih =>
    rcases Nat.eq_zero_or_pos n with h0 | h0
    · subst h0; simp [beB_zero]
    · rw [beB_step h0]
      have := ih (n := n / 256) (by rw [Nat.pow_succ] at h; omega)
      simp; omega
theorem beB_ge {n : Nat} (h : 0 < n) : 256 ^ ((beB n).length - 1) ≤ n := by
  induction n using Nat.strongRecOn with
  | _ n ih =>
    rw [beB_step h]
    rcases Nat.eq_zero_or_pos (n / 256) with h1 | h1
    · rw [h1, beB_zero]; simp; omega
    · have hi := ih _ (Nat.div_lt_self h (by omega)) h1
      have hl : 0 < (beB (n / 256)).length := by
        rcases Nat.eq_zero_or_pos (beB (n / 256)).length with e | e
        · have e := List.eq_nil_of_length_eq_zero e
          have := beV_beB (n / 256)
          rw [e] at this
          simp [beV] at this
          omega
        · exact e
      obtain ⟨m, hm⟩ : ∃ m, (beB (n / 256)).length = m + 1 := ⟨(beB (n / 256)).length - 1, by omega⟩
      rw [List.length_append, hm]
      rw [hm] at hi
      simp at hi ⊢
      rw [Nat.pow_succ]
      omega

/-! Encodings. -/
def encB (ts : List UInt8) : List UInt8 := encU ts.length ++ ts
def encN (n : Nat) : List UInt8 := encB (beB n)
def encQ (neg : Bool) (n d : Nat) : List UInt8 := (if neg then 1 else 0) :: (encN n ++ encN d)

/-! A reader: the bytes that are left, the error. -/
abbrev RS := List UInt8 × Int
def okR (s : RS) : Prop := s.2 = 0 ∨ ((s.2 = 2 ∨ s.2 = 3 ∨ s.2 = 4) ∧ s.1 = [])
def uintS (max : Nat) (s : RS) : Nat × RS := if s.2 = 0 then ((rd max s.1).1, ((rd max s.1).2.2, (rd max s.1).2.1)) else (0, s)
def rawS (n : Nat) (s : RS) : List UInt8 × RS := if s.2 = 0 then (if s.1.length < n then ([], ([], 3)) else (s.1.take n, (s.1.drop n, 0))) else ([], s)
def bytesS (max : Nat) (s : RS) : List UInt8 × RS := rawS (uintS max s).1 (uintS max s).2
def natS (s : RS) : Nat × RS :=
  if (bytesS 8192 s).1.head? = some 0 then (0, ([], 2)) else (beV (bytesS 8192 s).1, (bytesS 8192 s).2)
/-- What is read behind a sign. -/
def restS (K : Bool → Nat → Nat → Bool) (neg : Bool) (s : RS) : Option (Bool × Nat × Nat) × RS :=
  if (natS (natS s).2).2.2 = 0 then
    (if K neg (natS s).1 (natS (natS s).2).1 = true then (some (neg, (natS s).1, (natS (natS s).2).1), (natS (natS s).2).2) else (none, ([], 2)))
  else (none, (natS (natS s).2).2)
/-- What is read as a fraction: sign, numerator, denominator. -/
def fracS (K : Bool → Nat → Nat → Bool) (s : RS) : Option (Bool × Nat × Nat) × RS :=
  match (rawS 1 s).1 with
  | [] => (none, (rawS 1 s).2)
  | c :: _ => if 1 < c.toNat then (none, ([], 2)) else restS K (c.toNat == 1) (rawS 1 s).2

theorem pair_eta {α : Type} {p : α × RS} (h : p.2.2 = 0) : p = (p.1, (p.2.1, 0)) := by
  obtain ⟨a, b, c⟩ := p
  simp at h
  rw [h]
theorem rs_eta {p : RS} (h : p.2 = 0) : p = (p.1, 0) := by
  obtain ⟨b, c⟩ := p
  simp at h
  rw [h]
section
variable {s : RS} {K : Bool → Nat → Nat → Bool}
theorem okR.stop (h : okR s) (h0 : s.2 ≠ 0) : s.1 = [] := by
  rcases h with h | h
  · exact absurd h h0
  · exact h.2
theorem uintS_ok (max : Nat) (h : okR s) : okR (uintS max s).2 := by
  unfold uintS
  split
  · rcases rd_cases max s.1 with ⟨n, r, e, _⟩ | ⟨e, h1, h2⟩
    · rw [e]; exact .inl rfl
    · rw [h1]; exact .inr ⟨h2, rfl⟩
  · exact h
theorem uintS_le (max : Nat) (s : RS) : (uintS max s).1 ≤ max := by
  unfold uintS
  split
  · rcases rd_cases max s.1 with ⟨n, r, e, _⟩ | ⟨e, h1, h2⟩
    · rw [e]; exact rd_le e
    · rw [h1]; exact Nat.zero_le _
  · exact Nat.zero_le _
theorem rawS_ok (n : Nat) (h : okR s) : okR (rawS n s).2 := by
  unfold rawS
  split
  · split
    · exact .inr ⟨.inr (.inl rfl), rfl⟩
    · exact .inl rfl
  · exact h
theorem bytesS_ok (max : Nat) (h : okR s) : okR (bytesS max s).2 := rawS_ok _ (uintS_ok max h)
theorem natS_ok (h : okR s) : okR (natS s).2 := by
  unfold natS
  split
  · exact .inr ⟨.inl rfl, rfl⟩
  · exact bytesS_ok _ h
theorem restS_ok (neg : Bool) (h : okR s) : okR (restS K neg s).2 := by
  unfold restS
  split
  · split
    · exact natS_ok (natS_ok h)
    · exact .inr ⟨.inl rfl, rfl⟩
  · exact natS_ok (natS_ok h)
theorem fracS_ok (h : okR s) : okR (fracS K s).2 := by
  unfold fracS
  split
  · exact rawS_ok _ h
  · split
    · exact .inr ⟨.inl rfl, rfl⟩
    · exact restS_ok _ (rawS_ok _ h)
/-! After an error nothing is read. -/
theorem uintS_stop {max : Nat} (h0 : s.2 ≠ 0) : uintS max s = (0, s) := if_neg h0
theorem rawS_stop {n : Nat} (h0 : s.2 ≠ 0) : rawS n s = ([], s) := if_neg h0
theorem bytesS_stop {max : Nat} (h0 : s.2 ≠ 0) : bytesS max s = ([], s) := by
  unfold bytesS
  rw [uintS_stop h0]
  exact rawS_stop h0
theorem natS_stop (h0 : s.2 ≠ 0) : natS s = (0, s) := by
  unfold natS
  rw [bytesS_stop h0]
  rfl
theorem restS_stop {neg : Bool} (h0 : s.2 ≠ 0) : restS K neg s = (none, s) := by
  unfold restS
  rw [natS_stop h0, natS_stop h0, if_neg h0]
theorem fracS_stop (h0 : s.2 ≠ 0) : fracS K s = (none, s) := by
  unfold fracS
  rw [rawS_stop h0]
/-! With an error nothing comes back. -/
theorem uintS_err {max : Nat} (h0 : (uintS max s).2.2 ≠ 0) : (uintS max s).1 = 0 := by
  unfold uintS at h0 ⊢
  split
  · next h =>
    rw [if_pos h] at h0
    rcases rd_cases max s.1 with ⟨n, r, e, _⟩ | ⟨e, h1, h2⟩
    · rw [e] at h0; exact absurd rfl h0
    · rw [h1]
  · rfl
theorem rawS_err {n : Nat} (h0 : (rawS n s).2.2 ≠ 0) : (rawS n s).1 = [] := by
  unfold rawS at h0 ⊢
  split
  · next h =>
    rw [if_pos h] at h0
    split
    · rfl
    · next h1 => rw [if_neg h1] at h0; exact absurd rfl h0
  · rfl
theorem bytesS_err {max : Nat} (h0 : (bytesS max s).2.2 ≠ 0) : (bytesS max s).1 = [] := rawS_err h0
theorem natS_err (h0 : (natS s).2.2 ≠ 0) : (natS s).1 = 0 := by
  unfold natS at h0 ⊢
  split
  · rfl
  · next h =>
    rw [if_neg h] at h0
    rw [bytesS_err h0]; rfl
end

/-! Reading what was encoded. -/
theorem uintS_enc {max n : Nat} (r : List UInt8) (h : n ≤ max) (hn : n < 18446744073709551616) : uintS max (encU n ++ r, 0) = (n, (r, 0)) := by
  unfold uintS
  rw [if_pos rfl, rd_enc r h hn]
theorem rawS_enc (ts r : List UInt8) : rawS ts.length (ts ++ r, 0) = (ts, (r, 0)) := by
  unfold rawS
  rw [if_pos rfl, if_neg (by simp)]
  simp
theorem bytesS_enc {max : Nat} (ts r : List UInt8) (h : ts.length ≤ max) (hn : ts.length < 18446744073709551616) : bytesS max (encB ts ++ r, 0) = (ts, (r, 0)) := by
  unfold bytesS encB
  rw [List.append_assoc, uintS_enc _ h hn]
  exact rawS_enc ts r
theorem natS_enc {n : Nat} (r : List UInt8) (h : (beB n).length ≤ 8192) : natS (encN n ++ r, 0) = (n, (r, 0)) := by
  unfold natS encN
  rw [bytesS_enc _ _ h (by omega), if_neg (beB_noLead n), beV_beB]
theorem restS_enc {K : Bool → Nat → Nat → Bool} {neg : Bool} {n d : Nat} (r : List UInt8) (hn : (beB n).length ≤ 8192) (hd : (beB d).length ≤ 8192) (hk : K neg n d = true) :
    restS K neg (encN n ++ (encN d ++ r), 0) = (some (neg, n, d), (r, 0)) := by
  unfold restS
  rw [natS_enc _ hn, natS_enc _ hd, if_pos rfl, if_pos hk]
theorem fracS_enc {K : Bool → Nat → Nat → Bool} {neg : Bool} {n d : Nat} (r : List UInt8) (hn : (beB n).length ≤ 8192) (hd : (beB d).length ≤ 8192) (hk : K neg n d = true) :
    fracS K (encQ neg n d ++ r, 0) = (some (neg, n, d), (r, 0)) := by
  have e : rawS 1 (encQ neg n d ++ r, 0) = ([if neg then 1 else 0], (encN n ++ (encN d ++ r), 0)) := by
    have := rawS_enc [if neg then 1 else 0] (encN n ++ (encN d ++ r))
    simpa [encQ] using this
  unfold fracS
  rw [e]
  cases neg
  · exact restS_enc r hn hd hk
  · exact restS_enc r hn hd hk

/-! What is read without an error is what was encoded. -/
theorem uintS_uniq {max n : Nat} {ts r : List UInt8} (h : uintS max (ts, 0) = (n, (r, 0))) : ts = encU n ++ r := by
  unfold uintS at h
  rw [if_pos rfl] at h
  simp only [Prod.mk.injEq] at h
  obtain ⟨h1, h2, h3⟩ := h
  exact rd_uniq (max := max) (by rw [← h1, ← h2, ← h3])
theorem rawS_uniq {n : Nat} {ts b r : List UInt8} (h : rawS n (ts, 0) = (b, (r, 0))) : ts = b ++ r ∧ b.length = n := by
  unfold rawS at h
  rw [if_pos rfl] at h
  split at h
  · simp at h
  · next h1 =>
    simp only [Prod.mk.injEq, and_true] at h
    obtain ⟨h2, h3⟩ := h
    exact ⟨by rw [← h2, ← h3]; exact (List.take_append_drop n ts).symm, by rw [← h2, List.length_take]; simp at h1; omega⟩
theorem okR_start (ts : List UInt8) : okR (ts, 0) := .inl rfl
theorem bytesS_uniq {max : Nat} {ts b r : List UInt8} (h : bytesS max (ts, 0) = (b, (r, 0))) : ts = encB b ++ r := by
  unfold bytesS at h
  have h0 : (uintS max (ts, 0)).2.2 = 0 := by
    by_cases e : (uintS max (ts, 0)).2.2 = 0
    · exact e
    · rw [rawS_stop e] at h
      have := congrArg (fun x => x.2.2) h
      exact absurd this e
  have e : uintS max (ts, 0) = ((uintS max (ts, 0)).1, ((uintS max (ts, 0)).2.1, 0)) := pair_eta h0
  have h1 := uintS_uniq e
  rw [show (uintS max (ts, 0)).2 = ((uintS max (ts, 0)).2.1, 0) from rs_eta h0] at h
  obtain ⟨h2, h3⟩ := rawS_uniq h
  unfold encB
  rw [h3, List.append_assoc, ← h2]
  exact h1
theorem natS_uniq {n : Nat} {ts r : List UInt8} (h : natS (ts, 0) = (n, (r, 0))) : ts = encN n ++ r ∧ (beB n).length ≤ 8192 := by
  unfold natS at h
  split at h
  · simp at h
  · next h1 =>
    simp only [Prod.mk.injEq] at h
    obtain ⟨h2, h3⟩ := h
    have e : bytesS 8192 (ts, 0) = ((bytesS 8192 (ts, 0)).1, (r, 0)) := by rw [← h3]
    have h4 := bytesS_uniq e
    have hb : beB n = (bytesS 8192 (ts, 0)).1 := by rw [← h2]; exact beB_uniq _ h1
    refine ⟨by unfold encN; rw [hb]; exact h4, ?_⟩
    rw [hb]
    have h5 : rawS (uintS 8192 (ts, 0)).1 (uintS 8192 (ts, 0)).2 = ((bytesS 8192 (ts, 0)).1, (r, 0)) := e
    have h6 : (uintS 8192 (ts, 0)).2.2 = 0 := by
      by_cases e : (uintS 8192 (ts, 0)).2.2 = 0
      · exact e
      · rw [rawS_stop e] at h5
        exact absurd (congrArg (fun x => x.2.2) h5) e
    rw [show (uintS 8192 (ts, 0)).2 = ((uintS 8192 (ts, 0)).2.1, 0) from rs_eta h6] at h5
    have := (rawS_uniq h5).2
    have := uintS_le 8192 (ts, 0)
    omega
theorem restS_uniq {K : Bool → Nat → Nat → Bool} {neg : Bool} {q : Option (Bool × Nat × Nat)} {ts r : List UInt8} (h : restS K neg (ts, 0) = (q, (r, 0))) :
    ∃ n d, q = some (neg, n, d) ∧ ts = encN n ++ (encN d ++ r) ∧ K neg n d = true ∧ (beB n).length ≤ 8192 ∧ (beB d).length ≤ 8192 := by
  unfold restS at h
  split at h
  · next h1 =>
    split at h
    · next h2 =>
      simp only [Prod.mk.injEq] at h
      obtain ⟨h3, h4⟩ := h
      have h5 : (natS (ts, 0)).2.2 = 0 := by
        by_cases e : (natS (ts, 0)).2.2 = 0
        · exact e
        · rw [natS_stop e] at h1; exact absurd h1 e
      have e : natS (ts, 0) = ((natS (ts, 0)).1, ((natS (ts, 0)).2.1, 0)) := pair_eta h5
      have h6 := natS_uniq e
      have e2 : (natS (ts, 0)).2 = ((natS (ts, 0)).2.1, 0) := rs_eta h5
      have e3 : natS ((natS (ts, 0)).2.1, 0) = ((natS (natS (ts, 0)).2).1, (r, 0)) := by rw [← e2, ← h4]
      have h7 := natS_uniq e3
      exact ⟨_, _, h3.symm, by rw [← h7.1]; exact h6.1, h2, h6.2, h7.2⟩
    · simp at h
  · next h1 =>
    simp only [Prod.mk.injEq] at h
    exact absurd (congrArg (fun x => x.2) h.2) h1
theorem fracS_uniq {K : Bool → Nat → Nat → Bool} {q : Option (Bool × Nat × Nat)} {ts r : List UInt8} (h : fracS K (ts, 0) = (q, (r, 0))) :
    ∃ neg n d, q = some (neg, n, d) ∧ ts = encQ neg n d ++ r ∧ K neg n d = true ∧ (beB n).length ≤ 8192 ∧ (beB d).length ≤ 8192 := by
  cases ts with
  | nil => simp [fracS, rawS] at h
  | cons c ts =>
    have e : rawS 1 (c :: ts, 0) = ([c], (ts, 0)) := rawS_enc [c] ts
    unfold fracS at h
    rw [e] at h
    have h : (if 1 < c.toNat then (none, ([], 2)) else restS K (c.toNat == 1) (ts, 0)) = (q, (r, 0)) := h
    split at h
    · simp at h
    · next hc =>
      obtain ⟨n, d, h1, h2, h3, h4, h5⟩ := restS_uniq h
      refine ⟨_, n, d, h1, ?_, h3, h4, h5⟩
      unfold encQ
      rw [h2]
      have : c = if (c.toNat == 1) = true then 1 else 0 := by
        apply UInt8.toNat.inj
        by_cases h6 : c.toNat = 1
        · simp [h6]
        · simp [h6]; omega
      rw [← this]
      simp

/-! What is cut off ends early. -/
theorem uintS_cut {max n j : Nat} (hn : n < 18446744073709551616) (hj : j < (encU n).length) : uintS max ((encU n).take j, 0) = (0, ([], 3)) := by
  unfold uintS
  rw [if_pos rfl, rd_cut hn hj]
theorem bytesS_cut {max j : Nat} {b : List UInt8} (h : b.length ≤ max) (hn : b.length < 18446744073709551616) (hj : j < (encB b).length) : bytesS max ((encB b).take j, 0) = ([], ([], 3)) := by
  unfold bytesS encB at *
  rcases Nat.lt_or_ge j (encU b.length).length with h1 | h1
  · rw [List.take_append_of_le_length (by omega), uintS_cut hn h1]
    rfl
  · obtain ⟨i, rfl⟩ : ∃ i, j = (encU b.length).length + i := ⟨j - (encU b.length).length, by omega⟩
    rw [List.take_append, List.take_of_length_le (by omega), Nat.add_sub_cancel_left, uintS_enc _ h hn]
    rw [List.length_append] at hj
    unfold rawS
    rw [if_pos rfl, if_pos (by rw [List.length_take]; omega)]
theorem natS_cut {n j : Nat} (h : (beB n).length ≤ 8192) (hj : j < (encN n).length) : natS ((encN n).take j, 0) = (0, ([], 3)) := by
  unfold natS encN at *
  rw [bytesS_cut h (by omega) hj]
  rfl
theorem restS_cut {K : Bool → Nat → Nat → Bool} {neg : Bool} {n d j : Nat} (hn : (beB n).length ≤ 8192) (hd : (beB d).length ≤ 8192) (hj : j < (encN n ++ encN d).length) :
    restS K neg ((encN n ++ encN d).take j, 0) = (none, ([], 3)) := by
  unfold restS
  rcases Nat.lt_or_ge j (encN n).length with h1 | h1
  · rw [List.take_append_of_le_length (by omega), natS_cut hn h1, natS_stop (by decide)]
    rfl
  · obtain ⟨i, rfl⟩ : ∃ i, j = (encN n).length + i := ⟨j - (encN n).length, by omega⟩
    rw [List.length_append] at hj
    rw [List.take_append, List.take_of_length_le (by omega), Nat.add_sub_cancel_left, natS_enc _ hn, natS_cut hd (by omega)]
    rfl
theorem fracS_cut {K : Bool → Nat → Nat → Bool} {neg : Bool} {n d j : Nat} (hn : (beB n).length ≤ 8192) (hd : (beB d).length ≤ 8192) (hj : j < (encQ neg n d).length) :
    fracS K ((encQ neg n d).take j, 0) = (none, ([], 3)) := by
  cases j with
  | zero => rfl
  | succ j =>
    have e : rawS 1 ((encQ neg n d).take (j + 1), 0) = ([if neg then 1 else 0], ((encN n ++ encN d).take j, 0)) := by
      have := rawS_enc [if neg then 1 else 0] ((encN n ++ encN d).take j)
      simpa [encQ] using this
    have hj' : j < (encN n ++ encN d).length := by simpa [encQ] using hj
    unfold fracS
    rw [e]
    cases neg
    · exact restS_cut hn hd hj'
    · exact restS_cut hn hd hj'
end Dig
end Go.Proofs.YtckomifecmemnaaGreat

/- Plain lemmas: the bytes of a number out of its digits. -/
namespace Go.Proofs.YtckomifecmemnaaGreat
namespace Dig
theorem beB_get (n : Nat) : ∀ i, i < (beB n).length → (beB n).getD i 0 = oct (n / 256 ^ ((beB n).length - 1 - i) % 256) := by
  induction n using Nat.strongRecOn with
  | _ n ih =>
    intro i hi
    rcases Nat.eq_zero_or_pos n with h | h
    · subst h; simp [beB_zero] at hi
    · rw [beB_step h] at hi ⊢
      rw [List.length_append, List.length_singleton] at hi ⊢
      rcases Nat.lt_or_ge i (beB (n / 256)).length with h1 | h1
      · have := ih (n / 256) (Nat.div_lt_self h (by omega)) i h1
        rw [List.getD_eq_getElem?_getD, List.getElem?_append_left h1, ← List.getD_eq_getElem?_getD, this, Nat.div_div_eq_div_mul, ← Nat.pow_succ']
        congr 4
        omega
      · have : i = (beB (n / 256)).length := by omega
        subst this
        rw [List.getD_eq_getElem?_getD, List.getElem?_append_right (Nat.le_refl _)]
        simp
theorem digit_at (xs : List Nat) (hs : ∀ d ∈ xs, d < 4294967296) (q : Nat) : val xs / 4294967296 ^ q % 4294967296 = xs.getD q 0 := by
  induction xs generalizing q with
  | nil => simp [val]
  | cons d ds ih =>
    have hd := hs d (by simp)
    cases q with
    | zero => simp [val]; omega
    | succ q =>
      have := ih (fun e he => hs e (by simp [he])) q
      rw [Nat.pow_succ', ← Nat.div_div_eq_div_mul]
      have e : val (d :: ds) / 4294967296 = val ds := by simp only [val]; omega
      rw [e, this]
      simp
theorem byte_at (xs : List Nat) (hs : ∀ d ∈ xs, d < 4294967296) (p : Nat) : val xs / 256 ^ p % 256 = xs.getD (p / 4) 0 / 256 ^ (p % 4) % 256 := by
  have h := digit_at xs hs (p / 4)
  have e : 256 ^ p = 4294967296 ^ (p / 4) * 256 ^ (p % 4) := by
    rw [show (4294967296 : Nat) = 256 ^ 4 from rfl, ← Nat.pow_mul, ← Nat.pow_add]
    congr 1
    omega
  rw [e, ← Nat.div_div_eq_div_mul]
  generalize val xs / 4294967296 ^ (p / 4) = m at *
  rw [← h]
  have : p % 4 = 0 ∨ p % 4 = 1 ∨ p % 4 = 2 ∨ p % 4 = 3 := by omega
  rcases this with h | h | h | h <;> rw [h] <;> simp <;> omega
theorem beB_len (n : Nat) : (beB n).length = (nbits n + 7) / 8 := by
  rcases Nat.eq_zero_or_pos n with h | h
  · subst h; rfl
  · have h1 := beB_ge h
    have h2 := beV_lt (beB n)
    rw [beV_beB] at h2
    obtain ⟨h3, h4⟩ := nbits_le n h
    have h5 := nbits_lt n
    have hl : 0 < (beB n).length := by
      rcases Nat.eq_zero_or_pos (beB n).length with e | e
      · rw [e] at h2; simp at h2; omega
      · exact e
    generalize (beB n).length = L at *
    rw [show (256 : Nat) = 2 ^ 8 from rfl, ← Nat.pow_mul] at h1 h2
    have a := (Nat.pow_lt_pow_iff_right (by omega : 1 < 2)).1 (Nat.lt_of_le_of_lt h1 h5)
    have b := (Nat.pow_lt_pow_iff_right (by omega : 1 < 2)).1 (Nat.lt_of_le_of_lt h4 h2)
    omega
theorem beB_short {n k : Nat} (h : n < 4294967296 ^ k) : (beB n).length ≤ 4 * k := by
  refine beB_length ?_
  rw [show (4294967296 : Nat) = 256 ^ 4 from rfl, ← Nat.pow_mul] at h
  exact h
/-- The bytes of a number so far: k of them, then zeros. -/
def beP (n k : Nat) : List UInt8 := (beB n).take k ++ List.replicate ((beB n).length - k) 0
theorem beP_zero (n : Nat) : beP n 0 = List.replicate (beB n).length 0 := by simp [beP]
theorem beP_all (n : Nat) : beP n (beB n).length = beB n := by simp [beP]
theorem beP_length (n k : Nat) (h : k ≤ (beB n).length) : (beP n k).length = (beB n).length := by simp [beP]; omega
theorem beP_step (n k : Nat) (h : k < (beB n).length) : (beP n k).set k ((beB n).getD k 0) = beP n (k + 1) := by
  unfold beP
  have hl : ((beB n).take k).length = k := by rw [List.length_take]; omega
  rw [List.set_append_right _ _ (by omega), hl, Nat.sub_self, show (beB n).length - k = ((beB n).length - (k + 1)) + 1 by omega, List.replicate_succ, List.set_cons_zero, List.take_succ_eq_append_getElem h, List.append_assoc]
  simp [List.getD_eq_getElem?_getD, h]
end Dig
end Go.Proofs.YtckomifecmemnaaGreat

/- Plain lemmas: a number is read without a bound, byte by byte. -/
namespace Go.Proofs.YtckomifecmemnaaGreat
namespace Dig
/-- The greatest uint64. -/
def maxU : Nat := 18446744073709551615
theorem pow_fit {i : Nat} (h : i ≤ 9) : 128 ^ i ≤ 9223372036854775808 := by
  have : 128 ^ i ≤ 128 ^ 9 := Nat.pow_le_pow_right (by omega) h
  simpa using this
theorem rdF_pu (max : Nat) : ∀ (k i acc : Nat) (ts : List UInt8), k + i = 10 → acc < 128 ^ i →
    rdF max k i acc ts = if (rdF maxU k i acc ts).2.1 = 0 then (if max < (rdF maxU k i acc ts).1 then (0, 4, []) else rdF maxU k i acc ts) else (0, (rdF maxU k i acc ts).2.1, []) := by
  intro k
  induction k with
  | zero => intro i acc ts _ _; rfl
  | succ k ih =>
    intro i acc ts hk ha
    cases ts with
    | nil => rfl
    | cons c ts =>
      unfold rdF
      by_cases hc : 128 ≤ c.toNat
      · rw [if_pos hc, if_pos hc]
        refine ih _ _ _ (by omega) ?_
        have hl := oct_lt c
        rw [Nat.pow_succ]
        have : (c.toNat - 128) * 128 ^ i ≤ 127 * 128 ^ i := Nat.mul_le_mul_right _ (by omega)
        omega
      · rw [if_neg hc, if_neg hc]
        by_cases h1 : c.toNat = 0 ∧ 0 < i ∨ i = 9 ∧ 1 < c.toNat
        · rw [if_pos h1, if_pos h1]; rfl
        · rw [if_neg h1, if_neg h1]
          have hb : ¬ maxU < acc + c.toNat * 128 ^ i := by
            unfold maxU
            by_cases h9 : i = 9
            · subst h9
              have hc1 : c.toNat ≤ 1 := by omega
              have : c.toNat * 128 ^ 9 ≤ 1 * 128 ^ 9 := Nat.mul_le_mul_right _ hc1
              omega
            · have h8 := pow_fit (show i + 1 ≤ 9 by omega)
              rw [Nat.pow_succ] at h8
              have : c.toNat * 128 ^ i ≤ 127 * 128 ^ i := Nat.mul_le_mul_right _ (by omega)
              omega
          rw [if_neg hb, if_pos rfl]
/-- What is read below a bound, out of what is read without one. -/
theorem rd_pu (max : Nat) (ts : List UInt8) : rd max ts = if (rd maxU ts).2.1 = 0 then (if max < (rd maxU ts).1 then (0, 4, []) else rd maxU ts) else (0, (rd maxU ts).2.1, []) := rdF_pu max 10 0 0 ts rfl (by simp)
/-- The number at the beginning of ts, how many bytes it takes, the error. -/
def PU (ts : List UInt8) (n size : Nat) (err : Int) : Prop := (err = 0 ∧ rd maxU ts = (n, 0, ts.drop size) ∧ size ≤ ts.length ∧ n < 18446744073709551616) ∨ (n = 0 ∧ size = 0 ∧ err ≠ 0 ∧ rd maxU ts = (0, err, []))
/-- What a loop over the bytes has come to: k bytes, each with more behind it. -/
def At (ts : List UInt8) (k acc : Nat) : Prop := k ≤ 10 ∧ k ≤ ts.length ∧ acc < 128 ^ k ∧ rd maxU ts = rdF maxU (10 - k) k acc (ts.drop k)
theorem At.start (ts : List UInt8) : At ts 0 0 := ⟨by omega, by omega, by simp, rfl⟩
theorem At.unfold {ts : List UInt8} {k acc : Nat} (h : At ts k acc) (hk : k < 10) (hl : k < ts.length) : rd maxU ts = rdF maxU (10 - (k + 1) + 1) k acc (ts.getD k 0 :: ts.drop (k + 1)) := by
  obtain ⟨h1, h2, h3, h4⟩ := h
  rw [h4, show 10 - k = 10 - (k + 1) + 1 by omega, List.drop_eq_getElem_cons hl]
  simp [List.getD_eq_getElem?_getD, hl]
theorem At.more {ts : List UInt8} {k acc c : Nat} (h : At ts k acc) (hk : k < 10) (hl : k < ts.length) (hc : (ts.getD k 0).toNat = c) (h128 : 128 ≤ c) : At ts (k + 1) (acc + (c - 128) * 128 ^ k) := by
  have hu := h.unfold hk hl
  have hb := oct_lt (ts.getD k 0)
  refine ⟨by omega, hl, ?_, ?_⟩
  · have h3 := h.2.2.1
    rw [Nat.pow_succ]
    have : (c - 128) * 128 ^ k ≤ 127 * 128 ^ k := Nat.mul_le_mul_right _ (by omega)
    omega
  · rw [hu]
    conv => lhs; unfold rdF
    rw [hc, if_pos h128]
theorem At.bad {ts : List UInt8} {k acc c : Nat} (h : At ts k acc) (hk : k < 10) (hl : k < ts.length) (hc : (ts.getD k 0).toNat = c) (h128 : c < 128) (hb : c = 0 ∧ 0 < k ∨ k = 9 ∧ 1 < c) : rd maxU ts = (0, 2, []) := by
  rw [h.unfold hk hl]
  unfold rdF
  rw [hc, if_neg (by omega), if_pos hb]
theorem At.good {ts : List UInt8} {k acc c : Nat} (h : At ts k acc) (hk : k < 10) (hl : k < ts.length) (hc : (ts.getD k 0).toNat = c) (h128 : c < 128) (hb : ¬ (c = 0 ∧ 0 < k ∨ k = 9 ∧ 1 < c)) :
    acc + c * 128 ^ k < 18446744073709551616 ∧ rd maxU ts = (acc + c * 128 ^ k, 0, ts.drop (k + 1)) := by
  have hlt : acc + c * 128 ^ k < 18446744073709551616 := by
    have h3 := h.2.2.1
    by_cases h9 : k = 9
    · subst h9
      have hc1 : c ≤ 1 := by omega
      have : c * 128 ^ 9 ≤ 1 * 128 ^ 9 := Nat.mul_le_mul_right _ hc1
      omega
    · have h8 := pow_fit (show k + 1 ≤ 9 by omega)
      rw [Nat.pow_succ] at h8
      have : c * 128 ^ k ≤ 127 * 128 ^ k := Nat.mul_le_mul_right _ (by omega)
      omega
  refine ⟨hlt, ?_⟩
  rw [h.unfold hk hl]
  unfold rdF
  rw [hc, if_neg (by omega), if_neg hb, if_neg (by unfold maxU; omega)]
theorem At.short {ts : List UInt8} {acc : Nat} (h : At ts ts.length acc) (hk : ts.length < 10) : rd maxU ts = (0, 3, []) := by
  rw [h.2.2.2, List.drop_length, show 10 - ts.length = (9 - ts.length) + 1 by omega]
  rfl
theorem At.long {ts : List UInt8} {acc : Nat} (h : At ts 10 acc) : rd maxU ts = (0, 2, []) := by
  rw [h.2.2.2]
  rfl
theorem PU.nil {n size : Nat} {err : Int} (h : PU [] n size err) : n = 0 ∧ size = 0 ∧ err ≠ 0 ∧ rd maxU [] = (0, err, []) := by
  rcases h with ⟨_, h, _, _⟩ | h
  · have : rd maxU [] = (0, 3, []) := rfl
    rw [this] at h
    have : (3 : Int) = 0 := congrArg (fun x => x.2.1) h
    exact absurd this (by decide)
  · exact h
theorem uintS_len (max : Nat) (s : RS) : (uintS max s).2.1.length ≤ s.1.length := by
  unfold uintS
  split
  · rcases rd_cases max s.1 with ⟨n, r, e, h⟩ | ⟨e, h1, _⟩
    · rw [e]
      conv => rhs; rw [h]
      simp
    · rw [h1]; simp
  · exact Nat.le_refl _
theorem rawS_len (n : Nat) (s : RS) : (rawS n s).2.1.length ≤ s.1.length ∧ (rawS n s).1.length ≤ s.1.length := by
  unfold rawS
  split
  · split
    · simp
    · simp; omega
  · simp
theorem bytesS_len (max : Nat) (s : RS) : (bytesS max s).2.1.length ≤ s.1.length ∧ (bytesS max s).1.length ≤ s.1.length := by
  unfold bytesS
  have h1 := uintS_len max s
  have h2 := rawS_len (uintS max s).1 (uintS max s).2
  omega
theorem natS_len (s : RS) : (natS s).2.1.length ≤ s.1.length := by
  unfold natS
  split
  · simp
  · exact (bytesS_len 8192 s).1
theorem bytesS_max (max : Nat) (s : RS) : (bytesS max s).1.length ≤ max := by
  have h := uintS_le max s
  unfold bytesS rawS
  split
  · split
    · simp
    · simp; omega
  · simp
theorem natS_lt (s : RS) (K : Nat) (hK : 8192 ≤ 4 * K) : (natS s).1 < 4294967296 ^ K := by
  unfold natS
  split
  · exact Nat.pow_pos (by omega)
  · have h := beV_lt (bytesS 8192 s).1
    have h2 := bytesS_max 8192 s
    rw [show (4294967296 : Nat) = 256 ^ 4 from rfl, ← Nat.pow_mul]
    exact Nat.lt_of_lt_of_le h (Nat.pow_le_pow_right (by omega) (by omega))
/-- A read of a number, out of what is there without a bound. -/
theorem uintS_pu_good {max n size : Nat} {ts : List UInt8} (h : rd maxU ts = (n, 0, ts.drop size)) (hn : n ≤ max) : uintS max (ts, 0) = (n, (ts.drop size, 0)) := by
  unfold uintS
  rw [if_pos rfl, rd_pu, h, if_pos rfl, if_neg (by show ¬ max < n; omega)]
theorem uintS_pu_large {max n size : Nat} {ts : List UInt8} (h : rd maxU ts = (n, 0, ts.drop size)) (hn : max < n) : uintS max (ts, 0) = (0, ([], 4)) := by
  unfold uintS
  rw [if_pos rfl, rd_pu, h, if_pos rfl, if_pos hn]
theorem uintS_pu_bad {max : Nat} {err : Int} {ts : List UInt8} (h : rd maxU ts = (0, err, [])) (he : err ≠ 0) : uintS max (ts, 0) = (0, ([], err)) := by
  unfold uintS
  rw [if_pos rfl, rd_pu, h, if_neg he]
theorem rd_err {max : Nat} {err : Int} {ts : List UInt8} (h : rd max ts = (0, err, [])) (he : err ≠ 0) : err = 2 ∨ err = 3 ∨ err = 4 := by
  rcases rd_cases max ts with ⟨n, r, e, _⟩ | ⟨e, h1, h2⟩
  · rw [e] at h
    have := congrArg (fun x => x.2.1) h
    exact absurd this.symm he
  · rw [h1] at h
    have := congrArg (fun x => x.2.1) h
    have : e = err := this
    rw [← this]; exact h2
end Dig
end Go.Proofs.YtckomifecmemnaaGreat

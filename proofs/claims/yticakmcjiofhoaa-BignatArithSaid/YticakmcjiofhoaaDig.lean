/- Natural numbers as lists of digits to the base 2 to the power 32, least significant first: plain lemmas. -/
namespace Go.Proofs.Yticakmcjiofhoaa
namespace Dig

/-- The number that a list of digits denotes. -/
def val : List Nat → Nat
  | [] => 0
  | d :: ds => d + 4294967296 * val ds

def Small (xs : List Nat) : Prop := ∀ d ∈ xs, d < 4294967296

def dgF : Nat → Nat → List Nat
  | 0, _ => []
  | f + 1, n => if n = 0 then [] else n % 4294967296 :: dgF f (n / 4294967296)

/-- The canonical digits of a number. -/
def dg (n : Nat) : List Nat := dgF n n

theorem val_append (xs ys : List Nat) : val (xs ++ ys) = val xs + 4294967296 ^ xs.length * val ys := by
  induction xs with
  | nil => simp [val]
  | cons d ds ih => simp only [List.cons_append, val, ih, List.length_cons, Nat.pow_succ, Nat.mul_add]; rw [Nat.add_assoc, Nat.mul_comm (4294967296 ^ ds.length) 4294967296, Nat.mul_assoc]

theorem val_lt (xs : List Nat) (h : Small xs) : val xs < 4294967296 ^ xs.length := by
  induction xs with
  | nil => simp [val]
  | cons d ds ih =>
    have hd := h d (by simp)
    have hr := ih (fun e he => h e (by simp [he]))
    simp only [val, List.length_cons, Nat.pow_succ]
    omega

theorem Small.tail {d : Nat} {ds : List Nat} (h : Small (d :: ds)) : Small ds := fun e he => h e (by simp [he])
theorem Small.append {xs ys : List Nat} (h : Small xs) (k : Small ys) : Small (xs ++ ys) := by
  intro d hd
  rcases List.mem_append.1 hd with h1 | h1
  · exact h d h1
  · exact k d h1
theorem Small.take {xs : List Nat} (h : Small xs) (k : Nat) : Small (xs.take k) := fun d hd => h d (List.mem_of_mem_take hd)
theorem Small.drop {xs : List Nat} (h : Small xs) (k : Nat) : Small (xs.drop k) := fun d hd => h d (List.mem_of_mem_drop hd)
theorem Small.nil : Small [] := fun _ h => by simp at h
theorem Small.get {xs : List Nat} (h : Small xs) (i : Nat) : xs.getD i 0 < 4294967296 := by
  rw [List.getD_eq_getElem?_getD]
  rcases Nat.lt_or_ge i xs.length with hi | hi
  · rw [List.getElem?_eq_getElem hi]; exact h _ (List.getElem_mem hi)
  · rw [List.getElem?_eq_none hi]; simp
theorem Small.set {xs : List Nat} (h : Small xs) (i v : Nat) (hv : v < 4294967296) : Small (xs.set i v) := by
  intro d hd
  rcases List.mem_or_eq_of_mem_set hd with h1 | h1
  · exact h d h1
  · omega
theorem Small.replicate (n : Nat) : Small (List.replicate n 0) := fun d hd => by have := List.eq_of_mem_replicate hd; omega

theorem val_replicate (n : Nat) : val (List.replicate n 0) = 0 := by
  induction n with
  | zero => rfl
  | succ n ih => simp [List.replicate_succ, val, ih]

theorem val_take_drop (xs : List Nat) (k : Nat) (h : k ≤ xs.length) : val xs = val (xs.take k) + 4294967296 ^ k * val (xs.drop k) := by
  conv => lhs; rw [← List.take_append_drop k xs]
  rw [val_append, List.length_take, Nat.min_eq_left h]

theorem val_take_succ (xs : List Nat) (k : Nat) (h : k < xs.length) : val (xs.take (k + 1)) = val (xs.take k) + 4294967296 ^ k * xs.getD k 0 := by
  rw [List.take_succ_eq_append_getElem h, val_append, List.length_take, Nat.min_eq_left (by omega)]
  simp [val, List.getD_eq_getElem?_getD, List.getElem?_eq_getElem h]

theorem val_set (xs : List Nat) (i v : Nat) (h : i < xs.length) : val (xs.set i v) + 4294967296 ^ i * xs.getD i 0 = val xs + 4294967296 ^ i * v := by
  induction xs generalizing i with
  | nil => simp at h
  | cons d ds ih =>
    cases i with
    | zero => simp [val]; omega
    | succ i =>
      have := ih i (by simpa using h)
      simp only [List.set_cons_succ, val, List.getD_cons_succ, Nat.pow_succ]
      rw [Nat.mul_comm (4294967296 ^ i) 4294967296, Nat.mul_assoc, Nat.mul_assoc]
      omega

/-- Digits that are canonical are determined by their number. -/
def Canon (xs : List Nat) : Prop := Small xs ∧ xs.getLast? ≠ some 0

theorem val_pos_of_canon (xs : List Nat) (h : Canon xs) (hne : xs ≠ []) : 0 < val xs := by
  induction xs with
  | nil => exact absurd rfl hne
  | cons d ds ih =>
    cases ds with
    | nil =>
      have := h.2
      simp at this
      simp [val]; omega
    | cons e es =>
      have hc : Canon (e :: es) := ⟨h.1.tail, by have := h.2; simpa [List.getLast?_cons_cons] using this⟩
      have := ih hc (by simp)
      simp only [val] at this ⊢
      omega

theorem Canon.tail {d : Nat} {ds : List Nat} (h : Canon (d :: ds)) : Canon ds := by
  refine ⟨h.1.tail, ?_⟩
  cases ds with
  | nil => simp
  | cons e es => have := h.2; simpa [List.getLast?_cons_cons] using this

theorem dgF_canon (xs : List Nat) (h : Canon xs) (f : Nat) (hf : val xs ≤ f) : dgF f (val xs) = xs := by
  induction xs generalizing f with
  | nil => cases f <;> simp [val, dgF]
  | cons d ds ih =>
    have hp := val_pos_of_canon _ h (by simp)
    have hd := h.1 d (by simp)
    cases f with
    | zero => omega
    | succ f =>
      have e1 : val (d :: ds) % 4294967296 = d := by simp only [val]; omega
      have e2 : val (d :: ds) / 4294967296 = val ds := by simp only [val]; omega
      rw [dgF, if_neg (by omega), e1, e2, ih h.tail f (by simp only [val] at hf hp; omega)]

theorem dg_canon (xs : List Nat) (h : Canon xs) : dg (val xs) = xs := dgF_canon xs h _ (Nat.le_refl _)

theorem dgF_val (f n : Nat) (h : n ≤ f) : val (dgF f n) = n ∧ Canon (dgF f n) := by
  induction f generalizing n with
  | zero => simp [dgF, val]; exact ⟨by omega, Small.nil, by simp⟩
  | succ f ih =>
    rw [dgF]
    by_cases h0 : n = 0
    · rw [if_pos h0]; exact ⟨by simp [val, h0], Small.nil, by simp⟩
    · rw [if_neg h0]
      obtain ⟨h1, h2, h3⟩ := ih (n / 4294967296) (by omega)
      refine ⟨by simp only [val, h1]; omega, ?_, ?_⟩
      · intro d hd
        rcases List.mem_cons.1 hd with e | e
        · omega
        · exact h2 d e
      · cases hx : dgF f (n / 4294967296) with
        | nil =>
          rw [hx] at h1
          simp [val] at h1
          simp
          omega
        | cons e es => rw [hx] at h3; simpa [List.getLast?_cons_cons] using h3

theorem val_dg (n : Nat) : val (dg n) = n := (dgF_val n n (Nat.le_refl _)).1
theorem canon_dg (n : Nat) : Canon (dg n) := (dgF_val n n (Nat.le_refl _)).2
theorem small_dg (n : Nat) : Small (dg n) := (canon_dg n).1
theorem dg_zero : dg 0 = [] := rfl
theorem dg_inj {a b : Nat} (h : dg a = dg b) : a = b := by have := congrArg val h; rwa [val_dg, val_dg] at this
theorem dg_nil_iff (n : Nat) : dg n = [] ↔ n = 0 := ⟨fun h => by have := val_dg n; rw [h] at this; simpa [val] using this.symm, fun h => by rw [h]; rfl⟩

theorem val_zero_of (xs : List Nat) (h : ∀ j, j < xs.length → xs.getD j 0 = 0) : val xs = 0 := by
  induction xs with
  | nil => rfl
  | cons d ds ih =>
    have h0 := h 0 (by simp)
    simp at h0
    have := ih (fun j hj => by have := h (j + 1) (by simpa using hj); simpa using this)
    simp [val, h0, this]

/-- What is left behind the leading zeros is canonical. -/
theorem take_trim (xs : List Nat) (n : Nat) (hs : Small xs) (hn : n ≤ xs.length) (hz : ∀ j, n ≤ j → j < xs.length → xs.getD j 0 = 0) (hl : n = 0 ∨ xs.getD (n - 1) 0 ≠ 0) :
    xs.take n = dg (val xs) := by
  have hv : val xs = val (xs.take n) := by
    rw [val_take_drop xs n hn, val_zero_of (xs.drop n)]
    · simp
    · intro j hj
      rw [List.getD_eq_getElem?_getD, List.getElem?_drop, ← List.getD_eq_getElem?_getD]
      exact hz _ (by omega) (by rw [List.length_drop] at hj; omega)
  rw [hv, dg_canon]
  refine ⟨hs.take n, ?_⟩
  rcases hl with rfl | hl
  · simp
  · rcases Nat.eq_zero_or_pos n with rfl | hp
    · simp
    · rw [List.getLast?_eq_getElem?, List.length_take, Nat.min_eq_left hn, List.getElem?_take, if_pos (by omega)]
      rw [List.getD_eq_getElem?_getD] at hl
      intro he
      rw [he] at hl
      simp at hl

theorem pow_pos' (n : Nat) : 0 < 4294967296 ^ n := Nat.pow_pos (by omega)
theorem pow_le {a b : Nat} (h : a ≤ b) : 4294967296 ^ a ≤ 4294967296 ^ b := Nat.pow_le_pow_right (by omega) h

/-- The length of the canonical digits, from both sides. -/
theorem dg_length_le (n k : Nat) (h : n < 4294967296 ^ k) : (dg n).length ≤ k := by
  rcases Nat.lt_or_ge k (dg n).length with hlt | hge
  · exfalso
    have hc := canon_dg n
    have hv := val_dg n
    have hd := val_take_drop (dg n) k (by omega)
    have hpos : 0 < val ((dg n).drop k) := by
      apply val_pos_of_canon
      · refine ⟨hc.1.drop k, ?_⟩
        rw [List.getLast?_drop, if_neg (by omega)]
        exact hc.2
      · intro e
        have := congrArg List.length e
        rw [List.length_drop] at this
        simp at this
        omega
    have : 4294967296 ^ k * 1 ≤ 4294967296 ^ k * val ((dg n).drop k) := Nat.mul_le_mul_left _ hpos
    omega
  · exact hge
theorem dg_lt (n : Nat) : n < 4294967296 ^ (dg n).length := by have := val_lt _ (small_dg n); rwa [val_dg] at this
theorem dg_ge (n : Nat) (h : 0 < n) : 4294967296 ^ ((dg n).length - 1) ≤ n := by
  rcases Nat.lt_or_ge n (4294967296 ^ ((dg n).length - 1)) with hlt | hge
  · have := dg_length_le n _ hlt
    have h0 : (dg n).length ≠ 0 := by
      intro e
      have := (dg_nil_iff n).1 (List.eq_nil_of_length_eq_zero e)
      omega
    omega
  · exact hge
theorem dg_length_val (xs : List Nat) (h : Small xs) : (dg (val xs)).length ≤ xs.length := dg_length_le _ _ (val_lt xs h)
theorem getD_take (xs : List Nat) (k j : Nat) (h : j < k) : (xs.take k).getD j 0 = xs.getD j 0 := by
  simp [List.getD_eq_getElem?_getD, h]
/-- The canonical digits are the first of those that were given. -/
theorem dg_prefix_aux (n : Nat) : ∀ xs : List Nat, xs.length = n → Small xs → xs.take (dg (val xs)).length = dg (val xs) := by
  induction n with
  | zero => intro xs h _; have := List.eq_nil_of_length_eq_zero h; subst this; rfl
  | succ n ih =>
    intro xs h hs
    by_cases hl : xs.getD n 0 = 0
    · have hv : val xs = val (xs.take n) := by
        rw [val_take_drop xs n (by omega), val_zero_of (xs.drop n)]
        · simp
        · intro j hj
          rw [List.length_drop] at hj
          have : j = 0 := by omega
          subst this
          simpa [List.getD_eq_getElem?_getD, List.getElem?_drop] using hl
      have h1 := ih (xs.take n) (by rw [List.length_take]; omega) (hs.take n)
      rw [← hv] at h1
      have h2 : (dg (val xs)).length ≤ n := by have := congrArg List.length h1; simp at this; omega
      rw [List.take_take, Nat.min_eq_left h2] at h1
      exact h1
    · have h1 := take_trim xs (n + 1) hs (by omega) (fun j a b => by omega) (.inr (by simpa using hl))
      have h2 : (dg (val xs)).length = n + 1 := by rw [← h1, List.length_take]; omega
      rw [h2]
      exact h1
theorem dg_prefix (xs : List Nat) (hs : Small xs) : xs.take (dg (val xs)).length = dg (val xs) := dg_prefix_aux _ xs rfl hs
theorem dg_length_mono {a b : Nat} (h : a ≤ b) : (dg a).length ≤ (dg b).length := dg_length_le _ _ (Nat.lt_of_le_of_lt h (dg_lt b))

end Dig
end Go.Proofs.Yticakmcjiofhoaa

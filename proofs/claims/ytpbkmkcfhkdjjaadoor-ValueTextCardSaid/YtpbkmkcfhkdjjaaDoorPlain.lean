/- Natural numbers as lists of digits to the base 2 to the power 32, least significant first: plain lemmas. -/
import Derived.Lib.BitFns
namespace Go.Proofs.YtpbkmkcfhkdjjaaDoor
namespace Dig

/-- The number that a list of digits denotes. -/
def val : List Nat → Nat
  | [] => 0
  | d :: ds => d + 4294967296 * val ds

def Small (xs : List Nat) : Prop := ∀ d ∈ xs, d < 4294967296

def dgF : Nat → Nat → List Nat
  | 0, _ => []
  | f + 1, n => if n = 0 then [] else n % 4294967296 :: dgF f (n / 4294967296)

/-- The canonical digits of a number. -/
def dg (n : Nat) : List Nat := dgF n n

theorem val_append (xs ys : List Nat) : val (xs ++ ys) = val xs + 4294967296 ^ xs.length * val ys := by
  induction xs with
  | nil => simp [val]
  | cons d ds ih => simp only [List.cons_append, val, ih, List.length_cons, Nat.pow_succ, Nat.mul_add]; rw [Nat.add_assoc, Nat.mul_comm (4294967296 ^ ds.length) 4294967296, Nat.mul_assoc]

theorem val_lt (xs : List Nat) (h : Small xs) : val xs < 4294967296 ^ xs.length := by
  induction xs with
  | nil => simp [val]
  | cons d ds ih =>
    have hd := h d (by simp)
    have hr := ih (fun e he => h e (by simp [he]))
    simp only [val, List.length_cons, Nat.pow_succ]
    omega

theorem Small.tail {d : Nat} {ds : List Nat} (h : Small (d :: ds)) : Small ds := fun e he => h e (by simp [he])
theorem Small.append {xs ys : List Nat} (h : Small xs) (k : Small ys) : Small (xs ++ ys) := by
  intro d hd
  rcases List.mem_append.1 hd with h1 | h1
  · exact h d h1
  · exact k d h1
theorem Small.take {xs : List Nat} (h : Small xs) (k : Nat) : Small (xs.take k) := fun d hd => h d (List.mem_of_mem_take hd)
theorem Small.drop {xs : List Nat} (h : Small xs) (k : Nat) : Small (xs.drop k) := fun d hd => h d (List.mem_of_mem_drop hd)
theorem Small.nil : Small [] := fun _ h => by simp at h
theorem Small.get {xs : List Nat} (h : Small xs) (i : Nat) : xs.getD i 0 < 4294967296 := by
  rw [List.getD_eq_getElem?_getD]
  rcases Nat.lt_or_ge i xs.length with hi | hi
  · rw [List.getElem?_eq_getElem hi]; exact h _ (List.getElem_mem hi)
  · rw [List.getElem?_eq_none hi]; simp
theorem Small.set {xs : List Nat} (h : Small xs) (i v : Nat) (hv : v < 4294967296) : Small (xs.set i v) := by
  intro d hd
  rcases List.mem_or_eq_of_mem_set hd with h1 | h1
  · exact h d h1
  · omega
theorem Small.replicate (n : Nat) : Small (List.replicate n 0) := fun d hd => by have := List.eq_of_mem_replicate hd; omega

theorem val_replicate (n : Nat) : val (List.replicate n 0) = 0 := by
  induction n with
  | zero => rfl
  | succ n ih => simp [List.replicate_succ, val, ih]

theorem val_take_drop (xs : List Nat) (k : Nat) (h : k ≤ xs.length) : val xs = val (xs.take k) + 4294967296 ^ k * val (xs.drop k) := by
  conv => lhs; rw [← List.take_append_drop k xs]
  rw [val_append, List.length_take, Nat.min_eq_left h]

theorem val_take_succ (xs : List Nat) (k : Nat) (h : k < xs.length) : val (xs.take (k + 1)) = val (xs.take k) + 4294967296 ^ k * xs.getD k 0 := by
  rw [List.take_succ_eq_append_getElem h, val_append, List.length_take, Nat.min_eq_left (by omega)]
  simp [val, List.getD_eq_getElem?_getD, List.getElem?_eq_getElem h]

theorem val_set (xs : List Nat) (i v : Nat) (h : i < xs.length) : val (xs.set i v) + 4294967296 ^ i * xs.getD i 0 = val xs + 4294967296 ^ i * v := by
  induction xs generalizing i with
  | nil => simp at h
  | cons d ds ih =>
    cases i with
    | zero => simp [val]; omega
    | succ i =>
      have := ih i (by simpa using h)
      simp only [List.set_cons_succ, val, List.getD_cons_succ, Nat.pow_succ]
      rw [Nat.mul_comm (4294967296 ^ i) 4294967296, Nat.mul_assoc, Nat.mul_assoc]
      omega

/-- Digits that are canonical are determined by their number. -/
def Canon (xs : List Nat) : Prop := Small xs ∧ xs.getLast? ≠ some 0

theorem val_pos_of_canon (xs : List Nat) (h : Canon xs) (hne : xs ≠ []) : 0 < val xs := by
  induction xs with
  | nil => exact absurd rfl hne
  | cons d ds ih =>
    cases ds with
    | nil =>
      have := h.2
      simp at this
      simp [val]; omega
    | cons e es =>
      have hc : Canon (e :: es) := ⟨h.1.tail, by have := h.2; simpa [List.getLast?_cons_cons] using this⟩
      have := ih hc (by simp)
      simp only [val] at this ⊢
      omega

theorem Canon.tail {d : Nat} {ds : List Nat} (h : Canon (d :: ds)) : Canon ds := by
  refine ⟨h.1.tail, ?_⟩
  cases ds with
  | nil => simp
  | cons e es => have := h.2; simpa [List.getLast?_cons_cons] using this

theorem dgF_canon (xs : List Nat) (h : Canon xs) (f : Nat) (hf : val xs ≤ f) : dgF f (val xs) = xs := by
  induction xs generalizing f with
  | nil => cases f <;> simp [val, dgF]
  | cons d ds ih =>
    have hp := val_pos_of_canon _ h (by simp)
    have hd := h.1 d (by simp)
    cases f with
    | zero => omega
    | succ f =>
      have e1 : val (d :: ds) % 4294967296 = d := by simp only [val]; omega
      have e2 : val (d :: ds) / 4294967296 = val ds := by simp only [val]; omega
      rw [dgF, if_neg (by omega), e1, e2, ih h.tail f (by simp only [val] at hf hp; omega)]

theorem dg_canon (xs : List Nat) (h : Canon xs) : dg (val xs) = xs := dgF_canon xs h _ (Nat.le_refl _)

theorem dgF_val (f n : Nat) (h : n ≤ f) : val (dgF f n) = n ∧ Canon (dgF f n) := by
  induction f generalizing n with
  | zero => simp [dgF, val]; exact ⟨by omega, Small.nil, by simp⟩
  | succ f ih =>
    rw [dgF]
    by_cases h0 : n = 0
    · rw [if_pos h0]; exact ⟨by simp [val, h0], Small.nil, by simp⟩
    · rw [if_neg h0]
      obtain ⟨h1, h2, h3⟩ := ih (n / 4294967296) (by omega)
      refine ⟨by simp only [val, h1]; omega, ?_, ?_⟩
      · intro d hd
        rcases List.mem_cons.1 hd with e | e
        · omega
        · exact h2 d e
      · cases hx : dgF f (n / 4294967296) with
        | nil =>
          rw [hx] at h1
          simp [val] at h1
          simp
          omega
        | cons e es => rw [hx] at h3; simpa [List.getLast?_cons_cons] using h3

theorem val_dg (n : Nat) : val (dg n) = n := (dgF_val n n (Nat.le_refl _)).1
theorem canon_dg (n : Nat) : Canon (dg n) := (dgF_val n n (Nat.le_refl _)).2
theorem small_dg (n : Nat) : Small (dg n) := (canon_dg n).1
theorem dg_zero : dg 0 = [] := rfl
theorem dg_inj {a b : Nat} (h : dg a = dg b) : a = b := by have := congrArg val h; rwa [val_dg, val_dg] at this
theorem dg_nil_iff (n : Nat) : dg n = [] ↔ n = 0 := ⟨fun h => by have := val_dg n; rw [h] at this; simpa [val] using this.symm, fun h => by rw [h]; rfl⟩

theorem val_zero_of (xs : List Nat) (h : ∀ j, j < xs.length → xs.getD j 0 = 0) : val xs = 0 := by
  induction xs with
  | nil => rfl
  | cons d ds ih =>
    have h0 := h 0 (by simp)
    simp at h0
    have := ih (fun j hj => by have := h (j + 1) (by simpa using hj); simpa using this)
    simp [val, h0, this]

/-- What is left behind the leading zeros is canonical. -/
theorem take_trim (xs : List Nat) (n : Nat) (hs : Small xs) (hn : n ≤ xs.length) (hz : ∀ j, n ≤ j → j < xs.length → xs.getD j 0 = 0) (hl : n = 0 ∨ xs.getD (n - 1) 0 ≠ 0) :
    xs.take n = dg (val xs) := by
  have hv : val xs = val (xs.take n) := by
    rw [val_take_drop xs n hn, val_zero_of (xs.drop n)]
    · simp
    · intro j hj
      rw [List.getD_eq_getElem?_getD, List.getElem?_drop, ← List.getD_eq_getElem?_getD]
      exact hz _ (by omega) (by rw [List.length_drop] at hj; omega)
  rw [hv, dg_canon]
  refine ⟨hs.take n, ?_⟩
  rcases hl with rfl | hl
  · simp
  · rcases Nat.eq_zero_or_pos n with rfl | hp
    · simp
    · rw [List.getLast?_eq_getElem?, List.length_take, Nat.min_eq_left hn, List.getElem?_take, if_pos (by omega)]
      rw [List.getD_eq_getElem?_getD] at hl
      intro he
      rw [he] at hl
      simp at hl

theorem pow_pos' (n : Nat) : 0 < 4294967296 ^ n := Nat.pow_pos (by omega)
theorem pow_le {a b : Nat} (h : a ≤ b) : 4294967296 ^ a ≤ 4294967296 ^ b := Nat.pow_le_pow_right (by omega) h

/-- The length of the canonical digits, from both sides. -/
theorem dg_length_le (n k : Nat) (h : n < 4294967296 ^ k) : (dg n).length ≤ k := by
  rcases Nat.lt_or_ge k (dg n).length with hlt | hge
  · exfalso
    have hc := canon_dg n
    have hv := val_dg n
    have hd := val_take_drop (dg n) k (by omega)
    have hpos : 0 < val ((dg n).drop k) := by
      apply val_pos_of_canon
      · refine ⟨hc.1.drop k, ?_⟩
        rw [List.getLast?_drop, if_neg (by omega)]
        exact hc.2
      · intro e
        have := congrArg List.length e
        rw [List.length_drop] at this
        simp at this
        omega
    have : 4294967296 ^ k * 1 ≤ 4294967296 ^ k * val ((dg n).drop k) := Nat.mul_le_mul_left _ hpos
    omega
  · exact hge
theorem dg_lt (n : Nat) : n < 4294967296 ^ (dg n).length := by have := val_lt _ (small_dg n); rwa [val_dg] at this
theorem dg_ge (n : Nat) (h : 0 < n) : 4294967296 ^ ((dg n).length - 1) ≤ n := by
  rcases Nat.lt_or_ge n (4294967296 ^ ((dg n).length - 1)) with hlt | hge
  · have := dg_length_le n _ hlt
    have h0 : (dg n).length ≠ 0 := by
      intro e
      have := (dg_nil_iff n).1 (List.eq_nil_of_length_eq_zero e)
      omega
    omega
  · exact hge
theorem dg_length_val (xs : List Nat) (h : Small xs) : (dg (val xs)).length ≤ xs.length := dg_length_le _ _ (val_lt xs h)
theorem getD_take (xs : List Nat) (k j : Nat) (h : j < k) : (xs.take k).getD j 0 = xs.getD j 0 := by
  simp [List.getD_eq_getElem?_getD, h]
/-- The canonical digits are the first of those that were given. -/
theorem dg_prefix_aux (n : Nat) : ∀ xs : List Nat, xs.length = n → Small xs → xs.take (dg (val xs)).length = dg (val xs) := by
  induction n with
  | zero => intro xs h _; have := List.eq_nil_of_length_eq_zero h; subst this; rfl
  | succ n ih =>
    intro xs h hs
    by_cases hl : xs.getD n 0 = 0
    · have hv : val xs = val (xs.take n) := by
        rw [val_take_drop xs n (by omega), val_zero_of (xs.drop n)]
        · simp
        · intro j hj
          rw [List.length_drop] at hj
          have : j = 0 := by omega
          subst this
          simpa [List.getD_eq_getElem?_getD, List.getElem?_drop] using hl
      have h1 := ih (xs.take n) (by rw [List.length_take]; omega) (hs.take n)
      rw [← hv] at h1
      have h2 : (dg (val xs)).length ≤ n := by have := congrArg List.length h1; simp at this; omega
      rw [List.take_take, Nat.min_eq_left h2] at h1
      exact h1
    · have h1 := take_trim xs (n + 1) hs (by omega) (fun j a b => by omega) (.inr (by simpa using hl))
      have h2 : (dg (val xs)).length = n + 1 := by rw [← h1, List.length_take]; omega
      rw [h2]
      exact h1
theorem dg_prefix (xs : List Nat) (hs : Small xs) : xs.take (dg (val xs)).length = dg (val xs) := dg_prefix_aux _ xs rfl hs
theorem dg_length_mono {a b : Nat} (h : a ≤ b) : (dg a).length ≤ (dg b).length := dg_length_le _ _ (Nat.lt_of_le_of_lt h (dg_lt b))

end Dig
end Go.Proofs.YtpbkmkcfhkdjjaaDoor

/- Plain lemmas on digits: the order, the number of binary digits, sums and differences digit by digit. -/
namespace Go.Proofs.YtpbkmkcfhkdjjaaDoor
namespace Dig

/-- The order of numbers whose canonical digits are of different lengths. -/
theorem lt_of_dg_length {a b : Nat} (h : (dg a).length < (dg b).length) : a < b := by
  rcases Nat.lt_or_ge a b with h1 | h1
  · exact h1
  · have := dg_length_mono h1; omega

theorem getD_drop (xs : List Nat) (k j : Nat) : (xs.drop k).getD j 0 = xs.getD (k + j) 0 := by
  simp [List.getD_eq_getElem?_getD, List.getElem?_drop]

theorem ext_getD {xs ys : List Nat} (hl : xs.length = ys.length) (h : ∀ j, j < xs.length → xs.getD j 0 = ys.getD j 0) : xs = ys := by
  apply List.ext_getElem hl
  intro j h1 h2
  have := h j h1
  simpa [List.getD_eq_getElem?_getD, List.getElem?_eq_getElem h1, List.getElem?_eq_getElem h2] using this

/-- The order is that of the highest digits that differ. -/
theorem lt_of_digit (xs ys : List Nat) (hs : Small xs) (k : Nat) (hl : xs.length = ys.length) (hk : k < xs.length)
    (he : ∀ j, k < j → j < xs.length → xs.getD j 0 = ys.getD j 0) (hlt : xs.getD k 0 < ys.getD k 0) : val xs < val ys := by
  rw [val_take_drop xs (k + 1) (by omega), val_take_drop ys (k + 1) (by omega), val_take_succ xs k hk, val_take_succ ys k (by omega)]
  have e : xs.drop (k + 1) = ys.drop (k + 1) := by
    apply ext_getD (by simp; omega)
    intro j hj
    rw [List.length_drop] at hj
    rw [getD_drop, getD_drop]
    exact he _ (by omega) (by omega)
  rw [e]
  have h1 : val (xs.take k) < 4294967296 ^ k := by have := val_lt (xs.take k) (hs.take k); rwa [List.length_take, Nat.min_eq_left (by omega)] at this
  have h2 : 4294967296 ^ k * (xs.getD k 0 + 1) ≤ 4294967296 ^ k * ys.getD k 0 := Nat.mul_le_mul_left _ hlt
  rw [Nat.mul_add, Nat.mul_one] at h2
  omega

def cmpI (a b : Nat) : Int := if a < b then -1 else if a = b then 0 else 1
theorem cmpI_lt {a b : Nat} (h : a < b) : cmpI a b = -1 := by unfold cmpI; rw [if_pos h]
theorem cmpI_gt {a b : Nat} (h : b < a) : cmpI a b = 1 := by unfold cmpI; rw [if_neg (by omega), if_neg (by omega)]
theorem cmpI_eq (a : Nat) : cmpI a a = 0 := by unfold cmpI; rw [if_neg (by omega), if_pos rfl]
theorem cmpI_bd (a b : Nat) : -1 ≤ cmpI a b ∧ cmpI a b ≤ 1 := by unfold cmpI; split <;> (try split) <;> omega

/-- The number of binary digits. -/
def nbits (n : Nat) : Nat := if n = 0 then 0 else Nat.log2 n + 1
theorem nbits_zero : nbits 0 = 0 := rfl
theorem nbits_lt (n : Nat) : n < 2 ^ nbits n := by
  unfold nbits
  split
  · next h => subst h; simp
  · exact Nat.lt_log2_self
theorem nbits_le (n : Nat) (h : 0 < n) : 1 ≤ nbits n ∧ 2 ^ (nbits n - 1) ≤ n := by
  unfold nbits
  rw [if_neg (by omega)]
  exact ⟨by omega, by rw [Nat.add_sub_cancel]; exact Nat.log2_self_le (by omega)⟩
theorem nbits_unique (n k : Nat) (h1 : 2 ^ k ≤ n) (h2 : n < 2 ^ (k + 1)) : nbits n = k + 1 := by
  have hp : 0 < n := Nat.lt_of_lt_of_le (Nat.pow_pos (by omega)) h1
  obtain ⟨a, b⟩ := nbits_le n hp
  have c := nbits_lt n
  have d1 : nbits n - 1 < k + 1 := (Nat.pow_lt_pow_iff_right (by omega : 1 < 2)).1 (Nat.lt_of_le_of_lt b h2)
  have d2 : k < nbits n := (Nat.pow_lt_pow_iff_right (by omega : 1 < 2)).1 (Nat.lt_of_le_of_lt h1 c)
  omega

theorem bitLenAux_spec (f x : Nat) (h : x < 2 ^ f) : Lib.bitLenAux f x = nbits x := by
  induction f generalizing x with
  | zero => have : x = 0 := by simpa using h
            subst this; rfl
  | succ f ih =>
    unfold Lib.bitLenAux
    by_cases h0 : x = 0
    · subst h0; rfl
    · have hx : x / 2 < 2 ^ f := by rw [Nat.pow_succ] at h; omega
      have hi := ih (x / 2) hx
      first
        | rw [if_neg h0, hi]
        | (split; · contradiction
           rw [hi])
      by_cases h1 : x = 1
      · subst h1; rfl
      · obtain ⟨a, b⟩ := nbits_le (x / 2) (by omega)
        have c := nbits_lt (x / 2)
        obtain ⟨k, hk⟩ : ∃ k, nbits (x / 2) = k + 1 := ⟨nbits (x / 2) - 1, by omega⟩
        rw [hk] at b c ⊢
        rw [Nat.add_sub_cancel] at b
        have := nbits_unique x (k + 1) (by rw [Nat.pow_succ]; omega) (by rw [Nat.pow_succ]; omega)
        omega
theorem bitLen_eq (x : Nat) (h : x < 18446744073709551616) : Lib.bitLen x = nbits x := bitLenAux_spec 64 x (by simpa using h)

theorem nbits_mono {a b : Nat} (h : a ≤ b) : nbits a ≤ nbits b := by
  rcases Nat.eq_zero_or_pos a with h0 | h0
  · subst h0; simp [nbits_zero]
  · obtain ⟨h1, h2⟩ := nbits_le a h0
    have h3 := nbits_lt b
    have : nbits a - 1 < nbits b := (Nat.pow_lt_pow_iff_right (by omega : 1 < 2)).1 (by omega)
    omega

/-- The binary digits of a number out of those of its highest digit. -/
theorem nbits_val (xs : List Nat) (hs : Small xs) (n : Nat) (hn : xs.length = n + 1) (hp : 0 < xs.getD n 0) : nbits (val xs) = n * 32 + nbits (xs.getD n 0) := by
  have hv := val_take_succ xs n (by omega)
  rw [List.take_of_length_le (by omega)] at hv
  have hlt : val (xs.take n) < 4294967296 ^ n := by have := val_lt (xs.take n) (hs.take n); rwa [List.length_take, Nat.min_eq_left (by omega)] at this
  obtain ⟨h1, h2⟩ := nbits_le _ hp
  have h3 := nbits_lt (xs.getD n 0)
  obtain ⟨k, hk⟩ : ∃ k, nbits (xs.getD n 0) = k + 1 := ⟨nbits (xs.getD n 0) - 1, by omega⟩
  rw [hk] at h2 h3 ⊢
  rw [Nat.add_sub_cancel] at h2
  have hB : (4294967296 : Nat) ^ n = 2 ^ (n * 32) := by rw [show (4294967296 : Nat) = 2 ^ 32 from rfl, ← Nat.pow_mul, Nat.mul_comm]
  rw [hB] at hv hlt
  have l1 : 2 ^ (n * 32) * 2 ^ k ≤ 2 ^ (n * 32) * xs.getD n 0 := Nat.mul_le_mul_left _ h2
  have l2 : 2 ^ (n * 32) * (xs.getD n 0 + 1) ≤ 2 ^ (n * 32) * 2 ^ (k + 1) := Nat.mul_le_mul_left _ h3
  rw [← Nat.pow_add] at l1 l2
  rw [Nat.mul_add, Nat.mul_one] at l2
  have := nbits_unique (val xs) (n * 32 + k) (by omega) (by rw [Nat.add_assoc]; omega)
  omega

theorem nbits_dg_length (n : Nat) : nbits n ≤ 32 * (dg n).length := by
  rcases Nat.eq_zero_or_pos n with h | h
  · subst h; simp [nbits_zero]
  · obtain ⟨h1, h2⟩ := nbits_le n h
    have h3 := dg_lt n
    rw [show (4294967296 : Nat) = 2 ^ 32 from rfl, ← Nat.pow_mul] at h3
    have := (Nat.pow_lt_pow_iff_right (by omega : 1 < 2)).1 (Nat.lt_of_le_of_lt h2 h3)
    omega
/-- The highest of the canonical digits is not 0. -/
theorem dg_top (n k : Nat) (h : (dg n).length = k + 1) : 0 < (dg n).getD k 0 := by
  have hc := (canon_dg n).2
  rw [List.getLast?_eq_getElem?, h, Nat.add_sub_cancel] at hc
  rw [List.getD_eq_getElem?_getD]
  rw [List.getElem?_eq_getElem (by omega)] at hc ⊢
  simp at hc ⊢
  omega
theorem nbits_dg (n k : Nat) (h : (dg n).length = k + 1) : nbits n = k * 32 + nbits ((dg n).getD k 0) := by
  have := nbits_val (dg n) (small_dg n) k h (dg_top n k h)
  rwa [val_dg] at this
theorem val_len1 (l : List Nat) (h : l.length = 1) : val l = l.getD 0 0 := by
  match l, h with
  | [a], _ => simp [val]
theorem val_len2 (l : List Nat) (h : l.length = 2) : val l = l.getD 0 0 + 4294967296 * l.getD 1 0 := by
  match l, h with
  | [a, b], _ => simp [val]
theorem dg_len0 {n : Nat} (h : (dg n).length = 0) : n = 0 := (dg_nil_iff n).1 (List.eq_nil_of_length_eq_zero h)
theorem dg_len1 {n : Nat} (h : (dg n).length = 1) : n = (dg n).getD 0 0 := by have := val_len1 _ h; rwa [val_dg] at this
theorem dg_len2 {n : Nat} (h : (dg n).length = 2) : n = (dg n).getD 0 0 + 4294967296 * (dg n).getD 1 0 := by have := val_len2 _ h; rwa [val_dg] at this
theorem dg_len3 {n : Nat} (h : 2 < (dg n).length) : 18446744073709551616 ≤ n := by
  have hp : 0 < n := by
    rcases Nat.eq_zero_or_pos n with h0 | h0
    · subst h0; simp [dg_zero] at h
    · exact h0
  have h1 := dg_ge n hp
  have h2 := pow_le (show 2 ≤ (dg n).length - 1 by omega)
  omega
end Dig
end Go.Proofs.YtpbkmkcfhkdjjaaDoor

/- Plain lemmas: the number that decimal letters denote. -/
namespace Go.Proofs.YtpbkmkcfhkdjjaaDoor
namespace Dig

def isDig (c : UInt8) : Bool := decide (48 ≤ c.toNat) && decide (c.toNat ≤ 57)
def dec (l : List UInt8) : Nat := l.foldl (fun a c => a * 10 + (c.toNat - 48)) 0
theorem dec_snoc (l : List UInt8) (c : UInt8) : dec (l ++ [c]) = dec l * 10 + (c.toNat - 48) := by simp [dec]
theorem dec_nil : dec [] = 0 := rfl
theorem dec_from (r : List UInt8) : ∀ a : Nat, r.foldl (fun a c => a * 10 + (c.toNat - 48)) a = a * 10 ^ r.length + dec r := by
  induction r with
  | nil => intro a; simp [dec]
  | cons c r ih =>
    intro a
    simp only [List.foldl_cons, List.length_cons, dec]
    rw [ih, ih (0 * 10 + (c.toNat - 48)), Nat.pow_succ, Nat.add_mul, Nat.zero_mul, Nat.zero_add, Nat.mul_assoc, Nat.mul_comm 10]
    omega
theorem dec_append (l r : List UInt8) : dec (l ++ r) = dec l * 10 ^ r.length + dec r := by
  rw [dec, List.foldl_append, dec_from]
  rfl
theorem dec_lt (l : List UInt8) (h : ∀ c ∈ l, isDig c = true) : dec l < 10 ^ l.length := by
  induction l with
  | nil => simp [dec]
  | cons c l ih =>
    have hc := h c (by simp)
    simp only [isDig, Bool.and_eq_true, decide_eq_true_eq] at hc
    have hl := ih (fun d hd => h d (by simp [hd]))
    have e : c :: l = [c] ++ l := rfl
    rw [e, dec_append, List.length_append, Nat.pow_add]
    have e2 : dec [c] = c.toNat - 48 := by simp [dec]
    rw [e2]
    have : (c.toNat - 48) * 10 ^ l.length + 10 ^ l.length ≤ 10 * 10 ^ l.length := by
      rw [← Nat.succ_mul]
      exact Nat.mul_le_mul_right _ (by omega)
    simp only [List.length_singleton, Nat.pow_one]
    omega
theorem dec_take_succ (l : List UInt8) (j : Nat) (h : j < l.length) : dec (l.take (j + 1)) = dec (l.take j) * 10 + ((l.getD j 0).toNat - 48) := by
  rw [List.take_succ_eq_append_getElem h, dec_snoc]
  simp [List.getD_eq_getElem?_getD, h]
theorem dec_take_lt (l : List UInt8) (j n : Nat) (h : ∀ c ∈ l, isDig c = true) (hj : j ≤ n) : dec (l.take j) < 10 ^ n := by
  have h1 := dec_lt (l.take j) (fun c hc => h c (List.mem_of_mem_take hc))
  have h2 : (l.take j).length ≤ n := by rw [List.length_take]; omega
  exact Nat.lt_of_lt_of_le h1 (Nat.pow_le_pow_right (by omega) h2)
/-- Nine letters more (or the first ones). -/
theorem dec_group (l : List UInt8) (e : Nat) (he : e ≤ l.length) : dec (l.take e) = dec (l.take (e - 9)) * 1000000000 + dec ((l.drop (e - 9)).take (e - (e - 9))) := by
  have h : l.take e = l.take (e - 9) ++ (l.drop (e - 9)).take (e - (e - 9)) := by
    rw [← List.take_add]
    congr 1
    omega
  rw [h, dec_append]
  rcases Nat.lt_or_ge e 9 with h9 | h9
  · rw [show e - 9 = 0 by omega]; simp [dec_nil]
  · rw [List.length_take, List.length_drop, Nat.min_eq_left (by omega), show e - (e - 9) = 9 by omega]
/-- What isDecimal asks of digits: no leading zero but in 0 itself. -/
def lead (l : List UInt8) : Bool := l == [48] || (!l.isEmpty && l.headD 0 != 48)
/-- The decimal letters of a number. -/
def DecOf (l : List UInt8) (n : Nat) : Prop := (∀ c ∈ l, isDig c = true) ∧ dec l = n ∧ lead l = true
theorem dec_cons (c : UInt8) (l : List UInt8) : dec (c :: l) = (c.toNat - 48) * 10 ^ l.length + dec l := by
  have e : c :: l = [c] ++ l := rfl
  rw [e, dec_append]
  simp [dec]
theorem isDig_bd {c : UInt8} (h : isDig c = true) : 48 ≤ c.toNat ∧ c.toNat ≤ 57 := by
  simpa only [isDig, Bool.and_eq_true, decide_eq_true_eq] using h
/-- Letters of one length are determined by their number. -/
theorem dec_inj_length : ∀ (l r : List UInt8), l.length = r.length → (∀ c ∈ l, isDig c = true) → (∀ c ∈ r, isDig c = true) → dec l = dec r → l = r
  | [], [], _, _, _, _ => rfl
  | c :: l, d :: r, hl, h1, h2, he => by
    have hc := isDig_bd (h1 c (by simp))
    have hd := isDig_bd (h2 d (by simp))
    have hll : l.length = r.length := by simpa using hl
    have b1 := dec_lt l (fun x hx => h1 x (by simp [hx]))
    have b2 := dec_lt r (fun x hx => h2 x (by simp [hx]))
    rw [dec_cons, dec_cons, hll] at he
    rw [hll] at b1
    have hp : 0 < 10 ^ r.length := Nat.pow_pos (by omega)
    have e1 : c.toNat - 48 = d.toNat - 48 := by
      rcases Nat.lt_trichotomy (c.toNat - 48) (d.toNat - 48) with h | h | h
      · have := Nat.mul_le_mul_right (10 ^ r.length) (show c.toNat - 48 + 1 ≤ d.toNat - 48 from h)
        rw [Nat.add_mul] at this
        omega
      · exact h
      · have := Nat.mul_le_mul_right (10 ^ r.length) (show d.toNat - 48 + 1 ≤ c.toNat - 48 from h)
        rw [Nat.add_mul] at this
        omega
    rw [e1] at he
    have e2 : c = d := UInt8.toNat_inj.1 (by omega)
    rw [e2, dec_inj_length l r hll (fun x hx => h1 x (by simp [hx])) (fun x hx => h2 x (by simp [hx])) (by omega)]
theorem dec_lead_ge (c : UInt8) (l : List UInt8) (h : isDig c = true) (hc : c ≠ 48) : 10 ^ l.length ≤ dec (c :: l) := by
  have hb := isDig_bd h
  have hne : c.toNat ≠ 48 := fun e => hc (UInt8.toNat_inj.1 (by rw [e]; rfl))
  rw [dec_cons]
  have := Nat.mul_le_mul_right (10 ^ l.length) (show 1 ≤ c.toNat - 48 by omega)
  omega
/-- The decimal letters of a number are determined. -/
theorem DecOf.unique {l r : List UInt8} {n : Nat} (h : DecOf l n) (k : DecOf r n) : l = r := by
  obtain ⟨h1, h2, h3⟩ := h
  obtain ⟨k1, k2, k3⟩ := k
  have form : ∀ l : List UInt8, lead l = true → l = [48] ∨ ∃ c t, l = c :: t ∧ c ≠ 48 := by
    intro l hl
    cases l with
    | nil => simp [lead] at hl
    | cons c t =>
      simp [lead] at hl
      rcases hl with ⟨rfl, rfl⟩ | hl
      · exact .inl rfl
      · exact .inr ⟨c, t, rfl, hl⟩
  have z : dec [48] = 0 := rfl
  rcases form l h3 with rfl | ⟨c, t, rfl, hc⟩
  · rcases form r k3 with rfl | ⟨d, u, rfl, hd⟩
    · rfl
    · have := dec_lead_ge d u (k1 d (by simp)) hd
      have hp : 0 < 10 ^ u.length := Nat.pow_pos (by omega)
      omega
  · have g1 := dec_lead_ge c t (h1 c (by simp)) hc
    rcases form r k3 with rfl | ⟨d, u, rfl, hd⟩
    · have hp : 0 < 10 ^ t.length := Nat.pow_pos (by omega)
      omega
    · have g2 := dec_lead_ge d u (k1 d (by simp)) hd
      have b1 := dec_lt _ h1
      have b2 := dec_lt _ k1
      simp only [List.length_cons] at b1 b2
      have l1 : t.length < u.length + 1 := (Nat.pow_lt_pow_iff_right (by omega : 1 < 10)).1 (by omega)
      have l2 : u.length < t.length + 1 := (Nat.pow_lt_pow_iff_right (by omega : 1 < 10)).1 (by omega)
      exact dec_inj_length _ _ (by simp; omega) h1 k1 (by omega)

def dtextF : Nat → Nat → List UInt8
  | 0, _ => []
  | f + 1, n => if n = 0 then [] else dtextF f (n / 10) ++ [UInt8.ofNat (48 + n % 10)]
def dtext (n : Nat) : List UInt8 := if n = 0 then [48] else dtextF n n
theorem ofNat_digit (m : Nat) (h : m < 10) : (UInt8.ofNat (48 + m)).toNat = 48 + m := by
  rw [UInt8.toNat_ofNat']
  exact Nat.mod_eq_of_lt (by omega)
theorem isDig_digit (m : Nat) (h : m < 10) : isDig (UInt8.ofNat (48 + m)) = true := by
  rw [isDig, ofNat_digit m h]
  simp; omega
theorem dtextF_spec (f n : Nat) (h : n ≤ f) (hp : 0 < n) : (∀ c ∈ dtextF f n, isDig c = true) ∧ dec (dtextF f n) = n ∧ ∃ c t, dtextF f n = c :: t ∧ c ≠ 48 := by
  induction f generalizing n with
  | zero => omega
  | succ f ih =>
    rw [dtextF, if_neg (by omega)]
    have hm : n % 10 < 10 := Nat.mod_lt _ (by omega)
    rcases Nat.eq_zero_or_pos (n / 10) with h0 | h0
    · have e : dtextF f (n / 10) = [] := by rw [h0]; cases f <;> rfl
      rw [e]
      refine ⟨fun c hc => ?_, ?_, UInt8.ofNat (48 + n % 10), [], rfl, ?_⟩
      · rw [List.mem_singleton.1 hc]; exact isDig_digit _ hm
      · rw [dec_snoc, ofNat_digit _ hm, dec_nil]; omega
      · intro e
        have := congrArg UInt8.toNat e
        rw [ofNat_digit _ hm] at this
        have h48 : (48 : UInt8).toNat = 48 := rfl
        omega
    · obtain ⟨a, b, c, t, e, hc⟩ := ih (n / 10) (by omega) h0
      refine ⟨fun x hx => ?_, ?_, c, t ++ [UInt8.ofNat (48 + n % 10)], by rw [e]; rfl, hc⟩
      · rcases List.mem_append.1 hx with hx | hx
        · exact a x hx
        · rw [List.mem_singleton.1 hx]; exact isDig_digit _ hm
      · rw [dec_snoc, b, ofNat_digit _ hm]; omega
theorem dtext_spec (n : Nat) : DecOf (dtext n) n := by
  unfold dtext
  rcases Nat.eq_zero_or_pos n with h | h
  · rw [if_pos h, h]
    refine ⟨fun c hc => ?_, rfl, rfl⟩
    simp at hc
    rw [hc]; rfl
  · rw [if_neg (by omega)]
    obtain ⟨a, b, c, t, e, hc⟩ := dtextF_spec n n (Nat.le_refl _) h
    exact ⟨a, b, by rw [e]; simp [lead, hc]⟩
theorem DecOf.eq {l : List UInt8} {n : Nat} (h : DecOf l n) : l = dtext n := h.unique (dtext_spec n)
end Dig
end Go.Proofs.YtpbkmkcfhkdjjaaDoor

/- Plain lemmas: sums and differences, digit by digit, in place. -/
namespace Go.Proofs.YtpbkmkcfhkdjjaaDoor
namespace Dig

theorem take_set_succ (zs : List Nat) (k v : Nat) (hk : k < zs.length) : val ((zs.set k v).take (k + 1)) = val (zs.take k) + 4294967296 ^ k * v := by
  rw [val_take_succ _ k (by simpa using hk)]
  have h1 : (zs.set k v).take k = zs.take k := by
    apply List.ext_getElem?
    intro j
    rw [List.getElem?_take, List.getElem?_take]
    split
    · next h => rw [List.getElem?_set_ne (by omega)]
    · rfl
  rw [h1]
  simp [List.getD_eq_getElem?_getD, hk]
theorem getD_set_ne (zs : List Nat) (k v j : Nat) (h : j ≠ k) : (zs.set k v).getD j 0 = zs.getD j 0 := by
  simp [List.getD_eq_getElem?_getD, List.getElem?_set_ne (show k ≠ j by omega)]
theorem getD_set_same (zs : List Nat) (k v : Nat) (h : k < zs.length) : (zs.set k v).getD k 0 = v := by
  simp [List.getD_eq_getElem?_getD, h]
theorem take_all_getD (ys : List Nat) (k : Nat) : val (ys.take (k + 1)) = val (ys.take k) + 4294967296 ^ k * ys.getD k 0 := by
  rcases Nat.lt_or_ge k ys.length with h | h
  · exact val_take_succ ys k h
  · rw [List.take_of_length_le (by omega), List.take_of_length_le h, List.getD_eq_getElem?_getD, List.getElem?_eq_none h]
    simp

/-- After k digits of a sum in place: the digits below k are those of the sum but for the carry, those above are as they were. -/
def AddRel (xs ys zs : List Nat) (k c : Nat) : Prop :=
  zs.length = xs.length ∧ Small zs ∧ (∀ j, k ≤ j → zs.getD j 0 = xs.getD j 0) ∧ val (zs.take k) + 4294967296 ^ k * c = val (xs.take k) + val (ys.take k) ∧ c ≤ 1

theorem AddRel.start (xs ys : List Nat) (h : Small xs) : AddRel xs ys xs 0 0 := ⟨rfl, h, fun _ _ => rfl, by simp [val], by omega⟩
theorem AddRel.step {xs ys zs : List Nat} {k c x y : Nat} (h : AddRel xs ys zs k c) (hk : k < xs.length) (hx : zs.getD k 0 = x) (hy : ys.getD k 0 = y) (hyb : y < 4294967296) :
    AddRel xs ys (zs.set k ((c + (x + y)) % 4294967296)) (k + 1) ((c + (x + y)) / 4294967296) := by
  obtain ⟨hl, hs, ha, hv, hc⟩ := h
  have hx2 := hs.get k
  rw [hx] at hx2
  refine ⟨by simpa using hl, hs.set _ _ (Nat.mod_lt _ (by omega)), fun j hj => ?_, ?_, by omega⟩
  · rw [getD_set_ne _ _ _ _ (by omega)]
    exact ha j (by omega)
  · rw [take_set_succ _ _ _ (by omega), take_all_getD, take_all_getD, ← ha k (Nat.le_refl _), hx, hy, Nat.pow_succ]
    have e : (c + (x + y)) % 4294967296 + 4294967296 * ((c + (x + y)) / 4294967296) = c + (x + y) := Nat.mod_add_div _ _
    rw [Nat.mul_assoc, Nat.add_assoc, ← Nat.mul_add, e, Nat.mul_add, Nat.mul_add]
    omega
theorem AddRel.done {xs ys zs : List Nat} {k : Nat} (h : AddRel xs ys zs k 0) (hk : k ≤ xs.length) (hy : ys.length ≤ k) : val zs = val xs + val ys := by
  obtain ⟨hl, hs, ha, hv, hc⟩ := h
  rw [List.take_of_length_le hy] at hv
  rw [val_take_drop zs k (by omega), val_take_drop xs k hk]
  have e : zs.drop k = xs.drop k := by
    apply ext_getD (by simp; omega)
    intro j hj
    rw [getD_drop, getD_drop]
    exact ha _ (by omega)
  rw [e]
  omega
theorem AddRel.more {xs ys zs : List Nat} {k c : Nat} (h : AddRel xs ys zs k c) (hk : k ≤ xs.length) (hy : ys.length ≤ k) (hf : val xs + val ys < 4294967296 ^ xs.length) (hc0 : c ≠ 0) : k < xs.length ∧ c = 1 := by
  obtain ⟨hl, hs, ha, hv, hc⟩ := h
  refine ⟨?_, by omega⟩
  rcases Nat.lt_or_ge k xs.length with h1 | h1
  · exact h1
  · exfalso
    have hk' : k = xs.length := by omega
    subst hk'
    rw [List.take_of_length_le hy, List.take_of_length_le (Nat.le_refl _)] at hv
    have : c = 1 := by omega
    subst this
    omega

/-- The same for a difference, with a borrow. -/
def SubRel (xs ys zs : List Nat) (k c : Nat) : Prop :=
  zs.length = xs.length ∧ Small zs ∧ (∀ j, k ≤ j → zs.getD j 0 = xs.getD j 0) ∧ val (zs.take k) + val (ys.take k) = val (xs.take k) + 4294967296 ^ k * c ∧ c ≤ 1
theorem SubRel.start (xs ys : List Nat) (h : Small xs) : SubRel xs ys xs 0 0 := ⟨rfl, h, fun _ _ => rfl, by simp [val], by omega⟩
theorem SubRel.step {xs ys zs : List Nat} {k c x y d b : Nat} (h : SubRel xs ys zs k c) (hk : k < xs.length) (hx : zs.getD k 0 = x) (hy : ys.getD k 0 = y) (hd : d < 4294967296) (hb : b ≤ 1) (he : d + y + c = x + 4294967296 * b) :
    SubRel xs ys (zs.set k d) (k + 1) b := by
  obtain ⟨hl, hs, ha, hv, hc⟩ := h
  refine ⟨by simpa using hl, hs.set _ _ hd, fun j hj => ?_, ?_, hb⟩
  · rw [getD_set_ne _ _ _ _ (by omega)]
    exact ha j (by omega)
  · rw [take_set_succ _ _ _ (by omega), take_all_getD, take_all_getD, ← ha k (Nat.le_refl _), hx, hy, Nat.pow_succ, Nat.mul_assoc]
    have e : 4294967296 ^ k * (d + y + c) = 4294967296 ^ k * (x + 4294967296 * b) := by rw [he]
    rw [Nat.mul_add, Nat.mul_add, Nat.mul_add] at e
    omega
theorem SubRel.done {xs ys zs : List Nat} {k : Nat} (h : SubRel xs ys zs k 0) (hk : k ≤ xs.length) (hy : ys.length ≤ k) : val zs + val ys = val xs := by
  obtain ⟨hl, hs, ha, hv, hc⟩ := h
  rw [List.take_of_length_le hy] at hv
  rw [val_take_drop zs k (by omega), val_take_drop xs k hk]
  have e : zs.drop k = xs.drop k := by
    apply ext_getD (by simp; omega)
    intro j hj
    rw [getD_drop, getD_drop]
    exact ha _ (by omega)
  rw [e]
  omega
theorem SubRel.more {xs ys zs : List Nat} {k c : Nat} (h : SubRel xs ys zs k c) (hk : k ≤ xs.length) (hy : ys.length ≤ k) (hf : val ys ≤ val xs) (hc0 : c ≠ 0) : k < xs.length ∧ c = 1 := by
  obtain ⟨hl, hs, ha, hv, hc⟩ := h
  refine ⟨?_, by omega⟩
  rcases Nat.lt_or_ge k xs.length with h1 | h1
  · exact h1
  · exfalso
    have hk' : k = xs.length := by omega
    subst hk'
    rw [List.take_of_length_le hy, List.take_of_length_le (Nat.le_refl _)] at hv
    have hlt := val_lt (zs.take xs.length) (hs.take _)
    rw [List.length_take, Nat.min_eq_left (by omega)] at hlt
    have : c = 1 := by omega
    subst this
    omega
end Dig
end Go.Proofs.YtpbkmkcfhkdjjaaDoor

/- Plain lemmas: long multiplication, digit by digit. -/
namespace Go.Proofs.YtpbkmkcfhkdjjaaDoor
namespace Dig

/-- After i digits of b: what has been summed up. -/
def OutRel (ps qs zs : List Nat) (i : Nat) : Prop :=
  zs.length = ps.length + qs.length ∧ Small zs ∧ (∀ j, i + ps.length ≤ j → zs.getD j 0 = 0) ∧ val (zs.take (i + ps.length)) = val ps * val (qs.take i)
/-- After j digits of a, with digit d of b. -/
def InRel (ps zs0 zs : List Nat) (i d j c : Nat) : Prop :=
  zs.length = zs0.length ∧ Small zs ∧ (∀ t, i + j ≤ t → zs.getD t 0 = zs0.getD t 0) ∧ val (zs.take (i + j)) + 4294967296 ^ (i + j) * c = val (zs0.take (i + j)) + 4294967296 ^ i * (d * val (ps.take j)) ∧ c < 4294967296

theorem OutRel.start (ps qs : List Nat) : OutRel ps qs (List.replicate (ps.length + qs.length) 0) 0 := by
  refine ⟨by simp, Small.replicate _, fun j _ => ?_, ?_⟩
  · rw [List.getD_eq_getElem?_getD, List.getElem?_replicate]
    split <;> rfl
  · have := val_replicate (min (0 + ps.length) (ps.length + qs.length))
    rw [List.take_replicate, this]
    simp [val]
theorem InRel.start (ps zs : List Nat) (i d : Nat) (hs : Small zs) : InRel ps zs zs i d 0 0 := ⟨rfl, hs, fun _ _ => rfl, by simp [val], by omega⟩

theorem mul_le_digits {d e : Nat} (hd : d < 4294967296) (he : e < 4294967296) : d * e ≤ 18446744065119617025 := by
  have := Nat.mul_le_mul (show d ≤ 4294967295 by omega) (show e ≤ 4294967295 by omega)
  omega

theorem InRel.step {ps zs0 zs : List Nat} {i d j c e x : Nat} (h : InRel ps zs0 zs i d j c) (hi : i + j < zs0.length) (hd : d < 4294967296) (he : ps.getD j 0 = e) (hx : zs.getD (i + j) 0 = x) (heb : e < 4294967296) (hxb : x < 4294967296) :
    InRel ps zs0 (zs.set (i + j) ((c + (d * e + x)) % 4294967296)) i d (j + 1) ((c + (d * e + x)) / 4294967296) := by
  obtain ⟨hl, hs, ha, hv, hc⟩ := h
  have hm := mul_le_digits hd heb
  refine ⟨by simpa using hl, hs.set _ _ (Nat.mod_lt _ (by omega)), fun t ht => ?_, ?_, by omega⟩
  · rw [getD_set_ne _ _ _ _ (by omega)]
    exact ha t (by omega)
  · have e0 : (c + (d * e + x)) % 4294967296 + 4294967296 * ((c + (d * e + x)) / 4294967296) = c + (d * e + x) := Nat.mod_add_div _ _
    generalize (c + (d * e + x)) % 4294967296 = r at *
    generalize (c + (d * e + x)) / 4294967296 = s at *
    rw [← Nat.add_assoc, take_set_succ _ _ _ (by omega), take_all_getD zs0, take_all_getD ps, ← ha (i + j) (Nat.le_refl _), hx, he, Nat.pow_succ, Nat.mul_assoc]
    have e1 : 4294967296 ^ (i + j) * (r + 4294967296 * s) = 4294967296 ^ (i + j) * (c + (d * e + x)) := by rw [e0]
    have e2 : 4294967296 ^ i * (d * (val (ps.take j) + 4294967296 ^ j * e)) = 4294967296 ^ i * (d * val (ps.take j)) + 4294967296 ^ (i + j) * (d * e) := by
      rw [Nat.pow_add, Nat.mul_add, Nat.mul_add]
      congr 1
      rw [Nat.mul_assoc]
      congr 1
      exact Nat.mul_left_comm _ _ _
    rw [e2]
    rw [Nat.mul_add, Nat.mul_add, Nat.mul_add] at e1
    omega
theorem InRel.done {ps qs zs0 zs : List Nat} {i d c : Nat} (h : InRel ps zs0 zs i d ps.length c) (h0 : OutRel ps qs zs0 i) (hi : i < qs.length) (hd : qs.getD i 0 = d) : OutRel ps qs (zs.set (i + ps.length) c) (i + 1) := by
  obtain ⟨hl, hs, ha, hv, hc⟩ := h
  obtain ⟨hl0, hs0, hz0, hv0⟩ := h0
  refine ⟨by simp; omega, hs.set _ _ hc, fun j hj => ?_, ?_⟩
  · rw [getD_set_ne _ _ _ _ (by omega), ha _ (by omega)]
    exact hz0 _ (by omega)
  · rw [show i + 1 + ps.length = i + ps.length + 1 by omega, take_set_succ _ _ _ (by omega), hv, List.take_of_length_le (Nat.le_refl ps.length), hv0, val_take_succ qs i hi, hd, Nat.mul_add]
    congr 1
    rw [Nat.mul_comm d, ← Nat.mul_assoc, Nat.mul_comm (4294967296 ^ i), Nat.mul_assoc]
theorem OutRel.done {ps qs zs : List Nat} (h : OutRel ps qs zs qs.length) : val zs = val ps * val qs := by
  obtain ⟨hl, hs, hz, hv⟩ := h
  rw [List.take_of_length_le (by omega), List.take_of_length_le (Nat.le_refl _)] at hv
  exact hv
end Dig
end Go.Proofs.YtpbkmkcfhkdjjaaDoor

/- Plain lemmas: long division with estimated quotient digits. -/
namespace Go.Proofs.YtpbkmkcfhkdjjaaDoor
namespace Dig

theorem val_top (l : List Nat) (n : Nat) (h : l.length = n + 1) : val l = val (l.take n) + 4294967296 ^ n * l.getD n 0 := by
  have := val_take_succ l n (by omega)
  rwa [List.take_of_length_le (by omega)] at this
theorem take_lt (l : List Nat) (hs : Small l) (n : Nat) : val (l.take n) < 4294967296 ^ n := by
  have h := val_lt (l.take n) (hs.take n)
  exact Nat.lt_of_lt_of_le h (pow_le (by rw [List.length_take]; omega))

/-- The estimate out of the three highest digits of the dividend and the two of the divisor: what the loop keeps. -/
theorem est_upper {P D X q h top : Nat} (hD : h * X ≤ D) (hP : P < (top + 1) * X) (hq : q * D ≤ P) : q * h ≤ top := by
  have h1 : q * (h * X) ≤ q * D := Nat.mul_le_mul_left _ hD
  rw [← Nat.mul_assoc] at h1
  have h2 : q * h * X < (top + 1) * X := by omega
  have := Nat.lt_of_mul_lt_mul_right h2
  omega
theorem est_lower {P D X d D3 P3 : Nat} (hd : d * D3 ≤ P3) (hP : P3 * X ≤ P) (hD : D + 1 ≤ (D3 + 1) * X) (hdX : d * X ≤ D) (hD0 : 0 < D) : d * D < P + D := by
  rcases Nat.eq_zero_or_pos d with h0 | h0
  · subst h0; omega
  · have h1 : d * (D + 1) ≤ d * ((D3 + 1) * X) := Nat.mul_le_mul_left _ hD
    have h2 : d * ((D3 + 1) * X) = d * D3 * X + d * X := by rw [Nat.add_mul, Nat.mul_add, Nat.one_mul, Nat.mul_assoc]
    have h3 : d * D3 * X ≤ P3 * X := Nat.mul_le_mul_right _ hd
    rw [h2, Nat.mul_add, Nat.mul_one] at h1
    omega

theorem est_setup {ps ds : List Nat} {n : Nat} (hn : 2 ≤ n) (hp : ps.length = n + 1) (hd : ds.length = n) (hps : Small ps) (hds : Small ds) :
    ∃ X, 0 < X ∧ val ps < (ps.getD n 0 * 4294967296 + ps.getD (n - 1) 0 + 1) * (4294967296 * X) ∧ ds.getD (n - 1) 0 * (4294967296 * X) ≤ val ds ∧
      ((ps.getD n 0 * 4294967296 + ps.getD (n - 1) 0) * 4294967296 + ps.getD (n - 2) 0) * X ≤ val ps ∧ val ps < ((ps.getD n 0 * 4294967296 + ps.getD (n - 1) 0) * 4294967296 + ps.getD (n - 2) 0 + 1) * X ∧
      (ds.getD (n - 1) 0 * 4294967296 + ds.getD (n - 2) 0) * X ≤ val ds ∧ val ds < (ds.getD (n - 1) 0 * 4294967296 + ds.getD (n - 2) 0 + 1) * X ∧ val ds < 4294967296 * (4294967296 * X) := by
  obtain ⟨m, rfl⟩ : ∃ m, n = m + 2 := ⟨n - 2, by omega⟩
  refine ⟨4294967296 ^ m, Nat.pow_pos (by omega), ?_⟩
  have e1 := val_top ps (m + 2) hp
  have e2 := val_take_succ ps (m + 1) (by omega)
  have e3 := val_take_succ ps m (by omega)
  have f1 := val_top ds (m + 1) (by omega)
  have f2 := val_take_succ ds m (by omega)
  have l1 := take_lt ps hps m
  have l2 := take_lt ds hds m
  have b1 := hps.get m
  have b2 := hds.get m
  have b3 := hds.get (m + 1)
  rw [show m + 2 - 1 = m + 1 by omega, show m + 2 - 2 = m by omega]
  rw [Nat.pow_succ] at e1 e2
  rw [Nat.pow_succ] at e1 f1
  rw [e2, e3] at e1
  rw [f2] at f1
  generalize 4294967296 ^ m = X at *
  generalize ps.getD (m + 2) 0 = p0 at *
  generalize ps.getD (m + 1) 0 = p1 at *
  generalize ps.getD m 0 = p2 at *
  generalize ds.getD (m + 1) 0 = d1 at *
  generalize ds.getD m 0 = d2 at *
  rw [e1, f1]
  have hp2 : p2 * X ≤ 4294967295 * X := Nat.mul_le_mul_right _ (by omega)
  have hd2 : d2 * X ≤ 4294967295 * X := Nat.mul_le_mul_right _ (by omega)
  have hd1 : d1 * X ≤ 4294967295 * X := Nat.mul_le_mul_right _ (by omega)
  have c1 : X * 4294967296 * 4294967296 * p0 = 18446744073709551616 * (p0 * X) := by rw [Nat.mul_comm p0]; simp only [Nat.mul_assoc, Nat.mul_left_comm X]; omega
  have c2 : X * 4294967296 * p1 = 4294967296 * (p1 * X) := by rw [Nat.mul_comm p1]; simp only [Nat.mul_assoc, Nat.mul_left_comm X]
  have c3 : X * p2 = p2 * X := Nat.mul_comm _ _
  have c4 : X * 4294967296 * d1 = 4294967296 * (d1 * X) := by rw [Nat.mul_comm d1]; simp only [Nat.mul_assoc, Nat.mul_left_comm X]
  have c5 : X * d2 = d2 * X := Nat.mul_comm _ _
  rw [c1, c2, c3, c4, c5]
  have g1 : (p0 * 4294967296 + p1 + 1) * (4294967296 * X) = 18446744073709551616 * (p0 * X) + 4294967296 * (p1 * X) + 4294967296 * X := by
    simp only [Nat.add_mul, Nat.mul_assoc, Nat.one_mul, Nat.mul_left_comm p0, Nat.mul_left_comm p1]; omega
  have g2 : d1 * (4294967296 * X) = 4294967296 * (d1 * X) := Nat.mul_left_comm _ _ _
  have g3 : ((p0 * 4294967296 + p1) * 4294967296 + p2) * X = 18446744073709551616 * (p0 * X) + 4294967296 * (p1 * X) + p2 * X := by
    simp only [Nat.add_mul, Nat.mul_assoc, Nat.mul_left_comm p0, Nat.mul_left_comm p1]; omega
  have g4 : (d1 * 4294967296 + d2) * X = 4294967296 * (d1 * X) + d2 * X := by
    simp only [Nat.add_mul, Nat.mul_assoc, Nat.mul_left_comm d1]
  have g5 : ((p0 * 4294967296 + p1) * 4294967296 + p2 + 1) * X = 18446744073709551616 * (p0 * X) + 4294967296 * (p1 * X) + p2 * X + X := by rw [Nat.add_mul _ 1, g3, Nat.one_mul]
  have g6 : (d1 * 4294967296 + d2 + 1) * X = 4294967296 * (d1 * X) + d2 * X + X := by rw [Nat.add_mul _ 1, g4, Nat.one_mul]
  rw [g1, g2, g3, g4, g5, g6]
  generalize p0 * X = a0 at *
  generalize p1 * X = a1 at *
  generalize p2 * X = a2 at *
  generalize d1 * X = a3 at *
  generalize d2 * X = a4 at *
  generalize val (ps.take m) = y1 at *
  generalize val (ds.take m) = y2 at *
  refine ⟨by omega, by omega, by omega, by omega, by omega, by omega, by omega⟩
/-- What the numbers of an estimate are: P the part, D the divisor. -/
structure Est (P D h nx p0 p1 p2 : Nat) : Prop where
  big : 2147483648 ≤ h
  hb : h < 4294967296
  nxb : nx < 4294967296
  p1b : p1 < 4294967296
  p2b : p2 < 4294967296
  lt : P < 4294967296 * D
  shape : ∃ X, 0 < X ∧ P < (p0 * 4294967296 + p1 + 1) * (4294967296 * X) ∧ h * (4294967296 * X) ≤ D ∧ ((p0 * 4294967296 + p1) * 4294967296 + p2) * X ≤ P ∧
    P < ((p0 * 4294967296 + p1) * 4294967296 + p2 + 1) * X ∧ (h * 4294967296 + nx) * X ≤ D ∧ D < (h * 4294967296 + nx + 1) * X

theorem Est.p0_le {P D h nx p0 p1 p2 : Nat} (e : Est P D h nx p0 p1 p2) : p0 ≤ h := by
  obtain ⟨X, hX, h1, h2, h3, h4, h5, h6⟩ := e.shape
  have hl := e.lt
  have hnx := e.nxb
  rcases Nat.lt_or_ge h p0 with hlt | hge
  · exfalso
    have a1 : (h * 4294967296 + nx + 1) * X ≤ ((h + 1) * 4294967296) * X := Nat.mul_le_mul_right _ (by omega)
    have a2 : ((h + 1) * 4294967296) * 4294967296 ≤ (p0 * 4294967296 + p1) * 4294967296 + p2 := by omega
    have a3 : ((h + 1) * 4294967296) * 4294967296 * X ≤ ((p0 * 4294967296 + p1) * 4294967296 + p2) * X := Nat.mul_le_mul_right _ a2
    have a4 : ((h + 1) * 4294967296) * 4294967296 * X = 4294967296 * (((h + 1) * 4294967296) * X) := by
      rw [Nat.mul_comm ((h + 1) * 4294967296) 4294967296, Nat.mul_assoc]
    omega
  · exact hge

/-- What the loop of the estimate keeps. -/
def EstRel (P D h p0 p1 d r : Nat) : Prop :=
  d * h + r = p0 * 4294967296 + p1 ∧ P < (d + 1) * D ∧ d ≤ 4294967297 ∧ (4294967296 ≤ d → r < 4294967296)

theorem Est.start {P D h nx p0 p1 p2 : Nat} (e : Est P D h nx p0 p1 p2) : EstRel P D h p0 p1 ((p0 * 4294967296 + p1) / h) ((p0 * 4294967296 + p1) % h) := by
  have hp := e.p0_le
  obtain ⟨X, hX, h1, h2, h3, h4, h5, h6⟩ := e.shape
  have hbig := e.big
  have hb := e.hb
  have hp1 := e.p1b
  have hD : 0 < D := by
    have : 0 < h * (4294967296 * X) := Nat.mul_pos (by omega) (Nat.mul_pos (by omega) hX)
    omega
  refine ⟨by rw [Nat.mul_comm]; exact Nat.div_add_mod _ _, ?_, ?_, fun _ => ?_⟩
  · have hq := est_upper (q := P / D) h2 h1 (Nat.div_mul_le_self P D)
    have hq2 : P / D ≤ (p0 * 4294967296 + p1) / h := (Nat.le_div_iff_mul_le (by omega)).2 hq
    have a : P < (P / D + 1) * D := by
      have := Nat.div_add_mod P D
      have := Nat.mod_lt P hD
      rw [Nat.add_mul, Nat.mul_comm]
      omega
    exact Nat.lt_of_lt_of_le a (Nat.mul_le_mul_right _ (by omega))
  · have hq : (p0 * 4294967296 + p1) / h < 4294967298 := by
      apply (Nat.div_lt_iff_lt_mul (by omega)).2
      omega
    omega
  · have := Nat.mod_lt (p0 * 4294967296 + p1) (show h > 0 by omega)
    omega

theorem Est.step {P D h nx p0 p1 p2 d r : Nat} (e : Est P D h nx p0 p1 p2) (hr : EstRel P D h p0 p1 d r) (hc : 4294967296 ≤ d ∨ r * 4294967296 + p2 < d * nx) :
    1 ≤ d ∧ EstRel P D h p0 p1 (d - 1) (r + h) := by
  obtain ⟨a1, a2, a3, a4⟩ := hr
  have hp := e.p0_le
  obtain ⟨X, hX, h1, h2, h3, h4, h5, h6⟩ := e.shape
  have hd : 1 ≤ d := by
    rcases Nat.eq_zero_or_pos d with h0 | h0
    · subst h0; omega
    · exact h0
  obtain ⟨c, rfl⟩ : ∃ c, d = c + 1 := ⟨d - 1, by omega⟩
  rw [Nat.add_sub_cancel]
  have hch : (c + 1) * h = c * h + h := by rw [Nat.add_mul, Nat.one_mul]
  refine ⟨hd, by omega, ?_, by omega, fun hB => ?_⟩
  · rcases hc with hc | hc
    · exact Nat.lt_of_lt_of_le e.lt (Nat.mul_le_mul_right _ hc)
    · have b1 : (c + 1) * (h * 4294967296 + nx) = (c + 1) * h * 4294967296 + (c + 1) * nx := by rw [Nat.mul_add, Nat.mul_assoc]
      have b2 : (p0 * 4294967296 + p1) * 4294967296 = (c + 1) * h * 4294967296 + r * 4294967296 := by rw [← a1, Nat.add_mul]
      have b3 : (p0 * 4294967296 + p1) * 4294967296 + p2 + 1 ≤ (c + 1) * (h * 4294967296 + nx) := by omega
      have b4 := Nat.mul_le_mul_right X b3
      have b5 : (c + 1) * (h * 4294967296 + nx) * X ≤ (c + 1) * D := by rw [Nat.mul_assoc]; exact Nat.mul_le_mul_left _ h5
      omega
  · have b1 : 4294967296 * h ≤ c * h := Nat.mul_le_mul_right _ hB
    have b2 : p0 * 4294967296 ≤ h * 4294967296 := Nat.mul_le_mul_right _ hp
    have := e.p1b
    omega

theorem Est.done {P D h nx p0 p1 p2 d r : Nat} (e : Est P D h nx p0 p1 p2) (hr : EstRel P D h p0 p1 d r) (hc : 4294967296 ≤ r ∨ (d < 4294967296 ∧ d * nx ≤ r * 4294967296 + p2)) :
    d < 4294967296 ∧ d * D < P + D ∧ P < (d + 1) * D := by
  obtain ⟨a1, a2, a3, a4⟩ := hr
  obtain ⟨X, hX, h1, h2, h3, h4, h5, h6⟩ := e.shape
  have hbig := e.big
  have hdB : d < 4294967296 := by omega
  have hdn : d * nx ≤ r * 4294967296 + p2 := by
    rcases hc with hc | hc
    · have m := mul_le_digits hdB e.nxb
      omega
    · exact hc.2
  refine ⟨hdB, ?_, a2⟩
  have b1 : d * (h * 4294967296 + nx) = d * h * 4294967296 + d * nx := by rw [Nat.mul_add, Nat.mul_assoc]
  have b2 : (p0 * 4294967296 + p1) * 4294967296 = d * h * 4294967296 + r * 4294967296 := by rw [← a1, Nat.add_mul]
  have hXD : 4294967296 * X ≤ D := by
    have := Nat.mul_le_mul_right (4294967296 * X) (show 1 ≤ h by omega)
    omega
  have hdX : d * X ≤ D := by
    have := Nat.mul_le_mul_right X (show d ≤ 4294967296 by omega)
    omega
  exact est_lower (X := X) (D3 := h * 4294967296 + nx) (P3 := (p0 * 4294967296 + p1) * 4294967296 + p2) (by omega) h3 (by omega) hdX (by omega)

theorem est_of {ps ds : List Nat} {n : Nat} (hn : 2 ≤ n) (hp : ps.length = n + 1) (hd : ds.length = n) (hps : Small ps) (hds : Small ds) (hbig : 2147483648 ≤ ds.getD (n - 1) 0) (hlt : val ps < 4294967296 * val ds) :
    Est (val ps) (val ds) (ds.getD (n - 1) 0) (ds.getD (n - 2) 0) (ps.getD n 0) (ps.getD (n - 1) 0) (ps.getD (n - 2) 0) := by
  obtain ⟨X, hX, h1, h2, h3, h4, h5, h6, _⟩ := est_setup hn hp hd hps hds
  exact ⟨hbig, hds.get _, hds.get _, hps.get _, hps.get _, hlt, X, hX, h1, h2, h3, h4, h5, h6⟩
end Dig
end Go.Proofs.YtpbkmkcfhkdjjaaDoor

/- Plain lemmas: division bit by bit, and the bits of a number in its digits. -/
namespace Go.Proofs.YtpbkmkcfhkdjjaaDoor
namespace Dig

theorem digit_of_val (xs : List Nat) (hs : Small xs) (j : Nat) (h : j < xs.length) : xs.getD j 0 = val xs / 4294967296 ^ j % 4294967296 := by
  have h1 := val_take_drop xs j (by omega)
  have h2 := val_lt (xs.take j) (hs.take j)
  rw [List.length_take, Nat.min_eq_left (by omega)] at h2
  have h3 : xs.drop j = xs.getD j 0 :: xs.drop (j + 1) := by
    rw [List.drop_eq_getElem_cons h]
    simp [List.getD_eq_getElem?_getD, h]
  have h4 : val (xs.drop j) = xs.getD j 0 + 4294967296 * val (xs.drop (j + 1)) := by rw [h3]; rfl
  have h5 : val xs / 4294967296 ^ j = val (xs.drop j) := by
    rw [h1, Nat.add_mul_div_left _ _ (Nat.pow_pos (by omega)), Nat.div_eq_of_lt h2, Nat.zero_add]
  rw [h5, h4]
  have := hs.get j
  omega
theorem pow_base (j : Nat) : (4294967296 : Nat) ^ j = 2 ^ (32 * j) := by
  rw [Nat.pow_mul]
theorem bit_of_digit (m s : Nat) (hs : s < 32) : m % 4294967296 / 2 ^ s % 2 = m / 2 ^ s % 2 := by
  have h := Nat.testBit_mod_two_pow m 32 s
  have e : (2 : Nat) ^ 32 = 4294967296 := by decide
  rw [e] at h
  simp only [hs, decide_true, Bool.true_and] at h
  have h1 : (m % 4294967296).testBit s = decide (m % 4294967296 / 2 ^ s % 2 = 1) := Nat.testBit_eq_decide_div_mod_eq
  have h2 : m.testBit s = decide (m / 2 ^ s % 2 = 1) := Nat.testBit_eq_decide_div_mod_eq
  rw [h1, h2] at h
  have := decide_eq_decide.1 h
  omega
/-- Bit i of a number is bit i mod 32 of its digit i / 32. -/
theorem bit_of (xs : List Nat) (hs : Small xs) (i : Nat) (h : i / 32 < xs.length) : xs.getD (i / 32) 0 / 2 ^ (i % 32) % 2 = val xs / 2 ^ i % 2 := by
  rw [digit_of_val xs hs _ h, bit_of_digit _ _ (Nat.mod_lt _ (by omega)), pow_base, Nat.div_div_eq_div_mul, ← Nat.pow_add]
  congr 3
  omega
/-- A digit whose number is divisible by 2 ^ (i + 1). -/
theorem low_of (xs : List Nat) (hs : Small xs) (i : Nat) (h : i / 32 < xs.length) (hd : 2 ^ (i + 1) ∣ val xs) : xs.getD (i / 32) 0 % 2 ^ (i % 32 + 1) = 0 := by
  obtain ⟨q, hq⟩ := hd
  have hsl : i % 32 < 32 := Nat.mod_lt _ (by omega)
  rw [digit_of_val xs hs _ h, hq, pow_base]
  have e : 2 ^ (i + 1) * q = 2 ^ (32 * (i / 32)) * (2 ^ (i % 32 + 1) * q) := by
    rw [← Nat.mul_assoc, ← Nat.pow_add]
    congr 2
    omega
  rw [e, Nat.mul_div_cancel_left _ (Nat.pow_pos (by omega))]
  have e2 : (4294967296 : Nat) = 2 ^ (i % 32 + 1) * 2 ^ (31 - i % 32) := by
    rw [← Nat.pow_add, show i % 32 + 1 + (31 - i % 32) = 32 by omega]
  rw [e2, Nat.mod_mul_right_mod]
  exact Nat.mul_mod_right _ _
/-- Setting a bit that is 0. -/
theorem or_low (d s : Nat) (h : d % 2 ^ (s + 1) = 0) : d ||| 2 ^ s = d + 2 ^ s := by
  obtain ⟨q, hq⟩ := Nat.dvd_of_mod_eq_zero h
  have := Nat.shiftLeft_add_eq_or_of_lt (i := s + 1) (b := 2 ^ s) (Nat.pow_lt_pow_right (by omega) (by omega)) q
  rw [Nat.shiftLeft_eq, Nat.mul_comm, ← hq] at this
  exact this.symm
theorem set_fits (d s : Nat) (h : d % 2 ^ (s + 1) = 0) (hs : s < 32) (hd : d < 4294967296) : d + 2 ^ s < 4294967296 := by
  have e2 : (4294967296 : Nat) = 2 ^ (s + 1) * 2 ^ (31 - s) := by
    rw [← Nat.pow_add, show s + 1 + (31 - s) = 32 by omega]
  obtain ⟨q, hq⟩ := Nat.dvd_of_mod_eq_zero h
  rw [hq, e2] at hd
  have hq2 : q < 2 ^ (31 - s) := Nat.lt_of_mul_lt_mul_left hd
  have h3 : 2 ^ (s + 1) * (q + 1) ≤ 2 ^ (s + 1) * 2 ^ (31 - s) := Nat.mul_le_mul_left _ hq2
  rw [Nat.mul_add, Nat.mul_one, ← hq, ← e2] at h3
  have h4 : 2 ^ s < 2 ^ (s + 1) := Nat.pow_lt_pow_right (by omega) (by omega)
  omega
theorem pow_split (i : Nat) : 4294967296 ^ (i / 32) * 2 ^ (i % 32) = 2 ^ i := by
  rw [pow_base, ← Nat.pow_add]
  congr 1
  omega
/-- The value after a bit has been set. -/
theorem val_set_bit (xs : List Nat) (i : Nat) (h : i / 32 < xs.length) : val (xs.set (i / 32) (xs.getD (i / 32) 0 + 2 ^ (i % 32))) = val xs + 2 ^ i := by
  have h1 := val_set xs (i / 32) (xs.getD (i / 32) 0 + 2 ^ (i % 32)) h
  rw [Nat.mul_add, pow_split] at h1
  omega

/-- One step of the division of X by y. -/
theorem div_step (X y i : Nat) (hy : 0 < y) :
    (2 * (X / 2 ^ (i + 1) % y) + X / 2 ^ i % 2 < 2 * y) ∧
    (y ≤ 2 * (X / 2 ^ (i + 1) % y) + X / 2 ^ i % 2 → X / 2 ^ i % y = 2 * (X / 2 ^ (i + 1) % y) + X / 2 ^ i % 2 - y ∧ 2 ^ i * (X / 2 ^ i / y) = 2 ^ (i + 1) * (X / 2 ^ (i + 1) / y) + 2 ^ i) ∧
    (2 * (X / 2 ^ (i + 1) % y) + X / 2 ^ i % 2 < y → X / 2 ^ i % y = 2 * (X / 2 ^ (i + 1) % y) + X / 2 ^ i % 2 ∧ 2 ^ i * (X / 2 ^ i / y) = 2 ^ (i + 1) * (X / 2 ^ (i + 1) / y)) := by
  have e : X / 2 ^ (i + 1) = X / 2 ^ i / 2 := by rw [Nat.pow_succ, Nat.div_div_eq_div_mul]
  rw [e]
  generalize X / 2 ^ i = m
  have hm := Nat.div_add_mod m 2
  have hq := Nat.div_add_mod (m / 2) y
  have hr := Nat.mod_lt (m / 2) hy
  have hb := Nat.mod_lt m (show 2 > 0 by omega)
  generalize m / 2 / y = Q at *
  generalize m / 2 % y = R at *
  generalize hM : m / 2 = h2 at *
  generalize hB : m % 2 = b at *
  have e1 : m = y * (2 * Q) + (2 * R + b) := by
    rw [Nat.mul_left_comm, ← hm, ← hq]
    omega
  refine ⟨by omega, fun hge => ?_, fun hlt => ?_⟩
  · have e2 : m = y * (2 * Q + 1) + (2 * R + b - y) := by
      rw [Nat.mul_add, Nat.mul_one]; omega
    have hd : m / y = 2 * Q + 1 := by
      rw [e2, Nat.mul_add_div hy, Nat.div_eq_of_lt (by omega), Nat.add_zero]
    have hmod : m % y = 2 * R + b - y := by
      rw [e2, Nat.mul_add_mod]
      exact Nat.mod_eq_of_lt (by omega)
    refine ⟨hmod, ?_⟩
    rw [hd, Nat.mul_add, Nat.mul_one, Nat.pow_succ, Nat.mul_assoc]
  · have hd : m / y = 2 * Q := by
      rw [e1, Nat.mul_add_div hy, Nat.div_eq_of_lt hlt, Nat.add_zero]
    have hmod : m % y = 2 * R + b := by
      rw [e1, Nat.mul_add_mod]
      exact Nat.mod_eq_of_lt hlt
    refine ⟨hmod, ?_⟩
    rw [hd, Nat.pow_succ, Nat.mul_assoc]
end Dig
end Go.Proofs.YtpbkmkcfhkdjjaaDoor

/- Plain lemmas: steps of Euclid's algorithm on leading bits (Lehmer's method with Collins' condition). -/
namespace Go.Proofs.YtpbkmkcfhkdjjaaDoor
namespace Dig

def sgn (o : Bool) : Int := if o then 1 else -1
/-- What the state of the steps means: the remainders of the leading bits and those of the whole numbers A = x0 * H + s, B = y0 * H + t. -/
def Leh (A B x0 y0 H s t x y a0 b0 a1 b1 nA nB : Nat) (o : Bool) : Prop :=
  nB * x + b1 * y = x0 ∧ nA * x + a1 * y = y0 ∧ y ≤ x ∧ nA ≤ nB ∧ a1 + nA ≤ b1 + nB ∧ b1 ≤ nB ∧ 1 ≤ nB ∧
  ∃ E1 E2 : Int, E1 = sgn o * ((a1 : Int) * A - b1 * B) ∧ E2 = sgn o * ((nB : Int) * B - nA * A) ∧ E1 = (x : Int) * H + sgn o * ((a1 : Int) * s - b1 * t) ∧ E2 = (y : Int) * H + sgn o * ((nB : Int) * t - nA * s) ∧ Int.gcd E1 E2 = Nat.gcd A B ∧
   ((b0 = 0 ∧ b1 = 0 ∧ E1 = A ∧ E2 = B) ∨ ∃ E0 : Int, E0 = sgn o * ((b0 : Int) * B - a0 * A) ∧ 0 ≤ E1 ∧ E1 < E0 ∧ E0 ≤ A ∧ (b0 = 0 → E1 = B) ∧ (b0 ≠ 0 → E1 < B) ∧ Int.gcd E0 E1 = Nat.gcd A B ∧ 0 < b1 ∧ a0 < 4294967296 ∧ b0 < 4294967296 ∧ a1 < 4294967296 ∧ b1 < 4294967296)

theorem Leh.start {A B x0 y0 H s t : Nat} (hA : A = x0 * H + s) (hB : B = y0 * H + t) (hxy : y0 ≤ x0) : Leh A B x0 y0 H s t x0 y0 0 0 1 0 0 1 true := by
  refine ⟨by omega, by omega, hxy, by omega, by omega, by omega, by omega, A, B, ?_, ?_, ?_, ?_, ?_, .inl ⟨rfl, rfl, rfl, rfl⟩⟩
  · simp [sgn]
  · simp [sgn]
  · subst hA; simp [sgn]
  · subst hB; simp [sgn]
  · rfl
theorem sgn_not (o : Bool) : sgn (!o) = - sgn o := by cases o <;> rfl
theorem sgn_cases (o : Bool) : sgn o = 1 ∨ sgn o = -1 := by cases o <;> simp [sgn]
/-- The sum of two cofactors is less than 2^32. -/
theorem leh_small {x y b1 nB x0 : Nat} (h : nB * x + b1 * y = x0) (hx0 : x0 < 18446744073709551616) (h1 : nB ≤ y) (h2 : y + (b1 + nB) ≤ x) (hb : b1 ≤ nB) : b1 + nB < 4294967296 := by
  rcases Nat.lt_or_ge (b1 + nB) 4294967296 with h3 | h3
  · exact h3
  · exfalso
    have e1 : nB * (nB + (b1 + nB)) ≤ nB * x := Nat.mul_le_mul_left _ (by omega)
    have e2 : b1 * nB ≤ b1 * y := Nat.mul_le_mul_left _ h1
    have e3 : b1 * b1 ≤ nB * nB := Nat.mul_le_mul hb hb
    have e4 : 4294967296 * 4294967296 ≤ (b1 + nB) * (b1 + nB) := Nat.mul_le_mul h3 h3
    have e5 : (b1 + nB) * (b1 + nB) = b1 * b1 + 2 * (b1 * nB) + nB * nB := by grind
    have e6 : nB * (nB + (b1 + nB)) = 2 * (nB * nB) + b1 * nB := by grind
    omega
theorem leh_pos {y nB nA s t H : Nat} {o : Bool} (h1 : nB ≤ y) (hn : nA ≤ nB) (hs : s < H) (ht : t < H) : 0 ≤ (y : Int) * H + sgn o * ((nB : Int) * t - nA * s) := by
  have e1 : nB * H ≤ y * H := Nat.mul_le_mul_right _ h1
  have e2 : nB * t ≤ nB * H := Nat.mul_le_mul_left _ (by omega)
  have e3 : nA * s ≤ nB * H := Nat.mul_le_mul hn (by omega)
  have c1 : ((y * H : Nat) : Int) = y * H := by simp
  have c2 : ((nB * t : Nat) : Int) = nB * t := by simp
  have c3 : ((nA * s : Nat) : Int) = nA * s := by simp
  rcases sgn_cases o with e | e <;> rw [e] <;> omega
theorem leh_less {x y b1 nB a1 nA s t H : Nat} {o : Bool} (h2 : y + (b1 + nB) ≤ x) (hn : a1 + nA ≤ b1 + nB) (hp : 1 ≤ nB) (hs : s < H) (ht : t < H) :
    (y : Int) * H + sgn o * ((nB : Int) * t - nA * s) < (x : Int) * H + sgn o * ((a1 : Int) * s - b1 * t) := by
  have e1 : (y + (b1 + nB)) * H ≤ x * H := Nat.mul_le_mul_right _ h2
  rw [Nat.add_mul] at e1
  have e2 : (b1 + nB) * t < (b1 + nB) * H := Nat.mul_lt_mul_of_pos_left ht (by omega)
  have e3 : (a1 + nA) * s < (b1 + nB) * H := Nat.lt_of_le_of_lt (Nat.mul_le_mul_right _ hn) (Nat.mul_lt_mul_of_pos_left hs (by omega))
  rw [Nat.add_mul b1 nB t] at e2
  rw [Nat.add_mul a1 nA s] at e3
  have c1 : ((y * H : Nat) : Int) = y * H := by simp
  have c2 : ((nB * t : Nat) : Int) = nB * t := by simp
  have c3 : ((nA * s : Nat) : Int) = nA * s := by simp
  have c4 : ((x * H : Nat) : Int) = x * H := by simp
  have c5 : ((b1 * t : Nat) : Int) = b1 * t := by simp
  have c6 : ((a1 * s : Nat) : Int) = a1 * s := by simp
  rcases sgn_cases o with e | e <;> rw [e] <;> omega
section
variable {A B x0 y0 H s t x y a0 b0 a1 b1 nA nB : Nat} {o : Bool}
theorem Leh.sum (h : Leh A B x0 y0 H s t x y a0 b0 a1 b1 nA nB o) (h1 : nB ≤ y) : b1 + nB ≤ x0 := by
  obtain ⟨k1, _, k3, _, _, _, k7, _⟩ := h
  have e1 : nB * 1 ≤ nB * x := Nat.mul_le_mul_left _ (by omega)
  have e2 : b1 * 1 ≤ b1 * y := Nat.mul_le_mul_left _ (by omega)
  omega
theorem Leh.next (h : Leh A B x0 y0 H s t x y a0 b0 a1 b1 nA nB o) (h1 : nB ≤ y) : b1 + x / y * nB ≤ x0 ∧ a1 + x / y * nA ≤ y0 := by
  obtain ⟨k1, k2, k3, _, _, _, k7, _⟩ := h
  have hd := Nat.div_add_mod x y
  generalize x / y = q at *
  generalize x % y = r at *
  subst hd
  have e1 : (b1 + q * nB) * 1 ≤ (b1 + q * nB) * y := Nat.mul_le_mul_left _ (by omega)
  have e2 : (a1 + q * nA) * 1 ≤ (a1 + q * nA) * y := Nat.mul_le_mul_left _ (by omega)
  have e3 : nB * (y * q + r) + b1 * y = (b1 + q * nB) * y + nB * r := by grind
  have e4 : nA * (y * q + r) + a1 * y = (a1 + q * nA) * y + nA * r := by grind
  omega
theorem Leh.step (h : Leh A B x0 y0 H s t x y a0 b0 a1 b1 nA nB o) (hx0 : x0 < 18446744073709551616) (hs : s < H) (ht : t < H) (h1 : nB ≤ y) (h2 : b1 + nB ≤ x - y) :
    Leh A B x0 y0 H s t y (x % y) a1 b1 nA nB (a1 + x / y * nA) (b1 + x / y * nB) (!o) := by
  obtain ⟨k1, k2, k3, k4, k5, k6, k7, E1, E2, g1, g2, g3, g4, g5, g6⟩ := h
  have hsm := leh_small k1 hx0 h1 (by omega) k6
  have hp := leh_pos (o := o) h1 k4 hs ht
  have hl := leh_less (o := o) (show y + (b1 + nB) ≤ x by omega) k5 k7 hs ht
  rw [← g4] at hp hl
  rw [← g3] at hl
  have hq1 : 1 ≤ x / y := Nat.div_pos k3 (by omega)
  have hr := Nat.mod_lt x (show 0 < y by omega)
  have hd := Nat.div_add_mod x y
  generalize x / y = q at *
  generalize x % y = r at *
  have m1 : nA ≤ q * nA := Nat.le_mul_of_pos_left _ hq1
  have m2 : nB ≤ q * nB := Nat.le_mul_of_pos_left _ hq1
  have m3 : (q - 1) * nA ≤ (q - 1) * nB := Nat.mul_le_mul_left _ k4
  have m4 : q * nA = (q - 1) * nA + nA := by rw [← Nat.succ_mul]; congr 1; omega
  have m5 : q * nB = (q - 1) * nB + nB := by rw [← Nat.succ_mul]; congr 1; omega
  refine ⟨?_, ?_, by omega, by omega, by omega, by omega, by omega, E2, E1 - q * E2, ?_, ?_, ?_, ?_, ?_, .inr ⟨E1, ?_, hp, hl, ?_, ?_, ?_, ?_, by omega, by omega, by omega, by omega, by omega⟩⟩
  · subst hd; subst k1; grind
  · subst hd; subst k2; grind
  · rw [sgn_not, g2]; grind
  · rw [sgn_not, g1, g2]; simp only [Int.natCast_add, Int.natCast_mul]; grind
  · rw [sgn_not, g4]; grind
  · rw [sgn_not, g3, g4, ← hd]; simp only [Int.natCast_add, Int.natCast_mul]; grind
  · rw [Int.gcd_sub_mul_right_right, Int.gcd_comm]; exact g5
  · rw [sgn_not, g1]; grind
  · rcases g6 with ⟨_, _, e, _⟩ | ⟨E0, _, _, e1, e2, _⟩
    · omega
    · omega
  · intro e
    rcases g6 with ⟨_, _, _, e2⟩ | ⟨E0, _, _, _, _, _, _, _, hb, _⟩
    · exact e2
    · omega
  · intro e
    rcases g6 with ⟨_, e2, _, _⟩ | ⟨E0, _, _, _, _, e1, e2, _⟩
    · omega
    · by_cases hb : b0 = 0
      · have := e1 hb; omega
      · have := e2 hb; omega
  · exact g5
theorem Leh.done (h : Leh A B x0 y0 H s t x y a0 b0 a1 b1 nA nB o) (hb : b0 ≠ 0) :
    ∃ r0 r1 : Nat, r1 < r0 ∧ r0 ≤ A ∧ r1 < B ∧ Nat.gcd r0 r1 = Nat.gcd A B ∧ (o = true → r0 + a0 * A = b0 * B ∧ r1 + b1 * B = a1 * A) ∧ (o = false → r0 + b0 * B = a0 * A ∧ r1 + a1 * A = b1 * B) ∧ a0 < 4294967296 ∧ b0 < 4294967296 ∧ a1 < 4294967296 ∧ b1 < 4294967296 := by
  obtain ⟨_, _, _, _, _, _, _, E1, E2, g1, _, _, _, _, g6⟩ := h
  rcases g6 with ⟨e, _⟩ | ⟨E0, f1, f2, f3, f4, _, f6, f7, _, l1, l2, l3, l4⟩
  · exact absurd e hb
  · have f8 := f6 hb
    obtain ⟨r0, rfl⟩ := Int.eq_ofNat_of_zero_le (show 0 ≤ E0 by omega)
    obtain ⟨r1, rfl⟩ := Int.eq_ofNat_of_zero_le f2
    have c1 : ((a0 * A : Nat) : Int) = a0 * A := by simp
    have c2 : ((b0 * B : Nat) : Int) = b0 * B := by simp
    have c3 : ((a1 * A : Nat) : Int) = a1 * A := by simp
    have c4 : ((b1 * B : Nat) : Int) = b1 * B := by simp
    refine ⟨r0, r1, by omega, by omega, by omega, f7, fun ho => ?_, fun ho => ?_, l1, l2, l3, l4⟩
    · subst ho; simp only [sgn, if_true, Int.one_mul] at f1 g1; omega
    · subst ho; simp [sgn] at f1 g1; omega
end
end Dig
end Go.Proofs.YtpbkmkcfhkdjjaaDoor

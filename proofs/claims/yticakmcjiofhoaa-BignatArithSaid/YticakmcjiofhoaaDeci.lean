/- Plain lemmas: the number that decimal letters denote. -/
import Derived.Test.YticakmcjiofhoaaDig
namespace Go.Proofs.Yticakmcjiofhoaa
namespace Dig

def isDig (c : UInt8) : Bool := decide (48 ≤ c.toNat) && decide (c.toNat ≤ 57)
def dec (l : List UInt8) : Nat := l.foldl (fun a c => a * 10 + (c.toNat - 48)) 0
theorem dec_snoc (l : List UInt8) (c : UInt8) : dec (l ++ [c]) = dec l * 10 + (c.toNat - 48) := by simp [dec]
theorem dec_nil : dec [] = 0 := rfl
theorem dec_from (r : List UInt8) : ∀ a : Nat, r.foldl (fun a c => a * 10 + (c.toNat - 48)) a = a * 10 ^ r.length + dec r := by
  induction r with
  | nil => intro a; simp [dec]
  | cons c r ih =>
    intro a
    simp only [List.foldl_cons, List.length_cons, dec]
    rw [ih, ih (0 * 10 + (c.toNat - 48)), Nat.pow_succ, Nat.add_mul, Nat.zero_mul, Nat.zero_add, Nat.mul_assoc, Nat.mul_comm 10]
    omega
theorem dec_append (l r : List UInt8) : dec (l ++ r) = dec l * 10 ^ r.length + dec r := by
  rw [dec, List.foldl_append, dec_from]
  rfl
theorem dec_lt (l : List UInt8) (h : ∀ c ∈ l, isDig c = true) : dec l < 10 ^ l.length := by
  induction l with
  | nil => simp [dec]
  | cons c l ih =>
    have hc := h c (by simp)
    simp only [isDig, Bool.and_eq_true, decide_eq_true_eq] at hc
    have hl := ih (fun d hd => h d (by simp [hd]))
    have e : c :: l = [c] ++ l := rfl
    rw [e, dec_append, List.length_append, Nat.pow_add]
    have e2 : dec [c] = c.toNat - 48 := by simp [dec]
    rw [e2]
    have : (c.toNat - 48) * 10 ^ l.length + 10 ^ l.length ≤ 10 * 10 ^ l.length := by
      rw [← Nat.succ_mul]
      exact Nat.mul_le_mul_right _ (by omega)
    simp only [List.length_singleton, Nat.pow_one]
    omega
theorem dec_take_succ (l : List UInt8) (j : Nat) (h : j < l.length) : dec (l.take (j + 1)) = dec (l.take j) * 10 + ((l.getD j 0).toNat - 48) := by
  rw [List.take_succ_eq_append_getElem h, dec_snoc]
  simp [List.getD_eq_getElem?_getD, h]
theorem dec_take_lt (l : List UInt8) (j n : Nat) (h : ∀ c ∈ l, isDig c = true) (hj : j ≤ n) : dec (l.take j) < 10 ^ n := by
  have h1 := dec_lt (l.take j) (fun c hc => h c (List.mem_of_mem_take hc))
  have h2 : (l.take j).length ≤ n := by rw [List.length_take]; omega
  exact Nat.lt_of_lt_of_le h1 (Nat.pow_le_pow_right (by omega) h2)
/-- Nine letters more (or the first ones). -/
theorem dec_group (l : List UInt8) (e : Nat) (he : e ≤ l.length) : dec (l.take e) = dec (l.take (e - 9)) * 1000000000 + dec ((l.drop (e - 9)).take (e - (e - 9))) := by
  have h : l.take e = l.take (e - 9) ++ (l.drop (e - 9)).take (e - (e - 9)) := by
    rw [← List.take_add]
    congr 1
    omega
  rw [h, dec_append]
  rcases Nat.lt_or_ge e 9 with h9 | h9
  · rw [show e - 9 = 0 by omega]; simp [dec_nil]
  · rw [List.length_take, List.length_drop, Nat.min_eq_left (by omega), show e - (e - 9) = 9 by omega]
/-- What isDecimal asks of digits: no leading zero but in 0 itself. -/
def lead (l : List UInt8) : Bool := l == [48] || (!l.isEmpty && l.headD 0 != 48)
/-- The decimal letters of a number. -/
def DecOf (l : List UInt8) (n : Nat) : Prop := (∀ c ∈ l, isDig c = true) ∧ dec l = n ∧ lead l = true
theorem dec_cons (c : UInt8) (l : List UInt8) : dec (c :: l) = (c.toNat - 48) * 10 ^ l.length + dec l := by
  have e : c :: l = [c] ++ l := rfl
  rw [e, dec_append]
  simp [dec]
theorem isDig_bd {c : UInt8} (h : isDig c = true) : 48 ≤ c.toNat ∧ c.toNat ≤ 57 := by
  simpa only [isDig, Bool.and_eq_true, decide_eq_true_eq] using h
/-- Letters of one length are determined by their number. -/
theorem dec_inj_length : ∀ (l r : List UInt8), l.length = r.length → (∀ c ∈ l, isDig c = true) → (∀ c ∈ r, isDig c = true) → dec l = dec r → l = r
  | [], [], _, _, _, _ => rfl
  | c :: l, d :: r, hl, h1, h2, he => by
    have hc := isDig_bd (h1 c (by simp))
    have hd := isDig_bd (h2 d (by simp))
    have hll : l.length = r.length := by simpa using hl
    have b1 := dec_lt l (fun x hx => h1 x (by simp [hx]))
    have b2 := dec_lt r (fun x hx => h2 x (by simp [hx]))
    rw [dec_cons, dec_cons, hll] at he
    rw [hll] at b1
    have hp : 0 < 10 ^ r.length := Nat.pow_pos (by omega)
    have e1 : c.toNat - 48 = d.toNat - 48 := by
      rcases Nat.lt_trichotomy (c.toNat - 48) (d.toNat - 48) with h | h | h
      · have := Nat.mul_le_mul_right (10 ^ r.length) (show c.toNat - 48 + 1 ≤ d.toNat - 48 from h)
        rw [Nat.add_mul] at this
        omega
      · exact h
      · have := Nat.mul_le_mul_right (10 ^ r.length) (show d.toNat - 48 + 1 ≤ c.toNat - 48 from h)
        rw [Nat.add_mul] at this
        omega
    rw [e1] at he
    have e2 : c = d := UInt8.toNat_inj.1 (by omega)
    rw [e2, dec_inj_length l r hll (fun x hx => h1 x (by simp [hx])) (fun x hx => h2 x (by simp [hx])) (by omega)]
theorem dec_lead_ge (c : UInt8) (l : List UInt8) (h : isDig c = true) (hc : c ≠ 48) : 10 ^ l.length ≤ dec (c :: l) := by
  have hb := isDig_bd h
  have hne : c.toNat ≠ 48 := fun e => hc (UInt8.toNat_inj.1 (by rw [e]; rfl))
  rw [dec_cons]
  have := Nat.mul_le_mul_right (10 ^ l.length) (show 1 ≤ c.toNat - 48 by omega)
  omega
/-- The decimal letters of a number are determined. -/
theorem DecOf.unique {l r : List UInt8} {n : Nat} (h : DecOf l n) (k : DecOf r n) : l = r := by
  obtain ⟨h1, h2, h3⟩ := h
  obtain ⟨k1, k2, k3⟩ := k
  have form : ∀ l : List UInt8, lead l = true → l = [48] ∨ ∃ c t, l = c :: t ∧ c ≠ 48 := by
    intro l hl
    cases l with
    | nil => simp [lead] at hl
    | cons c t =>
      simp [lead] at hl
      rcases hl with ⟨rfl, rfl⟩ | hl
      · exact .inl rfl
      · exact .inr ⟨c, t, rfl, hl⟩
  have z : dec [48] = 0 := rfl
  rcases form l h3 with rfl | ⟨c, t, rfl, hc⟩
  · rcases form r k3 with rfl | ⟨d, u, rfl, hd⟩
    · rfl
    · have := dec_lead_ge d u (k1 d (by simp)) hd
      have hp : 0 < 10 ^ u.length := Nat.pow_pos (by omega)
      omega
  · have g1 := dec_lead_ge c t (h1 c (by simp)) hc
    rcases form r k3 with rfl | ⟨d, u, rfl, hd⟩
    · have hp : 0 < 10 ^ t.length := Nat.pow_pos (by omega)
      omega
    · have g2 := dec_lead_ge d u (k1 d (by simp)) hd
      have b1 := dec_lt _ h1
      have b2 := dec_lt _ k1
      simp only [List.length_cons] at b1 b2
      have l1 : t.length < u.length + 1 := (Nat.pow_lt_pow_iff_right (by omega : 1 < 10)).1 (by omega)
      have l2 : u.length < t.length + 1 := (Nat.pow_lt_pow_iff_right (by omega : 1 < 10)).1 (by omega)
      exact dec_inj_length _ _ (by simp; omega) h1 k1 (by omega)

def dtextF : Nat → Nat → List UInt8
  | 0, _ => []
  | f + 1, n => if n = 0 then [] else dtextF f (n / 10) ++ [UInt8.ofNat (48 + n % 10)]
def dtext (n : Nat) : List UInt8 := if n = 0 then [48] else dtextF n n
theorem ofNat_digit (m : Nat) (h : m < 10) : (UInt8.ofNat (48 + m)).toNat = 48 + m := by
  rw [UInt8.toNat_ofNat']
  exact Nat.mod_eq_of_lt (by omega)
theorem isDig_digit (m : Nat) (h : m < 10) : isDig (UInt8.ofNat (48 + m)) = true := by
  rw [isDig, ofNat_digit m h]
  simp; omega
theorem dtextF_spec (f n : Nat) (h : n ≤ f) (hp : 0 < n) : (∀ c ∈ dtextF f n, isDig c = true) ∧ dec (dtextF f n) = n ∧ ∃ c t, dtextF f n = c :: t ∧ c ≠ 48 := by
  induction f generalizing n with
  | zero => omega
  | succ f ih =>
    rw [dtextF, if_neg (by omega)]
    have hm : n % 10 < 10 := Nat.mod_lt _ (by omega)
    rcases Nat.eq_zero_or_pos (n / 10) with h0 | h0
    · have e : dtextF f (n / 10) = [] := by rw [h0]; cases f <;> rfl
      rw [e]
      refine ⟨fun c hc => ?_, ?_, UInt8.ofNat (48 + n % 10), [], rfl, ?_⟩
      · rw [List.mem_singleton.1 hc]; exact isDig_digit _ hm
      · rw [dec_snoc, ofNat_digit _ hm, dec_nil]; omega
      · intro e
        have := congrArg UInt8.toNat e
        rw [ofNat_digit _ hm] at this
        have h48 : (48 : UInt8).toNat = 48 := rfl
        omega
    · obtain ⟨a, b, c, t, e, hc⟩ := ih (n / 10) (by omega) h0
      refine ⟨fun x hx => ?_, ?_, c, t ++ [UInt8.ofNat (48 + n % 10)], by rw [e]; rfl, hc⟩
      · rcases List.mem_append.1 hx with hx | hx
        · exact a x hx
        · rw [List.mem_singleton.1 hx]; exact isDig_digit _ hm
      · rw [dec_snoc, b, ofNat_digit _ hm]; omega
theorem dtext_spec (n : Nat) : DecOf (dtext n) n := by
  unfold dtext
  rcases Nat.eq_zero_or_pos n with h | h
  · rw [if_pos h, h]
    refine ⟨fun c hc => ?_, rfl, rfl⟩
    simp at hc
    rw [hc]; rfl
  · rw [if_neg (by omega)]
    obtain ⟨a, b, c, t, e, hc⟩ := dtextF_spec n n (Nat.le_refl _) h
    exact ⟨a, b, by rw [e]; simp [lead, hc]⟩
theorem DecOf.eq {l : List UInt8} {n : Nat} (h : DecOf l n) : l = dtext n := h.unique (dtext_spec n)
end Dig
end Go.Proofs.Yticakmcjiofhoaa

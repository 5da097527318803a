/- Fractions as rational numbers: sign, numerator and denominator, the canonical form, sums, products, the order. Plain mathematics. -/
namespace Go.Proofs.YtgjhgpfjeoeojaaDoor
namespace Dig

/-- n with a sign. -/
def sg (neg : Bool) (n : Nat) : Int := if neg then -(n : Int) else n
/-- What a fraction denotes: 0 if the denominator is 0. -/
def fr (neg : Bool) (n d : Nat) : Rat := mkRat (sg neg n) d
theorem sg_natAbs (neg : Bool) (n : Nat) : (sg neg n).natAbs = n := by unfold sg; split <;> omega
theorem sg_zero (neg : Bool) : sg neg 0 = 0 := by unfold sg; split <;> rfl
theorem sg_mul (a b : Bool) (m n : Nat) : sg a m * sg b n = sg (a != b) (m * n) := by
  unfold sg
  cases a <;> cases b <;> simp [Int.neg_mul, Int.mul_neg]
theorem sg_neg (a : Bool) (m : Nat) : - sg a m = sg (!a) m := by
  unfold sg
  cases a <;> simp
theorem sg_nat (a : Bool) (m n : Nat) : sg a m * (n : Int) = sg a (m * n) := by
  have := sg_mul a false m n
  simpa [sg] using this
theorem sg_add (a : Bool) (m n : Nat) : sg a m + sg a n = sg a (m + n) := by
  unfold sg
  cases a <;> simp
  omega
theorem sg_sub {a b : Bool} (h : a ≠ b) {m n : Nat} (hmn : n ≤ m) : sg a m + sg b n = sg a (m - n) := by
  unfold sg
  cases a <;> cases b <;> simp at h ⊢ <;> omega
theorem fr_zero (a : Bool) (d : Nat) : fr a 0 d = 0 := by unfold fr; rw [sg_zero]; exact Rat.zero_mkRat d
theorem fr_den (a : Bool) (n : Nat) : fr a n 0 = 0 := by unfold fr; exact Rat.mkRat_zero _
theorem fr_self (q : Rat) : fr (decide (q.num < 0)) q.num.natAbs q.den = q := by
  unfold fr
  have : sg (decide (q.num < 0)) q.num.natAbs = q.num := by
    unfold sg
    by_cases h : q.num < 0 <;> simp [h] <;> omega
  rw [this, Rat.mkRat_self]
theorem fr_mul (a b : Bool) (m n d e : Nat) : fr a m d * fr b n e = fr (a != b) (m * n) (d * e) := by
  unfold fr
  rw [Rat.mkRat_mul_mkRat, sg_mul]
theorem fr_neg (a : Bool) (m d : Nat) : - fr a m d = fr (!a) m d := by
  unfold fr
  rw [Rat.neg_mkRat, sg_neg]
theorem fr_add {d e : Nat} (hd : d ≠ 0) (he : e ≠ 0) (a : Bool) (m n : Nat) : fr a m d + fr a n e = fr a (m * e + n * d) (d * e) := by
  unfold fr
  rw [Rat.mkRat_add_mkRat _ _ hd he, sg_nat, sg_nat, sg_add]
theorem fr_sub {d e : Nat} (hd : d ≠ 0) (he : e ≠ 0) {a b : Bool} (hab : a ≠ b) {m n : Nat} (h : n * d ≤ m * e) : fr a m d + fr b n e = fr a (m * e - n * d) (d * e) := by
  unfold fr
  rw [Rat.mkRat_add_mkRat _ _ hd he, sg_nat, sg_nat, sg_sub hab h]
theorem fr_sub2 {d e : Nat} (hd : d ≠ 0) (he : e ≠ 0) {a b : Bool} (hab : a ≠ b) {m n : Nat} (h : m * e ≤ n * d) : fr a m d + fr b n e = fr b (n * d - m * e) (d * e) := by
  rw [Rat.add_comm, fr_sub he hd (fun h => hab h.symm) h, Nat.mul_comm e d]
theorem fr_eq_zero (a : Bool) (n d : Nat) : fr a n d = 0 ↔ n = 0 ∨ d = 0 := by
  constructor
  · intro h
    rcases Nat.eq_zero_or_pos d with h0 | h0
    · exact .inr h0
    · left
      unfold fr at h
      rw [Rat.mkRat_eq_zero (by omega)] at h
      have := sg_natAbs a n
      omega
  · rintro (rfl | rfl)
    · exact fr_zero a d
    · exact fr_den a n
theorem fr_num (a : Bool) {n d : Nat} (hd : d ≠ 0) : (fr a n d).num = sg a (n / Nat.gcd n d) ∧ (fr a n d).den = d / Nat.gcd n d := by
  have h : (fr a n d) = Rat.normalize (sg a n) d hd := by unfold fr mkRat; rw [dif_neg hd]
  rw [h, Rat.normalize_eq hd]
  show sg a n / ((sg a n).natAbs.gcd d : Int) = _ ∧ d / (sg a n).natAbs.gcd d = _
  rw [sg_natAbs]
  refine ⟨?_, rfl⟩
  have hg : 0 < Nat.gcd n d := Nat.gcd_pos_of_pos_right n (by omega)
  obtain ⟨c, hc⟩ := Nat.gcd_dvd_left n d
  have e1 : n / Nat.gcd n d = c := by
    conv => lhs; arg 1; rw [hc]
    exact Nat.mul_div_cancel_left c hg
  rw [e1]
  have e2 : sg a n = (Nat.gcd n d : Int) * sg a c := by
    rw [Int.mul_comm, sg_nat, Nat.mul_comm c, ← hc]
  rw [e2]
  exact Int.mul_ediv_cancel_left _ (by omega)
/-- The parts of the canonical form. -/
theorem fr_parts (a : Bool) {n d : Nat} (hn : n ≠ 0) (hd : d ≠ 0) :
    decide ((fr a n d).num < 0) = a ∧ (fr a n d).num.natAbs = n / Nat.gcd n d ∧ (fr a n d).den = d / Nat.gcd n d := by
  obtain ⟨h1, h2⟩ := fr_num a (n := n) hd
  refine ⟨?_, by rw [h1, sg_natAbs], h2⟩
  rw [h1]
  have hc : 0 < n / Nat.gcd n d := Nat.div_pos (Nat.gcd_le_left d (by omega)) (Nat.gcd_pos_of_pos_right n (by omega))
  generalize n / Nat.gcd n d = c at hc
  unfold sg
  cases a <;> simp <;> omega
theorem rat_zero_parts {q : Rat} (h : q = 0) : decide (q.num < 0) = false ∧ q.num.natAbs = 0 ∧ q.den = 1 := by
  subst h
  exact ⟨rfl, rfl, rfl⟩
theorem rat_ext_parts {p q : Rat} : p = q ↔ decide (p.num < 0) = decide (q.num < 0) ∧ p.num.natAbs = q.num.natAbs ∧ p.den = q.den := by
  constructor
  · rintro rfl
    exact ⟨rfl, rfl, rfl⟩
  · rintro ⟨h1, h2, h3⟩
    rw [← fr_self p, h1, h2, h3, fr_self]

theorem rat_num_pos {q : Rat} : 0 < q.num ↔ 0 < q := by
  rw [Rat.lt_iff]; simp
theorem rat_num_neg {q : Rat} : q.num < 0 ↔ q < 0 := by
  rw [Rat.lt_iff]; simp
/-- The sign of a number. -/
def rsgn (q : Rat) : Int := q.num.sign
/-- The result of a comparison. -/
def rcmp (p q : Rat) : Int := rsgn (p - q)
theorem fr_rsgn (a : Bool) {n d : Nat} (hn : n ≠ 0) (hd : d ≠ 0) : rsgn (fr a n d) = if a then -1 else 1 := by
  unfold rsgn
  obtain ⟨h1, h2⟩ := fr_num a (n := n) hd
  rw [h1]
  have hc : 0 < n / Nat.gcd n d := Nat.div_pos (Nat.gcd_le_left d (by omega)) (Nat.gcd_pos_of_pos_right n (by omega))
  generalize n / Nat.gcd n d = c at hc
  unfold sg
  cases a
  · simp; omega
  · simp; omega
theorem rsgn_zero : rsgn 0 = 0 := rfl
theorem rsgn_eq_zero {q : Rat} : rsgn q = 0 ↔ q = 0 := by
  unfold rsgn
  rw [Int.sign_eq_zero_iff_zero]
  exact Rat.num_eq_zero
theorem rsgn_pos {q : Rat} : rsgn q = 1 ↔ 0 < q := by
  unfold rsgn
  rw [Int.sign_eq_one_iff_pos]
  exact rat_num_pos
theorem rsgn_neg {q : Rat} : rsgn q = -1 ↔ q < 0 := by
  unfold rsgn
  rw [Int.sign_eq_neg_one_iff_neg]
  exact rat_num_neg
theorem rsgn_cases (q : Rat) : (q < 0 ∧ rsgn q = -1) ∨ (q = 0 ∧ rsgn q = 0) ∨ (0 < q ∧ rsgn q = 1) := by
  rcases Int.lt_trichotomy q.num 0 with h | h | h
  · exact .inl ⟨rat_num_neg.1 h, Int.sign_eq_neg_one_of_neg h⟩
  · exact .inr (.inl ⟨Rat.num_eq_zero.1 h, by unfold rsgn; rw [h]; rfl⟩)
  · exact .inr (.inr ⟨rat_num_pos.1 h, Int.sign_eq_one_of_pos h⟩)
theorem rsgn_mul (p q : Rat) : rsgn (p * q) = rsgn p * rsgn q := by
  rcases rsgn_cases p with ⟨h, e⟩ | ⟨h, e⟩ | ⟨h, e⟩ <;> rcases rsgn_cases q with ⟨h', e'⟩ | ⟨h', e'⟩ | ⟨h', e'⟩ <;> rw [e, e']
  · have : 0 < p * q := by
      have := Rat.mul_pos (show 0 < -p by grind) (show 0 < -q by grind)
      grind
    exact rsgn_pos.2 this
  · rw [h', Rat.mul_zero]; rfl
  · have : p * q < 0 := by
      have := Rat.mul_pos (show 0 < -p by grind) h'
      grind
    exact rsgn_neg.2 this
  · rw [h, Rat.zero_mul]; rfl
  · rw [h, Rat.zero_mul]; rfl
  · rw [h, Rat.zero_mul]; rfl
  · have : p * q < 0 := by
      have := Rat.mul_pos h (show 0 < -q by grind)
      grind
    exact rsgn_neg.2 this
  · rw [h', Rat.mul_zero]; rfl
  · exact rsgn_pos.2 (Rat.mul_pos h h')
theorem rsgn_negate (p : Rat) : rsgn (-p) = - rsgn p := by
  unfold rsgn
  rw [Rat.neg_num]
  simp
theorem rcmp_swap (p q : Rat) : rcmp p q = - rcmp q p := by
  unfold rcmp
  rw [← rsgn_negate]
  congr 1
  grind
theorem rcmp_eq {p q : Rat} : rcmp p q = 0 ↔ p = q := by
  unfold rcmp
  rw [rsgn_eq_zero]
  constructor <;> intro h <;> grind
theorem rcmp_add (p q r : Rat) : rcmp (p + r) (q + r) = rcmp p q := by
  unfold rcmp
  congr 1
  grind
theorem rcmp_mul (p q r : Rat) : rcmp (p * r) (q * r) = rcmp p q * rsgn r := by
  unfold rcmp
  rw [← rsgn_mul]
  congr 1
  grind
theorem rcmp_trans {p q r : Rat} (h1 : rcmp p q ≤ 0) (h2 : rcmp q r ≤ 0) : rcmp p r ≤ 0 := by
  unfold rcmp at *
  rcases rsgn_cases (p - q) with ⟨h, e⟩ | ⟨h, e⟩ | ⟨h, e⟩ <;> rcases rsgn_cases (q - r) with ⟨h', e'⟩ | ⟨h', e'⟩ | ⟨h', e'⟩ <;> rcases rsgn_cases (p - r) with ⟨h'', e''⟩ | ⟨h'', e''⟩ | ⟨h'', e''⟩ <;> first | omega | (exfalso; grind)
end Dig
end Go.Proofs.YtgjhgpfjeoeojaaDoor

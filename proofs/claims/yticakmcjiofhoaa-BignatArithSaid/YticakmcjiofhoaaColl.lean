/- Plain lemmas: steps of Euclid's algorithm on leading bits (Lehmer's method with Collins' condition). -/
import Derived.Test.YticakmcjiofhoaaDig
namespace Go.Proofs.Yticakmcjiofhoaa
namespace Dig

def sgn (o : Bool) : Int := if o then 1 else -1
/-- What the state of the steps means: the remainders of the leading bits and those of the whole numbers A = x0 * H + s, B = y0 * H + t. -/
def Leh (A B x0 y0 H s t x y a0 b0 a1 b1 nA nB : Nat) (o : Bool) : Prop :=
  nB * x + b1 * y = x0 ∧ nA * x + a1 * y = y0 ∧ y ≤ x ∧ nA ≤ nB ∧ a1 + nA ≤ b1 + nB ∧ b1 ≤ nB ∧ 1 ≤ nB ∧
  ∃ E1 E2 : Int, E1 = sgn o * ((a1 : Int) * A - b1 * B) ∧ E2 = sgn o * ((nB : Int) * B - nA * A) ∧ E1 = (x : Int) * H + sgn o * ((a1 : Int) * s - b1 * t) ∧ E2 = (y : Int) * H + sgn o * ((nB : Int) * t - nA * s) ∧ Int.gcd E1 E2 = Nat.gcd A B ∧
   ((b0 = 0 ∧ b1 = 0 ∧ E1 = A ∧ E2 = B) ∨ ∃ E0 : Int, E0 = sgn o * ((b0 : Int) * B - a0 * A) ∧ 0 ≤ E1 ∧ E1 < E0 ∧ E0 ≤ A ∧ (b0 = 0 → E1 = B) ∧ (b0 ≠ 0 → E1 < B) ∧ Int.gcd E0 E1 = Nat.gcd A B ∧ 0 < b1 ∧ a0 < 4294967296 ∧ b0 < 4294967296 ∧ a1 < 4294967296 ∧ b1 < 4294967296)

theorem Leh.start {A B x0 y0 H s t : Nat} (hA : A = x0 * H + s) (hB : B = y0 * H + t) (hxy : y0 ≤ x0) : Leh A B x0 y0 H s t x0 y0 0 0 1 0 0 1 true := by
  refine ⟨by omega, by omega, hxy, by omega, by omega, by omega, by omega, A, B, ?_, ?_, ?_, ?_, ?_, .inl ⟨rfl, rfl, rfl, rfl⟩⟩
  · simp [sgn]
  · simp [sgn]
  · subst hA; simp [sgn]
  · subst hB; simp [sgn]
  · rfl
theorem sgn_not (o : Bool) : sgn (!o) = - sgn o := by cases o <;> rfl
theorem sgn_cases (o : Bool) : sgn o = 1 ∨ sgn o = -1 := by cases o <;> simp [sgn]
/-- The sum of two cofactors is less than 2^32. -/
theorem leh_small {x y b1 nB x0 : Nat} (h : nB * x + b1 * y = x0) (hx0 : x0 < 18446744073709551616) (h1 : nB ≤ y) (h2 : y + (b1 + nB) ≤ x) (hb : b1 ≤ nB) : b1 + nB < 4294967296 := by
  rcases Nat.lt_or_ge (b1 + nB) 4294967296 with h3 | h3
  · exact h3
  · exfalso
    have e1 : nB * (nB + (b1 + nB)) ≤ nB * x := Nat.mul_le_mul_left _ (by omega)
    have e2 : b1 * nB ≤ b1 * y := Nat.mul_le_mul_left _ h1
    have e3 : b1 * b1 ≤ nB * nB := Nat.mul_le_mul hb hb
    have e4 : 4294967296 * 4294967296 ≤ (b1 + nB) * (b1 + nB) := Nat.mul_le_mul h3 h3
    have e5 : (b1 + nB) * (b1 + nB) = b1 * b1 + 2 * (b1 * nB) + nB * nB := by grind
    have e6 : nB * (nB + (b1 + nB)) = 2 * (nB * nB) + b1 * nB := by grind
    omega
theorem leh_pos {y nB nA s t H : Nat} {o : Bool} (h1 : nB ≤ y) (hn : nA ≤ nB) (hs : s < H) (ht : t < H) : 0 ≤ (y : Int) * H + sgn o * ((nB : Int) * t - nA * s) := by
  have e1 : nB * H ≤ y * H := Nat.mul_le_mul_right _ h1
  have e2 : nB * t ≤ nB * H := Nat.mul_le_mul_left _ (by omega)
  have e3 : nA * s ≤ nB * H := Nat.mul_le_mul hn (by omega)
  have c1 : ((y * H : Nat) : Int) = y * H := by simp
  have c2 : ((nB * t : Nat) : Int) = nB * t := by simp
  have c3 : ((nA * s : Nat) : Int) = nA * s := by simp
  rcases sgn_cases o with e | e <;> rw [e] <;> omega
theorem leh_less {x y b1 nB a1 nA s t H : Nat} {o : Bool} (h2 : y + (b1 + nB) ≤ x) (hn : a1 + nA ≤ b1 + nB) (hp : 1 ≤ nB) (hs : s < H) (ht : t < H) :
    (y : Int) * H + sgn o * ((nB : Int) * t - nA * s) < (x : Int) * H + sgn o * ((a1 : Int) * s - b1 * t) := by
  have e1 : (y + (b1 + nB)) * H ≤ x * H := Nat.mul_le_mul_right _ h2
  rw [Nat.add_mul] at e1
  have e2 : (b1 + nB) * t < (b1 + nB) * H := Nat.mul_lt_mul_of_pos_left ht (by omega)
  have e3 : (a1 + nA) * s < (b1 + nB) * H := Nat.lt_of_le_of_lt (Nat.mul_le_mul_right _ hn) (Nat.mul_lt_mul_of_pos_left hs (by omega))
  rw [Nat.add_mul b1 nB t] at e2
  rw [Nat.add_mul a1 nA s] at e3
  have c1 : ((y * H : Nat) : Int) = y * H := by simp
  have c2 : ((nB * t : Nat) : Int) = nB * t := by simp
  have c3 : ((nA * s : Nat) : Int) = nA * s := by simp
  have c4 : ((x * H : Nat) : Int) = x * H := by simp
  have c5 : ((b1 * t : Nat) : Int) = b1 * t := by simp
  have c6 : ((a1 * s : Nat) : Int) = a1 * s := by simp
  rcases sgn_cases o with e | e <;> rw [e] <;> omega
section
variable {A B x0 y0 H s t x y a0 b0 a1 b1 nA nB : Nat} {o : Bool}
theorem Leh.sum (h : Leh A B x0 y0 H s t x y a0 b0 a1 b1 nA nB o) (h1 : nB ≤ y) : b1 + nB ≤ x0 := by
  obtain ⟨k1, _, k3, _, _, _, k7, _⟩ := h
  have e1 : nB * 1 ≤ nB * x := Nat.mul_le_mul_left _ (by omega)
  have e2 : b1 * 1 ≤ b1 * y := Nat.mul_le_mul_left _ (by omega)
  omega
theorem Leh.next (h : Leh A B x0 y0 H s t x y a0 b0 a1 b1 nA nB o) (h1 : nB ≤ y) : b1 + x / y * nB ≤ x0 ∧ a1 + x / y * nA ≤ y0 := by
  obtain ⟨k1, k2, k3, _, _, _, k7, _⟩ := h
  have hd := Nat.div_add_mod x y
  generalize x / y = q at *
  generalize x % y = r at *
  subst hd
  have e1 : (b1 + q * nB) * 1 ≤ (b1 + q * nB) * y := Nat.mul_le_mul_left _ (by omega)
  have e2 : (a1 + q * nA) * 1 ≤ (a1 + q * nA) * y := Nat.mul_le_mul_left _ (by omega)
  have e3 : nB * (y * q + r) + b1 * y = (b1 + q * nB) * y + nB * r := by grind
  have e4 : nA * (y * q + r) + a1 * y = (a1 + q * nA) * y + nA * r := by grind
  omega
theorem Leh.step (h : Leh A B x0 y0 H s t x y a0 b0 a1 b1 nA nB o) (hx0 : x0 < 18446744073709551616) (hs : s < H) (ht : t < H) (h1 : nB ≤ y) (h2 : b1 + nB ≤ x - y) :
    Leh A B x0 y0 H s t y (x % y) a1 b1 nA nB (a1 + x / y * nA) (b1 + x / y * nB) (!o) := by
  obtain ⟨k1, k2, k3, k4, k5, k6, k7, E1, E2, g1, g2, g3, g4, g5, g6⟩ := h
  have hsm := leh_small k1 hx0 h1 (by omega) k6
  have hp := leh_pos (o := o) h1 k4 hs ht
  have hl := leh_less (o := o) (show y + (b1 + nB) ≤ x by omega) k5 k7 hs ht
  rw [← g4] at hp hl
  rw [← g3] at hl
  have hq1 : 1 ≤ x / y := Nat.div_pos k3 (by omega)
  have hr := Nat.mod_lt x (show 0 < y by omega)
  have hd := Nat.div_add_mod x y
  generalize x / y = q at *
  generalize x % y = r at *
  have m1 : nA ≤ q * nA := Nat.le_mul_of_pos_left _ hq1
  have m2 : nB ≤ q * nB := Nat.le_mul_of_pos_left _ hq1
  have m3 : (q - 1) * nA ≤ (q - 1) * nB := Nat.mul_le_mul_left _ k4
  have m4 : q * nA = (q - 1) * nA + nA := by rw [← Nat.succ_mul]; congr 1; omega
  have m5 : q * nB = (q - 1) * nB + nB := by rw [← Nat.succ_mul]; congr 1; omega
  refine ⟨?_, ?_, by omega, by omega, by omega, by omega, by omega, E2, E1 - q * E2, ?_, ?_, ?_, ?_, ?_, .inr ⟨E1, ?_, hp, hl, ?_, ?_, ?_, ?_, by omega, by omega, by omega, by omega, by omega⟩⟩
  · subst hd; subst k1; grind
  · subst hd; subst k2; grind
  · rw [sgn_not, g2]; grind
  · rw [sgn_not, g1, g2]; simp only [Int.natCast_add, Int.natCast_mul]; grind
  · rw [sgn_not, g4]; grind
  · rw [sgn_not, g3, g4, ← hd]; simp only [Int.natCast_add, Int.natCast_mul]; grind
  · rw [Int.gcd_sub_mul_right_right, Int.gcd_comm]; exact g5
  · rw [sgn_not, g1]; grind
  · rcases g6 with ⟨_, _, e, _⟩ | ⟨E0, _, _, e1, e2, _⟩
    · omega
    · omega
  · intro e
    rcases g6 with ⟨_, _, _, e2⟩ | ⟨E0, _, _, _, _, _, _, _, hb, _⟩
    · exact e2
    · omega
  · intro e
    rcases g6 with ⟨_, e2, _, _⟩ | ⟨E0, _, _, _, _, e1, e2, _⟩
    · omega
    · by_cases hb : b0 = 0
      · have := e1 hb; omega
      · have := e2 hb; omega
  · exact g5
theorem Leh.done (h : Leh A B x0 y0 H s t x y a0 b0 a1 b1 nA nB o) (hb : b0 ≠ 0) :
    ∃ r0 r1 : Nat, r1 < r0 ∧ r0 ≤ A ∧ r1 < B ∧ Nat.gcd r0 r1 = Nat.gcd A B ∧ (o = true → r0 + a0 * A = b0 * B ∧ r1 + b1 * B = a1 * A) ∧ (o = false → r0 + b0 * B = a0 * A ∧ r1 + a1 * A = b1 * B) ∧ a0 < 4294967296 ∧ b0 < 4294967296 ∧ a1 < 4294967296 ∧ b1 < 4294967296 := by
  obtain ⟨_, _, _, _, _, _, _, E1, E2, g1, _, _, _, _, g6⟩ := h
  rcases g6 with ⟨e, _⟩ | ⟨E0, f1, f2, f3, f4, _, f6, f7, _, l1, l2, l3, l4⟩
  · exact absurd e hb
  · have f8 := f6 hb
    obtain ⟨r0, rfl⟩ := Int.eq_ofNat_of_zero_le (show 0 ≤ E0 by omega)
    obtain ⟨r1, rfl⟩ := Int.eq_ofNat_of_zero_le f2
    have c1 : ((a0 * A : Nat) : Int) = a0 * A := by simp
    have c2 : ((b0 * B : Nat) : Int) = b0 * B := by simp
    have c3 : ((a1 * A : Nat) : Int) = a1 * A := by simp
    have c4 : ((b1 * B : Nat) : Int) = b1 * B := by simp
    refine ⟨r0, r1, by omega, by omega, by omega, f7, fun ho => ?_, fun ho => ?_, l1, l2, l3, l4⟩
    · subst ho; simp only [sgn, if_true, Int.one_mul] at f1 g1; omega
    · subst ho; simp [sgn] at f1 g1; omega
end
end Dig
end Go.Proofs.Yticakmcjiofhoaa

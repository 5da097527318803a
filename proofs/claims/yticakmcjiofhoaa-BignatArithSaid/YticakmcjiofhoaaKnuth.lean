/- Plain lemmas: long division with estimated quotient digits. -/
import Derived.Test.YticakmcjiofhoaaProd
namespace Go.Proofs.Yticakmcjiofhoaa
namespace Dig

theorem val_top (l : List Nat) (n : Nat) (h : l.length = n + 1) : val l = val (l.take n) + 4294967296 ^ n * l.getD n 0 := by
  have := val_take_succ l n (by omega)
  rwa [List.take_of_length_le (by omega)] at this
theorem take_lt (l : List Nat) (hs : Small l) (n : Nat) : val (l.take n) < 4294967296 ^ n := by
  have h := val_lt (l.take n) (hs.take n)
  exact Nat.lt_of_lt_of_le h (pow_le (by rw [List.length_take]; omega))

/-- The estimate out of the three highest digits of the dividend and the two of the divisor: what the loop keeps. -/
theorem est_upper {P D X q h top : Nat} (hD : h * X ≤ D) (hP : P < (top + 1) * X) (hq : q * D ≤ P) : q * h ≤ top := by
  have h1 : q * (h * X) ≤ q * D := Nat.mul_le_mul_left _ hD
  rw [← Nat.mul_assoc] at h1
  have h2 : q * h * X < (top + 1) * X := by omega
  have := Nat.lt_of_mul_lt_mul_right h2
  omega
theorem est_lower {P D X d D3 P3 : Nat} (hd : d * D3 ≤ P3) (hP : P3 * X ≤ P) (hD : D + 1 ≤ (D3 + 1) * X) (hdX : d * X ≤ D) (hD0 : 0 < D) : d * D < P + D := by
  rcases Nat.eq_zero_or_pos d with h0 | h0
  · subst h0; omega
  · have h1 : d * (D + 1) ≤ d * ((D3 + 1) * X) := Nat.mul_le_mul_left _ hD
    have h2 : d * ((D3 + 1) * X) = d * D3 * X + d * X := by rw [Nat.add_mul, Nat.mul_add, Nat.one_mul, Nat.mul_assoc]
    have h3 : d * D3 * X ≤ P3 * X := Nat.mul_le_mul_right _ hd
    rw [h2, Nat.mul_add, Nat.mul_one] at h1
    omega

theorem est_setup {ps ds : List Nat} {n : Nat} (hn : 2 ≤ n) (hp : ps.length = n + 1) (hd : ds.length = n) (hps : Small ps) (hds : Small ds) :
    ∃ X, 0 < X ∧ val ps < (ps.getD n 0 * 4294967296 + ps.getD (n - 1) 0 + 1) * (4294967296 * X) ∧ ds.getD (n - 1) 0 * (4294967296 * X) ≤ val ds ∧
      ((ps.getD n 0 * 4294967296 + ps.getD (n - 1) 0) * 4294967296 + ps.getD (n - 2) 0) * X ≤ val ps ∧ val ps < ((ps.getD n 0 * 4294967296 + ps.getD (n - 1) 0) * 4294967296 + ps.getD (n - 2) 0 + 1) * X ∧
      (ds.getD (n - 1) 0 * 4294967296 + ds.getD (n - 2) 0) * X ≤ val ds ∧ val ds < (ds.getD (n - 1) 0 * 4294967296 + ds.getD (n - 2) 0 + 1) * X ∧ val ds < 4294967296 * (4294967296 * X) := by
  obtain ⟨m, rfl⟩ : ∃ m, n = m + 2 := ⟨n - 2, by omega⟩
  refine ⟨4294967296 ^ m, Nat.pow_pos (by omega), ?_⟩
  have e1 := val_top ps (m + 2) hp
  have e2 := val_take_succ ps (m + 1) (by omega)
  have e3 := val_take_succ ps m (by omega)
  have f1 := val_top ds (m + 1) (by omega)
  have f2 := val_take_succ ds m (by omega)
  have l1 := take_lt ps hps m
  have l2 := take_lt ds hds m
  have b1 := hps.get m
  have b2 := hds.get m
  have b3 := hds.get (m + 1)
  rw [show m + 2 - 1 = m + 1 by omega, show m + 2 - 2 = m by omega]
  rw [Nat.pow_succ] at e1 e2
  rw [Nat.pow_succ] at e1 f1
  rw [e2, e3] at e1
  rw [f2] at f1
  generalize 4294967296 ^ m = X at *
  generalize ps.getD (m + 2) 0 = p0 at *
  generalize ps.getD (m + 1) 0 = p1 at *
  generalize ps.getD m 0 = p2 at *
  generalize ds.getD (m + 1) 0 = d1 at *
  generalize ds.getD m 0 = d2 at *
  rw [e1, f1]
  have hp2 : p2 * X ≤ 4294967295 * X := Nat.mul_le_mul_right _ (by omega)
  have hd2 : d2 * X ≤ 4294967295 * X := Nat.mul_le_mul_right _ (by omega)
  have hd1 : d1 * X ≤ 4294967295 * X := Nat.mul_le_mul_right _ (by omega)
  have c1 : X * 4294967296 * 4294967296 * p0 = 18446744073709551616 * (p0 * X) := by rw [Nat.mul_comm p0]; simp only [Nat.mul_assoc, Nat.mul_left_comm X]; omega
  have c2 : X * 4294967296 * p1 = 4294967296 * (p1 * X) := by rw [Nat.mul_comm p1]; simp only [Nat.mul_assoc, Nat.mul_left_comm X]
  have c3 : X * p2 = p2 * X := Nat.mul_comm _ _
  have c4 : X * 4294967296 * d1 = 4294967296 * (d1 * X) := by rw [Nat.mul_comm d1]; simp only [Nat.mul_assoc, Nat.mul_left_comm X]
  have c5 : X * d2 = d2 * X := Nat.mul_comm _ _
  rw [c1, c2, c3, c4, c5]
  have g1 : (p0 * 4294967296 + p1 + 1) * (4294967296 * X) = 18446744073709551616 * (p0 * X) + 4294967296 * (p1 * X) + 4294967296 * X := by
    simp only [Nat.add_mul, Nat.mul_assoc, Nat.one_mul, Nat.mul_left_comm p0, Nat.mul_left_comm p1]; omega
  have g2 : d1 * (4294967296 * X) = 4294967296 * (d1 * X) := Nat.mul_left_comm _ _ _
  have g3 : ((p0 * 4294967296 + p1) * 4294967296 + p2) * X = 18446744073709551616 * (p0 * X) + 4294967296 * (p1 * X) + p2 * X := by
    simp only [Nat.add_mul, Nat.mul_assoc, Nat.mul_left_comm p0, Nat.mul_left_comm p1]; omega
  have g4 : (d1 * 4294967296 + d2) * X = 4294967296 * (d1 * X) + d2 * X := by
    simp only [Nat.add_mul, Nat.mul_assoc, Nat.mul_left_comm d1]
  have g5 : ((p0 * 4294967296 + p1) * 4294967296 + p2 + 1) * X = 18446744073709551616 * (p0 * X) + 4294967296 * (p1 * X) + p2 * X + X := by rw [Nat.add_mul _ 1, g3, Nat.one_mul]
  have g6 : (d1 * 4294967296 + d2 + 1) * X = 4294967296 * (d1 * X) + d2 * X + X := by rw [Nat.add_mul _ 1, g4, Nat.one_mul]
  rw [g1, g2, g3, g4, g5, g6]
  generalize p0 * X = a0 at *
  generalize p1 * X = a1 at *
  generalize p2 * X = a2 at *
  generalize d1 * X = a3 at *
  generalize d2 * X = a4 at *
  generalize val (ps.take m) = y1 at *
  generalize val (ds.take m) = y2 at *
  refine ⟨by omega, by omega, by omega, by omega, by omega, by omega, by omega⟩
/-- What the numbers of an estimate are: P the part, D the divisor. -/
structure Est (P D h nx p0 p1 p2 : Nat) : Prop where
  big : 2147483648 ≤ h
  hb : h < 4294967296
  nxb : nx < 4294967296
  p1b : p1 < 4294967296
  p2b : p2 < 4294967296
  lt : P < 4294967296 * D
  shape : ∃ X, 0 < X ∧ P < (p0 * 4294967296 + p1 + 1) * (4294967296 * X) ∧ h * (4294967296 * X) ≤ D ∧ ((p0 * 4294967296 + p1) * 4294967296 + p2) * X ≤ P ∧
    P < ((p0 * 4294967296 + p1) * 4294967296 + p2 + 1) * X ∧ (h * 4294967296 + nx) * X ≤ D ∧ D < (h * 4294967296 + nx + 1) * X

theorem Est.p0_le {P D h nx p0 p1 p2 : Nat} (e : Est P D h nx p0 p1 p2) : p0 ≤ h := by
  obtain ⟨X, hX, h1, h2, h3, h4, h5, h6⟩ := e.shape
  have hl := e.lt
  have hnx := e.nxb
  rcases Nat.lt_or_ge h p0 with hlt | hge
  · exfalso
    have a1 : (h * 4294967296 + nx + 1) * X ≤ ((h + 1) * 4294967296) * X := Nat.mul_le_mul_right _ (by omega)
    have a2 : ((h + 1) * 4294967296) * 4294967296 ≤ (p0 * 4294967296 + p1) * 4294967296 + p2 := by omega
    have a3 : ((h + 1) * 4294967296) * 4294967296 * X ≤ ((p0 * 4294967296 + p1) * 4294967296 + p2) * X := Nat.mul_le_mul_right _ a2
    have a4 : ((h + 1) * 4294967296) * 4294967296 * X = 4294967296 * (((h + 1) * 4294967296) * X) := by
      rw [Nat.mul_comm ((h + 1) * 4294967296) 4294967296, Nat.mul_assoc]
    omega
  · exact hge

/-- What the loop of the estimate keeps. -/
def EstRel (P D h p0 p1 d r : Nat) : Prop :=
  d * h + r = p0 * 4294967296 + p1 ∧ P < (d + 1) * D ∧ d ≤ 4294967297 ∧ (4294967296 ≤ d → r < 4294967296)

theorem Est.start {P D h nx p0 p1 p2 : Nat} (e : Est P D h nx p0 p1 p2) : EstRel P D h p0 p1 ((p0 * 4294967296 + p1) / h) ((p0 * 4294967296 + p1) % h) := by
  have hp := e.p0_le
  obtain ⟨X, hX, h1, h2, h3, h4, h5, h6⟩ := e.shape
  have hbig := e.big
  have hb := e.hb
  have hp1 := e.p1b
  have hD : 0 < D := by
    have : 0 < h * (4294967296 * X) := Nat.mul_pos (by omega) (Nat.mul_pos (by omega) hX)
    omega
  refine ⟨by rw [Nat.mul_comm]; exact Nat.div_add_mod _ _, ?_, ?_, fun _ => ?_⟩
  · have hq := est_upper (q := P / D) h2 h1 (Nat.div_mul_le_self P D)
    have hq2 : P / D ≤ (p0 * 4294967296 + p1) / h := (Nat.le_div_iff_mul_le (by omega)).2 hq
    have a : P < (P / D + 1) * D := by
      have := Nat.div_add_mod P D
      have := Nat.mod_lt P hD
      rw [Nat.add_mul, Nat.mul_comm]
      omega
    exact Nat.lt_of_lt_of_le a (Nat.mul_le_mul_right _ (by omega))
  · have hq : (p0 * 4294967296 + p1) / h < 4294967298 := by
      apply (Nat.div_lt_iff_lt_mul (by omega)).2
      omega
    omega
  · have := Nat.mod_lt (p0 * 4294967296 + p1) (show h > 0 by omega)
    omega

theorem Est.step {P D h nx p0 p1 p2 d r : Nat} (e : Est P D h nx p0 p1 p2) (hr : EstRel P D h p0 p1 d r) (hc : 4294967296 ≤ d ∨ r * 4294967296 + p2 < d * nx) :
    1 ≤ d ∧ EstRel P D h p0 p1 (d - 1) (r + h) := by
  obtain ⟨a1, a2, a3, a4⟩ := hr
  have hp := e.p0_le
  obtain ⟨X, hX, h1, h2, h3, h4, h5, h6⟩ := e.shape
  have hd : 1 ≤ d := by
    rcases Nat.eq_zero_or_pos d with h0 | h0
    · subst h0; omega
    · exact h0
  obtain ⟨c, rfl⟩ : ∃ c, d = c + 1 := ⟨d - 1, by omega⟩
  rw [Nat.add_sub_cancel]
  have hch : (c + 1) * h = c * h + h := by rw [Nat.add_mul, Nat.one_mul]
  refine ⟨hd, by omega, ?_, by omega, fun hB => ?_⟩
  · rcases hc with hc | hc
    · exact Nat.lt_of_lt_of_le e.lt (Nat.mul_le_mul_right _ hc)
    · have b1 : (c + 1) * (h * 4294967296 + nx) = (c + 1) * h * 4294967296 + (c + 1) * nx := by rw [Nat.mul_add, Nat.mul_assoc]
      have b2 : (p0 * 4294967296 + p1) * 4294967296 = (c + 1) * h * 4294967296 + r * 4294967296 := by rw [← a1, Nat.add_mul]
      have b3 : (p0 * 4294967296 + p1) * 4294967296 + p2 + 1 ≤ (c + 1) * (h * 4294967296 + nx) := by omega
      have b4 := Nat.mul_le_mul_right X b3
      have b5 : (c + 1) * (h * 4294967296 + nx) * X ≤ (c + 1) * D := by rw [Nat.mul_assoc]; exact Nat.mul_le_mul_left _ h5
      omega
  · have b1 : 4294967296 * h ≤ c * h := Nat.mul_le_mul_right _ hB
    have b2 : p0 * 4294967296 ≤ h * 4294967296 := Nat.mul_le_mul_right _ hp
    have := e.p1b
    omega

theorem Est.done {P D h nx p0 p1 p2 d r : Nat} (e : Est P D h nx p0 p1 p2) (hr : EstRel P D h p0 p1 d r) (hc : 4294967296 ≤ r ∨ (d < 4294967296 ∧ d * nx ≤ r * 4294967296 + p2)) :
    d < 4294967296 ∧ d * D < P + D ∧ P < (d + 1) * D := by
  obtain ⟨a1, a2, a3, a4⟩ := hr
  obtain ⟨X, hX, h1, h2, h3, h4, h5, h6⟩ := e.shape
  have hbig := e.big
  have hdB : d < 4294967296 := by omega
  have hdn : d * nx ≤ r * 4294967296 + p2 := by
    rcases hc with hc | hc
    · have m := mul_le_digits hdB e.nxb
      omega
    · exact hc.2
  refine ⟨hdB, ?_, a2⟩
  have b1 : d * (h * 4294967296 + nx) = d * h * 4294967296 + d * nx := by rw [Nat.mul_add, Nat.mul_assoc]
  have b2 : (p0 * 4294967296 + p1) * 4294967296 = d * h * 4294967296 + r * 4294967296 := by rw [← a1, Nat.add_mul]
  have hXD : 4294967296 * X ≤ D := by
    have := Nat.mul_le_mul_right (4294967296 * X) (show 1 ≤ h by omega)
    omega
  have hdX : d * X ≤ D := by
    have := Nat.mul_le_mul_right X (show d ≤ 4294967296 by omega)
    omega
  exact est_lower (X := X) (D3 := h * 4294967296 + nx) (P3 := (p0 * 4294967296 + p1) * 4294967296 + p2) (by omega) h3 (by omega) hdX (by omega)

theorem est_of {ps ds : List Nat} {n : Nat} (hn : 2 ≤ n) (hp : ps.length = n + 1) (hd : ds.length = n) (hps : Small ps) (hds : Small ds) (hbig : 2147483648 ≤ ds.getD (n - 1) 0) (hlt : val ps < 4294967296 * val ds) :
    Est (val ps) (val ds) (ds.getD (n - 1) 0) (ds.getD (n - 2) 0) (ps.getD n 0) (ps.getD (n - 1) 0) (ps.getD (n - 2) 0) := by
  obtain ⟨X, hX, h1, h2, h3, h4, h5, h6, _⟩ := est_setup hn hp hd hps hds
  exact ⟨hbig, hds.get _, hds.get _, hps.get _, hps.get _, hlt, X, hX, h1, h2, h3, h4, h5, h6⟩
end Dig
end Go.Proofs.Yticakmcjiofhoaa

/- Typed values by value: their order and their keys (stage 8, pure). -/
import Derived.Lib.Hide
namespace Go.Proofs.YtpbkmkcfhkdjjaaDoor
set_option linter.unusedVariables false

/-- Bytes in their order: -1, 0 or 1. -/
def cmpB : List UInt8 → List UInt8 → Int
  | [], [] => 0
  | [], _ :: _ => -1
  | _ :: _, [] => 1
  | x :: a, y :: b => if x < y then -1 else if y < x then 1 else cmpB a b
def cmpI (x y : Int) : Int := if x < y then -1 else if y < x then 1 else 0
/-- A value: its type, its integer, its bytes. -/
abbrev Vl := Int × Int × List UInt8
def cmpV (a b : Vl) : Int := if cmpI a.1 b.1 ≠ 0 then cmpI a.1 b.1 else if cmpI a.2.1 b.2.1 ≠ 0 then cmpI a.2.1 b.2.1 else cmpB a.2.2 b.2.2
def cmpT : List Vl → List Vl → Int
  | [], [] => 0
  | [], _ :: _ => -1
  | _ :: _, [] => 1
  | x :: a, y :: b => if cmpV x y ≠ 0 then cmpV x y else cmpT a b
def okC (c : UInt8) : Prop := 32 ≤ c.toNat ∧ c.toNat ≤ 126
def validV (v : Vl) : Prop := (v.1 = 1 ∧ v.2.2 = []) ∨ (v.1 = 2 ∧ v.2.1 = 0 ∧ v.2.2.length ≤ 64 ∧ ∀ c ∈ v.2.2, okC c)
/-! ### The order -/
theorem cmpB_cons (x y : UInt8) (a b : List UInt8) : cmpB (x :: a) (y :: b) = if x < y then -1 else if y < x then 1 else cmpB a b := rfl
theorem lt_irr (x : UInt8) : ¬ x < x := Nat.lt_irrefl x.toNat
theorem cmpB_self : ∀ a : List UInt8, cmpB a a = 0
  | [] => rfl
  | x :: a => by
    rw [cmpB_cons, if_neg (lt_irr x), if_neg (lt_irr x), cmpB_self a]
theorem cmpB_neg : ∀ a b : List UInt8, cmpB a b = - cmpB b a
  | [], [] => rfl
  | [], _ :: _ => rfl
  | _ :: _, [] => rfl
  | x :: a, y :: b => by
    unfold cmpB
    by_cases h1 : x < y
    · have h2 : ¬ y < x := fun h => Nat.lt_irrefl x.toNat (Nat.lt_trans h1 h)
      rw [if_pos h1, if_neg h2, if_pos h1]
    · by_cases h2 : y < x
      · rw [if_neg h1, if_pos h2, if_pos h2]
        rfl
      · rw [if_neg h1, if_neg h2, if_neg h2, if_neg h1, cmpB_neg a b]
theorem cmpB_zero : ∀ {a b : List UInt8}, cmpB a b = 0 → a = b
  | [], [], _ => rfl
  | [], _ :: _, h => by simp [cmpB] at h
  | _ :: _, [], h => by simp [cmpB] at h
  | x :: a, y :: b, h => by
    unfold cmpB at h
    by_cases h1 : x < y
    · rw [if_pos h1] at h
      omega
    · by_cases h2 : y < x
      · rw [if_neg h1, if_pos h2] at h
        omega
      · rw [if_neg h1, if_neg h2] at h
        have e : x = y := UInt8.toNat_inj.1 (Nat.le_antisymm (Nat.not_lt.1 h2) (Nat.not_lt.1 h1))
        rw [e, cmpB_zero h]
theorem cmpB_le : ∀ {a b c : List UInt8}, cmpB a b ≤ 0 → cmpB b c ≤ 0 → cmpB a c ≤ 0
  | [], _, [], _, _ => Int.le_refl _
  | [], _, _ :: _, _, _ => by unfold cmpB; omega
  | _ :: _, [], _, h, _ => by simp [cmpB] at h
  | _ :: _, _ :: _, [], _, h => by simp [cmpB] at h
  | x :: a, y :: b, z :: c, h1, h2 => by
    unfold cmpB at h1 h2 ⊢
    by_cases xy : x < y
    · by_cases yz : y < z
      · rw [if_pos (show x < z from Nat.lt_trans xy yz)]
        omega
      · by_cases zy : z < y
        · rw [if_neg yz, if_pos zy] at h2
          omega
        · have e : y = z := UInt8.toNat_inj.1 (Nat.le_antisymm (Nat.not_lt.1 zy) (Nat.not_lt.1 yz))
          rw [← e, if_pos xy]
          omega
    · by_cases yx : y < x
      · rw [if_neg xy, if_pos yx] at h1
        omega
      · have e : x = y := UInt8.toNat_inj.1 (Nat.le_antisymm (Nat.not_lt.1 yx) (Nat.not_lt.1 xy))
        subst e
        rw [if_neg xy, if_neg yx] at h1
        by_cases yz : x < z
        · rw [if_pos yz]
          omega
        · by_cases zy : z < x
          · rw [if_neg yz, if_pos zy] at h2
            omega
          · rw [if_neg yz, if_neg zy] at h2 ⊢
            exact cmpB_le h1 h2
theorem cmpB_front (p : List UInt8) : ∀ (q r : List UInt8), cmpB (p ++ q) (p ++ r) = cmpB q r := by
  induction p with
  | nil => intro q r; rfl
  | cons x p ih =>
    intro q r
    show cmpB (x :: (p ++ q)) (x :: (p ++ r)) = _
    rw [cmpB_cons, if_neg (lt_irr x), if_neg (lt_irr x), ih]
theorem cmpI_cases (x y : Int) : (x < y ∧ cmpI x y = -1) ∨ (x = y ∧ cmpI x y = 0) ∨ (y < x ∧ cmpI x y = 1) := by
  unfold cmpI
  split
  · omega
  · split <;> omega
theorem cmpV_self (a : Vl) : cmpV a a = 0 := by
  unfold cmpV
  have h1 := cmpI_cases a.1 a.1
  have h2 := cmpI_cases a.2.1 a.2.1
  rw [if_neg (by omega), if_neg (by omega), cmpB_self]
theorem cmpI_neg (x y : Int) : cmpI y x = - cmpI x y := by
  have h1 := cmpI_cases x y
  have h2 := cmpI_cases y x
  omega
theorem cmpV_neg (a b : Vl) : cmpV a b = - cmpV b a := by
  unfold cmpV
  rw [cmpI_neg a.1 b.1, cmpI_neg a.2.1 b.2.1, cmpB_neg b.2.2 a.2.2]
  generalize cmpI a.1 b.1 = u
  generalize cmpI a.2.1 b.2.1 = v
  generalize cmpB a.2.2 b.2.2 = t
  by_cases hu : u = 0
  · by_cases hv : v = 0
    · simp [hu, hv]
    · simp [hu, hv]
  · simp [hu]
theorem cmpV_zero {a b : Vl} (h : cmpV a b = 0) : a = b := by
  unfold cmpV at h
  have h1 := cmpI_cases a.1 b.1
  have h3 := cmpI_cases a.2.1 b.2.1
  split at h
  · omega
  · split at h
    · omega
    · obtain ⟨t, n, s⟩ := a
      obtain ⟨t', n', s'⟩ := b
      have e1 : t = t' := by simp only at *; omega
      have e2 : n = n' := by simp only at *; omega
      have e3 : s = s' := cmpB_zero h
      rw [e1, e2, e3]
theorem cmpV_le {a b c : Vl} (h1 : cmpV a b ≤ 0) (h2 : cmpV b c ≤ 0) : cmpV a c ≤ 0 := by
  unfold cmpV at h1 h2 ⊢
  have p1 := cmpI_cases a.1 b.1
  have p2 := cmpI_cases b.1 c.1
  have p3 := cmpI_cases a.1 c.1
  have q1 := cmpI_cases a.2.1 b.2.1
  have q2 := cmpI_cases b.2.1 c.2.1
  have q3 := cmpI_cases a.2.1 c.2.1
  split
  · split at h1 <;> split at h2 <;> omega
  · rename_i e1
    split
    · split at h1
      · split at h2 <;> omega
      · split at h2
        · omega
        · split at h1 <;> split at h2 <;> omega
    · rename_i e2
      split at h1
      · split at h2 <;> omega
      · split at h2
        · omega
        · split at h1
          · split at h2 <;> omega
          · split at h2
            · omega
            · exact cmpB_le h1 h2
theorem cmpT_self : ∀ a : List Vl, cmpT a a = 0
  | [] => rfl
  | x :: a => by
    unfold cmpT
    rw [if_neg (by rw [cmpV_self]; simp), cmpT_self a]
theorem cmpT_append : ∀ (p q : List Vl), cmpT p (p ++ q) = -(min q.length 1 : Nat)
  | [], [] => rfl
  | [], x :: q => by
    show (-1 : Int) = -((min (q.length + 1) 1 : Nat) : Int)
    omega
  | x :: p, q => by
    show cmpT (x :: p) (x :: (p ++ q)) = _
    unfold cmpT
    rw [if_neg (by rw [cmpV_self]; simp), cmpT_append p q]
/-! ### Keys -/
/-- k bytes, big-endian. -/
def beW : Nat → Nat → List UInt8
  | 0, _ => []
  | k + 1, n => UInt8.ofNat (n / 256 ^ k) :: beW k (n % 256 ^ k)
theorem beW_length : ∀ k n : Nat, (beW k n).length = k
  | 0, _ => rfl
  | k + 1, n => by simp [beW, beW_length k]
/-- An integer with its sign bit inverted. -/
def upI (n : Int) : Nat := (n + 9223372036854775808).toNat
def keyV (v : Vl) : List UInt8 := if v.1 = 1 then 1 :: beW 8 (upI v.2.1) else 2 :: (v.2.2 ++ [0])
def keyL (l : List Vl) : List UInt8 := (l.map keyV).flatten
theorem ofNat_lt {m n : Nat} (hm : m < 256) (hn : n < 256) : UInt8.ofNat m < UInt8.ofNat n ↔ m < n := by
  show (UInt8.ofNat m).toNat < (UInt8.ofNat n).toNat ↔ _
  rw [UInt8.toNat_ofNat', UInt8.toNat_ofNat', Nat.mod_eq_of_lt hm, Nat.mod_eq_of_lt hn]
theorem beW_cmp : ∀ (k m n : Nat), m < 256 ^ k → n < 256 ^ k → ∀ r s : List UInt8, cmpB (beW k m ++ r) (beW k n ++ s) = if m < n then -1 else if n < m then 1 else cmpB r s
  | 0, m, n, hm, hn, r, s => by
    simp at hm hn
    subst hm hn
    rfl
  | k + 1, m, n, hm, hn, r, s => by
    have hp : 0 < 256 ^ k := Nat.pow_pos (by omega)
    rw [Nat.pow_succ] at hm hn
    have hm2 : m / 256 ^ k < 256 := (Nat.div_lt_iff_lt_mul hp).2 (by rw [Nat.mul_comm]; exact hm)
    have hn2 : n / 256 ^ k < 256 := (Nat.div_lt_iff_lt_mul hp).2 (by rw [Nat.mul_comm]; exact hn)
    have em := Nat.div_add_mod m (256 ^ k)
    have en := Nat.div_add_mod n (256 ^ k)
    have lm := Nat.mod_lt m hp
    have ln := Nat.mod_lt n hp
    show cmpB (UInt8.ofNat (m / 256 ^ k) :: (beW k (m % 256 ^ k) ++ r)) (UInt8.ofNat (n / 256 ^ k) :: (beW k (n % 256 ^ k) ++ s)) = _
    rw [cmpB_cons]
    simp only [ofNat_lt hm2 hn2, ofNat_lt hn2 hm2]
    rw [beW_cmp k _ _ lm ln]
    generalize m / 256 ^ k = a at *
    generalize n / 256 ^ k = b at *
    generalize m % 256 ^ k = c at *
    generalize n % 256 ^ k = d at *
    generalize 256 ^ k = P at *
    by_cases h1 : a < b
    · have : P * (a + 1) ≤ P * b := Nat.mul_le_mul_left P h1
      rw [Nat.mul_add] at this
      rw [if_pos h1, if_pos (by omega)]
    · by_cases h2 : b < a
      · have : P * (b + 1) ≤ P * a := Nat.mul_le_mul_left P h2
        rw [Nat.mul_add] at this
        rw [if_neg h1, if_pos h2, if_neg (by omega), if_pos (by omega)]
      · have e : a = b := by omega
        subst e
        rw [if_neg h1, if_neg h2]
        by_cases h3 : c < d
        · rw [if_pos h3, if_pos (by omega)]
        · by_cases h4 : d < c
          · rw [if_neg h3, if_pos h4, if_neg (by omega), if_pos (by omega)]
          · rw [if_neg h3, if_neg h4, if_neg (by omega), if_neg (by omega)]
theorem okC_pos {y : UInt8} (h : okC y) : (0 : UInt8) < y := by
  have := h.1
  show 0 < y.toNat
  omega
theorem not_neg (x : UInt8) : ¬ x < 0 := by
  show ¬ x.toNat < 0
  omega
theorem str_cmp : ∀ (a b : List UInt8), (∀ c ∈ a, okC c) → (∀ c ∈ b, okC c) → ∀ r s : List UInt8, cmpB (a ++ 0 :: r) (b ++ 0 :: s) = if cmpB a b ≠ 0 then cmpB a b else cmpB r s
  | [], [], _, _, r, s => by
    show cmpB (0 :: r) (0 :: s) = if (0 : Int) ≠ 0 then 0 else cmpB r s
    rw [cmpB_cons, if_neg (lt_irr 0), if_neg (lt_irr 0), if_neg (by simp)]
  | [], y :: b, _, hb, r, s => by
    have h := hb y (by simp)
    show cmpB (0 :: r) (y :: (b ++ 0 :: s)) = if (-1 : Int) ≠ 0 then -1 else cmpB r s
    rw [cmpB_cons, if_pos (okC_pos h), if_pos (by simp)]
  | x :: a, [], ha, _, r, s => by
    have h := ha x (by simp)
    show cmpB (x :: (a ++ 0 :: r)) (0 :: s) = if (1 : Int) ≠ 0 then 1 else cmpB r s
    rw [cmpB_cons, if_neg (not_neg x), if_pos (okC_pos h), if_pos (by simp)]
  | x :: a, y :: b, ha, hb, r, s => by
    show cmpB (x :: (a ++ 0 :: r)) (y :: (b ++ 0 :: s)) = _
    rw [cmpB_cons, cmpB_cons]
    by_cases h1 : x < y
    · rw [if_pos h1, if_pos h1, if_pos (by simp)]
    · by_cases h2 : y < x
      · rw [if_neg h1, if_pos h2, if_neg h1, if_pos h2, if_pos (by simp)]
      · rw [if_neg h1, if_neg h2, if_neg h1, if_neg h2]
        exact str_cmp a b (fun c hc => ha c (by simp [hc])) (fun c hc => hb c (by simp [hc])) r s
theorem upI_lt {n : Int} (h1 : -9223372036854775808 ≤ n) (h2 : n ≤ 9223372036854775807) : upI n < 256 ^ 8 := by
  unfold upI
  omega
/-- A valid value whose integer is one of 64 bits. -/
def okV (v : Vl) : Prop := validV v ∧ -9223372036854775808 ≤ v.2.1 ∧ v.2.1 ≤ 9223372036854775807
/-- Two values' keys, whatever follows. -/
theorem keyV_cmp {x y : Vl} (hx : okV x) (hy : okV y) (r s : List UInt8) : cmpB (keyV x ++ r) (keyV y ++ s) = if cmpV x y ≠ 0 then cmpV x y else cmpB r s := by
  obtain ⟨t, n, a⟩ := x
  obtain ⟨u, m, b⟩ := y
  obtain ⟨hx, x1, x2⟩ := hx
  obtain ⟨hy, y1, y2⟩ := hy
  dsimp only at x1 x2 y1 y2
  rcases hx with ⟨e1, e2⟩ | ⟨e1, e2, e3, e4⟩
  · obtain rfl : t = 1 := e1
    obtain rfl : a = [] := e2
    rcases hy with ⟨e1, e2⟩ | ⟨e1, e2, e3, e4⟩
    · obtain rfl : u = 1 := e1
      obtain rfl : b = [] := e2
      show cmpB (1 :: (beW 8 (upI n) ++ r)) (1 :: (beW 8 (upI m) ++ s)) = _
      rw [cmpB_cons, if_neg (lt_irr 1), if_neg (lt_irr 1), beW_cmp 8 _ _ (upI_lt x1 x2) (upI_lt y1 y2)]
      have hc : cmpV (1, n, []) (1, m, []) = cmpI n m := by
        show (if cmpI 1 1 ≠ 0 then _ else if cmpI n m ≠ 0 then cmpI n m else cmpB [] []) = _
        have : cmpI 1 1 = 0 := rfl
        rw [if_neg (by rw [this]; simp)]
        split
        · rfl
        · rename_i h
          show (0 : Int) = _
          omega
      rw [hc]
      have hi := cmpI_cases n m
      have hu : upI n = (n + 9223372036854775808).toNat := rfl
      have hw : upI m = (m + 9223372036854775808).toNat := rfl
      by_cases h1 : upI n < upI m
      · rw [if_pos h1, if_pos (by omega)]
        omega
      · by_cases h2 : upI m < upI n
        · rw [if_neg h1, if_pos h2, if_pos (by omega)]
          omega
        · rw [if_neg h1, if_neg h2, if_neg (by omega)]
    · obtain rfl : u = 2 := e1
      show cmpB (1 :: (beW 8 (upI n) ++ r)) (2 :: ((b ++ [0]) ++ s)) = if (-1 : Int) ≠ 0 then -1 else cmpB r s
      rw [cmpB_cons, if_pos (show (1 : UInt8) < 2 by decide), if_pos (by simp)]
  · obtain rfl : t = 2 := e1
    obtain rfl : n = 0 := e2
    rcases hy with ⟨e1, e2⟩ | ⟨e1', e2', e3', e4'⟩
    · obtain rfl : u = 1 := e1
      obtain rfl : b = [] := e2
      show cmpB (2 :: ((a ++ [0]) ++ r)) (1 :: (beW 8 (upI m) ++ s)) = if (1 : Int) ≠ 0 then 1 else cmpB r s
      rw [cmpB_cons, if_neg (show ¬ (2 : UInt8) < 1 by decide), if_pos (show (1 : UInt8) < 2 by decide), if_pos (by simp)]
    · obtain rfl : u = 2 := e1'
      obtain rfl : m = 0 := e2'
      show cmpB (2 :: ((a ++ [0]) ++ r)) (2 :: ((b ++ [0]) ++ s)) = _
      rw [cmpB_cons, if_neg (lt_irr 2), if_neg (lt_irr 2), List.append_assoc, List.append_assoc]
      exact str_cmp a b e4 e4' r s
theorem keyV_ne (x : Vl) : ∃ c t, keyV x = c :: t := by
  unfold keyV
  split
  · exact ⟨_, _, rfl⟩
  · exact ⟨_, _, rfl⟩
/-- The bytewise order of keys is the order of the lists. -/
theorem keyL_cmp : ∀ (p q : List Vl), (∀ v ∈ p, okV v) → (∀ v ∈ q, okV v) → cmpB (keyL p) (keyL q) = cmpT p q
  | [], [], _, _ => rfl
  | [], y :: q, _, _ => by
    obtain ⟨c, t, e⟩ := keyV_ne y
    show cmpB [] (keyV y ++ keyL q) = -1
    rw [e]
    rfl
  | x :: p, [], _, _ => by
    obtain ⟨c, t, e⟩ := keyV_ne x
    show cmpB (keyV x ++ keyL p) [] = 1
    rw [e]
    rfl
  | x :: p, y :: q, hp, hq => by
    show cmpB (keyV x ++ keyL p) (keyV y ++ keyL q) = _
    rw [keyV_cmp (hp x (by simp)) (hq y (by simp)), keyL_cmp p q (fun v hv => hp v (by simp [hv])) fun v hv => hq v (by simp [hv])]
    rfl
theorem cmpT_zero : ∀ {p q : List Vl}, cmpT p q = 0 → p = q
  | [], [], _ => rfl
  | [], _ :: _, h => by simp [cmpT] at h
  | _ :: _, [], h => by simp [cmpT] at h
  | x :: p, y :: q, h => by
    have h2 : (if cmpV x y ≠ 0 then cmpV x y else cmpT p q) = 0 := h
    by_cases e : cmpV x y = 0
    · rw [if_neg (by simp [e])] at h2
      rw [cmpV_zero e, cmpT_zero h2]
    · rw [if_pos e] at h2
      exact absurd h2 e
/-- A key belongs to one list only. -/
theorem keyL_inj {p q : List Vl} (hp : ∀ v ∈ p, okV v) (hq : ∀ v ∈ q, okV v) (h : keyL p = keyL q) : p = q := by
  refine cmpT_zero ?_
  rw [← keyL_cmp p q hp hq, h]
  exact cmpB_self _
theorem keyL_append (p q : List Vl) : keyL (p ++ q) = keyL p ++ keyL q := by
  unfold keyL
  rw [List.map_append, List.flatten_append]
end Go.Proofs.YtpbkmkcfhkdjjaaDoor

/- CRC-32C and FNV-1a on natural numbers. -/
import Derived.Test.YtckomifecmemnaaGreatGnd
namespace Go.Proofs.YtckomifecmemnaaGreat
open Dig
set_option linter.unusedVariables false

/-! ### The register -/
theorem xor_inj {a b c : Nat} (h : a ^^^ c = b ^^^ c) : a = b := by
  have := congrArg (· ^^^ c) h
  simpa [Nat.xor_assoc, Nat.xor_self, Nat.xor_zero] using this
/-- One bit is shifted out. -/
def st (r : Nat) : Nat := if r % 2 = 1 then r / 2 ^^^ 2197175160 else r / 2
def sts : Nat → Nat → Nat
  | 0, r => r
  | k + 1, r => sts k (st r)
theorem st_xor (a b : Nat) : st (a ^^^ b) = st a ^^^ st b := by
  have h1 : (a ^^^ b) % 2 = (a + b) % 2 := by
    have h := @Nat.xor_mod_two_eq_one a b
    generalize a ^^^ b = x at *
    omega
  have h2 : (a ^^^ b) / 2 = a / 2 ^^^ b / 2 := Nat.xor_div_two
  unfold st
  rw [h1, h2]
  rcases Nat.mod_two_eq_zero_or_one a with ha | ha <;> rcases Nat.mod_two_eq_zero_or_one b with hb | hb
  · rw [if_neg (by omega), if_neg (by omega), if_neg (by omega)]
  · rw [if_pos (by omega), if_neg (by omega), if_pos (by omega), Nat.xor_assoc]
  · rw [if_pos (by omega), if_pos (by omega), if_neg (by omega), Nat.xor_assoc, Nat.xor_assoc, Nat.xor_comm (b / 2)]
  · rw [if_neg (by omega), if_pos (by omega), if_pos (by omega)]
    rw [show a / 2 ^^^ 2197175160 ^^^ (b / 2 ^^^ 2197175160) = a / 2 ^^^ b / 2 ^^^ (2197175160 ^^^ 2197175160) by
      rw [Nat.xor_assoc, Nat.xor_assoc, ← Nat.xor_assoc 2197175160, Nat.xor_comm 2197175160 (b / 2), Nat.xor_assoc]]
    rw [Nat.xor_self, Nat.xor_zero]
theorem sts_xor : ∀ (k a b : Nat), sts k (a ^^^ b) = sts k a ^^^ sts k b
  | 0, _, _ => rfl
  | k + 1, a, b => by
    show sts k (st (a ^^^ b)) = _
    rw [st_xor]
    exact sts_xor k _ _
theorem sts_add : ∀ (j k r : Nat), sts (j + k) r = sts k (sts j r)
  | 0, k, r => by rw [Nat.zero_add]; rfl
  | j + 1, k, r => by
    rw [show j + 1 + k = (j + k) + 1 by omega]
    exact sts_add j k (st r)
theorem sts_succ (k r : Nat) : sts (k + 1) r = st (sts k r) := sts_add k 1 r
theorem st_even (x : Nat) : st (2 * x) = x := by
  unfold st
  rw [if_neg (by omega)]
  omega
theorem sts_shift : ∀ (k x : Nat), sts k (2 ^ k * x) = x
  | 0, x => by show 2 ^ 0 * x = x; omega
  | k + 1, x => by
    show sts k (st (2 ^ (k + 1) * x)) = x
    rw [show 2 ^ (k + 1) * x = 2 * (2 ^ k * x) by rw [Nat.pow_succ, Nat.mul_comm (2 ^ k) 2, Nat.mul_assoc], st_even]
    exact sts_shift k x
theorem st_lt {r : Nat} (h : r < 4294967296) : st r < 4294967296 := by
  unfold st
  split
  · exact Nat.xor_lt_two_pow (n := 32) (by omega) (by omega)
  · omega
theorem st_ne {r : Nat} (h : r < 4294967296) (h0 : r ≠ 0) : st r ≠ 0 := by
  unfold st
  split
  · intro e
    have := xor_inj (e.trans (Nat.xor_self 2197175160).symm)
    omega
  · omega
theorem sts_lt : ∀ (k : Nat) {r : Nat}, r < 4294967296 → sts k r < 4294967296
  | 0, _, h => h
  | k + 1, _, h => sts_lt k (st_lt h)
theorem sts_ne : ∀ (k : Nat) {r : Nat}, r < 4294967296 → r ≠ 0 → sts k r ≠ 0
  | 0, _, _, h0 => h0
  | k + 1, _, h, h0 => sts_ne k (st_lt h) (st_ne h h0)

/-! ### Bytes, the lowest first -/
def leV : List UInt8 → Nat
  | [] => 0
  | c :: cs => 2 ^ 8 * leV cs + c.toNat
theorem add_xor {i a b : Nat} (h : b < 2 ^ i) : 2 ^ i * a + b = 2 ^ i * a ^^^ b := by
  apply Nat.eq_of_testBit_eq
  intro j
  rw [Nat.testBit_xor, Nat.testBit_two_pow_mul_add a h, Nat.testBit_two_pow_mul]
  by_cases hj : j < i
  · rw [if_pos hj]
    have : ¬ j ≥ i := by omega
    simp [this]
  · rw [if_neg hj]
    have : b.testBit j = false := Nat.testBit_lt_two_pow (Nat.lt_of_lt_of_le h (Nat.pow_le_pow_right (by omega) (by omega)))
    have h2 : j ≥ i := by omega
    simp [this, h2]
theorem mul_xor (i a b : Nat) : 2 ^ i * (a ^^^ b) = 2 ^ i * a ^^^ 2 ^ i * b := by
  apply Nat.eq_of_testBit_eq
  intro j
  rw [Nat.testBit_xor, Nat.testBit_two_pow_mul, Nat.testBit_two_pow_mul, Nat.testBit_two_pow_mul, Nat.testBit_xor]
  cases decide (j ≥ i) <;> simp
theorem leV_cons (c : UInt8) (cs : List UInt8) : leV (c :: cs) = 2 ^ 8 * leV cs ^^^ c.toNat := add_xor c.toNat_lt
/-- The register behind bytes. -/
def ext (r : Nat) (ts : List UInt8) : Nat := ts.foldl (fun r c => sts 8 (r ^^^ c.toNat)) r
theorem ext_eq : ∀ (ts : List UInt8) (r : Nat), ext r ts = sts (8 * ts.length) (r ^^^ leV ts)
  | [], r => by show r = r ^^^ 0; rw [Nat.xor_zero]
  | c :: cs, r => by
    show ext (sts 8 (r ^^^ c.toNat)) cs = _
    rw [ext_eq cs, leV_cons, List.length_cons, show 8 * (cs.length + 1) = 8 + 8 * cs.length by omega, sts_add]
    rw [Nat.xor_comm (2 ^ 8 * leV cs), ← Nat.xor_assoc, sts_xor 8 (r ^^^ c.toNat), sts_shift]
theorem ext_append (r : Nat) (ts us : List UInt8) : ext r (ts ++ us) = ext (ext r ts) us := by
  unfold ext
  rw [List.foldl_append]
theorem ext_snoc (r : Nat) (ts : List UInt8) (c : UInt8) : ext r (ts ++ [c]) = sts 8 (ext r ts ^^^ c.toNat) := by rw [ext_append]; rfl
theorem ext_lt : ∀ (ts : List UInt8) {r : Nat}, r < 4294967296 → ext r ts < 4294967296
  | [], _, h => h
  | c :: cs, r, h => ext_lt cs (sts_lt 8 (Nat.xor_lt_two_pow (n := 32) h (by have := c.toNat_lt; omega)))
/-- The complement. -/
def cpl (r : Nat) : Nat := r ^^^ 4294967295
theorem cpl_cpl (r : Nat) : cpl (cpl r) = r := by unfold cpl; rw [Nat.xor_assoc, Nat.xor_self, Nat.xor_zero]
theorem cpl_lt {r : Nat} (h : r < 4294967296) : cpl r < 4294967296 := Nat.xor_lt_two_pow (n := 32) h (by omega)
theorem cpl_inj {a b : Nat} (h : cpl a = cpl b) : a = b := by rw [← cpl_cpl a, h, cpl_cpl]
theorem cpl_xor3 (a b c : Nat) : cpl (a ^^^ b ^^^ c) = cpl a ^^^ cpl b ^^^ cpl c := by
  unfold cpl
  generalize 4294967295 = F
  rw [show a ^^^ F ^^^ (b ^^^ F) ^^^ (c ^^^ F) = (a ^^^ b ^^^ c) ^^^ (F ^^^ F ^^^ F) by ac_rfl, Nat.xor_self, Nat.zero_xor]
def crcX (crc : Nat) (ts : List UInt8) : Nat := cpl (ext (cpl crc) ts)
def crcN (ts : List UInt8) : Nat := crcX 0 ts
theorem crcX_lt {crc : Nat} (ts : List UInt8) (h : crc < 4294967296) : crcX crc ts < 4294967296 := cpl_lt (ext_lt ts (cpl_lt h))
theorem crcN_lt (ts : List UInt8) : crcN ts < 4294967296 := crcX_lt ts (by omega)
theorem crcX_append (crc : Nat) (ts us : List UInt8) : crcX (crcX crc ts) us = crcX crc (ts ++ us) := by
  unfold crcX
  rw [cpl_cpl, ext_append]
/-! ### A burst -/
theorem crc_ne {ts us : List UInt8} {d k : Nat} (hl : us.length = ts.length) (hv : leV us = leV ts ^^^ 2 ^ k * d) (h0 : d ≠ 0) (hd : d < 4294967296) (hk : k ≤ 8 * ts.length) : crcN ts ≠ crcN us := by
  intro e
  have e := cpl_inj e
  rw [ext_eq, ext_eq, hl, hv, ← Nat.xor_assoc, sts_xor _ _ (2 ^ k * d)] at e
  have e2 : sts (8 * ts.length) (2 ^ k * d) = 0 := by
    have := congrArg (fun x => sts (8 * ts.length) (cpl 0 ^^^ leV ts) ^^^ x) e
    simp only [← Nat.xor_assoc, Nat.xor_self, Nat.zero_xor] at this
    exact this.symm
  rw [show 8 * ts.length = k + (8 * ts.length - k) by omega, sts_add, sts_shift] at e2
  exact sts_ne _ hd h0 e2
/-! ### Affine -/
theorem crc_affine {us bs cs xs : List UInt8} {n : Nat} (ha : us.length = n) (hb : bs.length = n) (hc : cs.length = n) (hx : xs.length = n) (hv : leV xs = leV us ^^^ leV bs ^^^ leV cs) : crcN xs = crcN us ^^^ crcN bs ^^^ crcN cs := by
  unfold crcN crcX
  rw [← cpl_xor3, ext_eq, ext_eq, ext_eq, ext_eq, ha, hb, hc, hx, hv, ← sts_xor, ← sts_xor]
  congr 2
  generalize cpl 0 = F
  rw [show F ^^^ leV us ^^^ (F ^^^ leV bs) ^^^ (F ^^^ leV cs) = F ^^^ F ^^^ F ^^^ (leV us ^^^ leV bs ^^^ leV cs) by ac_rfl, Nat.xor_self, Nat.zero_xor]
/-! ### Sealed -/
def le4 (p : Nat) : List UInt8 := [oct (p % 256), oct (p / 256 % 256), oct (p / 65536 % 256), oct (p / 16777216 % 256)]
theorem leV_le4 {p : Nat} (h : p < 4294967296) : leV (le4 p) = p := by
  unfold le4 leV leV leV leV leV
  rw [oct_toNat (by omega), oct_toNat (by omega), oct_toNat (by omega), oct_toNat (by omega)]
  omega
theorem crc_sealed (ts : List UInt8) : crcN (ts ++ le4 (crcN ts)) = cpl (sts 32 4294967295) := by
  have h1 : crcN ts = ext (cpl 0) ts ^^^ 4294967295 := rfl
  have h2 := crcN_lt ts
  show cpl (ext (cpl 0) (ts ++ le4 (crcN ts))) = _
  rw [ext_append, ext_eq (le4 _), leV_le4 h2, h1, ← Nat.xor_assoc, Nat.xor_self, Nat.zero_xor]
  rfl
/-! ### The change of a bit -/
theorem leV_flip : ∀ (cs : List UInt8) (k : Nat), k < 8 * cs.length → leV (cs.set (k / 8) (oct ((cs.getD (k / 8) 0).toNat ^^^ 2 ^ (k % 8)))) = leV cs ^^^ 2 ^ k
  | [], k, h => by simp at h
  | c :: cs, k, h => by
    by_cases hk : k < 8
    · have e1 : k / 8 = 0 := by omega
      have e2 : k % 8 = k := by omega
      rw [e1, e2]
      show leV (oct (c.toNat ^^^ 2 ^ k) :: cs) = _
      have hx : c.toNat ^^^ 2 ^ k < 256 := Nat.xor_lt_two_pow (n := 8) c.toNat_lt (Nat.pow_lt_pow_right (by omega) hk)
      rw [leV_cons, leV_cons, oct_toNat hx, Nat.xor_assoc]
    · obtain ⟨j, rfl⟩ : ∃ j, k = j + 8 := ⟨k - 8, by omega⟩
      rw [show (j + 8) / 8 = j / 8 + 1 by omega, show (j + 8) % 8 = j % 8 by omega]
      show leV (c :: cs.set (j / 8) (oct ((cs.getD (j / 8) 0).toNat ^^^ 2 ^ (j % 8)))) = _
      rw [leV_cons, leV_flip cs j (by simp at h; omega), leV_cons, mul_xor, show 2 ^ 8 * 2 ^ j = 2 ^ (j + 8) by rw [Nat.pow_add, Nat.mul_comm]]
      ac_rfl
theorem bit_more (d i : Nat) : d % 2 ^ (i + 1) = if d / 2 ^ i % 2 = 1 then d % 2 ^ i ^^^ 2 ^ i else d % 2 ^ i := by
  have h : d % 2 ^ (i + 1) = 2 ^ i * (d / 2 ^ i % 2) + d % 2 ^ i := by
    rw [Nat.pow_succ, Nat.mod_mul, Nat.add_comm]
  rw [h]
  split
  · rename_i h1
    rw [h1, add_xor (Nat.mod_lt _ (Nat.two_pow_pos i)), Nat.mul_one, Nat.xor_comm]
  · rename_i h1
    have h0 : d / 2 ^ i % 2 = 0 := by omega
    rw [h0]
    omega
/-! ### FNV-1a -/
def fst1 (h : Nat) (c : UInt8) : Nat := (h ^^^ c.toNat) * 1099511628211 % 18446744073709551616
def fnv (h : Nat) (ts : List UInt8) : Nat := ts.foldl fst1 h
def hashN (ts : List UInt8) : Nat := fnv 14695981039346656037 ts
theorem fnv_cons (h : Nat) (c : UInt8) (cs : List UInt8) : fnv h (c :: cs) = fnv (fst1 h c) cs := List.foldl_cons
theorem fst1_lt (h : Nat) (c : UInt8) : fst1 h c < 18446744073709551616 := by
  unfold fst1
  omega
theorem fst1_eq (h : Nat) (c : UInt8) : fst1 h c = (h ^^^ c.toNat) * 1099511628211 % 18446744073709551616 := by
  unfold fst1
  rfl
theorem fnv_lt : ∀ (ts : List UInt8) {h : Nat}, h < 18446744073709551616 → fnv h ts < 18446744073709551616
  | [], _, h => h
  | c :: cs, _, h => by rw [fnv_cons]; exact fnv_lt cs (fst1_lt _ _)
theorem fnv_snoc (h : Nat) (ts : List UInt8) (c : UInt8) : fnv h (ts ++ [c]) = fst1 (fnv h ts) c := by
  unfold fnv
  rw [List.foldl_append, List.foldl_cons, List.foldl_nil]
theorem fnv_mul {a b : Nat} (ha : a < 18446744073709551616) (hb : b < 18446744073709551616) (h : a * 1099511628211 % 18446744073709551616 = b * 1099511628211 % 18446744073709551616) : a = b := by
  have key : ∀ x, x < 18446744073709551616 → x * 1099511628211 % 18446744073709551616 * 14886173955864302971 % 18446744073709551616 = x := by
    intro x hx
    rw [Nat.mod_mul_mod, Nat.mul_assoc, Nat.mul_mod, show 1099511628211 * 14886173955864302971 % 18446744073709551616 = 1 from by decide, Nat.mul_one, Nat.mod_mod, Nat.mod_eq_of_lt hx]
  rw [← key a ha, h, key b hb]
theorem fnv_inj : ∀ (ts : List UInt8) {a b : Nat}, a < 18446744073709551616 → b < 18446744073709551616 → fnv a ts = fnv b ts → a = b
  | [], _, _, _, _, e => e
  | c :: cs, a, b, ha, hb, e => by
    have hc := c.toNat_lt
    rw [fnv_cons, fnv_cons] at e
    have := fnv_inj cs (fst1_lt _ _) (fst1_lt _ _) e
    rw [fst1_eq, fst1_eq] at this
    exact xor_inj (fnv_mul (Nat.xor_lt_two_pow (n := 64) ha (by omega)) (Nat.xor_lt_two_pow (n := 64) hb (by omega)) this)
theorem fnv_ne : ∀ (ts : List UInt8) (k : Nat) (u : UInt8) {h : Nat}, h < 18446744073709551616 → k < ts.length → u ≠ ts.getD k 0 → fnv h (ts.set k u) ≠ fnv h ts
  | [], _, _, _, _, hk, _ => by simp at hk
  | c :: cs, 0, u, h, hh, _, hu => by
    intro e
    have hc := c.toNat_lt
    have hu2 := u.toNat_lt
    rw [List.set_cons_zero, fnv_cons, fnv_cons] at e
    have e2 := fnv_inj cs (fst1_lt _ _) (fst1_lt _ _) e
    rw [fst1_eq, fst1_eq] at e2
    have e3 := fnv_mul (Nat.xor_lt_two_pow (n := 64) hh (by omega)) (Nat.xor_lt_two_pow (n := 64) hh (by omega)) e2
    rw [Nat.xor_comm h, Nat.xor_comm h] at e3
    exact hu (UInt8.toNat_inj.1 (xor_inj e3))
  | c :: cs, k + 1, u, h, hh, hk, hu => by
    rw [List.set_cons_succ, fnv_cons, fnv_cons]
    exact fnv_ne cs k u (fst1_lt _ _) (by simpa using hk) hu
end Go.Proofs.YtckomifecmemnaaGreat

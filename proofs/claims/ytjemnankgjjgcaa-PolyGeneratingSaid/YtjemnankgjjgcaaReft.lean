/- The contracts of Parse, and of the reference functions Digits, NatDigits and NatParse, for every string. -/
import Derived.Deep.RegionHeld3
import Derived.Laws.Concat
import Derived.Test.YtjemnankgjjgcaaRefd
import Derived.Test.YtjemnankgjjgcaaVals
namespace Go.Proofs.Ytjemnankgjjgcaa
open Go.RowKit Dig
set_option linter.unusedVariables false

namespace Dig
/-- These letters are the text of a number. -/
def isText (l : List UInt8) : Bool := l.all isDig && lead l
def perr (l : List UInt8) : Int := if isText l then 0 else 2
def pnum (l : List UInt8) : Nat := if isText l then dec l else 0
end Dig
/-- What parsing hands back. -/
def RP (w : World) (l : List UInt8) (e : Ending) (w' : World) : Prop := ∃ r, e = .returned (.tuple #[r, .int .i64 (perr l)]) ∧ Num w' r (dg (pnum l)) ∧ Below w.heap.size w w'


theorem char_at (s : ByteArray) (j : Nat) (h : j < s.size) : (s[j]'h) = (chars s).getD j 0 := by
  have h1 : j < s.data.size := h
  unfold chars
  rw [List.getD_eq_getElem?_getD, List.getElem?_eq_getElem (by simpa using h1)]
  rfl



end Go.Proofs.Ytjemnankgjjgcaa

/- The contracts of the reference functions NatParse, for every string, small and NatFormat. -/
namespace Go.Proofs.Ytjemnankgjjgcaa
open Go.RowKit Dig
set_option linter.unusedVariables false

namespace Dig
/-- Above place k the digits of zs are those of the quotient by ten; r is the remainder. -/
def TenRel (xs zs : List Nat) (k r : Nat) : Prop := zs.length = xs.length ∧ Small zs ∧ val (xs.drop k) = val (zs.drop k) * 10 + r ∧ r < 10
theorem TenRel.start (xs : List Nat) : TenRel xs (List.replicate xs.length 0) xs.length 0 :=
  ⟨by simp, Small.replicate _, by rw [List.drop_of_length_le (Nat.le_refl _), List.drop_of_length_le (by simp)]; rfl, by omega⟩
theorem TenRel.step {xs zs : List Nat} {k r x : Nat} (h : TenRel xs zs (k + 1) r) (hk : k < xs.length) (hx : xs.getD k 0 = x) (hs : Small xs) :
    TenRel xs (zs.set k ((x + 4294967296 * r) / 10)) k ((x + 4294967296 * r) % 10) ∧ (x + 4294967296 * r) / 10 < 4294967296 := by
  obtain ⟨hl, hz, hv, hr⟩ := h
  have hxb := hs.get k
  rw [hx] at hxb
  have hq : (x + 4294967296 * r) / 10 < 4294967296 := by omega
  refine ⟨⟨by simpa using hl, hz.set _ _ hq, ?_, Nat.mod_lt _ (by omega)⟩, hq⟩
  rw [drop_set _ _ _ (by omega), drop_getD xs k hk, hv, hx]
  omega
theorem TenRel.done {xs zs : List Nat} {r : Nat} (h : TenRel xs zs 0 r) : val zs = val xs / 10 ∧ r = val xs % 10 := by
  obtain ⟨hl, hz, hv, hr⟩ := h
  simp only [List.drop_zero] at hv
  omega
theorem dtextF_zero (f : Nat) : dtextF f 0 = [] := by cases f <;> rfl
theorem dtextF_fuel (f n : Nat) (h : n ≤ f) : dtextF f n = dtextF n n := by
  induction f using Nat.strongRecOn generalizing n with
  | _ f ih =>
    rcases Nat.eq_zero_or_pos n with h0 | h0
    · subst h0; rw [dtextF_zero, dtextF_zero]
    · obtain ⟨f', rfl⟩ : ∃ f', f = f' + 1 := ⟨f - 1, by omega⟩
      obtain ⟨m, rfl⟩ : ∃ m, n = m + 1 := ⟨n - 1, by omega⟩
      rw [dtextF, dtextF, if_neg (by omega), if_neg (by omega), ih f' (by omega) ((m + 1) / 10) (by omega)]
      rcases Nat.lt_or_ge m f' with h1 | h1
      · rw [ih m (by omega) ((m + 1) / 10) (by omega)]
      · rw [show m = f' by omega, ih f' (by omega) ((f' + 1) / 10) (by omega)]
/-- The decimal letters of a number, none for 0. -/
def dpart (n : Nat) : List UInt8 := dtextF n n
theorem dpart_zero : dpart 0 = [] := rfl
theorem dpart_step (n : Nat) (h : 0 < n) : dpart n = dpart (n / 10) ++ [UInt8.ofNat (48 + n % 10)] := by
  obtain ⟨m, rfl⟩ : ∃ m, n = m + 1 := ⟨n - 1, by omega⟩
  rw [dpart, dtextF, if_neg (by omega), dtextF_fuel m ((m + 1) / 10) (by omega)]
  rfl
theorem dtext_part (n : Nat) (h : 0 < n) : dtext n = dpart n := by rw [dtext, if_neg (by omega)]; rfl
theorem dtext_length (n D : Nat) (h : n < 4294967296 ^ D) (hD : 0 < D) : (dtext n).length ≤ 10 * D := by
  obtain ⟨h1, h2, h3⟩ := dtext_spec n
  cases hl : dtext n with
  | nil => simp
  | cons c t =>
    rw [hl] at h1 h2 h3
    rcases Nat.lt_or_ge (10 ^ t.length) (10 ^ (10 * D)) with h4 | h4
    · have := (Nat.pow_lt_pow_iff_right (by omega : 1 < 10)).1 h4
      simp; omega
    · have h5 := pow32_10 D
      by_cases hc : c = 48
      · simp [lead, hc] at h3
        rw [h3]; simp; omega
      · have := dec_lead_ge c t (h1 c (by simp)) hc
        omega
end Dig




theorem RP.no {w w' : World} {l : List UInt8} {e : Ending} (ht : isText l = false) (h : e = .returned (.tuple #[.slice none 0 0, .int .i64 2]) ∧ Below w.heap.size w w') : RP w l e w' :=
  ⟨.slice none 0 0, by rw [perr, ht]; exact h.1, by rw [pnum, ht]; exact Num.nil w', h.2⟩



/-- A row of one letter. -/
theorem let_one (w : World) (c : UInt8) (q : Int) (hq : q = (c.toNat : Int)) : Let (w.alloc (.cells #[.int .u8 q] 5)) w.heap.size [c] := by
  subst hq
  unfold Let
  rw [heap_alloc_new]
  simp [V]

/-- The length of a string. -/
def strLen : Value → Nat | .string b => b.size | _ => 0

end Go.Proofs.Ytjemnankgjjgcaa

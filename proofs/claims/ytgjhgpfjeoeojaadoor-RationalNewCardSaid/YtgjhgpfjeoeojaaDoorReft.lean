/- The contracts of Parse, and of the reference functions Digits, NatDigits and NatParse, for every string. -/
import Derived.Deep.RegionHeld3
import Derived.Laws.Concat
import Derived.Test.YtgjhgpfjeoeojaaDoorRefd
import Derived.Test.YtgjhgpfjeoeojaaDoorVals
namespace Go.Proofs.YtgjhgpfjeoeojaaDoor
open Go.RowKit Dig
set_option linter.unusedVariables false

namespace Dig
/-- These letters are the text of a number. -/
def isText (l : List UInt8) : Bool := l.all isDig && lead l
def perr (l : List UInt8) : Int := if isText l then 0 else 2
def pnum (l : List UInt8) : Nat := if isText l then dec l else 0
end Dig
/-- What parsing hands back. -/
def RP (w : World) (l : List UInt8) (e : Ending) (w' : World) : Prop := ∃ r, e = .returned (.tuple #[r, .int .i64 (perr l)]) ∧ Num w' r (dg (pnum l)) ∧ Below w.heap.size w w'

theorem parse_any (w : World) (s : ByteArray) (hs : s.size ≤ 4000) : Calls Tryd.prog 75 #[.string s] w (RP w (chars s)) := by
  have hno : isText (chars s) = false → Calls Tryd.prog 91 #[.string s] w (fun e w' => e = .returned (.bool false) ∧ Below w.heap.size w w') → Calls Tryd.prog 75 #[.string s] w (RP w (chars s)) := by
    intro h hD
    exact (parse_not w s hs hD).mono fun e w' ⟨a, b⟩ => ⟨.slice none 0 0, by rw [perr, h]; exact a, by rw [pnum, h]; exact Num.nil w', b⟩
  by_cases hall : (chars s).all isDig = true
  · have hall2 : ∀ j, j < (chars s).length → isDig ((chars s).getD j 0) = true := by
      intro j hj
      rw [List.all_eq_true] at hall
      exact hall _ (by rw [List.getD_eq_getElem?_getD, List.getElem?_eq_getElem hj]; exact List.getElem_mem hj)
    rcases Nat.eq_zero_or_pos s.size with h0 | hp
    · refine hno ?_ (isDec_empty w s h0)
      have : chars s = [] := List.eq_nil_of_length_eq_zero (by rw [chars_length]; exact h0)
      rw [this]; rfl
    · have hD := isDec_all w s hs hp hall2
      cases hl : lead (chars s) with
      | false =>
        rw [hl] at hD
        exact hno (by rw [isText, hall, hl]; rfl) hD
      | true =>
        have ht : isText (chars s) = true := by rw [isText, hall, hl]; rfl
        refine (parse_c w s hs hp (by rw [List.all_eq_true] at hall; exact hall) hl).mono fun e w' ⟨r, a, b, c⟩ => ⟨r, ?_, ?_, c⟩
        · rw [perr, ht]; exact a
        · rw [pnum, ht]; exact b.num
  · have h2 : ∃ k, k < (chars s).length ∧ isDig ((chars s).getD k 0) = false := by
      rw [List.all_eq_true] at hall
      simp only [Classical.not_forall] at hall
      obtain ⟨c, hc, hd⟩ := hall
      obtain ⟨k, hk, e⟩ := List.getElem_of_mem hc
      refine ⟨k, hk, ?_⟩
      rw [List.getD_eq_getElem?_getD, List.getElem?_eq_getElem hk, Option.getD_some, e]
      simpa using hd
    obtain ⟨k, hk, hn⟩ := h2
    exact hno (by rw [isText]; simp only [Bool.not_eq_true] at hall; rw [hall]; rfl) (isDec_no w s hs k hk hn)

theorem char_at (s : ByteArray) (j : Nat) (h : j < s.size) : (s[j]'h) = (chars s).getD j 0 := by
  have h1 : j < s.data.size := h
  unfold chars
  rw [List.getD_eq_getElem?_getD, List.getElem?_eq_getElem (by simpa using h1)]
  rfl



end Go.Proofs.YtgjhgpfjeoeojaaDoor

/- The contracts of the reference functions NatParse, for every string, small and NatFormat. -/
namespace Go.Proofs.YtgjhgpfjeoeojaaDoor
open Go.RowKit Dig
set_option linter.unusedVariables false

namespace Dig
/-- Above place k the digits of zs are those of the quotient by ten; r is the remainder. -/
def TenRel (xs zs : List Nat) (k r : Nat) : Prop := zs.length = xs.length ∧ Small zs ∧ val (xs.drop k) = val (zs.drop k) * 10 + r ∧ r < 10
theorem TenRel.start (xs : List Nat) : TenRel xs (List.replicate xs.length 0) xs.length 0 :=
  ⟨by simp, Small.replicate _, by rw [List.drop_of_length_le (Nat.le_refl _), List.drop_of_length_le (by simp)]; rfl, by omega⟩
theorem TenRel.step {xs zs : List Nat} {k r x : Nat} (h : TenRel xs zs (k + 1) r) (hk : k < xs.length) (hx : xs.getD k 0 = x) (hs : Small xs) :
    TenRel xs (zs.set k ((x + 4294967296 * r) / 10)) k ((x + 4294967296 * r) % 10) ∧ (x + 4294967296 * r) / 10 < 4294967296 := by
  obtain ⟨hl, hz, hv, hr⟩ := h
  have hxb := hs.get k
  rw [hx] at hxb
  have hq : (x + 4294967296 * r) / 10 < 4294967296 := by omega
  refine ⟨⟨by simpa using hl, hz.set _ _ hq, ?_, Nat.mod_lt _ (by omega)⟩, hq⟩
  rw [drop_set _ _ _ (by omega), drop_getD xs k hk, hv, hx]
  omega
theorem TenRel.done {xs zs : List Nat} {r : Nat} (h : TenRel xs zs 0 r) : val zs = val xs / 10 ∧ r = val xs % 10 := by
  obtain ⟨hl, hz, hv, hr⟩ := h
  simp only [List.drop_zero] at hv
  omega
theorem dtextF_zero (f : Nat) : dtextF f 0 = [] := by cases f <;> rfl
theorem dtextF_fuel (f n : Nat) (h : n ≤ f) : dtextF f n = dtextF n n := by
  induction f using Nat.strongRecOn generalizing n with
  | _ f ih =>
    rcases Nat.eq_zero_or_pos n with h0 | h0
    · subst h0; rw [dtextF_zero, dtextF_zero]
    · obtain ⟨f', rfl⟩ : ∃ f', f = f' + 1 := ⟨f - 1, by omega⟩
      obtain ⟨m, rfl⟩ : ∃ m, n = m + 1 := ⟨n - 1, by omega⟩
      rw [dtextF, dtextF, if_neg (by omega), if_neg (by omega), ih f' (by omega) ((m + 1) / 10) (by omega)]
      rcases Nat.lt_or_ge m f' with h1 | h1
      · rw [ih m (by omega) ((m + 1) / 10) (by omega)]
      · rw [show m = f' by omega, ih f' (by omega) ((f' + 1) / 10) (by omega)]
/-- The decimal letters of a number, none for 0. -/
def dpart (n : Nat) : List UInt8 := dtextF n n
theorem dpart_zero : dpart 0 = [] := rfl
theorem dpart_step (n : Nat) (h : 0 < n) : dpart n = dpart (n / 10) ++ [UInt8.ofNat (48 + n % 10)] := by
  obtain ⟨m, rfl⟩ : ∃ m, n = m + 1 := ⟨n - 1, by omega⟩
  rw [dpart, dtextF, if_neg (by omega), dtextF_fuel m ((m + 1) / 10) (by omega)]
  rfl
theorem dtext_part (n : Nat) (h : 0 < n) : dtext n = dpart n := by rw [dtext, if_neg (by omega)]; rfl
theorem dtext_length (n D : Nat) (h : n < 4294967296 ^ D) (hD : 0 < D) : (dtext n).length ≤ 10 * D := by
  obtain ⟨h1, h2, h3⟩ := dtext_spec n
  cases hl : dtext n with
  | nil => simp
  | cons c t =>
    rw [hl] at h1 h2 h3
    rcases Nat.lt_or_ge (10 ^ t.length) (10 ^ (10 * D)) with h4 | h4
    · have := (Nat.pow_lt_pow_iff_right (by omega : 1 < 10)).1 h4
      simp; omega
    · have h5 := pow32_10 D
      by_cases hc : c = 48
      · simp [lead, hc] at h3
        rw [h3]; simp; omega
      · have := dec_lead_ge c t (h1 c (by simp)) hc
        omega
end Dig




theorem RP.no {w w' : World} {l : List UInt8} {e : Ending} (ht : isText l = false) (h : e = .returned (.tuple #[.slice none 0 0, .int .i64 2]) ∧ Below w.heap.size w w') : RP w l e w' :=
  ⟨.slice none 0 0, by rw [perr, ht]; exact h.1, by rw [pnum, ht]; exact Num.nil w', h.2⟩



/-- A row of one letter. -/
theorem let_one (w : World) (c : UInt8) (q : Int) (hq : q = (c.toNat : Int)) : Let (w.alloc (.cells #[.int .u8 q] 5)) w.heap.size [c] := by
  subst hq
  unfold Let
  rw [heap_alloc_new]
  simp [V]

/-- The length of a string. -/
def strLen : Value → Nat | .string b => b.size | _ => 0

end Go.Proofs.YtgjhgpfjeoeojaaDoor

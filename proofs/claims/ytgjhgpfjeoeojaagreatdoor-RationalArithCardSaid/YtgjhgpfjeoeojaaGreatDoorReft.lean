/- The contracts of Parse, and of the reference functions Digits, NatDigits and NatParse, for every string. -/
import Derived.Deep.RegionHeld3
import Derived.Laws.Concat
import Derived.Test.YtgjhgpfjeoeojaaGreatDoorRefd
import Derived.Test.YtgjhgpfjeoeojaaGreatDoorVals
namespace Go.Proofs.YtgjhgpfjeoeojaaGreatDoor
open Go.RowKit Dig
set_option linter.unusedVariables false

namespace Dig
/-- These letters are the text of a number. -/
def isText (l : List UInt8) : Bool := l.all isDig && lead l
def perr (l : List UInt8) : Int := if isText l then 0 else 2
def pnum (l : List UInt8) : Nat := if isText l then dec l else 0
end Dig
/-- What parsing hands back. -/
def RP (w : World) (l : List UInt8) (e : Ending) (w' : World) : Prop := ∃ r, e = .returned (.tuple #[r, .int .i64 (perr l)]) ∧ Num w' r (dg (pnum l)) ∧ Below w.heap.size w w'

theorem parse_any (w : World) (s : ByteArray) (hs : s.size ≤ 4000) : Calls Tryz.prog 105 #[.string s] w (RP w (chars s)) := by
  have hno : isText (chars s) = false → Calls Tryz.prog 120 #[.string s] w (fun e w' => e = .returned (.bool false) ∧ Below w.heap.size w w') → Calls Tryz.prog 105 #[.string s] w (RP w (chars s)) := by
    intro h hD
    exact (parse_not w s hs hD).mono fun e w' ⟨a, b⟩ => ⟨.slice none 0 0, by rw [perr, h]; exact a, by rw [pnum, h]; exact Num.nil w', b⟩
  by_cases hall : (chars s).all isDig = true
  · have hall2 : ∀ j, j < (chars s).length → isDig ((chars s).getD j 0) = true := by
      intro j hj
      rw [List.all_eq_true] at hall
      exact hall _ (by rw [List.getD_eq_getElem?_getD, List.getElem?_eq_getElem hj]; exact List.getElem_mem hj)
    rcases Nat.eq_zero_or_pos s.size with h0 | hp
    · refine hno ?_ (isDec_empty w s h0)
      have : chars s = [] := List.eq_nil_of_length_eq_zero (by rw [chars_length]; exact h0)
      rw [this]; rfl
    · have hD := isDec_all w s hs hp hall2
      cases hl : lead (chars s) with
      | false =>
        rw [hl] at hD
        exact hno (by rw [isText, hall, hl]; rfl) hD
      | true =>
        have ht : isText (chars s) = true := by rw [isText, hall, hl]; rfl
        refine (parse_c w s hs hp (by rw [List.all_eq_true] at hall; exact hall) hl).mono fun e w' ⟨r, a, b, c⟩ => ⟨r, ?_, ?_, c⟩
        · rw [perr, ht]; exact a
        · rw [pnum, ht]; exact b.num
  · have h2 : ∃ k, k < (chars s).length ∧ isDig ((chars s).getD k 0) = false := by
      rw [List.all_eq_true] at hall
      simp only [Classical.not_forall] at hall
      obtain ⟨c, hc, hd⟩ := hall
      obtain ⟨k, hk, e⟩ := List.getElem_of_mem hc
      refine ⟨k, hk, ?_⟩
      rw [List.getD_eq_getElem?_getD, List.getElem?_eq_getElem hk, Option.getD_some, e]
      simpa using hd
    obtain ⟨k, hk, hn⟩ := h2
    exact hno (by rw [isText]; simp only [Bool.not_eq_true] at hall; rw [hall]; rfl) (isDec_no w s hs k hk hn)

theorem char_at (s : ByteArray) (j : Nat) (h : j < s.size) : (s[j]'h) = (chars s).getD j 0 := by
  have h1 : j < s.data.size := h
  unfold chars
  rw [List.getD_eq_getElem?_getD, List.getElem?_eq_getElem (by simpa using h1)]
  rfl

set_option maxHeartbeats 1000000 in
theorem digits_all (w : World) (s : ByteArray) (hs : s.size ≤ 4000) (hall : ∀ j, j < (chars s).length → isDig ((chars s).getD j 0) = true) :
    Calls Tryz.prog 61 #[.string s] w fun e w' => e = .returned (.bool (decide (0 < s.size))) ∧ w = w' := by
  have hl := chars_length s
  have HL := Lib.hid hl
  have HA := Lib.hid hall
  clear hl hall
  go_enter Tryz.func61, Tryz.ntmps61
  go_wp2_with fail
  go_loop [3] (fun i => ∃ j : Nat, j ≤ s.size ∧ i = .int .i64 j) (fun i => s.size - (intOf i).toNat)
  case atStart => exact ⟨0, Nat.zero_le _, rfl⟩
  case round =>
    obtain ⟨j, hj, rfl⟩ := hrel
    by_cases hlt : j < s.size
    · have hd := HA.out j (by rw [HL.out]; exact hlt)
      have hjs : (j : Int) < s.size := by omega
      have hch := char_at s j hlt
      have hd2 : 48 ≤ ((s[j]'hlt)).toNat ∧ ((s[j]'hlt)).toNat ≤ 57 := by rw [hch]; simpa [isDig] using hd
      clear hd hch
      go_wp2_with fail
      go_round
      case rel => exact ⟨j + 1, by omega, by go_num⟩
      case measure => simp [intOf]; omega
    · have : j = s.size := by omega
      subst this
      by_cases h0 : 0 < s.size
      · go_wp2_with fail
        go_ret
        exact ⟨ret_eq (by simp), rfl⟩
      · go_wp2_with fail
        go_ret
        exact ⟨ret_eq (by simp), rfl⟩

set_option maxHeartbeats 1000000 in
theorem digits_no (w : World) (s : ByteArray) (hs : s.size ≤ 4000) (k : Nat) (hk : k < (chars s).length) (hn : isDig ((chars s).getD k 0) = false) :
    Calls Tryz.prog 61 #[.string s] w fun e w' => e = .returned (.bool false) ∧ w = w' := by
  have hl := chars_length s
  have HL := Lib.hid hl
  have HN := Lib.hid hn
  go_enter Tryz.func61, Tryz.ntmps61
  go_wp2_with fail
  have hk2 : k < s.size := by omega
  clear hl hn
  go_loop [3] (fun i => ∃ j : Nat, j ≤ k ∧ i = .int .i64 j) (fun i => k + 1 - (intOf i).toNat)
  case atStart => exact ⟨0, Nat.zero_le _, rfl⟩
  case round =>
    obtain ⟨j, hj, rfl⟩ := hrel
    have hjn : j < s.size := by omega
    have hjs : (j : Int) < s.size := by omega
    have hch := char_at s j hjn
    by_cases hd : isDig ((chars s).getD j 0) = true
    · have hjk : j ≠ k := by intro e; subst e; rw [HN.out] at hd; cases hd
      have hd2 : 48 ≤ ((s[j]'hjn)).toNat ∧ ((s[j]'hjn)).toNat ≤ 57 := by rw [hch]; simpa [isDig] using hd
      clear hd hch
      go_wp2_with fail
      go_round
      case rel => exact ⟨j + 1, by omega, by go_num⟩
      case measure => simp [intOf]; omega
    · have hd2 : ((s[j]'hjn)).toNat < 48 ∨ 57 < ((s[j]'hjn)).toNat := by
        rw [hch]
        simp only [isDig, Bool.and_eq_true, decide_eq_true_eq] at hd
        omega
      clear hd hch
      rcases hd2 with h1 | h1
      · go_wp2_with fail
        go_ret
        exact ⟨rfl, rfl⟩
      · have h2 : ¬ ((s[j]'hjn)).toNat < 48 := by omega
        go_wp2_with fail
        go_ret
        exact ⟨rfl, rfl⟩

set_option maxHeartbeats 2000000 in
theorem natDigits_c (w : World) (s : ByteArray) (hs : s.size ≤ 4000) (hall : ∀ c ∈ chars s, isDig c = true) :
    Calls Tryz.prog 62 #[.string s] w (RNat w (dec (chars s))) := by
  have HL := Lib.hid (chars_length s)
  have HA := Lib.hid hall
  clear hall
  go_enter Tryz.func62, Tryz.ntmps62
  go_wp2_with fail
  go_loopw [3, 4] (fun out i wr => ∃ j : Nat, j ≤ s.size ∧ i = .int .i64 j ∧ Own w.heap.size wr out (dg (dec ((chars s).take j))) ∧ Below w.heap.size w wr) (fun _ i _ => s.size - (intOf i).toNat)
  case atStart => exact ⟨0, Nat.zero_le _, rfl, by rw [List.take_zero]; exact Own.nil _ _, Below.refl _ _⟩
  case round =>
    obtain ⟨j, hj, rfl, hO, hB⟩ := hrel
    by_cases hlt : j < s.size
    · have hjl : j < (chars s).length := by rw [HL.out]; exact hlt
      have hd := HA.out ((chars s).getD j 0) (by rw [List.getD_eq_getElem?_getD, List.getElem?_eq_getElem hjl]; exact List.getElem_mem hjl)
      have hch := char_at s j hlt
      have hst := dec_take_succ (chars s) j hjl
      have hlen : (dg (dec ((chars s).take j))).length ≤ 4000 := by
        have h1 := dec_take_lt (chars s) j j HA.out (Nat.le_refl _)
        have h2 : (10 : Nat) ^ j ≤ 4294967296 ^ j := Nat.pow_le_pow_left (by omega) j
        have h3 := dg_length_le _ _ (Nat.lt_of_lt_of_le h1 h2)
        omega
      rw [← hch] at hd hst
      have hd2 : 48 ≤ ((s[j]'hlt)).toNat ∧ ((s[j]'hlt)).toNat ≤ 57 := by simpa [isDig] using hd
      have hjs : (j : Int) < s.size := by omega
      clear hd hch
      generalize dec ((chars s).take j) = m at *
      obtain ⟨c, hc⟩ : ∃ c, (s[j]'hlt).toNat = 48 + c := ⟨(s[j]'hlt).toNat - 48, by omega⟩
      rw [hc] at hst hd2
      rw [Nat.add_sub_cancel_left] at hst
      have hc9 : c ≤ 9 := by omega
      have HST := Lib.hid hst
      have hlen2 : (dg (m * 10)).length ≤ 4001 := by
        have h1 := dg_lt m
        have h2 : m * 10 < 4294967296 ^ ((dg m).length + 1) := by rw [Nat.pow_succ]; omega
        have := dg_length_le _ _ h2
        omega
      have hlc : (dg c).length ≤ 1 := dg_length_le c 1 (by omega)
      have hci : (c : Int) ≤ 9 := by omega
      have hn := hO.num
      have HLEN := Lib.hid hlen
      have HLEN2 := Lib.hid hlen2
      have HLC := Lib.hid hlc
      have HWR := Lib.hid (show IntKind.u64.wrap (IntKind.u8.wrap (48 + (c : Int) - 48)) = (c : Int) by rw [IntKind.wrap_u8, IntKind.wrap_u64]; omega)
      clear hst hd2 hlen hlen2 hlc hO
      go_wp2_with fail
      go_region_held3 (fun w' => True) (trivial) (first | (go_at_call_of 63 (Value.int IntKind.u64 10); refine (natOf_c _ 10 (by omega)).mono ?_; rintro e w1 ⟨t, rfl, hO1, hB1⟩; have B1 := below_undrew hB1) | (go_at_call 41; refine (natMul_c _ _ _ (dg m) (dg 10) ?_ ?_ ?_ ?_).mono ?_; exact hn.below B1; exact hO1.num; (have := HLEN.out; omega); decide; rintro e w2 ⟨u, rfl, hO2, hB2⟩; rw [val_dg, val_dg] at hO2) | (go_at_call 63; rw [HWR.out]; refine (natOf_c _ c (by omega)).mono ?_; rintro e w3 ⟨t3, rfl, hO3, hB3⟩) | (go_at_call 54; refine (natAdd_c _ _ _ (dg (m * 10)) (dg c) ?_ ?_ ?_ ?_).mono ?_; exact hO2.num.below hB3; exact hO3.num; (have := HLEN2.out; omega); (have := HLC.out; omega); rintro e w4 ⟨t4, rfl, hO4, hB4⟩))
      all_goals
        rw [val_dg, val_dg, ← HST.out] at hO4
        have hB5 := below_then (below_then (below_then (below_then hB B1) hB2) hB3) hB4
        have hO5 : Own w.heap.size w4 t4 _ := hO4.mono (below_then (below_then (below_then hB B1) hB2) hB3).size
        go_wp2_with fail
        go_roundw
        case rel => exact ⟨j + 1, by omega, by go_num, hO5, hB5⟩
        case measure => simp [intOf]; omega
    · have : j = s.size := by omega
      subst this
      rw [List.take_of_length_le (by rw [HL.out]; exact Nat.le_refl _)] at hO
      go_wp2_with fail
      go_ret
      exact ⟨_, rfl, hO, hB⟩
end Go.Proofs.YtgjhgpfjeoeojaaGreatDoor

/- The contracts of the reference functions NatParse, for every string, small and NatFormat. -/
namespace Go.Proofs.YtgjhgpfjeoeojaaGreatDoor
open Go.RowKit Dig
set_option linter.unusedVariables false

namespace Dig
/-- Above place k the digits of zs are those of the quotient by ten; r is the remainder. -/
def TenRel (xs zs : List Nat) (k r : Nat) : Prop := zs.length = xs.length ∧ Small zs ∧ val (xs.drop k) = val (zs.drop k) * 10 + r ∧ r < 10
theorem TenRel.start (xs : List Nat) : TenRel xs (List.replicate xs.length 0) xs.length 0 :=
  ⟨by simp, Small.replicate _, by rw [List.drop_of_length_le (Nat.le_refl _), List.drop_of_length_le (by simp)]; rfl, by omega⟩
theorem TenRel.step {xs zs : List Nat} {k r x : Nat} (h : TenRel xs zs (k + 1) r) (hk : k < xs.length) (hx : xs.getD k 0 = x) (hs : Small xs) :
    TenRel xs (zs.set k ((x + 4294967296 * r) / 10)) k ((x + 4294967296 * r) % 10) ∧ (x + 4294967296 * r) / 10 < 4294967296 := by
  obtain ⟨hl, hz, hv, hr⟩ := h
  have hxb := hs.get k
  rw [hx] at hxb
  have hq : (x + 4294967296 * r) / 10 < 4294967296 := by omega
  refine ⟨⟨by simpa using hl, hz.set _ _ hq, ?_, Nat.mod_lt _ (by omega)⟩, hq⟩
  rw [drop_set _ _ _ (by omega), drop_getD xs k hk, hv, hx]
  omega
theorem TenRel.done {xs zs : List Nat} {r : Nat} (h : TenRel xs zs 0 r) : val zs = val xs / 10 ∧ r = val xs % 10 := by
  obtain ⟨hl, hz, hv, hr⟩ := h
  simp only [List.drop_zero] at hv
  omega
theorem dtextF_zero (f : Nat) : dtextF f 0 = [] := by cases f <;> rfl
theorem dtextF_fuel (f n : Nat) (h : n ≤ f) : dtextF f n = dtextF n n := by
  induction f using Nat.strongRecOn generalizing n with
  | _ f ih =>
    rcases Nat.eq_zero_or_pos n with h0 | h0
    · subst h0; rw [dtextF_zero, dtextF_zero]
    · obtain ⟨f', rfl⟩ : ∃ f', f = f' + 1 := ⟨f - 1, by omega⟩
      obtain ⟨m, rfl⟩ : ∃ m, n = m + 1 := ⟨n - 1, by omega⟩
      rw [dtextF, dtextF, if_neg (by omega), if_neg (by omega), ih f' (by omega) ((m + 1) / 10) (by omega)]
      rcases Nat.lt_or_ge m f' with h1 | h1
      · rw [ih m (by omega) ((m + 1) / 10) (by omega)]
      · rw [show m = f' by omega, ih f' (by omega) ((f' + 1) / 10) (by omega)]
/-- The decimal letters of a number, none for 0. -/
def dpart (n : Nat) : List UInt8 := dtextF n n
theorem dpart_zero : dpart 0 = [] := rfl
theorem dpart_step (n : Nat) (h : 0 < n) : dpart n = dpart (n / 10) ++ [UInt8.ofNat (48 + n % 10)] := by
  obtain ⟨m, rfl⟩ : ∃ m, n = m + 1 := ⟨n - 1, by omega⟩
  rw [dpart, dtextF, if_neg (by omega), dtextF_fuel m ((m + 1) / 10) (by omega)]
  rfl
theorem dtext_part (n : Nat) (h : 0 < n) : dtext n = dpart n := by rw [dtext, if_neg (by omega)]; rfl
theorem dtext_length (n D : Nat) (h : n < 4294967296 ^ D) (hD : 0 < D) : (dtext n).length ≤ 10 * D := by
  obtain ⟨h1, h2, h3⟩ := dtext_spec n
  cases hl : dtext n with
  | nil => simp
  | cons c t =>
    rw [hl] at h1 h2 h3
    rcases Nat.lt_or_ge (10 ^ t.length) (10 ^ (10 * D)) with h4 | h4
    · have := (Nat.pow_lt_pow_iff_right (by omega : 1 < 10)).1 h4
      simp; omega
    · have h5 := pow32_10 D
      by_cases hc : c = 48
      · simp [lead, hc] at h3
        rw [h3]; simp; omega
      · have := dec_lead_ge c t (h1 c (by simp)) hc
        omega
end Dig




theorem RP.no {w w' : World} {l : List UInt8} {e : Ending} (ht : isText l = false) (h : e = .returned (.tuple #[.slice none 0 0, .int .i64 2]) ∧ Below w.heap.size w w') : RP w l e w' :=
  ⟨.slice none 0 0, by rw [perr, ht]; exact h.1, by rw [pnum, ht]; exact Num.nil w', h.2⟩


set_option maxHeartbeats 2000000 in
theorem small_c (w : World) (v : Value) (xs : List Nat) (h : Num w v xs) (hz : xs.length ≤ 1099511627776) :
    Calls Tryz.prog 93 #[v, .int .u64 10] w fun e w' => ∃ q, e = .returned (.tuple #[q, .int .u64 ((val xs % 10 : Nat) : Int)]) ∧ Own w.heap.size w' q (dg (val xs / 10)) ∧ Below w.heap.size w w' := by
  obtain ⟨A, c, rfl⟩ := h.form
  have hbd := h.bounds.2
  have hs := h.small
  obtain ⟨n, hn⟩ : ∃ n, xs.length = n := ⟨_, rfl⟩
  rw [hn] at hbd hz ⊢
  have hni : (n : Int) ≤ 1099511627776 := by omega
  rw [hn] at h
  have HN := Lib.hid hn
  clear hn
  go_enter Tryz.func93, Tryz.ntmps93
  go_wp2_with (at_make; refine wp_make rfl _ _ rfl _ _ n rfl rfl rfl rfl (by omega) ?_; intro w3 hS hB3)
  go_loopw [7, 8] (fun rr i wr => ∃ (k r : Nat) (zs : List Nat), k ≤ n ∧ i = .int .i64 ((k : Int) - 1) ∧ rr = .int .u64 r ∧ TenRel xs zs k r ∧ Seg wr w.heap.size [] zs [] ∧ Below w.heap.size w wr) (fun _ i _ => (intOf i + 1).toNat)
  case atStart => exact ⟨n, 0, List.replicate n 0, Nat.le_refl _, by go_num, rfl, by rw [← HN.out]; exact TenRel.start xs, hS, hB3⟩
  case round =>
    obtain ⟨k, r, zs, hk, rfl, rfl, hr, hseg, hbel⟩ := hrel
    clear hS hB3
    have hzl : zs.length = n := hr.1.trans HN.out
    have hr10 := hr.2.2.2
    rcases Nat.eq_zero_or_pos k with h0 | h0
    · subst h0
      obtain ⟨hd1, hd2⟩ := hr.done
      have hOq := Own.of_seg (base := w.heap.size) (c := n) hseg hr.2.1 hzl (Nat.le_refl _) (by simp) (by omega)
      have Nq := natNorm_c wr _ _ hOq.num (by omega)
      rw [hd1] at Nq
      have HNq := Lib.hid Nq
      have HD := Lib.hid hd2
      clear Nq hr hd1 hd2 hseg hOq hzl
      go_wp2_with fail
      refine (HNq.out).mono ?_
      rintro e w4 ⟨q, rfl, hO4, hB4⟩
      go_wp2_with fail
      go_ret2
      exact ⟨q, by rw [← HD.out]; rfl, hO4.mono hbel.size, below_then hbel hB4⟩
    · obtain ⟨j, rfl⟩ : ∃ j, k = j + 1 := ⟨k - 1, by omega⟩
      have hjn : j < n := by omega
      rw [show (((j + 1 : Nat) : Int) - 1) = (j : Int) by omega]
      obtain ⟨b, off, rfl, hb, hall⟩ := (h.below hbel).cells (by omega)
      have hcx := hall j hjn
      have bx := hs.get j
      have hfx := hseg.frozen j
      generalize hxx : xs.getD j 0 = x at hcx bx
      have HSTEP := hr.step (by rw [HN.out]; exact hjn) hxx hs
      have hq := HSTEP.2
      have HR := Lib.hid HSTEP.1
      have e1 : ((r : Int) * 4294967296 + x) / 10 = (((x + 4294967296 * r) / 10 : Nat) : Int) := by omega
      have e2 : ((r : Int) * 4294967296 + x) % 10 = (((x + 4294967296 * r) % 10 : Nat) : Int) := by omega
      have HS := Lib.hid (hseg.put0 j ((x + 4294967296 * r) / 10) _ (by rw [hzl]; exact hjn) e1)
      have HB := Lib.hid (hbel.setCell (p := ⟨w.heap.size, j, none⟩) (Nat.le_refl _) (.int .u32 (((r : Int) * 4294967296 + x) / 10)))
      have HE2 := Lib.hid e2
      have hcz := hseg.cell0 (j := j) (by rw [hzl]; exact hjn)
      generalize zs.getD j 0 = z at hcz
      have hji : (j : Int) < n := by omega
      have hri : (r : Int) < 10 := by omega
      clear hall hxx HSTEP hq e1 e2 hr hseg hbel hzl hr10
      go_wp2_with fail
      go_roundw
      case rel => exact ⟨j, _, _, by omega, by go_num, by rw [HE2.out], HR.out, HS.out, HB.out⟩
      case measure => simp [intOf]

/-- A row of one letter. -/
theorem let_one (w : World) (c : UInt8) (q : Int) (hq : q = (c.toNat : Int)) : Let (w.alloc (.cells #[.int .u8 q] 5)) w.heap.size [c] := by
  subst hq
  unfold Let
  rw [heap_alloc_new]
  simp [V]

/-- The length of a string. -/
def strLen : Value → Nat | .string b => b.size | _ => 0

set_option maxHeartbeats 2000000 in
theorem natFormat_c (w : World) (v : Value) (xs : List Nat) (h : Num w v xs) (hz : xs.length ≤ 100000) :
    Calls Tryz.prog 65 #[v] w (RText w (val xs)) := by
  have N := natNorm_c w v xs h (by omega)
  have hlv := dg_length_val xs h.small
  have hvl := val_lt xs h.small
  have hte : (dtext (val xs)).length ≤ 1000010 := by
    have h1 := dtext_length (val xs) (xs.length + 1) (Nat.lt_of_lt_of_le hvl (pow_le (by omega))) (by omega)
    omega
  have HTE := Lib.hid hte
  generalize val xs = n at *
  have HN := Lib.hid N
  clear N hvl hte
  go_enter Tryz.func65, Tryz.ntmps65
  go_wp2_with fail
  refine (HN.out).mono ?_
  rintro e w1 ⟨r, rfl, hO, hB⟩
  rcases Nat.eq_zero_or_pos n with h0 | h0
  · subst h0
    obtain ⟨A, c, e0⟩ := hO.num.form
    rw [show (dg 0).length = 0 from rfl] at e0
    subst e0
    go_wp2_with fail
    go_ret
    exact ⟨rfl, hB⟩
  · obtain ⟨A, c, e0⟩ := hO.num.form
    subst e0
    have hp : 0 < (dg n).length := by
      rcases Nat.eq_zero_or_pos (dg n).length with e | e
      · have := dg_len0 e; omega
      · exact e
    have hnz : (((dg n).length : Int) == 0) = false := by rw [beq_eq_false_iff_ne]; omega
    go_wp2_with fail
    go_loopw [3, 4] (fun x s wr => ∃ (m : Nat) (l : List UInt8), m ≤ n ∧ Own w.heap.size wr x (dg m) ∧ s = .string ⟨l.toArray⟩ ∧ dpart m ++ l = dtext n ∧ Below w.heap.size w wr) (fun _ s _ => 1000010 - strLen s)
    case atStart => exact ⟨n, [], Nat.le_refl _, hO, rfl, by rw [List.append_nil, dtext_part n h0], hB⟩
    case round =>
      clear hO hB
      obtain ⟨m, l, hm, hO, rfl, hl, hB⟩ := hrel
      have hlm := dg_length_mono hm
      rcases Nat.eq_zero_or_pos m with hm0 | hm0
      · subst hm0
        obtain ⟨A, c, e0⟩ := hO.num.form
        rw [show (dg 0).length = 0 from rfl] at e0
        subst e0
        rw [dpart_zero, List.nil_append] at hl
        subst hl
        go_wp2_with fail
        go_ret
        exact ⟨rfl, hB⟩
      · have hp2 : 0 < (dg m).length := by
          rcases Nat.eq_zero_or_pos (dg m).length with e | e
          · have := dg_len0 e; omega
          · exact e
        have SM := small_c wr _ _ hO.num (by omega)
        rw [val_dg] at SM
        have HSM := Lib.hid SM
        obtain ⟨A, c, e0⟩ := hO.num.form
        rw [dpart_step m hm0, List.append_assoc] at hl
        have hlen := congrArg List.length hl
        simp only [List.length_append, List.length_cons, List.length_nil] at hlen
        have HL := Lib.hid hl
        have hll : (l.length : Int) ≤ 8388608 := by have := HTE.out; omega
        subst e0
        clear SM hl
        go_wp2_with fail
        refine (HSM.out).mono ?_
        rintro e w2 ⟨q, rfl, hO2, hB2⟩
        have hd := ofNat_digit (m % 10) (Nat.mod_lt _ (by omega))
        have hl2 := HL.out
        generalize UInt8.ofNat (48 + m % 10) = ch at hd hl2
        have HQ := Lib.hid (show 48 + (m : Int) % 10 = (ch.toNat : Int) by rw [hd]; omega)
        have HL2 := Lib.hid hl2
        have hd10 : m % 10 < 10 := Nat.mod_lt _ (by omega)
        have hBA : Below w2.heap.size w2 (w2.alloc (.cells #[Value.int IntKind.u8 (48 + (m : Int) % 10)] 5)) := (Below.refl _ _).alloc (Nat.le_refl _) _
        have hO3 := (hO2.mono hB.size).below hBA (Nat.le_refl _)
        have hB3 := below_then (below_then hB hB2) hBA
        have HO := Lib.hid hO3
        have HB := Lib.hid hB3
        clear hd hl2 HL hO2 hB2 hBA hB hO3 hB3 hO
        go_wp2_with (with_reducible refine wp_string rfl (.tmp 22) rfl w2.heap.size 0 1 1 rfl [ch] (let_one _ _ _ HQ.out) rfl ?_)
        go_roundw
        case rel => exact ⟨m / 10, ch :: l, by omega, HO.out, by rw [ByteArray.mk_append_mk]; rfl, HL2.out, HB.out⟩
        case measure =>
          have hb := HTE.out
          simp [strLen, ByteArray.size_mk']
          omega
end Go.Proofs.YtgjhgpfjeoeojaaGreatDoor

/- The contract of the reference function FracParse. -/
import Derived.Test.YtgjhgpfjeoeojaaGreatDoorRefW
import Derived.Test.YtgjhgpfjeoeojaaGreatDoorRefQ
namespace Go.Proofs.YtgjhgpfjeoeojaaGreatDoor
set_option linter.unusedSimpArgs false
open Go.RowKit Dig
set_option linter.unusedVariables false

namespace Dig
theorem all_cons {p : UInt8 → Prop} {c : UInt8} {l : List UInt8} (hc : p c) (h : ∀ x ∈ l, p x) : ∀ x ∈ c :: l, p x := by
  intro x hx
  rcases List.mem_cons.1 hx with rfl | hx
  · exact hc
  · exact h x hx
theorem tail_cases (l : List UInt8) : (∀ x ∈ l, isSep x = false) ∨ (∃ b a, l = b ++ 47 :: a ∧ ∀ x ∈ b, isSep x = false) ∨ (∃ b a, l = b ++ 46 :: a ∧ ∀ x ∈ b, isSep x = false) := by
  induction l with
  | nil => exact .inl (by simp)
  | cons c l ih =>
    by_cases h7 : c = 47
    · exact .inr (.inl ⟨[], l, by rw [h7]; rfl, by simp⟩)
    · by_cases h6 : c = 46
      · exact .inr (.inr ⟨[], l, by rw [h6]; rfl, by simp⟩)
      · have hc : isSep c = false := by unfold isSep; simp [h7, h6]
        rcases ih with h | ⟨b, a, e, h⟩ | ⟨b, a, e, h⟩
        · exact .inl (all_cons hc h)
        · exact .inr (.inl ⟨c :: b, a, by rw [e]; rfl, all_cons hc h⟩)
        · exact .inr (.inr ⟨c :: b, a, by rw [e]; rfl, all_cons hc h⟩)
end Dig
theorem no_sep_at (s : ByteArray) (h : ∀ x ∈ chars s, isSep x = false) (j : Nat) (hj : j < s.size) : ((s[j]'hj).toNat ≠ 47) ∧ ((s[j]'hj).toNat ≠ 46) := by
  have hl := chars_length s
  have h1 := h ((chars s).getD j 0) (by rw [List.getD_eq_getElem?_getD, List.getElem?_eq_getElem (by omega)]; exact List.getElem_mem _)
  rw [char_at s j hj]
  unfold isSep at h1
  simp only [Bool.or_eq_false_iff, beq_eq_false_iff_ne] at h1
  exact ⟨fun e => h1.1 (UInt8.toNat_inj.1 e), fun e => h1.2 (UInt8.toNat_inj.1 e)⟩
theorem digits_is {w : World} {t : ByteArray} {z : Bool} (ht : t.size ≤ 4000) (h : okd (chars t) = z) :
    Calls Tryz.prog 61 #[.string t] w fun e w' => e = .returned (.bool z) ∧ w = w' := by
  subst h
  have hl := chars_length t
  by_cases hall : ∀ c ∈ chars t, isDig c = true
  · have := digits_all w t ht (fun j hj => hall _ (by rw [List.getD_eq_getElem?_getD, List.getElem?_eq_getElem hj]; exact List.getElem_mem hj))
    refine this.mono fun e w' ⟨h1, h2⟩ => ⟨?_, h2⟩
    rw [h1]
    congr 2
    rcases Nat.eq_zero_or_pos t.size with h0 | h0
    · have : chars t = [] := List.eq_nil_of_length_eq_zero (by omega)
      rw [this, okd_nil]; simp [h0]
    · rw [okd_of hall (by omega)]; simpa using h0
  · have h2 : ∃ k, k < (chars t).length ∧ isDig ((chars t).getD k 0) = false := by
      simp only [Classical.not_forall] at hall
      obtain ⟨c, hc, hd⟩ := hall
      obtain ⟨k, hk, e⟩ := List.getElem_of_mem hc
      refine ⟨k, hk, ?_⟩
      rw [List.getD_eq_getElem?_getD, List.getElem?_eq_getElem hk, Option.getD_some, e]
      simpa using hd
    obtain ⟨k, hk, hn⟩ := h2
    have hz : okd (chars t) = false := by
      cases ho : okd (chars t) with
      | false => rfl
      | true =>
        have := (okd_all ho).1 _ (show (chars t).getD k 0 ∈ chars t by rw [List.getD_eq_getElem?_getD, List.getElem?_eq_getElem hk]; exact List.getElem_mem hk)
        rw [hn] at this
        cases this
    rw [hz]
    exact digits_no w t ht k hk hn
theorem natDigits_is {w : World} {t : ByteArray} {n : Nat} (ht : t.size ≤ 60) (hd : ∀ c ∈ chars t, isDig c = true) (h : dec (chars t) = n) :
    Calls Tryz.prog 62 #[.string t] w fun e w' => ∃ r, e = .returned r ∧ Can w' r n 26 ∧ Below w.heap.size w w' := by
  subst h
  have hl := chars_length t
  refine (natDigits_c w t (by omega) hd).mono fun e w' ⟨r, h1, h2, h3⟩ => ⟨r, h1, ?_, h3⟩
  exact ⟨h2.num, Nat.lt_of_lt_of_le (dec_lim hd (by omega)) (Nat.pow_le_pow_right (by omega) (by omega))⟩

theorem sep_before (u : ByteArray) {b a : List UInt8} {c : UInt8} (hE : chars u = b ++ c :: a) (h : ∀ x ∈ b, isSep x = false) (j : Nat) (hj : j < u.size) (hb : j < b.length) : ((u[j]'hj).toNat ≠ 47) ∧ ((u[j]'hj).toNat ≠ 46) := by
  have h1 := h ((chars u).getD j 0) (by rw [hE, List.getD_eq_getElem?_getD, List.getElem?_append_left hb, List.getElem?_eq_getElem hb]; exact List.getElem_mem _)
  rw [char_at u j hj]
  unfold isSep at h1
  simp only [Bool.or_eq_false_iff, beq_eq_false_iff_ne] at h1
  exact ⟨fun e => h1.1 (UInt8.toNat_inj.1 e), fun e => h1.2 (UInt8.toNat_inj.1 e)⟩
theorem sep_here (u : ByteArray) {b a : List UInt8} {c : UInt8} (hE : chars u = b ++ c :: a) (p : Nat) (hp : b.length = p) (hj : p < u.size) : (u[p]'hj).toNat = c.toNat := by
  rw [char_at u p hj, hE, List.getD_eq_getElem?_getD, List.getElem?_append_right (by omega), hp, Nat.sub_self]
  rfl
theorem chars_before (u : ByteArray) {b a : List UInt8} {c : UInt8} (hE : chars u = b ++ c :: a) (p : Nat) (hp : b.length = p) : chars (u.extract 0 p) = b := by
  rw [chars_extract, hE, ← hp]
  simp
theorem chars_behind (u : ByteArray) {b a : List UInt8} {c : UInt8} (hE : chars u = b ++ c :: a) (p : Nat) (hp : b.length = p) : chars (u.extract (p + 1) u.size) = a := by
  have hl := chars_length u
  rw [chars_extract, hE, ← hp]
  have : u.size = b.length + 1 + a.length := by rw [← hl, hE]; simp; omega
  rw [this, List.drop_append, List.drop_eq_nil_of_le (by omega), List.nil_append, show b.length + 1 - b.length = 1 by omega]
  simp
theorem pow10_next (k : Nat) (hk : k ≤ 60) : 10 ^ k * 10 < 4294967296 ^ 26 := by
  rw [← Nat.pow_succ]
  exact Nat.lt_of_lt_of_le (pow10_lim (show k + 1 ≤ 120 by omega)) (Nat.pow_le_pow_right (by omega) (by omega))
theorem can_len0 {w : World} {v : Value} {n k : Nat} (h : Can w v n k) {A : Option Addr} {m c : Nat} (e : v = .slice A m c) : m = 0 ↔ n = 0 := by
  subst e
  obtain ⟨B, d, e⟩ := h.1.form
  cases e
  rw [List.length_eq_zero_iff, dg_nil_iff]
theorem exec_add1 {ev : Operand → Value} {o : Oper} {w : World} (t : Tmp) (p : Nat) (ho : o.op = .binOp .add 3 (.tmp t) (.const (.int .i64 1)) 3) (hx : ev (.tmp t) = .int .i64 (p : Int)) (hc : ev (.const (.int .i64 1)) = .int .i64 1) (hp : p < 1000) :
    (execOp ev o).run Tryz.prog w = .ok (.value (.int .i64 ((p + 1 : Nat) : Int))) w := by
  have hpi : (p : Int) < 1000 := by omega
  unfold execOp
  simp only [ho, hx, hc]
  go_simp
  first | (simp only [IntKind.wrap_i64]; omega) | (unfold IntKind.wrap; simp; omega)
theorem exec_cat {ev : Operand → Value} {o : Oper} {w : World} (t s : Tmp) (x y : ByteArray) (ho : o.op = .binOp .add 9 (.tmp t) (.tmp s) 9) (hx : ev (.tmp t) = .string x) (hy : ev (.tmp s) = .string y) (h1 : x.size ≤ 100) (h2 : y.size ≤ 100) :
    (execOp ev o).run Tryz.prog w = .ok (.value (.string (x ++ y))) w := by
  have h1i : (x.size : Int) ≤ 100 := by omega
  have h2i : (y.size : Int) ≤ 100 := by omega
  unfold execOp
  simp only [ho, hx, hy]
  go_simp
  omega
theorem chars_app (x y : ByteArray) : chars (x ++ y) = chars x ++ chars y := by
  unfold chars
  simp
theorem all_app {b a : List UInt8} (h1 : ∀ c ∈ b, isDig c = true) (h2 : ∀ c ∈ a, isDig c = true) : ∀ c ∈ b ++ a, isDig c = true := by
  intro c hc
  rcases List.mem_append.1 hc with h | h
  · exact h1 c h
  · exact h2 c h
theorem exec_strTo {ev : Operand → Value} {o : Oper} {w : World} (t x : Tmp) (u : ByteArray) (p : Nat) (ho : o.op = .slice 9 (.tmp t) none (some (.tmp x)) none) (hx : ev (.tmp t) = .string u) (hh : ev (.tmp x) = .int .i64 (p : Int)) (hp : p ≤ u.size) :
    (execOp ev o).run Tryz.prog w = .ok (.value (.string (u.extract 0 p))) w := by
  have hpi : (p : Int) ≤ u.size := by omega
  unfold execOp
  simp only [ho, hx, hh, Option.map]
  go_simp
theorem exec_strFrom {ev : Operand → Value} {o : Oper} {w : World} (t x : Tmp) (u : ByteArray) (p : Nat) (ho : o.op = .slice 9 (.tmp t) (some (.tmp x)) none none) (hx : ev (.tmp t) = .string u) (hh : ev (.tmp x) = .int .i64 (p : Int)) (hp : p ≤ u.size) :
    (execOp ev o).run Tryz.prog w = .ok (.value (.string (u.extract p u.size))) w := by
  have hpi : (p : Int) ≤ u.size := by omega
  unfold execOp
  simp only [ho, hx, hh, Option.map]
  go_simp
set_option maxRecDepth 20000 in
set_option maxHeartbeats 16000000 in
theorem fracParse_noneA (w : World) (s u : ByteArray) (hs : s.size ≤ 60) (h0 : 0 < s.size) (hc : (s[0]'h0).toNat ≠ 45) (hu : s = u) (hus : u.size ≤ 60) (hsg : signOf (chars s) = false) (hr : restOf (chars s) = chars u) (hns : ∀ x ∈ chars u, isSep x = false) : Calls Tryz.prog 32 #[.string s] w (RPar w (chars s) 26) := by
  obtain ⟨W, g, ew, eg, hB0, hF⟩ := var1 w false (.slice none 0 0) (.slice none 0 0)
  have HG := Lib.hid (show w.heap.size ≤ g by omega)
  have hs4 : ¬ (4000 : Int) < s.size := by omega
  have h0i : (0 : Int) < s.size := by omega
  have hc1 : (((s[0]'h0).toNat : Int) == 45) = false := by rw [beq_eq_false_iff_ne]; omega
  have hl := chars_length u
  have hK : Below W.heap.size W W := Below.refl _ _
  obtain ⟨p, hp⟩ : ∃ p, u.size = p := ⟨_, rfl⟩
  have hb := body_none hns
  have HN := Lib.hid (fun j (hj : j < u.size) (_ : j < p) => no_sep_at u hns j hj)
  have HB := Lib.hid hb
  have HSG := Lib.hid hsg
  have HR := Lib.hid hr
  clear hb hsg hr hns
  subst hu
  go_enter Tryz.func32, Tryz.ntmps32
  go_wp2_with fail
  go_loop [5] (fun i => ∃ j : Nat, j ≤ p ∧ i = .int .i64 j) (fun i => p - (intOf i).toNat)
  case atStart => exact ⟨0, Nat.zero_le _, rfl⟩
  case round =>
    obtain ⟨j, hj, rfl⟩ := hrel
    by_cases hlt : j < p
    · have hju : j < s.size := by omega
      have hjs : (j : Int) < s.size := by omega
      obtain ⟨n7, n6⟩ := HN.out j hju hlt
      have n7 : (((s[j]'hju).toNat : Int) != 47) = true := by rw [bne_iff_ne]; omega
      have n6 : (((s[j]'hju).toNat : Int) != 46) = true := by rw [bne_iff_ne]; omega
      go_wp2_with fail
      go_round
      case rel => exact ⟨j + 1, by omega, by go_num⟩
      case measure => simp [intOf]; omega
    · have : p = j := by omega
      subst this
      subst hp
      cases ho : okd (chars s) with
      | false =>
        have HE : Hid (ferr (chars s) = 2) := Lib.hid (by unfold ferr; rw [HR.out, HB.out]; simp [ho])
        have hlu : ¬ ((s.size : Int) < s.size) := by omega
        go_wp2_with fail
        refine (digits_is (by omega) ho).mono ?_
        rintro e w1 ⟨rfl, rfl⟩
        obtain ⟨k0, k1, k2⟩ := (hF.below hK).cells
        obtain ⟨f0, f1, f2⟩ := (hF.below hK).frozen
        go_wp2_with fail
        refine bodyPost_ret (v := .tuple #[.agg #[.bool false, .slice none 0 0, .slice none 0 0], .int .i64 2]) (by rw [results_cell_tmp rfl]; go_simp) rfl ?_
        exact RPar.bad HE.out (by decide) ⟨rfl, below_put3 (below_then hB0 hK) HG.out _ _ _⟩
      | true =>
        have HE : Hid (ferr (chars s) = 0) := Lib.hid (by unfold ferr; rw [HR.out, HB.out]; simp [ho])
        have hlu : ¬ ((s.size : Int) < s.size) := by omega
        have FV : fval (chars s) = fr false (dec (chars s)) 1 := by unfold fval; rw [HSG.out, HR.out, HB.out]
        have FV := Lib.hid FV
        have hda := okd_all ho
        have HD := Lib.hid hda
        clear hda
        go_wp2_with fail
        refine (digits_is (by omega) ho).mono ?_
        rintro e w1 ⟨rfl, rfl⟩
        go_wp2_with fail
        refine (natDigits_is (by omega) HD.out.1 rfl).mono ?_
        rintro e w1 ⟨v1, rfl, h1, hB1⟩
        have hK := below_then hK hB1
        go_wp2_with fail
        refine (natOf_v 1 (by omega)).mono ?_
        rintro e w2 ⟨v2, rfl, h2, _, hB2⟩
        have hK := below_then hK hB2
        have h1 := h1.below hB2
        go_wp2_with fail
        refine (frac_v false h1.numV (h2.numV.le (by omega)) (by omega) (by omega)).mono ?_
        rintro e w3 ⟨v, rfl, hv, hB3⟩
        rw [← FV.out] at hv
        have hK := below_then hK hB3
        obtain ⟨b1, Z, o, r, Z', o', r', rfl, hb, hvx, hvy⟩ := hv.parts
        obtain ⟨k0, k1, k2⟩ := (hF.below hK).cells
        obtain ⟨f0, f1, f2⟩ := (hF.below hK).frozen
        go_wp2_with fail
        refine bodyPost_ret (v := .tuple #[.agg #[.bool b1, .slice Z o r, .slice Z' o' r'], .int .i64 0]) (by rw [results_cell_tmp rfl]; go_simp) rfl ?_
        exact RPar.ok HE.out (RCanE.stored hb hvx hvy (hF.below hK) (below_then hB0 hK) HG.out _)
set_option maxRecDepth 20000 in
set_option maxHeartbeats 16000000 in
theorem fracParse_slashA (w : World) (s u : ByteArray) {b a : List UInt8} (hs : s.size ≤ 60) (h0 : 0 < s.size) (hc : (s[0]'h0).toNat ≠ 45) (hu : s = u) (hus : u.size ≤ 60) (hsg : signOf (chars s) = false) (hr : restOf (chars s) = chars u) (hE : chars u = b ++ 47 :: a) (hns : ∀ x ∈ b, isSep x = false) : Calls Tryz.prog 32 #[.string s] w (RPar w (chars s) 26) := by
  obtain ⟨W, g, ew, eg, hB0, hF⟩ := var1 w false (.slice none 0 0) (.slice none 0 0)
  have HG := Lib.hid (show w.heap.size ≤ g by omega)
  have hs4 : ¬ (4000 : Int) < s.size := by omega
  have h0i : (0 : Int) < s.size := by omega
  have hc1 : (((s[0]'h0).toNat : Int) == 45) = false := by rw [beq_eq_false_iff_ne]; omega
  have hl := chars_length u
  have hK : Below W.heap.size W W := Below.refl _ _
  obtain ⟨p, hp⟩ : ∃ p, b.length = p := ⟨_, rfl⟩
  have hpu : p < u.size := by rw [← hl, hE, ← hp]; simp
  have hb := body_slash hE hns
  have HN := Lib.hid (fun j (hj : j < u.size) (hlt : j < p) => sep_before u hE hns j hj (by omega))
  have HP := Lib.hid (show (u[p]'hpu).toNat = 47 from sep_here u hE p hp hpu)
  have HC1 := Lib.hid (chars_before u hE p hp)
  have HC2 := Lib.hid (chars_behind u hE p hp)
  have HLN := Lib.hid (show (chars u).length = p + 1 + a.length by rw [hE, ← hp]; simp; omega)
  have HB := Lib.hid hb
  have HSG := Lib.hid hsg
  have HR := Lib.hid hr
  clear hb hsg hr hns hE
  subst hu
  go_enter Tryz.func32, Tryz.ntmps32
  go_wp2_with fail
  go_loop [5] (fun i => ∃ j : Nat, j ≤ p ∧ i = .int .i64 j) (fun i => p - (intOf i).toNat)
  case atStart => exact ⟨0, Nat.zero_le _, rfl⟩
  case round =>
    obtain ⟨j, hj, rfl⟩ := hrel
    by_cases hlt : j < p
    · have hju : j < s.size := by omega
      have hjs : (j : Int) < s.size := by omega
      obtain ⟨n7, n6⟩ := HN.out j hju hlt
      have n7 : (((s[j]'hju).toNat : Int) != 47) = true := by rw [bne_iff_ne]; omega
      have n6 : (((s[j]'hju).toNat : Int) != 46) = true := by rw [bne_iff_ne]; omega
      go_wp2_with fail
      go_round
      case rel => exact ⟨j + 1, by omega, by go_num⟩
      case measure => simp [intOf]; omega
    · have : p = j := by omega
      subst this
      have hlu : (p : Int) < s.size := by omega
      have hne : ((p : Int) == (s.size : Int)) = false := by rw [beq_eq_false_iff_ne]; omega
      have n7 : (((s[p]'hpu).toNat : Int) != 47) = false := by have := HP.out; rw [bne_eq_false_iff_eq]; omega
      have m7 : (((s[p]'hpu).toNat : Int) == 47) = true := by have := HP.out; rw [beq_iff_eq]; omega
      cases ho : okd b with
      | false =>
        have HE : Hid (ferr (chars s) = 2) := Lib.hid (by unfold ferr; rw [HR.out, HB.out]; simp [ho])
        go_wp2_with fail
        refine (digits_is (z := false) (by rw [ByteArray.size_extract]; omega) (by rw [HC1.out]; exact ho)).mono ?_
        rintro e w1 ⟨rfl, rfl⟩
        obtain ⟨k0, k1, k2⟩ := (hF.below hK).cells
        obtain ⟨f0, f1, f2⟩ := (hF.below hK).frozen
        go_wp2_with fail
        refine bodyPost_ret (v := .tuple #[.agg #[.bool false, .slice none 0 0, .slice none 0 0], .int .i64 2]) (by rw [results_cell_tmp rfl]; go_simp) rfl ?_
        exact RPar.bad HE.out (by decide) ⟨rfl, below_put3 (below_then hB0 hK) HG.out _ _ _⟩
      | true =>
        cases ho2 : okd a with
        | false =>
          have HE : Hid (ferr (chars s) = 2) := Lib.hid (by unfold ferr; rw [HR.out, HB.out]; simp [ho2])
          go_wp2_with fail
          refine (digits_is (z := true) (by rw [ByteArray.size_extract]; omega) (by rw [HC1.out]; exact ho)).mono ?_
          rintro e w1 ⟨rfl, rfl⟩
          go_wp2_with fail
          refine (digits_is (z := false) (by rw [ByteArray.size_extract]; omega) (by rw [HC2.out]; exact ho2)).mono ?_
          rintro e w1 ⟨rfl, rfl⟩
          obtain ⟨k0, k1, k2⟩ := (hF.below hK).cells
          obtain ⟨f0, f1, f2⟩ := (hF.below hK).frozen
          go_wp2_with fail
          refine bodyPost_ret (v := .tuple #[.agg #[.bool false, .slice none 0 0, .slice none 0 0], .int .i64 2]) (by rw [results_cell_tmp rfl]; go_simp) rfl ?_
          exact RPar.bad HE.out (by decide) ⟨rfl, below_put3 (below_then hB0 hK) HG.out _ _ _⟩
        | true =>
          have HD1 := Lib.hid (okd_all ho)
          have HD2 := Lib.hid (okd_all ho2)
          by_cases hd0 : dec a = 0
          · have HE : Hid (ferr (chars s) = 20) := Lib.hid (by unfold ferr; rw [HR.out, HB.out]; simp [ho, ho2, hd0])
            go_wp2_with fail
            refine (digits_is (z := true) (by rw [ByteArray.size_extract]; omega) (by rw [HC1.out]; exact ho)).mono ?_
            rintro e w1 ⟨rfl, rfl⟩
            go_wp2_with fail
            refine (digits_is (z := true) (by rw [ByteArray.size_extract]; omega) (by rw [HC2.out]; exact ho2)).mono ?_
            rintro e w1 ⟨rfl, rfl⟩
            go_wp2_with fail
            refine (natDigits_is (n := dec a) (by rw [ByteArray.size_extract]; omega) (by rw [HC2.out]; exact HD2.out.1) (by rw [HC2.out])).mono ?_
            rintro e w1 ⟨v1, rfl, h1, hB1⟩
            have hK := below_then hK hB1
            obtain ⟨Y, y1, y2, rfl⟩ := h1.form
            have hz := can_len0 h1 rfl
            have hy : y1 = 0 := hz.2 hd0
            subst hy
            clear h1 hz hd0 ho ho2 hs hus hl
            obtain ⟨k0, k1, k2⟩ := (hF.below hK).cells
            obtain ⟨f0, f1, f2⟩ := (hF.below hK).frozen
            go_wp2_with fail
            refine bodyPost_ret (v := .tuple #[.agg #[.bool false, .slice none 0 0, .slice none 0 0], .int .i64 20]) (by rw [results_cell_tmp rfl]; go_simp) rfl ?_
            exact RPar.bad HE.out (by decide) ⟨rfl, below_put3 (below_then hB0 hK) HG.out _ _ _⟩
          · have HE : Hid (ferr (chars s) = 0) := Lib.hid (by unfold ferr; rw [HR.out, HB.out]; simp [ho, ho2, hd0])
            have FV : fval (chars s) = fr false (dec b) (dec a) := by unfold fval; rw [HSG.out, HR.out, HB.out]
            have FV := Lib.hid FV
            go_wp2_with fail
            refine (digits_is (z := true) (by rw [ByteArray.size_extract]; omega) (by rw [HC1.out]; exact ho)).mono ?_
            rintro e w1 ⟨rfl, rfl⟩
            go_wp2_with fail
            refine (digits_is (z := true) (by rw [ByteArray.size_extract]; omega) (by rw [HC2.out]; exact ho2)).mono ?_
            rintro e w1 ⟨rfl, rfl⟩
            go_wp2_with fail
            refine (natDigits_is (n := dec a) (by rw [ByteArray.size_extract]; omega) (by rw [HC2.out]; exact HD2.out.1) (by rw [HC2.out])).mono ?_
            rintro e w1 ⟨v1, rfl, h1, hB1⟩
            have hK := below_then hK hB1
            obtain ⟨Y, y1, y2, rfl⟩ := h1.form
            have hz := can_len0 h1 rfl
            have hy : ((y1 : Int) == 0) = false := by rw [beq_eq_false_iff_ne]; intro e; exact hd0 (hz.1 (by omega))
            clear hz
            go_wp2_with fail
            refine (natDigits_is (n := dec b) (by rw [ByteArray.size_extract]; omega) (by rw [HC1.out]; exact HD1.out.1) (by rw [HC1.out])).mono ?_
            rintro e w2 ⟨v2, rfl, h2, hB2⟩
            have hK := below_then hK hB2
            have h1 := h1.below hB2
            go_wp2_with fail
            refine (frac_v false h2.numV h1.numV (by omega) (by omega)).mono ?_
            rintro e w3 ⟨v, rfl, hv, hB3⟩
            rw [← FV.out] at hv
            have hK := below_then hK hB3
            obtain ⟨b1, Z, o, r, Z', o', r', rfl, hb, hvx, hvy⟩ := hv.parts
            obtain ⟨k0, k1, k2⟩ := (hF.below hK).cells
            obtain ⟨f0, f1, f2⟩ := (hF.below hK).frozen
            go_wp2_with fail
            refine bodyPost_ret (v := .tuple #[.agg #[.bool b1, .slice Z o r, .slice Z' o' r'], .int .i64 0]) (by rw [results_cell_tmp rfl]; go_simp) rfl ?_
            exact RPar.ok HE.out (RCanE.stored hb hvx hvy (hF.below hK) (below_then hB0 hK) HG.out _)
set_option maxRecDepth 20000 in
set_option maxHeartbeats 16000000 in
theorem fracParse_pointA (w : World) (s u : ByteArray) {b a : List UInt8} (hs : s.size ≤ 60) (h0 : 0 < s.size) (hc : (s[0]'h0).toNat ≠ 45) (hu : s = u) (hus : u.size ≤ 60) (hsg : signOf (chars s) = false) (hr : restOf (chars s) = chars u) (hE : chars u = b ++ 46 :: a) (hns : ∀ x ∈ b, isSep x = false) : Calls Tryz.prog 32 #[.string s] w (RPar w (chars s) 26) := by
  obtain ⟨W, g, ew, eg, hB0, hF⟩ := var1 w false (.slice none 0 0) (.slice none 0 0)
  have HG := Lib.hid (show w.heap.size ≤ g by omega)
  have hs4 : ¬ (4000 : Int) < s.size := by omega
  have h0i : (0 : Int) < s.size := by omega
  have hc1 : (((s[0]'h0).toNat : Int) == 45) = false := by rw [beq_eq_false_iff_ne]; omega
  have hl := chars_length u
  have hK : Below W.heap.size W W := Below.refl _ _
  obtain ⟨p, hp⟩ : ∃ p, b.length = p := ⟨_, rfl⟩
  have hpu : p < u.size := by rw [← hl, hE, ← hp]; simp
  have hb := body_point hE hns
  have HN := Lib.hid (fun j (hj : j < u.size) (hlt : j < p) => sep_before u hE hns j hj (by omega))
  have HP := Lib.hid (show (u[p]'hpu).toNat = 46 from sep_here u hE p hp hpu)
  have HC1 := Lib.hid (chars_before u hE p hp)
  have HC2 := Lib.hid (chars_behind u hE p hp)
  have HLN := Lib.hid (show (chars u).length = p + 1 + a.length by rw [hE, ← hp]; simp; omega)
  have HB := Lib.hid hb
  have HSG := Lib.hid hsg
  have HR := Lib.hid hr
  clear hb hsg hr hns hE
  subst hu
  go_enter Tryz.func32, Tryz.ntmps32
  go_wp2_with fail
  go_loop [5] (fun i => ∃ j : Nat, j ≤ p ∧ i = .int .i64 j) (fun i => p - (intOf i).toNat)
  case atStart => exact ⟨0, Nat.zero_le _, rfl⟩
  case round =>
    obtain ⟨j, hj, rfl⟩ := hrel
    by_cases hlt : j < p
    · have hju : j < s.size := by omega
      have hjs : (j : Int) < s.size := by omega
      obtain ⟨n7, n6⟩ := HN.out j hju hlt
      have n7 : (((s[j]'hju).toNat : Int) != 47) = true := by rw [bne_iff_ne]; omega
      have n6 : (((s[j]'hju).toNat : Int) != 46) = true := by rw [bne_iff_ne]; omega
      go_wp2_with fail
      go_round
      case rel => exact ⟨j + 1, by omega, by go_num⟩
      case measure => simp [intOf]; omega
    · have : p = j := by omega
      subst this
      have hlu : (p : Int) < s.size := by omega
      have hne : ((p : Int) == (s.size : Int)) = false := by rw [beq_eq_false_iff_ne]; omega
      have n7 : (((s[p]'hpu).toNat : Int) != 47) = true := by have := HP.out; rw [bne_iff_ne]; omega
      have m7 : (((s[p]'hpu).toNat : Int) == 47) = false := by have := HP.out; rw [beq_eq_false_iff_ne]; omega
      have n6 : (((s[p]'hpu).toNat : Int) != 46) = false := by have := HP.out; rw [bne_eq_false_iff_eq]; omega
      cases ho : okd b with
      | false =>
        have HE : Hid (ferr (chars s) = 2) := Lib.hid (by unfold ferr; rw [HR.out, HB.out]; simp [ho])
        go_wp2_with fail
        refine (digits_is (z := false) (by rw [ByteArray.size_extract]; omega) (by rw [HC1.out]; exact ho)).mono ?_
        rintro e w1 ⟨rfl, rfl⟩
        obtain ⟨k0, k1, k2⟩ := (hF.below hK).cells
        obtain ⟨f0, f1, f2⟩ := (hF.below hK).frozen
        go_wp2_with fail
        refine bodyPost_ret (v := .tuple #[.agg #[.bool false, .slice none 0 0, .slice none 0 0], .int .i64 2]) (by rw [results_cell_tmp rfl]; go_simp) rfl ?_
        exact RPar.bad HE.out (by decide) ⟨rfl, below_put3 (below_then hB0 hK) HG.out _ _ _⟩
      | true =>
        cases ho2 : okd a with
        | false =>
          have HE : Hid (ferr (chars s) = 2) := Lib.hid (by unfold ferr; rw [HR.out, HB.out]; simp [ho2])
          go_wp2_with fail
          refine (digits_is (z := true) (by rw [ByteArray.size_extract]; omega) (by rw [HC1.out]; exact ho)).mono ?_
          rintro e w1 ⟨rfl, rfl⟩
          go_wp2_with fail
          refine (digits_is (z := false) (by rw [ByteArray.size_extract]; omega) (by rw [HC2.out]; exact ho2)).mono ?_
          rintro e w1 ⟨rfl, rfl⟩
          obtain ⟨k0, k1, k2⟩ := (hF.below hK).cells
          obtain ⟨f0, f1, f2⟩ := (hF.below hK).frozen
          go_wp2_with fail
          refine bodyPost_ret (v := .tuple #[.agg #[.bool false, .slice none 0 0, .slice none 0 0], .int .i64 2]) (by rw [results_cell_tmp rfl]; go_simp) rfl ?_
          exact RPar.bad HE.out (by decide) ⟨rfl, below_put3 (below_then hB0 hK) HG.out _ _ _⟩
        | true =>
          have HE : Hid (ferr (chars s) = 0) := Lib.hid (by unfold ferr; rw [HR.out, HB.out]; simp [ho, ho2])
          have FV : fval (chars s) = fr false (dec (b ++ a)) (10 ^ a.length) := by unfold fval; rw [HSG.out, HR.out, HB.out, dec_append]
          have FV := Lib.hid FV
          have HD1 := Lib.hid (okd_all ho)
          have HD2 := Lib.hid (okd_all ho2)
          have hal : s.size = p + 1 + a.length := by rw [← hl]; exact HLN.out
          have HAL := Lib.hid hal
          clear hal
          go_wp2_with fail
          refine (digits_is (z := true) (by rw [ByteArray.size_extract]; omega) (by rw [HC1.out]; exact ho)).mono ?_
          rintro e w1 ⟨rfl, rfl⟩
          go_wp2_with fail
          refine (digits_is (z := true) (by rw [ByteArray.size_extract]; omega) (by rw [HC2.out]; exact ho2)).mono ?_
          rintro e w1 ⟨rfl, rfl⟩
          go_wp2_with fail
          refine (natOf_v 1 (by omega)).mono ?_
          rintro e w2 ⟨v2, rfl, h2, _, hB2⟩
          have hK := below_then hK hB2
          have h2 := h2.le (show 2 ≤ 26 by omega)
          clear n7 n6 m7
          go_wp2_with fail
          go_loopw [7, 8] (fun dv i wr => ∃ k : Nat, p + 1 + k ≤ s.size ∧ i = .int .i64 ((p + 1 + k : Nat) : Int) ∧ Can wr dv (10 ^ k) 26 ∧ Below W.heap.size W wr) (fun _ i _ => s.size - (intOf i).toNat)
          case atStart => exact ⟨0, by omega, by go_num, h2, hK⟩
          case round =>
            obtain ⟨k, hk, rfl, hd, hB⟩ := hrel
            by_cases hlt : p + 1 + k < s.size
            · have hki : ((p + 1 + k : Nat) : Int) < s.size := by omega
              go_wp2_with fail
              refine (natOf_v 10 (by omega)).mono ?_
              rintro e w3 ⟨v3, rfl, h3, _, hB3⟩
              have hd := hd.below hB3
              have hB := below_then hB hB3
              go_wp2_with fail
              refine ((natMul_v hd.numV h3.numV (by omega) (by omega)).mono fun e w4 h => RCan.fit h (show 10 ^ k * 10 < 4294967296 ^ 26 from pow10_next k (by omega))).mono ?_
              rintro e w4 ⟨v4, rfl, h4, _, hB4⟩
              have hB := below_then hB hB4
              go_wp2_with fail
              go_roundw
              case rel => exact ⟨k + 1, by omega, by go_num, by rw [Nat.pow_succ]; exact h4, hB⟩
              case measure => simp [intOf]; omega
            · have hke : p + 1 + k = s.size := by omega
              have hka : k = a.length := by have := HAL.out; omega
              subst hka
              have hFg := hF.below hB
              go_wp2_with fail
              refine hk_begin (S := fun w' => Below w.heap.size w w') 14 (by kernel_rfl) (by kernel_rfl) ?_
              have hK : Below w.heap.size w wr.drew := (below_then hB0 hB).drew
              have hd := hd.below (Below.refl _ _).drew
              have hFg := hFg.below (Below.refl _ _).drew
              refine hk_take (i := 0) (some 103) (.bool false) (by kernel_rfl) (by kernel_rfl) (by kernel_rfl) (by kernel_rfl) (by kernel_rfl) (by kernel_rfl) (fun w hS => by kernel_rfl) (fun _ _ d _ _ h => by cases d <;> exact h) hK ?_
              simp only [put_lit, put_non, List.set_cons_zero, List.set_cons_succ]
              refine hk_take (i := 1) (some 104) (.string s) (by kernel_rfl) (by kernel_rfl) (by kernel_rfl) (by kernel_rfl) (by kernel_rfl) (by kernel_rfl) (fun w hS => by kernel_rfl) (fun _ _ d _ _ h => by cases d <;> exact h) hK ?_
              simp only [put_lit, put_non, List.set_cons_zero, List.set_cons_succ]
              refine hk_take (i := 2) (some 105) (.int .i64 (p : Int)) (by kernel_rfl) (by kernel_rfl) (by kernel_rfl) (by kernel_rfl) (by kernel_rfl) (by kernel_rfl) (fun w hS => by kernel_rfl) (fun _ _ d _ _ h => by cases d <;> exact h) hK ?_
              simp only [put_lit, put_non, List.set_cons_zero, List.set_cons_succ]
              refine hk_take (i := 3) (some 106) (.string (s.extract 0 p)) (by kernel_rfl) (by kernel_rfl) (by kernel_rfl) (by kernel_rfl) (by kernel_rfl) (by kernel_rfl) (fun w hS => exec_strTo 104 105 s p (by kernel_rfl) (by kernel_rfl) (by kernel_rfl) (by omega)) (fun _ _ d _ _ h => by cases d <;> exact h) hK ?_
              simp only [put_lit, put_non, List.set_cons_zero, List.set_cons_succ]
              refine hk_take (i := 4) (some 107) (.string s) (by kernel_rfl) (by kernel_rfl) (by kernel_rfl) (by kernel_rfl) (by kernel_rfl) (by kernel_rfl) (fun w hS => by kernel_rfl) (fun _ _ d _ _ h => by cases d <;> exact h) hK ?_
              simp only [put_lit, put_non, List.set_cons_zero, List.set_cons_succ]
              refine hk_take (i := 5) (some 108) (.int .i64 (p : Int)) (by kernel_rfl) (by kernel_rfl) (by kernel_rfl) (by kernel_rfl) (by kernel_rfl) (by kernel_rfl) (fun w hS => by kernel_rfl) (fun _ _ d _ _ h => by cases d <;> exact h) hK ?_
              simp only [put_lit, put_non, List.set_cons_zero, List.set_cons_succ]
              refine hk_take (i := 6) (some 109) (.int .i64 ((p + 1 : Nat) : Int)) (by kernel_rfl) (by kernel_rfl) (by kernel_rfl) (by kernel_rfl) (by kernel_rfl) (by kernel_rfl) (fun w hS => exec_add1 108 p (by kernel_rfl) (by kernel_rfl) rfl (by omega)) (fun _ _ d _ _ h => by cases d <;> exact h) hK ?_
              simp only [put_lit, put_non, List.set_cons_zero, List.set_cons_succ]
              refine hk_take (i := 7) (some 110) (.string (s.extract (p + 1) s.size)) (by kernel_rfl) (by kernel_rfl) (by kernel_rfl) (by kernel_rfl) (by kernel_rfl) (by kernel_rfl) (fun w hS => exec_strFrom 107 109 s (p + 1) (by kernel_rfl) (by kernel_rfl) (by kernel_rfl) (by omega)) (fun _ _ d _ _ h => by cases d <;> exact h) hK ?_
              simp only [put_lit, put_non, List.set_cons_zero, List.set_cons_succ]
              refine hk_take (i := 8) (some 111) (.string (s.extract 0 p ++ s.extract (p + 1) s.size)) (by kernel_rfl) (by kernel_rfl) (by kernel_rfl) (by kernel_rfl) (by kernel_rfl) (by kernel_rfl) (fun w hS => exec_cat 106 110 _ _ (by kernel_rfl) (by kernel_rfl) (by kernel_rfl) (by rw [ByteArray.size_extract]; omega) (by rw [ByteArray.size_extract]; omega)) (fun _ _ d _ _ h => by cases d <;> exact h) hK ?_
              simp only [put_lit, put_non, List.set_cons_zero, List.set_cons_succ]
              refine hk_take (i := 10) (some 113) (u7) (by kernel_rfl) (by kernel_rfl) (by kernel_rfl) (by kernel_rfl) (by kernel_rfl) (by kernel_rfl) (fun w hS => by kernel_rfl) (fun _ _ d _ _ h => by cases d <;> exact h) hK ?_
              simp only [put_lit, put_non, List.set_cons_zero, List.set_cons_succ]
              refine hk_one (i := 9) (by kernel_rfl) ?_
              refine op_call (some 112) 62 #[.string (s.extract 0 p ++ s.extract (p + 1) s.size)] (by kernel_rfl) (by kernel_rfl) (by kernel_rfl) (fun w => by kernel_rfl) ?_
              refine (natDigits_is (n := dec (b ++ a)) (by rw [ByteArray.size_append, ByteArray.size_extract, ByteArray.size_extract]; omega) (by rw [chars_app, HC1.out, HC2.out]; exact all_app HD1.out.1 HD2.out.1) (by rw [chars_app, HC1.out, HC2.out])).mono ?_
              rintro e wz1 ⟨v5, rfl, h5, hB⟩
              refine ⟨_, rfl, below_then hK hB, ?_⟩
              have hK := below_then hK hB
              have hd := hd.below hB
              have hFg := hFg.below hB
              clear hB
              simp only [put_lit, put_non, List.set_cons_zero, List.set_cons_succ]
              refine hk_one (i := 11) (by kernel_rfl) ?_
              refine op_call (some 114) 40 #[.bool false, v5, u7] (by kernel_rfl) (by kernel_rfl) (by kernel_rfl) (fun w => by kernel_rfl) ?_
              refine (frac_v false h5.numV hd.numV (by omega) (by omega)).mono ?_
              rintro e wz2 ⟨v6, rfl, hv, hB⟩
              refine ⟨_, rfl, below_then hK hB, ?_⟩
              have hK := below_then hK hB
              have hd := hd.below hB
              have hFg := hFg.below hB
              have h5 := h5.below hB
              clear hB
              rw [← FV.out] at hv
              obtain ⟨b1, Z, o, r, Z', o', r', rfl, hb, hvx, hvy⟩ := hv.parts
              simp only [put_lit, put_non, List.set_cons_zero, List.set_cons_succ]
              refine hk_one (i := 12) (by kernel_rfl) ?_
              refine op_skip none (stor3 wz2 g (.bool b1) (.slice Z o r) (.slice Z' o' r')) (by kernel_rfl) (by kernel_rfl) (by kernel_rfl) (exec_store3 2 114 hFg (by kernel_rfl) (by kernel_rfl) (by kernel_rfl)) ?_
              have hKo := hK
              have hFo := hFg
              have hB := below_put3 (g := g) hK HG.out (.bool b1) (.slice Z o r) (.slice Z' o' r')
              refine ⟨hB, ?_⟩
              have hK := hB
              have hFg := hFg.put3 b1 (.slice Z o r) (.slice Z' o' r')
              simp only [put_lit, put_non, List.set_cons_zero, List.set_cons_succ]
              refine hk_take (i := 13) (some 3) (.int .i64 0) (by kernel_rfl) (by kernel_rfl) (by kernel_rfl) (by kernel_rfl) (by kernel_rfl) (by kernel_rfl) (fun w hS => by kernel_rfl) (fun _ _ d _ _ h => by cases d <;> exact h) hK ?_
              simp only [put_lit, put_non, List.set_cons_zero, List.set_cons_succ]
              refine hk_done (by kernel_rfl) ?_
              obtain ⟨k0, k1, k2⟩ := hFg.cells
              go_wp2_with fail
              refine bodyPost_ret (v := .tuple #[.agg #[.bool b1, .slice Z o r, .slice Z' o' r'], .int .i64 0]) (by rw [results_cell_tmp rfl]; go_simp) rfl ?_
              exact RPar.ok HE.out (RCanE.stored hb hvx hvy hFo hKo HG.out _)
set_option maxRecDepth 20000 in
set_option maxHeartbeats 16000000 in
theorem fracParse_noneB (w : World) (s u : ByteArray) (hs : s.size ≤ 60) (h0 : 0 < s.size) (hc : (s[0]'h0).toNat = 45) (hu : s.extract 1 s.size = u) (hus : u.size ≤ 60) (hsg : signOf (chars s) = true) (hr : restOf (chars s) = chars u) (hns : ∀ x ∈ chars u, isSep x = false) : Calls Tryz.prog 32 #[.string s] w (RPar w (chars s) 26) := by
  obtain ⟨W, g, ew, eg, hB0, hF⟩ := var1 w false (.slice none 0 0) (.slice none 0 0)
  have HG := Lib.hid (show w.heap.size ≤ g by omega)
  have hs4 : ¬ (4000 : Int) < s.size := by omega
  have h0i : (0 : Int) < s.size := by omega
  have hc1 : (((s[0]'h0).toNat : Int) == 45) = true := by rw [beq_iff_eq]; omega
  have hl := chars_length u
  have hK : Below W.heap.size W W := Below.refl _ _
  obtain ⟨p, hp⟩ : ∃ p, u.size = p := ⟨_, rfl⟩
  have hb := body_none hns
  have HN := Lib.hid (fun j (hj : j < u.size) (_ : j < p) => no_sep_at u hns j hj)
  have HB := Lib.hid hb
  have HSG := Lib.hid hsg
  have HR := Lib.hid hr
  clear hb hsg hr hns
  go_enter Tryz.func32, Tryz.ntmps32
  go_wp2_with fail
  clear hc1 h0i hs4
  go_loop [5] (fun i => ∃ j : Nat, j ≤ p ∧ i = .int .i64 j) (fun i => p - (intOf i).toNat)
  case atStart => exact ⟨0, Nat.zero_le _, rfl⟩
  case round =>
    obtain ⟨j, hj, rfl⟩ := hrel
    by_cases hlt : j < p
    · have hju : j < u.size := by omega
      have hjs : (j : Int) < u.size := by omega
      obtain ⟨n7, n6⟩ := HN.out j hju hlt
      have n7 : (((u[j]'hju).toNat : Int) != 47) = true := by rw [bne_iff_ne]; omega
      have n6 : (((u[j]'hju).toNat : Int) != 46) = true := by rw [bne_iff_ne]; omega
      go_wp2_with fail
      go_round
      case rel => exact ⟨j + 1, by omega, by go_num⟩
      case measure => simp [intOf]; omega
    · have : p = j := by omega
      subst this
      subst hp
      cases ho : okd (chars u) with
      | false =>
        have HE : Hid (ferr (chars s) = 2) := Lib.hid (by unfold ferr; rw [HR.out, HB.out]; simp [ho])
        have hlu : ¬ ((u.size : Int) < u.size) := by omega
        go_wp2_with fail
        refine (digits_is (by omega) ho).mono ?_
        rintro e w1 ⟨rfl, rfl⟩
        obtain ⟨k0, k1, k2⟩ := (hF.below hK).cells
        obtain ⟨f0, f1, f2⟩ := (hF.below hK).frozen
        go_wp2_with fail
        refine bodyPost_ret (v := .tuple #[.agg #[.bool false, .slice none 0 0, .slice none 0 0], .int .i64 2]) (by rw [results_cell_tmp rfl]; go_simp) rfl ?_
        exact RPar.bad HE.out (by decide) ⟨rfl, below_put3 (below_then hB0 hK) HG.out _ _ _⟩
      | true =>
        have HE : Hid (ferr (chars s) = 0) := Lib.hid (by unfold ferr; rw [HR.out, HB.out]; simp [ho])
        have hlu : ¬ ((u.size : Int) < u.size) := by omega
        have FV : fval (chars s) = fr true (dec (chars u)) 1 := by unfold fval; rw [HSG.out, HR.out, HB.out]
        have FV := Lib.hid FV
        have hda := okd_all ho
        have HD := Lib.hid hda
        clear hda
        go_wp2_with fail
        refine (digits_is (by omega) ho).mono ?_
        rintro e w1 ⟨rfl, rfl⟩
        go_wp2_with fail
        refine (natDigits_is (by omega) HD.out.1 rfl).mono ?_
        rintro e w1 ⟨v1, rfl, h1, hB1⟩
        have hK := below_then hK hB1
        go_wp2_with fail
        refine (natOf_v 1 (by omega)).mono ?_
        rintro e w2 ⟨v2, rfl, h2, _, hB2⟩
        have hK := below_then hK hB2
        have h1 := h1.below hB2
        go_wp2_with fail
        refine (frac_v true h1.numV (h2.numV.le (by omega)) (by omega) (by omega)).mono ?_
        rintro e w3 ⟨v, rfl, hv, hB3⟩
        rw [← FV.out] at hv
        have hK := below_then hK hB3
        obtain ⟨b1, Z, o, r, Z', o', r', rfl, hb, hvx, hvy⟩ := hv.parts
        obtain ⟨k0, k1, k2⟩ := (hF.below hK).cells
        obtain ⟨f0, f1, f2⟩ := (hF.below hK).frozen
        go_wp2_with fail
        refine bodyPost_ret (v := .tuple #[.agg #[.bool b1, .slice Z o r, .slice Z' o' r'], .int .i64 0]) (by rw [results_cell_tmp rfl]; go_simp) rfl ?_
        exact RPar.ok HE.out (RCanE.stored hb hvx hvy (hF.below hK) (below_then hB0 hK) HG.out _)
set_option maxRecDepth 20000 in
set_option maxHeartbeats 16000000 in
theorem fracParse_slashB (w : World) (s u : ByteArray) {b a : List UInt8} (hs : s.size ≤ 60) (h0 : 0 < s.size) (hc : (s[0]'h0).toNat = 45) (hu : s.extract 1 s.size = u) (hus : u.size ≤ 60) (hsg : signOf (chars s) = true) (hr : restOf (chars s) = chars u) (hE : chars u = b ++ 47 :: a) (hns : ∀ x ∈ b, isSep x = false) : Calls Tryz.prog 32 #[.string s] w (RPar w (chars s) 26) := by
  obtain ⟨W, g, ew, eg, hB0, hF⟩ := var1 w false (.slice none 0 0) (.slice none 0 0)
  have HG := Lib.hid (show w.heap.size ≤ g by omega)
  have hs4 : ¬ (4000 : Int) < s.size := by omega
  have h0i : (0 : Int) < s.size := by omega
  have hc1 : (((s[0]'h0).toNat : Int) == 45) = true := by rw [beq_iff_eq]; omega
  have hl := chars_length u
  have hK : Below W.heap.size W W := Below.refl _ _
  obtain ⟨p, hp⟩ : ∃ p, b.length = p := ⟨_, rfl⟩
  have hpu : p < u.size := by rw [← hl, hE, ← hp]; simp
  have hb := body_slash hE hns
  have HN := Lib.hid (fun j (hj : j < u.size) (hlt : j < p) => sep_before u hE hns j hj (by omega))
  have HP := Lib.hid (show (u[p]'hpu).toNat = 47 from sep_here u hE p hp hpu)
  have HC1 := Lib.hid (chars_before u hE p hp)
  have HC2 := Lib.hid (chars_behind u hE p hp)
  have HLN := Lib.hid (show (chars u).length = p + 1 + a.length by rw [hE, ← hp]; simp; omega)
  have HB := Lib.hid hb
  have HSG := Lib.hid hsg
  have HR := Lib.hid hr
  clear hb hsg hr hns hE
  go_enter Tryz.func32, Tryz.ntmps32
  go_wp2_with fail
  clear hc1 h0i hs4
  go_loop [5] (fun i => ∃ j : Nat, j ≤ p ∧ i = .int .i64 j) (fun i => p - (intOf i).toNat)
  case atStart => exact ⟨0, Nat.zero_le _, rfl⟩
  case round =>
    obtain ⟨j, hj, rfl⟩ := hrel
    by_cases hlt : j < p
    · have hju : j < u.size := by omega
      have hjs : (j : Int) < u.size := by omega
      obtain ⟨n7, n6⟩ := HN.out j hju hlt
      have n7 : (((u[j]'hju).toNat : Int) != 47) = true := by rw [bne_iff_ne]; omega
      have n6 : (((u[j]'hju).toNat : Int) != 46) = true := by rw [bne_iff_ne]; omega
      go_wp2_with fail
      go_round
      case rel => exact ⟨j + 1, by omega, by go_num⟩
      case measure => simp [intOf]; omega
    · have : p = j := by omega
      subst this
      have hlu : (p : Int) < u.size := by omega
      have hne : ((p : Int) == (u.size : Int)) = false := by rw [beq_eq_false_iff_ne]; omega
      have n7 : (((u[p]'hpu).toNat : Int) != 47) = false := by have := HP.out; rw [bne_eq_false_iff_eq]; omega
      have m7 : (((u[p]'hpu).toNat : Int) == 47) = true := by have := HP.out; rw [beq_iff_eq]; omega
      cases ho : okd b with
      | false =>
        have HE : Hid (ferr (chars s) = 2) := Lib.hid (by unfold ferr; rw [HR.out, HB.out]; simp [ho])
        go_wp2_with fail
        refine (digits_is (z := false) (by rw [ByteArray.size_extract]; omega) (by rw [HC1.out]; exact ho)).mono ?_
        rintro e w1 ⟨rfl, rfl⟩
        obtain ⟨k0, k1, k2⟩ := (hF.below hK).cells
        obtain ⟨f0, f1, f2⟩ := (hF.below hK).frozen
        go_wp2_with fail
        refine bodyPost_ret (v := .tuple #[.agg #[.bool false, .slice none 0 0, .slice none 0 0], .int .i64 2]) (by rw [results_cell_tmp rfl]; go_simp) rfl ?_
        exact RPar.bad HE.out (by decide) ⟨rfl, below_put3 (below_then hB0 hK) HG.out _ _ _⟩
      | true =>
        cases ho2 : okd a with
        | false =>
          have HE : Hid (ferr (chars s) = 2) := Lib.hid (by unfold ferr; rw [HR.out, HB.out]; simp [ho2])
          go_wp2_with fail
          refine (digits_is (z := true) (by rw [ByteArray.size_extract]; omega) (by rw [HC1.out]; exact ho)).mono ?_
          rintro e w1 ⟨rfl, rfl⟩
          go_wp2_with fail
          refine (digits_is (z := false) (by rw [ByteArray.size_extract]; omega) (by rw [HC2.out]; exact ho2)).mono ?_
          rintro e w1 ⟨rfl, rfl⟩
          obtain ⟨k0, k1, k2⟩ := (hF.below hK).cells
          obtain ⟨f0, f1, f2⟩ := (hF.below hK).frozen
          go_wp2_with fail
          refine bodyPost_ret (v := .tuple #[.agg #[.bool false, .slice none 0 0, .slice none 0 0], .int .i64 2]) (by rw [results_cell_tmp rfl]; go_simp) rfl ?_
          exact RPar.bad HE.out (by decide) ⟨rfl, below_put3 (below_then hB0 hK) HG.out _ _ _⟩
        | true =>
          have HD1 := Lib.hid (okd_all ho)
          have HD2 := Lib.hid (okd_all ho2)
          by_cases hd0 : dec a = 0
          · have HE : Hid (ferr (chars s) = 20) := Lib.hid (by unfold ferr; rw [HR.out, HB.out]; simp [ho, ho2, hd0])
            go_wp2_with fail
            refine (digits_is (z := true) (by rw [ByteArray.size_extract]; omega) (by rw [HC1.out]; exact ho)).mono ?_
            rintro e w1 ⟨rfl, rfl⟩
            go_wp2_with fail
            refine (digits_is (z := true) (by rw [ByteArray.size_extract]; omega) (by rw [HC2.out]; exact ho2)).mono ?_
            rintro e w1 ⟨rfl, rfl⟩
            go_wp2_with fail
            refine (natDigits_is (n := dec a) (by rw [ByteArray.size_extract]; omega) (by rw [HC2.out]; exact HD2.out.1) (by rw [HC2.out])).mono ?_
            rintro e w1 ⟨v1, rfl, h1, hB1⟩
            have hK := below_then hK hB1
            obtain ⟨Y, y1, y2, rfl⟩ := h1.form
            have hz := can_len0 h1 rfl
            have hy : y1 = 0 := hz.2 hd0
            subst hy
            clear h1 hz hd0 ho ho2 hs hus hl
            obtain ⟨k0, k1, k2⟩ := (hF.below hK).cells
            obtain ⟨f0, f1, f2⟩ := (hF.below hK).frozen
            go_wp2_with fail
            refine bodyPost_ret (v := .tuple #[.agg #[.bool false, .slice none 0 0, .slice none 0 0], .int .i64 20]) (by rw [results_cell_tmp rfl]; go_simp) rfl ?_
            exact RPar.bad HE.out (by decide) ⟨rfl, below_put3 (below_then hB0 hK) HG.out _ _ _⟩
          · have HE : Hid (ferr (chars s) = 0) := Lib.hid (by unfold ferr; rw [HR.out, HB.out]; simp [ho, ho2, hd0])
            have FV : fval (chars s) = fr true (dec b) (dec a) := by unfold fval; rw [HSG.out, HR.out, HB.out]
            have FV := Lib.hid FV
            go_wp2_with fail
            refine (digits_is (z := true) (by rw [ByteArray.size_extract]; omega) (by rw [HC1.out]; exact ho)).mono ?_
            rintro e w1 ⟨rfl, rfl⟩
            go_wp2_with fail
            refine (digits_is (z := true) (by rw [ByteArray.size_extract]; omega) (by rw [HC2.out]; exact ho2)).mono ?_
            rintro e w1 ⟨rfl, rfl⟩
            go_wp2_with fail
            refine (natDigits_is (n := dec a) (by rw [ByteArray.size_extract]; omega) (by rw [HC2.out]; exact HD2.out.1) (by rw [HC2.out])).mono ?_
            rintro e w1 ⟨v1, rfl, h1, hB1⟩
            have hK := below_then hK hB1
            obtain ⟨Y, y1, y2, rfl⟩ := h1.form
            have hz := can_len0 h1 rfl
            have hy : ((y1 : Int) == 0) = false := by rw [beq_eq_false_iff_ne]; intro e; exact hd0 (hz.1 (by omega))
            clear hz
            go_wp2_with fail
            refine (natDigits_is (n := dec b) (by rw [ByteArray.size_extract]; omega) (by rw [HC1.out]; exact HD1.out.1) (by rw [HC1.out])).mono ?_
            rintro e w2 ⟨v2, rfl, h2, hB2⟩
            have hK := below_then hK hB2
            have h1 := h1.below hB2
            go_wp2_with fail
            refine (frac_v true h2.numV h1.numV (by omega) (by omega)).mono ?_
            rintro e w3 ⟨v, rfl, hv, hB3⟩
            rw [← FV.out] at hv
            have hK := below_then hK hB3
            obtain ⟨b1, Z, o, r, Z', o', r', rfl, hb, hvx, hvy⟩ := hv.parts
            obtain ⟨k0, k1, k2⟩ := (hF.below hK).cells
            obtain ⟨f0, f1, f2⟩ := (hF.below hK).frozen
            go_wp2_with fail
            refine bodyPost_ret (v := .tuple #[.agg #[.bool b1, .slice Z o r, .slice Z' o' r'], .int .i64 0]) (by rw [results_cell_tmp rfl]; go_simp) rfl ?_
            exact RPar.ok HE.out (RCanE.stored hb hvx hvy (hF.below hK) (below_then hB0 hK) HG.out _)
set_option maxRecDepth 20000 in
set_option maxHeartbeats 16000000 in
theorem fracParse_pointB (w : World) (s u : ByteArray) {b a : List UInt8} (hs : s.size ≤ 60) (h0 : 0 < s.size) (hc : (s[0]'h0).toNat = 45) (hu : s.extract 1 s.size = u) (hus : u.size ≤ 60) (hsg : signOf (chars s) = true) (hr : restOf (chars s) = chars u) (hE : chars u = b ++ 46 :: a) (hns : ∀ x ∈ b, isSep x = false) : Calls Tryz.prog 32 #[.string s] w (RPar w (chars s) 26) := by
  obtain ⟨W, g, ew, eg, hB0, hF⟩ := var1 w false (.slice none 0 0) (.slice none 0 0)
  have HG := Lib.hid (show w.heap.size ≤ g by omega)
  have hs4 : ¬ (4000 : Int) < s.size := by omega
  have h0i : (0 : Int) < s.size := by omega
  have hc1 : (((s[0]'h0).toNat : Int) == 45) = true := by rw [beq_iff_eq]; omega
  have hl := chars_length u
  have hK : Below W.heap.size W W := Below.refl _ _
  obtain ⟨p, hp⟩ : ∃ p, b.length = p := ⟨_, rfl⟩
  have hpu : p < u.size := by rw [← hl, hE, ← hp]; simp
  have hb := body_point hE hns
  have HN := Lib.hid (fun j (hj : j < u.size) (hlt : j < p) => sep_before u hE hns j hj (by omega))
  have HP := Lib.hid (show (u[p]'hpu).toNat = 46 from sep_here u hE p hp hpu)
  have HC1 := Lib.hid (chars_before u hE p hp)
  have HC2 := Lib.hid (chars_behind u hE p hp)
  have HLN := Lib.hid (show (chars u).length = p + 1 + a.length by rw [hE, ← hp]; simp; omega)
  have HB := Lib.hid hb
  have HSG := Lib.hid hsg
  have HR := Lib.hid hr
  clear hb hsg hr hns hE
  go_enter Tryz.func32, Tryz.ntmps32
  go_wp2_with fail
  clear hc1 h0i hs4
  go_loop [5] (fun i => ∃ j : Nat, j ≤ p ∧ i = .int .i64 j) (fun i => p - (intOf i).toNat)
  case atStart => exact ⟨0, Nat.zero_le _, rfl⟩
  case round =>
    obtain ⟨j, hj, rfl⟩ := hrel
    by_cases hlt : j < p
    · have hju : j < u.size := by omega
      have hjs : (j : Int) < u.size := by omega
      obtain ⟨n7, n6⟩ := HN.out j hju hlt
      have n7 : (((u[j]'hju).toNat : Int) != 47) = true := by rw [bne_iff_ne]; omega
      have n6 : (((u[j]'hju).toNat : Int) != 46) = true := by rw [bne_iff_ne]; omega
      go_wp2_with fail
      go_round
      case rel => exact ⟨j + 1, by omega, by go_num⟩
      case measure => simp [intOf]; omega
    · have : p = j := by omega
      subst this
      have hlu : (p : Int) < u.size := by omega
      have hne : ((p : Int) == (u.size : Int)) = false := by rw [beq_eq_false_iff_ne]; omega
      have n7 : (((u[p]'hpu).toNat : Int) != 47) = true := by have := HP.out; rw [bne_iff_ne]; omega
      have m7 : (((u[p]'hpu).toNat : Int) == 47) = false := by have := HP.out; rw [beq_eq_false_iff_ne]; omega
      have n6 : (((u[p]'hpu).toNat : Int) != 46) = false := by have := HP.out; rw [bne_eq_false_iff_eq]; omega
      cases ho : okd b with
      | false =>
        have HE : Hid (ferr (chars s) = 2) := Lib.hid (by unfold ferr; rw [HR.out, HB.out]; simp [ho])
        go_wp2_with fail
        refine (digits_is (z := false) (by rw [ByteArray.size_extract]; omega) (by rw [HC1.out]; exact ho)).mono ?_
        rintro e w1 ⟨rfl, rfl⟩
        obtain ⟨k0, k1, k2⟩ := (hF.below hK).cells
        obtain ⟨f0, f1, f2⟩ := (hF.below hK).frozen
        go_wp2_with fail
        refine bodyPost_ret (v := .tuple #[.agg #[.bool false, .slice none 0 0, .slice none 0 0], .int .i64 2]) (by rw [results_cell_tmp rfl]; go_simp) rfl ?_
        exact RPar.bad HE.out (by decide) ⟨rfl, below_put3 (below_then hB0 hK) HG.out _ _ _⟩
      | true =>
        cases ho2 : okd a with
        | false =>
          have HE : Hid (ferr (chars s) = 2) := Lib.hid (by unfold ferr; rw [HR.out, HB.out]; simp [ho2])
          go_wp2_with fail
          refine (digits_is (z := true) (by rw [ByteArray.size_extract]; omega) (by rw [HC1.out]; exact ho)).mono ?_
          rintro e w1 ⟨rfl, rfl⟩
          go_wp2_with fail
          refine (digits_is (z := false) (by rw [ByteArray.size_extract]; omega) (by rw [HC2.out]; exact ho2)).mono ?_
          rintro e w1 ⟨rfl, rfl⟩
          obtain ⟨k0, k1, k2⟩ := (hF.below hK).cells
          obtain ⟨f0, f1, f2⟩ := (hF.below hK).frozen
          go_wp2_with fail
          refine bodyPost_ret (v := .tuple #[.agg #[.bool false, .slice none 0 0, .slice none 0 0], .int .i64 2]) (by rw [results_cell_tmp rfl]; go_simp) rfl ?_
          exact RPar.bad HE.out (by decide) ⟨rfl, below_put3 (below_then hB0 hK) HG.out _ _ _⟩
        | true =>
          have HE : Hid (ferr (chars s) = 0) := Lib.hid (by unfold ferr; rw [HR.out, HB.out]; simp [ho, ho2])
          have FV : fval (chars s) = fr true (dec (b ++ a)) (10 ^ a.length) := by unfold fval; rw [HSG.out, HR.out, HB.out, dec_append]
          have FV := Lib.hid FV
          have HD1 := Lib.hid (okd_all ho)
          have HD2 := Lib.hid (okd_all ho2)
          have hal : u.size = p + 1 + a.length := by rw [← hl]; exact HLN.out
          have HAL := Lib.hid hal
          clear hal
          go_wp2_with fail
          refine (digits_is (z := true) (by rw [ByteArray.size_extract]; omega) (by rw [HC1.out]; exact ho)).mono ?_
          rintro e w1 ⟨rfl, rfl⟩
          go_wp2_with fail
          refine (digits_is (z := true) (by rw [ByteArray.size_extract]; omega) (by rw [HC2.out]; exact ho2)).mono ?_
          rintro e w1 ⟨rfl, rfl⟩
          go_wp2_with fail
          refine (natOf_v 1 (by omega)).mono ?_
          rintro e w2 ⟨v2, rfl, h2, _, hB2⟩
          have hK := below_then hK hB2
          have h2 := h2.le (show 2 ≤ 26 by omega)
          clear n7 n6 m7
          go_wp2_with fail
          go_loopw [7, 8] (fun dv i wr => ∃ k : Nat, p + 1 + k ≤ u.size ∧ i = .int .i64 ((p + 1 + k : Nat) : Int) ∧ Can wr dv (10 ^ k) 26 ∧ Below W.heap.size W wr) (fun _ i _ => u.size - (intOf i).toNat)
          case atStart => exact ⟨0, by omega, by go_num, h2, hK⟩
          case round =>
            obtain ⟨k, hk, rfl, hd, hB⟩ := hrel
            by_cases hlt : p + 1 + k < u.size
            · have hki : ((p + 1 + k : Nat) : Int) < u.size := by omega
              go_wp2_with fail
              refine (natOf_v 10 (by omega)).mono ?_
              rintro e w3 ⟨v3, rfl, h3, _, hB3⟩
              have hd := hd.below hB3
              have hB := below_then hB hB3
              go_wp2_with fail
              refine ((natMul_v hd.numV h3.numV (by omega) (by omega)).mono fun e w4 h => RCan.fit h (show 10 ^ k * 10 < 4294967296 ^ 26 from pow10_next k (by omega))).mono ?_
              rintro e w4 ⟨v4, rfl, h4, _, hB4⟩
              have hB := below_then hB hB4
              go_wp2_with fail
              go_roundw
              case rel => exact ⟨k + 1, by omega, by go_num, by rw [Nat.pow_succ]; exact h4, hB⟩
              case measure => simp [intOf]; omega
            · have hke : p + 1 + k = u.size := by omega
              have hka : k = a.length := by have := HAL.out; omega
              subst hka
              have hFg := hF.below hB
              go_wp2_with fail
              refine hk_begin (S := fun w' => Below w.heap.size w w') 14 (by kernel_rfl) (by kernel_rfl) ?_
              have hK : Below w.heap.size w wr.drew := (below_then hB0 hB).drew
              have hd := hd.below (Below.refl _ _).drew
              have hFg := hFg.below (Below.refl _ _).drew
              refine hk_take (i := 0) (some 103) (.bool true) (by kernel_rfl) (by kernel_rfl) (by kernel_rfl) (by kernel_rfl) (by kernel_rfl) (by kernel_rfl) (fun w hS => by kernel_rfl) (fun _ _ d _ _ h => by cases d <;> exact h) hK ?_
              simp only [put_lit, put_non, List.set_cons_zero, List.set_cons_succ]
              refine hk_take (i := 1) (some 104) (.string u) (by kernel_rfl) (by kernel_rfl) (by kernel_rfl) (by kernel_rfl) (by kernel_rfl) (by kernel_rfl) (fun w hS => by kernel_rfl) (fun _ _ d _ _ h => by cases d <;> exact h) hK ?_
              simp only [put_lit, put_non, List.set_cons_zero, List.set_cons_succ]
              refine hk_take (i := 2) (some 105) (.int .i64 (p : Int)) (by kernel_rfl) (by kernel_rfl) (by kernel_rfl) (by kernel_rfl) (by kernel_rfl) (by kernel_rfl) (fun w hS => by kernel_rfl) (fun _ _ d _ _ h => by cases d <;> exact h) hK ?_
              simp only [put_lit, put_non, List.set_cons_zero, List.set_cons_succ]
              refine hk_take (i := 3) (some 106) (.string (u.extract 0 p)) (by kernel_rfl) (by kernel_rfl) (by kernel_rfl) (by kernel_rfl) (by kernel_rfl) (by kernel_rfl) (fun w hS => exec_strTo 104 105 u p (by kernel_rfl) (by kernel_rfl) (by kernel_rfl) (by omega)) (fun _ _ d _ _ h => by cases d <;> exact h) hK ?_
              simp only [put_lit, put_non, List.set_cons_zero, List.set_cons_succ]
              refine hk_take (i := 4) (some 107) (.string u) (by kernel_rfl) (by kernel_rfl) (by kernel_rfl) (by kernel_rfl) (by kernel_rfl) (by kernel_rfl) (fun w hS => by kernel_rfl) (fun _ _ d _ _ h => by cases d <;> exact h) hK ?_
              simp only [put_lit, put_non, List.set_cons_zero, List.set_cons_succ]
              refine hk_take (i := 5) (some 108) (.int .i64 (p : Int)) (by kernel_rfl) (by kernel_rfl) (by kernel_rfl) (by kernel_rfl) (by kernel_rfl) (by kernel_rfl) (fun w hS => by kernel_rfl) (fun _ _ d _ _ h => by cases d <;> exact h) hK ?_
              simp only [put_lit, put_non, List.set_cons_zero, List.set_cons_succ]
              refine hk_take (i := 6) (some 109) (.int .i64 ((p + 1 : Nat) : Int)) (by kernel_rfl) (by kernel_rfl) (by kernel_rfl) (by kernel_rfl) (by kernel_rfl) (by kernel_rfl) (fun w hS => exec_add1 108 p (by kernel_rfl) (by kernel_rfl) rfl (by omega)) (fun _ _ d _ _ h => by cases d <;> exact h) hK ?_
              simp only [put_lit, put_non, List.set_cons_zero, List.set_cons_succ]
              refine hk_take (i := 7) (some 110) (.string (u.extract (p + 1) u.size)) (by kernel_rfl) (by kernel_rfl) (by kernel_rfl) (by kernel_rfl) (by kernel_rfl) (by kernel_rfl) (fun w hS => exec_strFrom 107 109 u (p + 1) (by kernel_rfl) (by kernel_rfl) (by kernel_rfl) (by omega)) (fun _ _ d _ _ h => by cases d <;> exact h) hK ?_
              simp only [put_lit, put_non, List.set_cons_zero, List.set_cons_succ]
              refine hk_take (i := 8) (some 111) (.string (u.extract 0 p ++ u.extract (p + 1) u.size)) (by kernel_rfl) (by kernel_rfl) (by kernel_rfl) (by kernel_rfl) (by kernel_rfl) (by kernel_rfl) (fun w hS => exec_cat 106 110 _ _ (by kernel_rfl) (by kernel_rfl) (by kernel_rfl) (by rw [ByteArray.size_extract]; omega) (by rw [ByteArray.size_extract]; omega)) (fun _ _ d _ _ h => by cases d <;> exact h) hK ?_
              simp only [put_lit, put_non, List.set_cons_zero, List.set_cons_succ]
              refine hk_take (i := 10) (some 113) (u7) (by kernel_rfl) (by kernel_rfl) (by kernel_rfl) (by kernel_rfl) (by kernel_rfl) (by kernel_rfl) (fun w hS => by kernel_rfl) (fun _ _ d _ _ h => by cases d <;> exact h) hK ?_
              simp only [put_lit, put_non, List.set_cons_zero, List.set_cons_succ]
              refine hk_one (i := 9) (by kernel_rfl) ?_
              refine op_call (some 112) 62 #[.string (u.extract 0 p ++ u.extract (p + 1) u.size)] (by kernel_rfl) (by kernel_rfl) (by kernel_rfl) (fun w => by kernel_rfl) ?_
              refine (natDigits_is (n := dec (b ++ a)) (by rw [ByteArray.size_append, ByteArray.size_extract, ByteArray.size_extract]; omega) (by rw [chars_app, HC1.out, HC2.out]; exact all_app HD1.out.1 HD2.out.1) (by rw [chars_app, HC1.out, HC2.out])).mono ?_
              rintro e wz1 ⟨v5, rfl, h5, hB⟩
              refine ⟨_, rfl, below_then hK hB, ?_⟩
              have hK := below_then hK hB
              have hd := hd.below hB
              have hFg := hFg.below hB
              clear hB
              simp only [put_lit, put_non, List.set_cons_zero, List.set_cons_succ]
              refine hk_one (i := 11) (by kernel_rfl) ?_
              refine op_call (some 114) 40 #[.bool true, v5, u7] (by kernel_rfl) (by kernel_rfl) (by kernel_rfl) (fun w => by kernel_rfl) ?_
              refine (frac_v true h5.numV hd.numV (by omega) (by omega)).mono ?_
              rintro e wz2 ⟨v6, rfl, hv, hB⟩
              refine ⟨_, rfl, below_then hK hB, ?_⟩
              have hK := below_then hK hB
              have hd := hd.below hB
              have hFg := hFg.below hB
              have h5 := h5.below hB
              clear hB
              rw [← FV.out] at hv
              obtain ⟨b1, Z, o, r, Z', o', r', rfl, hb, hvx, hvy⟩ := hv.parts
              simp only [put_lit, put_non, List.set_cons_zero, List.set_cons_succ]
              refine hk_one (i := 12) (by kernel_rfl) ?_
              refine op_skip none (stor3 wz2 g (.bool b1) (.slice Z o r) (.slice Z' o' r')) (by kernel_rfl) (by kernel_rfl) (by kernel_rfl) (exec_store3 2 114 hFg (by kernel_rfl) (by kernel_rfl) (by kernel_rfl)) ?_
              have hKo := hK
              have hFo := hFg
              have hB := below_put3 (g := g) hK HG.out (.bool b1) (.slice Z o r) (.slice Z' o' r')
              refine ⟨hB, ?_⟩
              have hK := hB
              have hFg := hFg.put3 b1 (.slice Z o r) (.slice Z' o' r')
              simp only [put_lit, put_non, List.set_cons_zero, List.set_cons_succ]
              refine hk_take (i := 13) (some 3) (.int .i64 0) (by kernel_rfl) (by kernel_rfl) (by kernel_rfl) (by kernel_rfl) (by kernel_rfl) (by kernel_rfl) (fun w hS => by kernel_rfl) (fun _ _ d _ _ h => by cases d <;> exact h) hK ?_
              simp only [put_lit, put_non, List.set_cons_zero, List.set_cons_succ]
              refine hk_done (by kernel_rfl) ?_
              obtain ⟨k0, k1, k2⟩ := hFg.cells
              go_wp2_with fail
              refine bodyPost_ret (v := .tuple #[.agg #[.bool b1, .slice Z o r, .slice Z' o' r'], .int .i64 0]) (by rw [results_cell_tmp rfl]; go_simp) rfl ?_
              exact RPar.ok HE.out (RCanE.stored hb hvx hvy hFo hKo HG.out _)
set_option maxRecDepth 20000 in
set_option maxHeartbeats 8000000 in
theorem fracParse_nil (w : World) (s : ByteArray) (h0 : s.size = 0) : Calls Tryz.prog 32 #[.string s] w (RPar w (chars s) 26) := by
  obtain ⟨W, g, ew, eg, hB0, hF⟩ := var1 w false (.slice none 0 0) (.slice none 0 0)
  have HG := Lib.hid (show w.heap.size ≤ g by omega)
  have hl := chars_length s
  have hcs : chars s = [] := List.eq_nil_of_length_eq_zero (by omega)
  have HE : Hid (ferr (chars s) = 2) := Lib.hid (by rw [hcs]; rfl)
  have HC := Lib.hid hcs
  have hK : Below W.heap.size W W := Below.refl _ _
  clear hl hcs
  go_enter Tryz.func32, Tryz.ntmps32
  go_wp2_with fail
  go_loop [5] (fun i => i = .int .i64 0) (fun i => 0)
  case atStart => rfl
  case round =>
    subst hrel
    go_wp2_with fail
    refine (digits_is (z := false) (by decide) rfl).mono ?_
    rintro e w1 ⟨rfl, rfl⟩
    obtain ⟨k0, k1, k2⟩ := (hF.below hK).cells
    obtain ⟨f0, f1, f2⟩ := (hF.below hK).frozen
    go_wp2_with fail
    refine bodyPost_ret (v := .tuple #[.agg #[.bool false, .slice none 0 0, .slice none 0 0], .int .i64 2]) (by rw [results_cell_tmp rfl]; go_simp) rfl ?_
    exact RPar.bad HE.out (by decide) ⟨rfl, below_put3 (below_then hB0 hK) HG.out _ _ _⟩
theorem chars_cons (s : ByteArray) (h0 : 0 < s.size) : ∃ t, chars s = (s[0]'h0) :: t ∧ chars (s.extract 1 s.size) = t := by
  have hl := chars_length s
  have hc := char_at s 0 h0
  cases h : chars s with
  | nil => rw [h] at hl; simp at hl; omega
  | cons c t =>
    rw [h] at hc hl
    refine ⟨t, by rw [hc]; rfl, ?_⟩
    have hl2 : t.length = s.size - 1 := by simp at hl; omega
    rw [chars_extract, h, List.drop_succ_cons, List.drop_zero, ← hl2, List.take_length]
theorem fracParse_v (w : World) (s : ByteArray) (hs : s.size ≤ 60) : Calls Tryz.prog 32 #[.string s] w (RPar w (chars s) 26) := by
  rcases Nat.eq_zero_or_pos s.size with h0 | h0
  · exact fracParse_nil w s h0
  · obtain ⟨t, ht, ht2⟩ := chars_cons s h0
    by_cases hc : (s[0]'h0).toNat = 45
    · have hce : (s[0]'h0) = 45 := UInt8.toNat_inj.1 hc
      have hsg : signOf (chars s) = true := by rw [ht, hce]; rfl
      have hr : restOf (chars s) = chars (s.extract 1 s.size) := by unfold restOf; rw [hsg, if_pos rfl, ht, ht2]; rfl
      have hus : (s.extract 1 s.size).size ≤ 60 := by rw [ByteArray.size_extract]; omega
      rcases tail_cases (chars (s.extract 1 s.size)) with h | ⟨b, a, e, h⟩ | ⟨b, a, e, h⟩
      · exact fracParse_noneB w s _ hs h0 hc rfl hus hsg hr h
      · exact fracParse_slashB w s _ hs h0 hc rfl hus hsg hr e h
      · exact fracParse_pointB w s _ hs h0 hc rfl hus hsg hr e h
    · have hce : (s[0]'h0) ≠ 45 := fun e => hc (by rw [e]; rfl)
      have hsg : signOf (chars s) = false := by rw [ht]; show (some (s[0]'h0) == some 45) = false; simpa using hce
      have hr : restOf (chars s) = chars s := by unfold restOf; rw [hsg]; rfl
      rcases tail_cases (chars s) with h | ⟨b, a, e, h⟩ | ⟨b, a, e, h⟩
      · exact fracParse_noneA w s s hs h0 hc rfl hs hsg hr h
      · exact fracParse_slashA w s s hs h0 hc rfl hs hsg hr e h
      · exact fracParse_pointA w s s hs h0 hc rfl hs hsg hr e h
end Go.Proofs.YtgjhgpfjeoeojaaGreatDoor

/- The contracts of parseDigits, parseQuotient, parseDecimal of package rational. -/
import Derived.Test.YtgjhgpfjeoeojaaDoorRatF
import Derived.Test.YtgjhgpfjeoeojaaDoorPtxt
import Derived.Test.YtgjhgpfjeoeojaaDoorReft
import Derived.Test.YtgjhgpfjeoeojaaDoorPows
namespace Go.Proofs.YtgjhgpfjeoeojaaDoor
open Go.RowKit Dig
set_option linter.unusedVariables false

namespace Dig
theorem pow10_lim {n : Nat} (h : n ≤ 120) : 10 ^ n < 4294967296 ^ 13 :=
  Nat.lt_of_le_of_lt (Nat.pow_le_pow_right (by omega) h) (by decide)
theorem dec_lim {l : List UInt8} (h : ∀ c ∈ l, isDig c = true) (hl : l.length ≤ 120) : dec l < 4294967296 ^ 13 := Nat.lt_trans (dec_lt l h) (pow10_lim hl)
theorem lead_of {l : List UInt8} (h : l ≠ []) (h2 : l.head? ≠ some 48) : lead l = true := by
  rcases l with _ | ⟨c, l⟩
  · exact absurd rfl h
  · unfold lead
    simp at h2 ⊢
    exact .inr h2
end Dig
theorem Can.of_num {w : World} {v : Value} {n k : Nat} (h : Num w v (dg n)) (hn : n < 4294967296 ^ k) : Can w v n k := ⟨h, hn⟩
theorem chars_mk (l : List UInt8) : chars ⟨l.toArray⟩ = l := rfl

set_option maxHeartbeats 1000000 in
theorem parseDigits_v (w : World) (s : ByteArray) (hs : s.size ≤ 120) : Calls Tryd.prog 57 #[.string s] w fun e w' => ∃ r, e = .returned (.tuple #[r, .bool (okd (chars s))]) ∧ (okd (chars s) = true → Can w' r (dec (chars s)) 13) ∧ Below w.heap.size w w' := by
  obtain ⟨h1, h2, h3, h4⟩ := trim_dec (chars s)
  have hcl := chars_length s
  have TL := fun w1 => Tryd.strings_TrimLeft_one s 48 (by decide) w1
  rw [show Lib.trimLeftB s.data.toList 48 = Lib.trimLeftB (chars s) 48 from rfl] at TL
  by_cases h0 : Lib.trimLeftB (chars s) 48 = []
  · rw [h0] at TL h1 h2
    have hok : okd (chars s) = !(chars s).isEmpty := by
      unfold okd
      rw [← h2]
      simp
    have HT := Lib.hid TL
    have HD := Lib.hid h1
    have HO := Lib.hid hok
    clear TL h1 h2 h3 h4 h0 hok
    go_enter Tryd.func57, Tryd.ntmps57
    go_wp2_with fail
    refine (HT.out _).mono ?_
    rintro e w1 ⟨rfl, rfl⟩
    go_wp2_with fail
    go_ret2
    exact ⟨.slice none 0 0, ret_eq (show Value.tuple #[.slice none 0 0, .bool !s.toList.isEmpty] = _ by rw [toList_chars, HO.out]), fun _ => by rw [← HD.out]; exact ⟨Num.nil _, pow_pos' _⟩, Below.refl _ _⟩
  · have hlead := lead_of h0 h4
    have hP : ∀ w1 : World, Calls Tryd.prog 75 #[.string ⟨(Lib.trimLeftB (chars s) 48).toArray⟩] w1 fun e w' => ∃ r, e = .returned (.tuple #[r, .int .i64 (perr (Lib.trimLeftB (chars s) 48))]) ∧ Num w' r (dg (pnum (Lib.trimLeftB (chars s) 48))) ∧ Below w1.heap.size w1 w' :=
      fun w1 => parse_any w1 ⟨(Lib.trimLeftB (chars s) 48).toArray⟩ (by show (Lib.trimLeftB (chars s) 48).toArray.size ≤ 4000; simp; omega)
    have hne : chars s ≠ [] := by
      intro e
      rw [e] at h0
      exact h0 rfl
    have hok : okd (chars s) = isText (Lib.trimLeftB (chars s) 48) := by
      unfold okd isText
      rw [h2, hlead]
      cases hc : chars s with
      | nil => exact absurd hc hne
      | cons c l => simp
    have hEq : (perr (Lib.trimLeftB (chars s) 48) == 0) = okd (chars s) := by
      unfold perr
      rw [hok]
      cases isText (Lib.trimLeftB (chars s) 48) <;> rfl
    have hV : okd (chars s) = true → pnum (Lib.trimLeftB (chars s) 48) = dec (chars s) ∧ dec (chars s) < 4294967296 ^ 13 := by
      intro h
      refine ⟨?_, dec_lim (okd_all h).1 (by omega)⟩
      unfold pnum
      rw [← hok, h, ← h1]
      rfl
    have HV := Lib.hid hV
    have HT := Lib.hid TL
    have HP := Lib.hid hP
    have HE := Lib.hid hEq
    have hi : (Lib.trimLeftB (chars s) 48).isEmpty = false := by
      cases hc : Lib.trimLeftB (chars s) 48 with
      | nil => exact absurd hc h0
      | cons c l => rfl
    have hb : (Lib.trimLeftB (chars s) 48 == []) = false := by
      cases hc : Lib.trimLeftB (chars s) 48 with
      | nil => exact absurd hc h0
      | cons c l => rfl
    clear TL hP hEq hok hne hlead h1 h2 h3 h4 hV h0
    generalize Lib.trimLeftB (chars s) 48 = t at *
    generalize perr t = pe at *
    generalize pnum t = pn at *
    go_enter Tryd.func57, Tryd.ntmps57
    go_wp2_with fail
    refine (HT.out _).mono ?_
    rintro e w1 ⟨rfl, rfl⟩
    go_wp2_with fail
    refine (HP.out _).mono ?_
    rintro e w2 ⟨r, rfl, hr, hB⟩
    go_wp2_with fail
    go_ret2
    refine ⟨r, ret_eq (show Value.tuple #[r, .bool (pe == 0)] = _ by rw [HE.out]), fun h => ?_, hB⟩
    obtain ⟨e1, e2⟩ := HV.out h
    rw [e1] at hr
    exact Can.of_num hr e2

/-- Parts of a text that were read: a numerator, a denominator, and whether the text has the form. -/
def RPart (w : World) (b : Bool × Nat × Nat) (e : Ending) (w' : World) : Prop :=
  ∃ x y, e = .returned (.tuple #[x, y, .bool b.1]) ∧ (b.1 = true → Can w' x b.2.1 26 ∧ Can w' y b.2.2 26) ∧ Below w.heap.size w w'
set_option maxHeartbeats 1000000 in
theorem parseQuotient_v (w : World) (s t : ByteArray) (hs : s.size ≤ 120) (ht : t.size ≤ 120) :
    Calls Tryd.prog 55 #[.string s, .string t] w (RPart w (okd (chars s) && okd (chars t), dec (chars s), dec (chars t))) := by
  have P1 := Lib.hid (fun w1 => parseDigits_v w1 s hs)
  have P2 := Lib.hid (fun w1 => parseDigits_v w1 t ht)
  generalize dec (chars s) = n at *
  generalize dec (chars t) = d at *
  generalize okd (chars s) = o1 at *
  generalize okd (chars t) = o2 at *
  go_enter Tryd.func55, Tryd.ntmps55
  go_wp2_with fail
  refine (P1.out _).mono ?_
  rintro e w1 ⟨x, rfl, hx, hB1⟩
  go_wp2_with fail
  refine (P2.out _).mono ?_
  rintro e w2 ⟨y, rfl, hy, hB2⟩
  cases o1 with
  | false =>
    go_wp2_with fail
    go_ret3
    exact ⟨x, y, rfl, fun h => absurd h (by simp), below_then hB1 hB2⟩
  | true =>
    go_wp2_with fail
    go_ret3
    exact ⟨x, y, rfl, fun h => ⟨((hx trivial).below hB2).le (by omega), (hy (by simpa using h)).le (by omega)⟩, below_then hB1 hB2⟩
namespace Dig
theorem pow10_bits {n : Nat} (h : n ≤ 120) : nbits (10 ^ n) ≤ 65536 := by
  have h1 : 10 ^ n ≤ 16 ^ n := Nat.pow_le_pow_left (by omega) n
  have h2 : (16 : Nat) ^ n = 2 ^ (4 * n) := by rw [Nat.pow_mul]
  have h3 : (2 : Nat) ^ (4 * n) < 2 ^ (4 * n + 1) := Nat.pow_lt_pow_right (by omega) (by omega)
  have := nbits_le_of (show 10 ^ n < 2 ^ (4 * n + 1) by omega)
  omega
theorem dec_point {b a : List UInt8} (hb : ∀ c ∈ b, isDig c = true) (ha : ∀ c ∈ a, isDig c = true) (h1 : b.length ≤ 120) (h2 : a.length ≤ 120) : dec b * 10 ^ a.length + dec a < 4294967296 ^ 26 := by
  rw [← dec_append]
  refine Nat.lt_trans (dec_lt (b ++ a) (fun c hc => ?_)) (Nat.lt_of_le_of_lt (Nat.pow_le_pow_right (by omega) (show (b ++ a).length ≤ 240 by simp; omega)) (by decide))
  rcases List.mem_append.1 hc with h | h
  · exact hb c h
  · exact ha c h
end Dig
theorem RPart.no {w w' : World} {b : Bool × Nat × Nat} {e : Ending} (h : b.1 = false) (x y : Value) (he : e = .returned (.tuple #[x, y, .bool false])) (hB : Below w.heap.size w w') : RPart w b e w' :=
  ⟨x, y, by rw [h]; exact he, fun h2 => (by rw [h] at h2; cases h2), hB⟩
set_option maxHeartbeats 2000000 in
theorem parseDecimal_v (w : World) (s t : ByteArray) (hs : s.size ≤ 120) (ht : t.size ≤ 120) :
    Calls Tryd.prog 56 #[.string s, .string t] w (RPart w (okd (chars s) && okd (chars t), dec (chars s) * 10 ^ (chars t).length + dec (chars t), 10 ^ (chars t).length)) := by
  have P1 := Lib.hid (fun w1 => parseDigits_v w1 s hs)
  have P2 := Lib.hid (fun w1 => parseDigits_v w1 t ht)
  by_cases hok : okd (chars s) = true ∧ okd (chars t) = true
  · obtain ⟨k1, k2⟩ := hok
    have hlim := dec_point (okd_all k1).1 (okd_all k2).1 (by rw [chars_length]; exact hs) (by rw [chars_length]; exact ht)
    have hp := pow10_lim (n := (chars t).length) (by rw [chars_length]; exact ht)
    have hbits := pow10_bits (n := (chars t).length) (by rw [chars_length]; exact ht)
    have PW := fun w1 x (hx : Can w1 x 10 2) => pow_v (w := w1) (n := (chars t).length) hx.numV (by omega) (by rw [chars_length]; omega) hbits
    rw [chars_length] at PW hlim hp ⊢
    rw [k1] at P1
    rw [k2] at P2
    rw [k1, k2]
    have HPW := Lib.hid PW
    have F := Lib.hid (fun w1 : World => from_v (w := w1) 10 (by omega))
    have HL := Lib.hid hlim
    have HP := Lib.hid hp
    clear PW hlim hp hbits k1 k2
    generalize dec (chars s) = n at *
    generalize dec (chars t) = d at *
    obtain ⟨T, hT⟩ : ∃ T, T = 10 ^ t.size := ⟨_, rfl⟩
    rw [← hT] at HPW HL HP ⊢
    clear hT
    go_enter Tryd.func56, Tryd.ntmps56
    go_wp2_with fail
    refine (P1.out _).mono ?_
    rintro e w1 ⟨x, rfl, hx, hB1⟩
    have hx := hx trivial
    go_wp2_with fail
    refine (P2.out _).mono ?_
    rintro e w2 ⟨y, rfl, hy, hB2⟩
    have hy := hy trivial
    have hx := hx.below hB2
    have hB2 := below_then hB1 hB2
    go_wp2_with fail
    refine (F.out _).mono ?_
    rintro e w3 ⟨z, rfl, hz, _, hB3⟩
    have hx := hx.below hB3
    have hy := hy.below hB3
    have hB3 := below_then hB2 hB3
    go_wp2_with fail
    refine (HPW.out _ _ hz).mono ?_
    rintro e w4 ⟨q, rfl, hq, hB4⟩
    have hq : Can w4 q T 13 := Can.of_num hq.1 HP.out
    have hx := hx.below hB4
    have hy := hy.below hB4
    have hB4 := below_then hB3 hB4
    have M := Lib.hid (mul_v hx.numV hq.numV (by omega) (by omega) (by omega))
    go_wp2_with fail
    refine (M.out).mono ?_
    rintro e w5 ⟨u, rfl, hu, _, hB5⟩
    have hy := hy.below hB5
    have hq := hq.below hB5
    have hB5 := below_then hB4 hB5
    have AD := Lib.hid (add_v hu.numV hy.numV (by omega) (by omega))
    go_wp2_with fail
    refine (AD.out).mono ?_
    rintro e w6 ⟨v, rfl, hv, _, hB6⟩
    have hq := hq.below hB6
    have hB6 := below_then hB5 hB6
    go_wp2_with fail
    go_ret3
    exact ⟨v, q, rfl, fun _ => ⟨Can.of_num hv.1 HL.out, hq.le (by omega)⟩, hB6⟩
  · have hf : (okd (chars s) && okd (chars t)) = false := by
      cases h1 : okd (chars s) with
      | false => rfl
      | true =>
        cases h2 : okd (chars t) with
        | false => rfl
        | true => exact absurd ⟨h1, h2⟩ hok
    clear hok
    generalize dec (chars s) = n at *
    generalize dec (chars t) = d at *
    generalize 10 ^ (chars t).length = T at *
    cases h1 : okd (chars s) with
    | false =>
      rw [h1] at P1
      generalize okd (chars t) = o2 at *
      go_enter Tryd.func56, Tryd.ntmps56
      go_wp2_with fail
      refine (P1.out _).mono ?_
      rintro e w1 ⟨x, rfl, hx, hB1⟩
      go_wp2_with fail
      refine (P2.out _).mono ?_
      rintro e w2 ⟨y, rfl, hy, hB2⟩
      go_wp2_with fail
      go_ret3
      exact RPart.no rfl _ _ rfl (below_then hB1 hB2)
    | true =>
      have h2 : okd (chars t) = false := by rw [h1] at hf; simpa using hf
      rw [h1] at P1
      rw [h2] at P2
      rw [h2]
      go_enter Tryd.func56, Tryd.ntmps56
      go_wp2_with fail
      refine (P1.out _).mono ?_
      rintro e w1 ⟨x, rfl, hx, hB1⟩
      go_wp2_with fail
      refine (P2.out _).mono ?_
      rintro e w2 ⟨y, rfl, hy, hB2⟩
      go_wp2_with fail
      go_ret3
      exact RPart.no rfl _ _ rfl (below_then hB1 hB2)

/-- The package-level variable that the search in strings reads holds some number. -/
def MaxL (w : World) : Prop := ∃ m, w.cell? ⟨0, 0, none⟩ = some (.int .i64 m)
theorem MaxL.below {w w' : World} (h : MaxL w) (hB : Below w.heap.size w w') : MaxL w' := by
  obtain ⟨m, hm⟩ := h
  have hg : 0 < w.heap.size := World.block_lt_of_cell? w ⟨0, 0, none⟩ hm
  exact ⟨m, by rw [hB.cell (p := ⟨0, 0, none⟩) hg]; exact hm⟩
theorem MaxL.alloc {w : World} (h : MaxL w) (o : Obj) : MaxL (w.alloc o) := h.below ((Below.refl _ _).alloc (Nat.le_refl _) o)
theorem cutHit_v {w : World} {s : ByteArray} {c : UInt8} {b a : List UInt8} (h : chars s = b ++ c :: a) (hb : c ∉ b) (hs : s.size ≤ 120) (hM : MaxL w) :
    Calls Tryd.prog 54 #[.string s, .string ⟨#[c]⟩] w fun e w' => e = .returned (.tuple #[.string ⟨b.toArray⟩, .string ⟨a.toArray⟩, .bool true]) ∧ Below w.heap.size w w' := by
  obtain ⟨m, hm⟩ := hM
  have := Tryd.strings_Cut s ⟨#[c]⟩ m w (by omega) hm
  rw [show Lib.cut s.data.toList (⟨#[c]⟩ : ByteArray).data.toList = (b, a, true) from cut_hit h hb] at this
  exact this.mono fun e w' ⟨h, n, h'⟩ => ⟨h, by rw [h']; exact below_drewN (Below.refl _ _) n⟩
theorem cutMiss_v {w : World} {s : ByteArray} {c : UInt8} (h : c ∉ chars s) (hs : s.size ≤ 120) (hM : MaxL w) :
    Calls Tryd.prog 54 #[.string s, .string ⟨#[c]⟩] w fun e w' => e = .returned (.tuple #[.string ⟨(chars s).toArray⟩, .string ⟨#[]⟩, .bool false]) ∧ Below w.heap.size w w' := by
  obtain ⟨m, hm⟩ := hM
  have := Tryd.strings_Cut s ⟨#[c]⟩ m w (by omega) hm
  rw [show Lib.cut s.data.toList (⟨#[c]⟩ : ByteArray).data.toList = (chars s, [], false) from cut_miss h] at this
  exact this.mono fun e w' ⟨h, n, h'⟩ => ⟨h, by rw [h']; exact below_drewN (Below.refl _ _) n⟩
theorem RPart.congr {w w' : World} {b b' : Bool × Nat × Nat} {e : Ending} (h : RPart w b e w') (h1 : b.1 = b'.1) (h2 : b'.1 = true → b = b') : RPart w b' e w' := by
  obtain ⟨x, y, e1, h3, hB⟩ := h
  exact ⟨x, y, by rw [← h1]; exact e1, fun h => by rw [← h2 h]; exact h3 (h1.trans h), hB⟩
set_option maxHeartbeats 2000000 in
theorem parseParts_v (w : World) (s : ByteArray) (hs : s.size ≤ 120) (hM : MaxL w) : Calls Tryd.prog 33 #[.string s] w (RPart w (bodyOf (chars s))) := by
  have hcl := chars_length s
  rcases first_of 47 (chars s) with hno | ⟨b, a, hba, hb⟩
  · have C1 := Lib.hid (cutMiss_v hno hs hM)
    rcases first_of 46 (chars s) with hno2 | ⟨b, a, hba, hb⟩
    · rw [body_none (no_sep hno hno2)]
      have C2 := Lib.hid (fun w1 hB => cutMiss_v (w := w1) hno2 hs (hM.below hB))
      have PD := Lib.hid (fun w1 => parseDigits_v w1 s hs)
      have F := Lib.hid (fun w1 : World => from_v (w := w1) 1 (by omega))
      clear hno hno2 hM
      generalize okd (chars s) = ok at *
      generalize dec (chars s) = n at *
      go_enter Tryd.func33, Tryd.ntmps33
      go_wp2_with fail
      refine (C1.out).mono ?_
      rintro e w1 ⟨rfl, hB1⟩
      go_wp2_with fail
      refine (C2.out _ hB1).mono ?_
      rintro e w2 ⟨rfl, hB2⟩
      have hB2 := below_then hB1 hB2
      go_wp2_with fail
      refine (PD.out _).mono ?_
      rintro e w3 ⟨x, rfl, hx, hB3⟩
      have hB3 := below_then hB2 hB3
      go_wp2_with fail
      refine (F.out _).mono ?_
      rintro e w4 ⟨y, rfl, hy, _, hB4⟩
      go_wp2_with fail
      go_ret3
      exact ⟨x, y, rfl, fun h => ⟨((hx h).below hB4).le (by omega), hy.le (by omega)⟩, below_then hB3 hB4⟩
    · have hsep : ∀ x ∈ b, isSep x = false := no_sep (fun h => hno (by rw [hba]; simp [h])) hb
      rw [body_point hba hsep]
      have C2 := Lib.hid (fun w1 hB => cutHit_v (w := w1) hba hb hs (hM.below hB))
      have hl : b.length ≤ 120 ∧ a.length ≤ 120 := by
        have := congrArg List.length hba
        simp at this
        omega
      have PD := Lib.hid (fun w1 => parseDecimal_v w1 ⟨b.toArray⟩ ⟨a.toArray⟩ (by show b.toArray.size ≤ 120; simpa using hl.1) (by show a.toArray.size ≤ 120; simpa using hl.2))
      clear hno hM hba hb hsep hl
      unfold RPart
      rw [chars_mk, chars_mk] at PD
      go_enter Tryd.func33, Tryd.ntmps33
      go_wp2_with fail
      refine (C1.out).mono ?_
      rintro e w1 ⟨rfl, hB1⟩
      go_wp2_with fail
      refine (C2.out _ hB1).mono ?_
      rintro e w2 ⟨rfl, hB2⟩
      have hB2 := below_then hB1 hB2
      go_wp2_with fail
      refine (PD.out _).mono ?_
      rintro e w3 ⟨x, y, rfl, hxy, hB3⟩
      go_wp2_with fail
      go_ret3
      exact ⟨x, y, rfl, hxy, below_then hB2 hB3⟩
  · have C1 := Lib.hid (cutHit_v hba hb hs hM)
    have hl : b.length ≤ 120 ∧ a.length ≤ 120 := by
      have := congrArg List.length hba
      simp at this
      omega
    have PD := Lib.hid (fun w1 => parseQuotient_v w1 ⟨b.toArray⟩ ⟨a.toArray⟩ (by show b.toArray.size ≤ 120; simpa using hl.1) (by show a.toArray.size ≤ 120; simpa using hl.2))
    rw [chars_mk, chars_mk] at PD
    have hcg : (okd b && okd a) = (bodyOf (chars s)).1 ∧ ((bodyOf (chars s)).1 = true → (okd b && okd a, dec b, dec a) = bodyOf (chars s)) := by
      by_cases h46 : (46 : UInt8) ∈ b
      · have h1 := body_both hba h46 hb
        rw [h1, okd_sep h46 rfl]
        exact ⟨rfl, fun h => by cases h⟩
      · rw [body_slash hba (no_sep hb h46)]
        exact ⟨rfl, fun _ => rfl⟩
    have HC := Lib.hid hcg
    clear hM hba hb hl hcg
    go_enter Tryd.func33, Tryd.ntmps33
    go_wp2_with fail
    refine (C1.out).mono ?_
    rintro e w1 ⟨rfl, hB1⟩
    go_wp2_with fail
    refine (PD.out _).mono ?_
    rintro e w3 ⟨x, y, rfl, hxy, hB3⟩
    go_wp2_with fail
    go_ret3
    exact RPart.congr ⟨x, y, rfl, hxy, below_then hB1 hB3⟩ HC.out.1 HC.out.2
end Go.Proofs.YtgjhgpfjeoeojaaDoor

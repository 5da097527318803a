/- The walk of the law BignatText: it returns true and leaves what was there. -/
import Derived.Test.YticakmcjiofhoaaRefU
import Derived.Test.YticakmcjiofhoaaLawf
namespace Go.Proofs.Yticakmcjiofhoaa
open Go.RowKit Dig
set_option linter.unusedVariables false

theorem and_seven (z : Int) : ∃ k : Nat, k < 8 ∧ bits .and .u8 z 7 = (k : Int) := by
  refine ⟨((BitVec.ofInt 8 z).toNat % 8), Nat.mod_lt _ (by omega), ?_⟩
  show IntKind.u8.wrap ((BitVec.ofInt 8 z &&& BitVec.ofInt 8 7).toNat : Int) = _
  have e2 : (BitVec.ofInt 8 7).toNat = 7 := by decide
  have h := Nat.and_two_pow_sub_one_eq_mod (BitVec.ofInt 8 z).toNat 3
  rw [BitVec.toNat_and, e2, show (BitVec.ofInt 8 z).toNat &&& 7 = (BitVec.ofInt 8 z).toNat % 8 from h, IntKind.wrap_u8]
  omega
theorem parse_v (w : World) (s : ByteArray) (hs : s.size ≤ 4000) : Calls Try.prog 38 #[.string s] w fun e w' => ∃ r, e = .returned (.tuple #[r, .int .i64 (perr (chars s))]) ∧ Num w' r (dg (pnum (chars s))) ∧ Below w.heap.size w w' := parse_any w s hs
theorem natParse_v (w : World) (s : ByteArray) (hs : s.size ≤ 4000) : Calls Try.prog 39 #[.string s] w fun e w' => ∃ r, e = .returned (.tuple #[r, .int .i64 (perr (chars s))]) ∧ Num w' r (dg (pnum (chars s))) ∧ Below w.heap.size w w' := natParse_any w s hs
theorem formatText_v {w : World} {va : Value} {a k : Nat} (ha : NumV w va a k) (hk : k ≤ 1000000) : Calls Try.prog 37 #[va] w (RVal w (.string ⟨(dtext a).toArray⟩)) := format_v ha hk
theorem natFormat_v {w : World} {va : Value} {a k : Nat} (ha : NumV w va a k) (hk : k ≤ 100000) : Calls Try.prog 40 #[va] w (RVal w (.string ⟨(dtext a).toArray⟩)) := by
  obtain ⟨L, h1, h2, h3⟩ := ha
  subst h2
  exact natFormat_c w va L h1 (by omega)

set_option maxHeartbeats 1000000 in
theorem text_long (w : World) (v0 : Value) (s : ByteArray) (z : Int) (hs : s.size ≤ maxLen) (h : 100 < s.size) :
    Calls Try.prog 6 #[v0, .string s, .int .u8 z] w fun e w' => e = .returned (.bool true) ∧ Below w.heap.size w w' := by
  have hi : (100 : Int) < s.size := by omega
  unfold maxLen at hs
  go_enter Try.func6, Try.ntmps6
  go_wp2_with fail
  go_ret
  exact ⟨rfl, Below.refl _ _⟩

set_option maxHeartbeats 4000000 in
theorem text_short (w : World) (v0 : Value) (l0 : List Nat) (n0 : Num w v0 l0) (s : ByteArray) (z : Int) (h : s.size ≤ 100) :
    Calls Try.prog 6 #[v0, .string s, .int .u8 z] w fun e w' => e = .returned (.bool true) ∧ Below w.heap.size w w' := by
  have hi : ¬ (100 : Int) < s.size := by omega
  obtain ⟨k, hk, hand⟩ := and_seven z
  go_enter Try.func6, Try.ntmps6
  go_wp2_with fail
  refine (base_v (w := w) n0).mono ?_
  rintro e w1 ⟨a, rfl, ha, _, HB⟩
  clear n0
  generalize val (mkn l0) = x at *
  have hdl := dtext_length x 8 ha.lt (by omega)
  have HD := Lib.hid hdl
  clear hdl
  go_wp2_with fail
  refine (formatText_v (w := w1) ha (by omega)).mono ?_
  rintro e w2 ⟨rfl, hB⟩
  have ha := ha.below hB
  have HB := below_step HB hB
  clear hB
  obtain ⟨l, hle⟩ : ∃ l, dtext x = l := ⟨_, rfl⟩
  rw [hle] at HD ⊢
  have HLE := Lib.hid hle
  clear hle
  go_wp2_with fail
  refine (parse_v w2 s (by omega)).mono ?_
  rintro e w3 ⟨p, rfl, hp, hB⟩
  have ha := ha.below hB
  have HB := below_step HB hB
  clear hB
  have NP := natParse_v w3 s (by omega)
  generalize perr (chars s) = e1 at *
  generalize dg (pnum (chars s)) = P at *
  have HNP := Lib.hid NP
  clear NP
  go_wp2_with fail
  refine (HNP.out).mono ?_
  rintro e w4 ⟨q, rfl, hq, hB⟩
  have ha := ha.below hB
  have hp := hp.below hB
  have HB := below_step HB hB
  clear hB HNP
  go_wp2_with fail
  go_loopw [13, 14] (fun y i wr => ∃ (m : Nat) (t : List UInt8), m ≤ k ∧ y = .string ⟨t.toArray⟩ ∧ i = .int .u8 m ∧ t.length ≤ 80 + m ∧ w4 = wr) (fun _ i _ => k - (intOf i).toNat)
  case atStart => exact ⟨0, l, Nat.zero_le _, rfl, rfl, HD.out, rfl⟩
  case round =>
    obtain ⟨m, t, hm, rfl, rfl, ht, rfl⟩ := hrel
    by_cases hmk : m < k
    · have hmi : (m : Int) < k := by omega
      have hti : (t.length : Int) ≤ 88 := by omega
      go_wp2_with fail
      go_roundw
      case rel => exact ⟨m + 1, 48 :: t, by omega, congrArg Value.string (ByteArray.mk_append_mk [48] t), by go_num, by simp; omega, trivial⟩
      case measure => simp [intOf]; omega
    · have hmi : ¬ (m : Int) < k := by omega
      have hts : ByteArray.size ⟨t.toArray⟩ ≤ 4000 := by show t.toArray.size ≤ 4000; simp; omega
      clear HD
      generalize (⟨t.toArray⟩ : ByteArray) = u at *
      have NP2 := fun w => natParse_v w u hts
      have PP2 := Lib.hid (parse_v w4 u hts)
      generalize perr (chars u) = e2 at *
      generalize dg (pnum (chars u)) = P2 at *
      have HNP := Lib.hid NP2
      clear NP2
      go_wp2_with fail
      refine (PP2.out).mono ?_
      rintro e w5 ⟨g, rfl, hg, hB⟩
      have ha := ha.below hB
      have hp := hp.below hB
      have hq := hq.below hB
      have HB := below_step HB hB
      clear hB PP2
      go_wp2_with fail
      refine (HNP.out w5).mono ?_
      rintro e w6 ⟨i, rfl, hi2, hB⟩
      have ha := ha.below hB
      have hp := hp.below hB
      have hq := hq.below hB
      have hg := hg.below hB
      have HB := below_step HB hB
      clear hB HNP
      have NF := natFormat_v (w := w6) ha (by omega)
      rw [HLE.out] at NF
      have HNF := Lib.hid NF
      clear NF
      go_wp2_with fail
      refine (HNF.out).mono ?_
      rintro e w7 ⟨rfl, hB⟩
      have hp := hp.below hB
      have hq := hq.below hB
      have hg := hg.below hB
      have hi2 := hi2.below hB
      have HB := below_step HB hB
      clear hB HNF ha
      go_wp2_with fail
      refine (sameNum_v (w := w7) hp hq).mono ?_
      rintro e w8 ⟨rfl, hB⟩
      have hg := hg.below hB
      have hi2 := hi2.below hB
      have HB := below_step HB hB
      clear hB hp hq
      go_wp2_with fail
      refine (sameNum_v (w := w8) hg hi2).mono ?_
      rintro e w9 ⟨rfl, hB⟩
      have HB := below_step HB hB
      clear hB hg hi2
      go_wp2_with fail
      refine (known_v w9).mono ?_
      rintro e w10 ⟨rfl, hB⟩
      have HB := below_step HB hB
      clear hB
      go_wp2_with fail
      go_ret
      exact ⟨rfl, HB⟩

theorem text_walk (w : World) (v0 : Value) (l0 : List Nat) (n0 : Num w v0 l0) {s : ByteArray} {z : Int} (hs : s.size ≤ maxLen) (hz : (Lit.int .u8 z).wf = true) :
    Calls Try.prog 6 #[v0, .string s, .int .u8 z] w fun e w' => e = .returned (.bool true) ∧ Below w.heap.size w w' := by
  rcases Nat.lt_or_ge 100 s.size with h | h
  · exact text_long w v0 s z hs h
  · exact text_short w v0 l0 n0 s z h
end Go.Proofs.Yticakmcjiofhoaa

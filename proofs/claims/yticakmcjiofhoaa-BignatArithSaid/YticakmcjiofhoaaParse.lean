/- The contract of Parse. -/
import Derived.Test.YticakmcjiofhoaaDec
import Derived.Test.YticakmcjiofhoaaGroup
import Derived.WalkSpells
namespace Go.Proofs.Yticakmcjiofhoaa
open Go.RowKit Dig
set_option linter.unusedVariables false

theorem wp_make0 {w : World} {ops : Array Oper} {rest : List Oper} {o : Oper} {a : Act} {Q : Exit → Act → World → Prop} (hg : o.guard = none) (l c : Operand) (hop : o.op = Op.makeSlice 24 l c) (C : Int) (n : Nat)
    (hl : a.eval l = .int .i64 0) (hc : a.eval c = .int .i64 C) (hC : C = (n : Int)) (hn : n ≤ 35184372088832)
    (hK : ∀ w' v, Own w.heap.size w' v [] → Below w.heap.size w w' → wpList Try.prog ops Q rest (a.put o.dst v) w') :
    wpList Try.prog ops Q (o :: rest) a w := by
  obtain ⟨i0, hi, hz0, hz1, hz2⟩ := info_parts info_digit
  refine wpList_make_own w hg l c 24 hop w.heap.size 50 i0 (.int .u32 0) 1 Try.underlying24 hi hz0 hz1 .i64 .i64 C n hl hc hC (by rw [hz2]; omega) (by unfold maxLen; omega) (Nat.le_refl _) ?_
  intro w' h1 h2
  exact hK w' _ (Own.of_ownsRow h1 Small.nil) ((Below.refl _ _).grown h2 (Nat.le_refl _) (fun k e => by cases e))

theorem chars_extract (s : ByteArray) (a b : Nat) : chars (s.extract a b) = ((chars s).drop a).take (b - a) := by
  unfold chars
  simp [ByteArray.data_extract]

set_option maxHeartbeats 400000 in
theorem parse_long (w : World) (s : ByteArray) (h : 4000 < s.size) (hm : s.size ≤ 9223372036854775807) :
    Calls Try.prog 38 #[.string s] w fun e w' => e = .returned (.tuple #[.slice none 0 0, .int .i64 4]) ∧ w = w' := by
  go_enter Try.func38, Try.ntmps38
  go_wp2_with fail
  go_ret2
  exact ⟨rfl, rfl⟩

set_option maxHeartbeats 400000 in
theorem parse_not (w : World) (s : ByteArray) (h : s.size ≤ 4000) (hD : Calls Try.prog 56 #[.string s] w fun e w' => e = .returned (.bool false) ∧ Below w.heap.size w w') :
    Calls Try.prog 38 #[.string s] w fun e w' => e = .returned (.tuple #[.slice none 0 0, .int .i64 2]) ∧ Below w.heap.size w w' := by
  have HD := Lib.hid hD
  clear hD
  go_enter Try.func38, Try.ntmps38
  go_wp2_with fail
  refine (HD.out).mono ?_
  rintro e w' ⟨rfl, hB⟩
  go_wp2_with fail
  go_ret2
  exact ⟨rfl, hB⟩

/-- Parse hands back a number of its own. -/
def RParse (w : World) (n : Nat) (e : Ending) (w' : World) : Prop := ∃ r, e = .returned (.tuple #[r, .int .i64 0]) ∧ Own w.heap.size w' r (dg n) ∧ Below w.heap.size w w'

set_option maxHeartbeats 2000000 in
theorem parse_yes (w : World) (s : ByteArray) (h : s.size ≤ 4000) (hp : 0 < s.size) (hall : ∀ c ∈ chars s, isDig c = true) (hD : Calls Try.prog 56 #[.string s] w fun e w' => e = .returned (.bool true) ∧ Below w.heap.size w w') :
    Calls Try.prog 38 #[.string s] w (RParse w (dec (chars s))) := by
  have HD := Lib.hid hD
  have HA := Lib.hid hall
  have HL := Lib.hid (chars_length s)
  clear hD hall
  go_enter Try.func38, Try.ntmps38
  go_wp2_with fail
  refine (HD.out).mono ?_
  rintro e w1 ⟨rfl, hB1⟩
  go_wp2_with (at_make; refine wp_make0 rfl _ _ rfl _ (s.size / 9 + 1) rfl rfl (by omega) (by omega) ?_; intro w2 v hv hB2)
  have hv1 := hv.mono hB1.size
  have hB12 := hB1.trans (hB2.mono hB1.size)
  clear hv hB2
  go_loopw [4, 5] (fun out en wr => ∃ (e : Nat) (zs : List Nat), 1 ≤ e ∧ e ≤ s.size + 9 ∧ (s.size + 9 - e) % 9 = 0 ∧ en = .int .i64 e ∧ Own w.heap.size wr out zs ∧ val zs = dec ((chars s).take (e - 9)) ∧ zs.length ≤ e ∧ Below w.heap.size w wr) (fun _ en _ => s.size + 10 - (intOf en).toNat)
  case atStart =>
    refine ⟨(s.size - 1) % 9 + 1, [], by omega, by omega, by omega, by go_num, hv1, ?_, by simp, hB12⟩
    rw [show (s.size - 1) % 9 + 1 - 9 = 0 by omega]
    rfl
  case round =>
    clear hv1 hB12 hB1
    obtain ⟨e, zs, he1, he2, hm9, rfl, hO, hval, hzl, hB⟩ := hrel
    have HM := Lib.hid hm9
    clear hm9
    by_cases hle : e ≤ s.size
    · have HV := Lib.hid hval
      clear hval
      have hei : (e : Int) ≤ s.size := by omega
      have ex : chars (s.extract (max 0 ((e : Int) - 9)).toNat e) = ((chars s).drop (e - 9)).take (e - (e - 9)) := by
        rw [chars_extract, show (max 0 ((e : Int) - 9)).toNat = e - 9 by omega]
      have EX := Lib.hid ex
      clear ex
      go_wp2_with (with_reducible refine wp_bytes rfl (.tmp 36) rfl (s.extract (max 0 ((e : Int) - 9)).toNat e) rfl ?_; intro w3 cp hC hB3 hcp; generalize s.extract (max 0 ((e : Int) - 9)).toNat e = t at *)
      have hB4 := hB.trans (hB3.mono hB.size)
      have hO4 := hO.below hB3 (Nat.le_refl _)
      have htl : (chars t).length = e - (e - 9) := by rw [EX.out, List.length_take, List.length_drop, HL.out]; omega
      have hts : t.size ≤ 9 := by rw [← chars_length, htl]; omega
      have hA2 : ∀ c ∈ chars t, isDig c = true := by
        intro c hc
        rw [EX.out] at hc
        exact HA.out c (List.mem_of_mem_drop (List.mem_of_mem_take hc))
      have HC := Lib.hid hC
      have HA2 := Lib.hid hA2
      have HTL := Lib.hid (chars_length t)
      clear hC hA2 htl hB hB3 hO
      go_loop [6, 39] (fun gr i => ∃ j : Nat, j ≤ t.size ∧ i = .int .i64 j ∧ gr = .int .u64 (dec ((chars t).take j) : Nat)) (fun _ i => t.size - (intOf i).toNat)
      case atStart => exact ⟨0, Nat.zero_le _, rfl, rfl⟩
      case round =>
        obtain ⟨j, hj, rfl, rfl⟩ := hrel
        by_cases hlt : j < t.size
        · have hcc := HC.out j (by rw [HTL.out]; exact hlt)
          have hd : isDig ((chars t).getD j 0) = true := by
            refine HA2.out _ ?_
            have hjl : j < (chars t).length := by rw [HTL.out]; exact hlt
            rw [List.getD_eq_getElem?_getD, List.getElem?_eq_getElem hjl]
            exact List.getElem_mem hjl
          have hs1 := dec_take_succ (chars t) j (by rw [HTL.out]; exact hlt)
          have hb1 := dec_take_lt (chars t) j 8 HA2.out (by omega)
          simp only [isDig, Bool.and_eq_true, decide_eq_true_eq] at hd
          generalize ((chars t).getD j 0).toNat = c at hcc hd hs1
          generalize dec ((chars t).take j) = q at *
          obtain ⟨d1, d2⟩ := hd
          have HS := Lib.hid hs1
          have hq : (q : Int) ≤ 99999999 := by omega
          have hji : (j : Int) < t.size := by omega
          clear hs1
          go_wp2_with fail
          go_round
          case rel => exact ⟨j + 1, by omega, by go_num, by rw [HS.out]; go_num⟩
          case measure => simp [intOf]; omega
        · have : j = t.size := by omega
          subst this
          have hb1 := dec_take_lt (chars t) t.size 9 HA2.out hts
          have hall2 : (chars t).take t.size = chars t := List.take_of_length_le (by rw [HTL.out]; exact Nat.le_refl _)
          rw [hall2] at hb1 ⊢
          have hgr := dec_group (chars s) e (by rw [HL.out]; exact hle)
          rw [← EX.out, ← HV.out] at hgr
          have HG := Lib.hid hgr
          generalize dec (chars t) = p at *
          clear hgr hall2
          go_wp2_with fail
          refine (group_c w3 w.heap.size p _ zs hO4 hb1 (by have := hB4.size; omega) (by omega)).mono ?_
          rintro e' w4 ⟨r, zs', rfl, hr, hv', hl', hg'⟩
          have hB5 := below_own hB4 hg' hO4 (Nat.le_refl _)
          have HV2 := Lib.hid hv'
          clear hv'
          go_wp2_with fail
          go_roundw
          case rel => exact ⟨e + 9, zs', by omega, by omega, by have := HM.out; omega, by go_num, hr, by rw [HV2.out, Nat.add_sub_cancel, HG.out], by omega, hB5⟩
          case measure => simp [intOf]; omega
    · have he : e = s.size + 9 := by have := HM.out; omega
      have hfin : val zs = dec (chars s) := by
        rw [hval, he, Nat.add_sub_cancel, List.take_of_length_le (by rw [HL.out]; exact Nat.le_refl _)]
      have T := trim_own_any wr _ _ zs hO
      rw [hfin] at T
      have TT := Lib.hid T
      clear T hfin hval
      subst he
      go_wp2_with fail
      refine (TT.out).mono ?_
      rintro e' w4 ⟨r, rfl, hr, rfl⟩
      go_wp2_with fail
      go_ret2
      exact ⟨_, rfl, hr, hB⟩
end Go.Proofs.Yticakmcjiofhoaa

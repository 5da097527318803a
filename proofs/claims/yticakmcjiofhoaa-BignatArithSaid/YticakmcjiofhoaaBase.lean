/- The contracts of same and of credencebase.Nat. -/
import Derived.Test.YticakmcjiofhoaaKnown
namespace Go.Proofs.Yticakmcjiofhoaa
open Go.RowKit Dig
set_option linter.unusedVariables false

set_option maxHeartbeats 1000000 in
theorem natSame_c (w : World) (va vb : Value) (xs : List Nat) (ha : Num w va xs) (hb : Num w vb xs) :
    Calls Try.prog 46 #[va, vb] w fun e w' => e = .returned (.bool true) ∧ ∃ N, w' = w.drewN N := by
  obtain ⟨A, c, rfl⟩ := ha.form
  obtain ⟨A', c', rfl⟩ := hb.form
  have hbd := ha.bounds.2
  have hlen : (xs.length : Int) ≤ 9223372036854775807 := by omega
  go_enter Try.func46, Try.ntmps46
  go_wp2_with fail
  go_loopw [5] (fun i wr => ∃ k N : Nat, k ≤ xs.length ∧ i = .int .i64 k ∧ wr = w.drewN N) (fun i _ => xs.length - (intOf i).toNat)
  case atStart => exact ⟨0, 0, Nat.zero_le _, rfl, rfl⟩
  case round =>
    obtain ⟨k, N, hk, rfl, rfl⟩ := hrel
    by_cases hlt : k < xs.length
    · obtain ⟨b, off, rfl, hb1, h1⟩ := ha.cells (by omega)
      obtain ⟨b', off', rfl, hb2, h2⟩ := hb.cells (by omega)
      have c1 := h1 k hlt
      have c2 := h2 k hlt
      generalize xs.getD k 0 = x at c1 c2
      have hki : (k : Int) < xs.length := by omega
      clear h1 h2
      go_wp2_with fail
      go_quiet (fail)
      go_wp2_with fail
      go_roundw
      case rel => exact ⟨k + 1, _, by omega, by go_num, rfl⟩
      case measure => simp [intOf]; omega
    · have : k = xs.length := by omega
      subst this
      go_wp2_with fail
      go_ret
      exact ⟨rfl, _, rfl⟩

set_option maxHeartbeats 400000 in
theorem same_c (w : World) (va vb : Value) (xs : List Nat) (ha : Num w va xs) (hb : Num w vb xs) :
    Calls Try.prog 19 #[va, vb] w fun e w' => e = .returned (.bool true) ∧ ∃ N, w' = w.drewN N := by
  go_enter Try.func19, Try.ntmps19
  go_wp2_with fail
  refine (natSame_c w va vb xs ha hb).mono ?_
  rintro e w' ⟨rfl, N, rfl⟩
  go_wp2_with fail
  go_ret
  exact ⟨rfl, _, rfl⟩

theorem and7 (d : Nat) (hd : d < 4294967296) : bits .and .u32 (d : Int) 7 = ((d % 8 : Nat) : Int) := by
  have h := u32_and_nat d 7 hd (by omega)
  have e : d &&& 7 = d % 8 := Nat.and_two_pow_sub_one_eq_mod d 3
  rw [e] at h
  exact h
/-- What credencebase.Nat makes of a digit. -/
def mkd (d : Nat) : Nat := if d % 8 = 7 then 4294967295 - d / 268435456 else d
def mkn (l : List Nat) : List Nat := (l.take 8).map mkd
theorem mkn_small (l : List Nat) (h : Small l) : Small (mkn l) := by
  intro d hd
  simp only [mkn, List.mem_map] at hd
  obtain ⟨x, hx, rfl⟩ := hd
  have := h x (List.mem_of_mem_take hx)
  unfold mkd
  split <;> omega
theorem mkn_length (l : List Nat) : (mkn l).length ≤ 8 := by simp [mkn]; omega
theorem mkn_snoc (l : List Nat) (k : Nat) (h : k < l.length) (h8 : k < 8) : mkn (l.take (k + 1)) = mkn (l.take k) ++ [mkd (l.getD k 0)] := by
  unfold mkn
  rw [List.take_take, List.take_take, Nat.min_eq_right (by omega), Nat.min_eq_right (by omega), List.take_succ_eq_append_getElem h, List.map_append]
  simp [List.getD_eq_getElem?_getD, h]

set_option maxHeartbeats 1000000 in
theorem base_c (w : World) (v : Value) (ls : List Nat) (h : Num w v ls) :
    Calls Try.prog 12 #[v] w fun e w' => ∃ r, e = .returned r ∧ Own w.heap.size w' r (mkn ls) ∧ Below w.heap.size w w' := by
  obtain ⟨A, c, rfl⟩ := h.form
  have hbd := h.bounds.2
  have hlen : (ls.length : Int) ≤ 9223372036854775807 := by omega
  go_enter Try.func12, Try.ntmps12
  go_wp2_with fail
  go_loopw [3, 4] (fun a i wr => ∃ k : Nat, k ≤ ls.length ∧ k ≤ 8 ∧ i = .int .i64 k ∧ Own w.heap.size wr a (mkn (ls.take k)) ∧ Below w.heap.size w wr) (fun _ i _ => 8 - (intOf i).toNat)
  case atStart => exact ⟨0, Nat.zero_le _, by omega, rfl, Own.nil _ _, Below.refl _ _⟩
  case round =>
    obtain ⟨k, hk, hk8, rfl, hO, hB⟩ := hrel
    by_cases hlt : k < ls.length
    · by_cases h8 : k < 8
      · obtain ⟨b, off, rfl, hbb, hall⟩ := (h.below hB).cells (by omega)
        have hc := hall k hlt
        have hdb := h.small.get k
        have hsn := mkn_snoc ls k hlt h8
        generalize ls.getD k 0 = d at hc hdb hsn
        have HSN := Lib.hid hsn
        have hki : (k : Int) < ls.length := by omega
        have hml := mkn_length (ls.take k)
        clear hall hsn
        have hbase := hB.size
        have hand := and7 d hdb
        by_cases h7 : d % 8 = 7
        · have hmk : mkd d = 4294967295 - d / 268435456 := by unfold mkd; rw [if_pos h7]
          have hbit : (bits .and .u32 (d : Int) 7 == 7) = true := by rw [hand, h7]; rfl
          have HN := Lib.hid (Num.one wr (mkd d) (4294967295 - (d : Int) / 268435456) (by rw [hmk]; omega) (by rw [hmk]; omega))
          have HO := Lib.hid (hO.alloc (.cells #[.int .u32 (4294967295 - (d : Int) / 268435456)] 50))
          have HOO := Lib.hid hO
          clear hand h7 hmk hO
          go_wp2_with (at_builtin; refine wp_append rfl _ _ rfl w.heap.size u3 (mkn (ls.take k)) rfl HO.out (.slice (some ⟨wr.heap.size, 0, none⟩) 1 1) [mkd d] rfl HN.out (by simp; omega) (by simp; omega) ?_; intro v' w' hv' hg' _)
          have hB2 := below_own hB (grown_after_alloc hg') HOO.out (Nat.le_refl _)
          go_roundw
          case rel => exact ⟨k + 1, by omega, by omega, by go_num, by rw [HSN.out]; exact hv', hB2⟩
          case measure => simp [intOf]; omega
        · have hmk : mkd d = d := by unfold mkd; rw [if_neg h7]
          have hbit : (bits .and .u32 (d : Int) 7 == 7) = false := by rw [hand, beq_eq_false_iff_ne]; omega
          have HN := Lib.hid (Num.one wr (mkd d) (d : Int) (by rw [hmk]; omega) (by rw [hmk]))
          have HO := Lib.hid (hO.alloc (.cells #[.int .u32 (d : Int)] 50))
          have HOO := Lib.hid hO
          clear hand h7 hmk hO
          go_wp2_with (at_builtin; refine wp_append rfl _ _ rfl w.heap.size u3 (mkn (ls.take k)) rfl HO.out (.slice (some ⟨wr.heap.size, 0, none⟩) 1 1) [mkd d] rfl HN.out (by simp; omega) (by simp; omega) ?_; intro v' w' hv' hg' _)
          have hB2 := below_own hB (grown_after_alloc hg') HOO.out (Nat.le_refl _)
          go_roundw
          case rel => exact ⟨k + 1, by omega, by omega, by go_num, by rw [HSN.out]; exact hv', hB2⟩
          case measure => simp [intOf]; omega
      · have : k = 8 := by omega
        subst this
        have he : mkn (ls.take 8) = mkn ls := by unfold mkn; rw [List.take_take, Nat.min_self]
        rw [he] at hO
        have h8l : (8 : Int) < ls.length := by omega
        clear he
        go_wp2_with fail
        go_ret
        exact ⟨_, rfl, hO, hB⟩
    · have : k = ls.length := by omega
      subst this
      rw [List.take_of_length_le (Nat.le_refl _)] at hO
      go_wp2_with fail
      go_ret
      exact ⟨_, rfl, hO, hB⟩
end Go.Proofs.Yticakmcjiofhoaa

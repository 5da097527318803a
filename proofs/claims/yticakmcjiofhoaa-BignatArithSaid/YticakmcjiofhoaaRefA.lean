/- The contracts of the reference functions NatNorm, NatOf, NatBits, NatCmp. -/
import Derived.Test.YticakmcjiofhoaaBase
import Derived.Test.YticakmcjiofhoaaStep
namespace Go.Proofs.Yticakmcjiofhoaa
open Go.RowKit Dig
set_option linter.unusedVariables false

section
variable {w : World} {ops : Array Oper} {rest : List Oper} {o : Oper} {a : Act} {Q : Exit → Act → World → Prop}
theorem run_none (w : World) : (Instr.buildSlice 24 0 #[]).run Try.prog w = .ok (.slice (some ⟨w.heap.size, 0, none⟩) 0 0) (w.alloc (.cells #[] 50)) := by
  obtain ⟨i0, hi, hz0, hz1, hz2⟩ := info_parts info_digit
  simp [Instr.buildSlice, run_underlying Try.underlying24, sizeOf, typeInfo, hi, newRow, Instr.fill]
  rw [show (Array.range 0 : Array Nat) = #[] from Array.eq_empty_of_size_eq_zero (by simp), Array.map_empty]
/-- An empty literal of digits: a new block without cells. -/
theorem wp_none (hg : o.guard = none) (ho : o.op = .buildSlice 24 0 #[])
    (h : ∀ w', Seg w' w.heap.size [] [] [] → Below w.heap.size w w' → wpList Try.prog ops Q rest (a.put o.dst (.slice (some ⟨w.heap.size, 0, none⟩) 0 0)) w') :
    wpList Try.prog ops Q (o :: rest) a w := by
  refine wpList_plain hg fun K hK => ?_
  unfold Oper.wp execOp
  simp only [ho, Sem.run_bind, Array.map_empty, run_none w, Result.andThen_ok]
  refine hK _ _ (h _ ?_ ((Below.refl _ _).alloc (Nat.le_refl _) _))
  unfold Seg
  rw [heap_alloc_new]
  simp [U]
end
theorem Num.cut {w : World} {A : Option Addr} {n c : Nat} {xs : List Nat} (h : Num w (.slice A n c) xs) (k : Nat) (hk : k ≤ n) : Num w (.slice A k c) (xs.take k) := by
  obtain ⟨A', c', e, ⟨hc, hn⟩, hm, hs, hr⟩ := h
  simp only [Value.slice.injEq] at e
  obtain ⟨rfl, rfl, rfl⟩ := e
  have hl : (xs.take k).length = k := by rw [List.length_take, Nat.min_eq_left hk]
  refine ⟨A, c, by rw [hl], ⟨by omega, hn⟩, hm, hs.take k, fun hp => ?_⟩
  obtain ⟨b, off, e, hb, hcell⟩ := hr (by omega)
  refine ⟨b, off, e, hb, fun j hj => ?_⟩
  rw [hcell j (by omega), getD_take _ _ _ (by omega)]
theorem Own.empty {w w' : World} (h : Seg w' w.heap.size [] [] []) : Own w.heap.size w' (.slice (some ⟨w.heap.size, 0, none⟩) 0 0) [] :=
  ⟨Small.nil, .inr ⟨w.heap.size, [], rfl, Nat.le_refl _, by unfold maxLen; simp, h⟩⟩

set_option maxHeartbeats 1000000 in
theorem natNorm_c (w : World) (v : Value) (xs : List Nat) (h : Num w v xs) (hz : xs.length ≤ 8796093022208) :
    Calls Try.prog 23 #[v] w (RNat w (val xs)) := by
  obtain ⟨A, c, rfl⟩ := h.form
  have hbd := h.bounds.2
  have hs := h.small
  have hlen : (xs.length : Int) ≤ 9223372036854775807 := by omega
  go_enter Try.func23, Try.ntmps23
  go_wp2_with fail
  go_loop [3] (fun i => ∃ k : Nat, k ≤ xs.length ∧ i = .int .i64 k ∧ (∀ j, k ≤ j → j < xs.length → xs.getD j 0 = 0)) (fun i => (intOf i).toNat)
  case atStart => exact ⟨xs.length, Nat.le_refl _, rfl, fun j h1 h2 => by omega⟩
  case round =>
    obtain ⟨k, hk, rfl, hzz⟩ := hrel
    by_cases h0 : k = 0
    · subst h0
      have H := take_trim xs 0 hs (by omega) (fun j _ h2 => hzz j (by omega) h2) (.inl rfl)
      have HA := fun w' (hB : Below w.heap.size w w') => Num.cut (h.below hB) 0 (Nat.zero_le _)
      rw [H] at HA
      have HD := Lib.hid (show (dg (val xs)).length ≤ 8796093022208 by rw [← H]; simp)
      have HAH := Lib.hid HA
      clear hzz H HA
      cases A <;>
      · go_wp2_with (first | (with_reducible refine wp_none rfl rfl ?_; intro w1 hS hB1) | (at_builtin; refine wp_append rfl _ _ rfl w.heap.size _ [] rfl (Own.empty hS) _ (dg (val xs)) rfl (HAH.out _ hB1) (by have := HD.out; simp; omega) hB1.size ?_; intro v' w' hv' hg' _))
        go_ret
        exact ⟨_, rfl, by simpa using hv', below_grown hB1 hg' (Nat.le_refl _)⟩
    · obtain ⟨b, off, rfl, hb, hcell⟩ := h.cells (by omega)
      have hc1 := hcell (k - 1) (by omega)
      have hk0 : (0 : Int) < k := by omega
      obtain ⟨d, hdd⟩ : ∃ d, xs.getD (k - 1) 0 = d := ⟨_, rfl⟩
      rw [hdd] at hc1
      have HD := Lib.hid hdd
      have HZ := Lib.hid hzz
      clear hdd hzz hcell
      by_cases hd : d = 0
      · subst hd
        go_wp2_with fail
        go_round
        case rel =>
          refine ⟨k - 1, by omega, by go_num, fun j h1 h2 => ?_⟩
          by_cases hj : j = k - 1
          · rw [hj]; exact HD.out
          · exact HZ.out j (by omega) h2
        case measure => simp [intOf]; omega
      · have H := take_trim xs k hs hk HZ.out (.inr (by rw [HD.out]; exact hd))
        have HA := fun w' (hB : Below w.heap.size w w') => Num.cut (h.below hB) k hk
        rw [H] at HA
        have HL := Lib.hid (show (dg (val xs)).length ≤ 8796093022208 by rw [← H, List.length_take]; omega)
        have HAH := Lib.hid HA
        clear H HA
        go_wp2_with (first | (with_reducible refine wp_none rfl rfl ?_; intro w1 hS hB1) | (at_builtin; refine wp_append rfl _ _ rfl w.heap.size _ [] rfl (Own.empty hS) _ (dg (val xs)) rfl (HAH.out _ hB1) (by have := HL.out; simp; omega) hB1.size ?_; intro v' w' hv' hg' _))
        go_ret
        exact ⟨_, rfl, by simpa using hv', below_grown hB1 hg' (Nat.le_refl _)⟩

set_option maxHeartbeats 400000 in
theorem natOf_c (w : World) (n : Nat) (hn : n < 18446744073709551616) :
    Calls Try.prog 21 #[.int .u64 (n : Int)] w (RNat w n) := by
  have H := Own.fresh w (n % 4294967296) (n / 4294967296) ((n : Int) % 4294967296) ((n : Int) / 4294967296) (Nat.mod_lt _ (by omega)) (by omega) (by omega) (by omega)
  have hv : val [n % 4294967296, n / 4294967296] = n := by simp [val]; omega
  have TC := natNorm_c _ _ _ H.num (by simp)
  rw [hv] at TC
  have HT := Lib.hid TC
  clear H hv TC
  go_enter Try.func21, Try.ntmps21
  go_wp2_with fail
  refine (HT.out).mono ?_
  rintro e w' ⟨r, rfl, hO, hB⟩
  go_wp2_with fail
  go_ret
  have hsz : w.heap.size ≤ (w.alloc (.cells #[.int .u32 ((n : Int) % 4294967296), .int .u32 ((n : Int) / 4294967296)] 50)).heap.size := by show _ ≤ (Array.push _ _).size; simp
  exact ⟨_, rfl, hO.mono hsz, ((Below.refl _ _).alloc (Nat.le_refl _) _).trans (hB.mono hsz)⟩

namespace Dig
theorem nbits_half (n : Nat) (h : 0 < n) : nbits n = nbits (n / 2) + 1 := by
  obtain ⟨h1, h2⟩ := nbits_le n h
  have h3 := nbits_lt n
  obtain ⟨m, hm⟩ : ∃ m, nbits n = m + 1 := ⟨nbits n - 1, by omega⟩
  rw [hm] at h2 h3 ⊢
  rw [Nat.add_sub_cancel] at h2
  rcases Nat.eq_zero_or_pos m with h0 | h0
  · subst h0
    have : n / 2 = 0 := by omega
    rw [this, nbits_zero]
  · obtain ⟨j, rfl⟩ : ∃ j, m = j + 1 := ⟨m - 1, by omega⟩
    rw [nbits_unique (n / 2) j]
    · rw [Nat.pow_succ] at h2; omega
    · rw [Nat.pow_succ] at h3; omega
end Dig

set_option maxHeartbeats 1000000 in
theorem natBits_c (w : World) (v : Value) (xs : List Nat) (h : Num w v xs) (hz : xs.length ≤ 8796093022208) :
    Calls Try.prog 25 #[v] w fun e w' => e = .returned (.int .i64 (nbits (val xs))) ∧ Below w.heap.size w w' := by
  have NN := Lib.hid (natNorm_c w v xs h hz)
  have hl := dg_length_val xs h.small
  have HL := Lib.hid hl
  go_enter Try.func25, Try.ntmps25
  go_wp2_with fail
  refine (NN.out).mono ?_
  rintro e w1 ⟨r, rfl, hO, hB⟩
  have hN := hO.num
  clear hO
  by_cases h0 : (dg (val xs)).length = 0
  · have e0 := Lib.hid (dg_len0 h0)
    obtain ⟨A, c, rfl⟩ := hN.form
    rw [h0]
    clear h0
    go_wp2_with fail
    go_ret
    exact ⟨ret_eq (int_eq (a := 0) (by rw [e0.out]; rfl)), hB⟩
  · obtain ⟨A, c, rfl⟩ := hN.form
    obtain ⟨k, hk⟩ : ∃ k, (dg (val xs)).length = k + 1 := ⟨(dg (val xs)).length - 1, by omega⟩
    obtain ⟨b, off, rfl, hbb, hcell⟩ := hN.cells (by omega)
    have hc := hcell k (by omega)
    have bd := (small_dg (val xs)).get k
    have hnb := nbits_dg (val xs) k hk
    rw [hk]
    generalize hdd : (dg (val xs)).getD k 0 = d at hc bd hnb
    have HNB := Lib.hid hnb
    have hki : (k : Int) ≤ 8796093022208 := by omega
    clear hdd hcell hk hN hl h0 hnb
    go_wp2_with fail
    go_loop [4, 5] (fun n t => ∃ (q : Nat) (p : Int), n = .int .i64 q ∧ t = .int .u32 p ∧ 0 ≤ p ∧ p ≤ d ∧ q + nbits p.toNat = 32 * k + nbits d ∧ q + nbits p.toNat ≤ 9000000000000000) (fun _ t => (intOf t).toNat)
    case atStart =>
      have hb32 : nbits d ≤ 32 := by
        rcases Nat.lt_or_ge 32 (nbits d) with h1 | h1
        · rcases Nat.eq_zero_or_pos d with h2 | h2
          · subst h2; simp [nbits_zero] at h1
          · have h3 := (nbits_le d h2).2
            have h4 : 2 ^ 32 ≤ 2 ^ (nbits d - 1) := Nat.pow_le_pow_right (by omega) (by omega)
            omega
        · exact h1
      exact ⟨32 * k, d, by go_num, rfl, by omega, by omega, by simp, by simp; omega⟩
    case round =>
      obtain ⟨q, p, rfl, rfl, hp1, hp, he, hq⟩ := hrel
      have HQ := Lib.hid hq
      have HE := Lib.hid he
      by_cases hp0 : p = 0
      · subst hp0
        clear he hq
        go_wp2_with fail
        go_ret
        exact ⟨ret_eq (int_eq (a := q) (by rw [HNB.out]; have := HE.out; simp [nbits_zero] at this; omega)), hB⟩
      · have hpi : (0 : Int) < p := by omega
        have hqi : (q : Int) < 9000000000000000 := by have := nbits_half p.toNat (by omega); omega
        have HH := fun (z : p.toNat / 2 = (p / 2).toNat) => z ▸ nbits_half p.toNat (by omega)
        have HHH := Lib.hid (HH (by omega))
        clear he hq HH
        go_wp2_with fail
        go_round
        case rel => exact ⟨q + 1, p / 2, by go_num, by go_num, by omega, by omega, by have := HE.out; have := HHH.out; omega, by have := HQ.out; have := HHH.out; omega⟩
        case measure => simp [intOf]; omega
end Go.Proofs.Yticakmcjiofhoaa

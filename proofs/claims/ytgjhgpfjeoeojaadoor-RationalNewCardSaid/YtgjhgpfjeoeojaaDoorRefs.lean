/- The contracts of the reference functions NatNorm, NatOf, NatBits, NatCmp. -/
import Derived.Test.YtgjhgpfjeoeojaaDoorVals
import Derived.Test.YtgjhgpfjeoeojaaDoorAdds
namespace Go.Proofs.YtgjhgpfjeoeojaaDoor
open Go.RowKit Dig
set_option linter.unusedVariables false

section
variable {w : World} {ops : Array Oper} {rest : List Oper} {o : Oper} {a : Act} {Q : Exit → Act → World → Prop}
theorem run_none (w : World) : (Instr.buildSlice 23 0 #[]).run Tryd.prog w = .ok (.slice (some ⟨w.heap.size, 0, none⟩) 0 0) (w.alloc (.cells #[] 32)) := by
  obtain ⟨i0, hi, hz0, hz1, hz2⟩ := info_parts info_digit
  simp [Instr.buildSlice, run_underlying Tryd.underlying23, sizeOf, typeInfo, hi, newRow, Instr.fill]
  rw [show (Array.range 0 : Array Nat) = #[] from Array.eq_empty_of_size_eq_zero (by simp), Array.map_empty]
/-- An empty literal of digits: a new block without cells. -/
theorem wp_none (hg : o.guard = none) (ho : o.op = .buildSlice 23 0 #[])
    (h : ∀ w', Seg w' w.heap.size [] [] [] → Below w.heap.size w w' → wpList Tryd.prog ops Q rest (a.put o.dst (.slice (some ⟨w.heap.size, 0, none⟩) 0 0)) w') :
    wpList Tryd.prog ops Q (o :: rest) a w := by
  refine wpList_plain hg fun K hK => ?_
  unfold Oper.wp execOp
  simp only [ho, Sem.run_bind, Array.map_empty, run_none w, Result.andThen_ok]
  refine hK _ _ (h _ ?_ ((Below.refl _ _).alloc (Nat.le_refl _) _))
  unfold Seg
  rw [heap_alloc_new]
  simp [U]
end
theorem Num.cut {w : World} {A : Option Addr} {n c : Nat} {xs : List Nat} (h : Num w (.slice A n c) xs) (k : Nat) (hk : k ≤ n) : Num w (.slice A k c) (xs.take k) := by
  obtain ⟨A', c', e, ⟨hc, hn⟩, hm, hs, hr⟩ := h
  simp only [Value.slice.injEq] at e
  obtain ⟨rfl, rfl, rfl⟩ := e
  have hl : (xs.take k).length = k := by rw [List.length_take, Nat.min_eq_left hk]
  refine ⟨A, c, by rw [hl], ⟨by omega, hn⟩, hm, hs.take k, fun hp => ?_⟩
  obtain ⟨b, off, e, hb, hcell⟩ := hr (by omega)
  refine ⟨b, off, e, hb, fun j hj => ?_⟩
  rw [hcell j (by omega), getD_take _ _ _ (by omega)]
theorem Own.empty {w w' : World} (h : Seg w' w.heap.size [] [] []) : Own w.heap.size w' (.slice (some ⟨w.heap.size, 0, none⟩) 0 0) [] :=
  ⟨Small.nil, .inr ⟨w.heap.size, [], rfl, Nat.le_refl _, by unfold maxLen; simp, h⟩⟩

set_option maxHeartbeats 1000000 in
theorem natNorm_c (w : World) (v : Value) (xs : List Nat) (h : Num w v xs) (hz : xs.length ≤ 8796093022208) :
    Calls Tryd.prog 64 #[v] w (RNat w (val xs)) := by
  obtain ⟨A, c, rfl⟩ := h.form
  have hbd := h.bounds.2
  have hs := h.small
  have hlen : (xs.length : Int) ≤ 9223372036854775807 := by omega
  go_enter Tryd.func64, Tryd.ntmps64
  go_wp2_with fail
  go_loop [3] (fun i => ∃ k : Nat, k ≤ xs.length ∧ i = .int .i64 k ∧ (∀ j, k ≤ j → j < xs.length → xs.getD j 0 = 0)) (fun i => (intOf i).toNat)
  case atStart => exact ⟨xs.length, Nat.le_refl _, rfl, fun j h1 h2 => by omega⟩
  case round =>
    obtain ⟨k, hk, rfl, hzz⟩ := hrel
    by_cases h0 : k = 0
    · subst h0
      have H := take_trim xs 0 hs (by omega) (fun j _ h2 => hzz j (by omega) h2) (.inl rfl)
      have HA := fun w' (hB : Below w.heap.size w w') => Num.cut (h.below hB) 0 (Nat.zero_le _)
      rw [H] at HA
      have HD := Lib.hid (show (dg (val xs)).length ≤ 8796093022208 by rw [← H]; simp)
      have HAH := Lib.hid HA
      clear hzz H HA
      cases A <;>
      · go_wp2_with (first | (with_reducible refine wp_none rfl rfl ?_; intro w1 hS hB1) | (at_builtin; refine wp_append rfl _ _ rfl w.heap.size _ [] rfl (Own.empty hS) _ (dg (val xs)) rfl (HAH.out _ hB1) (by have := HD.out; simp; omega) hB1.size ?_; intro v' w' hv' hg' _))
        go_ret
        exact ⟨_, rfl, by simpa using hv', below_grown hB1 hg' (Nat.le_refl _)⟩
    · obtain ⟨b, off, rfl, hb, hcell⟩ := h.cells (by omega)
      have hc1 := hcell (k - 1) (by omega)
      have hk0 : (0 : Int) < k := by omega
      obtain ⟨d, hdd⟩ : ∃ d, xs.getD (k - 1) 0 = d := ⟨_, rfl⟩
      rw [hdd] at hc1
      have HD := Lib.hid hdd
      have HZ := Lib.hid hzz
      clear hdd hzz hcell
      by_cases hd : d = 0
      · subst hd
        go_wp2_with fail
        go_round
        case rel =>
          refine ⟨k - 1, by omega, by go_num, fun j h1 h2 => ?_⟩
          by_cases hj : j = k - 1
          · rw [hj]; exact HD.out
          · exact HZ.out j (by omega) h2
        case measure => simp [intOf]; omega
      · have H := take_trim xs k hs hk HZ.out (.inr (by rw [HD.out]; exact hd))
        have HA := fun w' (hB : Below w.heap.size w w') => Num.cut (h.below hB) k hk
        rw [H] at HA
        have HL := Lib.hid (show (dg (val xs)).length ≤ 8796093022208 by rw [← H, List.length_take]; omega)
        have HAH := Lib.hid HA
        clear H HA
        go_wp2_with (first | (with_reducible refine wp_none rfl rfl ?_; intro w1 hS hB1) | (at_builtin; refine wp_append rfl _ _ rfl w.heap.size _ [] rfl (Own.empty hS) _ (dg (val xs)) rfl (HAH.out _ hB1) (by have := HL.out; simp; omega) hB1.size ?_; intro v' w' hv' hg' _))
        go_ret
        exact ⟨_, rfl, by simpa using hv', below_grown hB1 hg' (Nat.le_refl _)⟩

set_option maxHeartbeats 400000 in
theorem natOf_c (w : World) (n : Nat) (hn : n < 18446744073709551616) :
    Calls Tryd.prog 49 #[.int .u64 (n : Int)] w (RNat w n) := by
  have H := Own.fresh w (n % 4294967296) (n / 4294967296) ((n : Int) % 4294967296) ((n : Int) / 4294967296) (Nat.mod_lt _ (by omega)) (by omega) (by omega) (by omega)
  have hv : val [n % 4294967296, n / 4294967296] = n := by simp [val]; omega
  have TC := natNorm_c _ _ _ H.num (by simp)
  rw [hv] at TC
  have HT := Lib.hid TC
  clear H hv TC
  go_enter Tryd.func49, Tryd.ntmps49
  go_wp2_with fail
  refine (HT.out).mono ?_
  rintro e w' ⟨r, rfl, hO, hB⟩
  go_wp2_with fail
  go_ret
  have hsz : w.heap.size ≤ (w.alloc (.cells #[.int .u32 ((n : Int) % 4294967296), .int .u32 ((n : Int) / 4294967296)] 32)).heap.size := by show _ ≤ (Array.push _ _).size; simp
  exact ⟨_, rfl, hO.mono hsz, ((Below.refl _ _).alloc (Nat.le_refl _) _).trans (hB.mono hsz)⟩

namespace Dig
theorem nbits_half (n : Nat) (h : 0 < n) : nbits n = nbits (n / 2) + 1 := by
  obtain ⟨h1, h2⟩ := nbits_le n h
  have h3 := nbits_lt n
  obtain ⟨m, hm⟩ : ∃ m, nbits n = m + 1 := ⟨nbits n - 1, by omega⟩
  rw [hm] at h2 h3 ⊢
  rw [Nat.add_sub_cancel] at h2
  rcases Nat.eq_zero_or_pos m with h0 | h0
  · subst h0
    have : n / 2 = 0 := by omega
    rw [this, nbits_zero]
  · obtain ⟨j, rfl⟩ : ∃ j, m = j + 1 := ⟨m - 1, by omega⟩
    rw [nbits_unique (n / 2) j]
    · rw [Nat.pow_succ] at h2; omega
    · rw [Nat.pow_succ] at h3; omega
end Dig

end Go.Proofs.YtgjhgpfjeoeojaaDoor

/- The contract of the reference function NatCmp. -/
namespace Go.Proofs.YtgjhgpfjeoeojaaDoor
open Go.RowKit Dig
set_option linter.unusedVariables false

def RInt (w : World) (z : Int) (e : Ending) (w' : World) : Prop := e = .returned (.int .i64 z) ∧ Below w.heap.size w w'

section
variable (w : World) (va vb : Value) (xs ys : List Nat) (ha : Num w va xs) (hb : Num w vb ys) (hza : xs.length ≤ 8796093022208) (hzb : ys.length ≤ 8796093022208)
include ha hb hza hzb

set_option maxHeartbeats 1000000 in
theorem natCmp_ne (hl : (dg (val xs)).length ≠ (dg (val ys)).length) :
    Calls Tryd.prog 66 #[va, vb] w (RInt w (cmpI (val xs) (val ys))) := by
  have Na := Lib.hid (natNorm_c w va xs ha hza)
  have Nb := Lib.hid (fun w1 hB => natNorm_c w1 vb ys (hb.below hB) hzb)
  have C : cmpI (val xs) (val ys) = if (dg (val xs)).length < (dg (val ys)).length then -1 else 1 := by
    split
    · next h => rw [cmpI_lt (lt_of_dg_length h)]
    · next h => rw [cmpI_gt (lt_of_dg_length (by omega))]
  have HC := Lib.hid C
  clear C
  go_enter Tryd.func66, Tryd.ntmps66
  go_wp2_with fail
  refine (Na.out).mono ?_
  rintro e w1 ⟨r, rfl, hO, hB⟩
  go_wp2_with fail
  refine (Nb.out w1 hB).mono ?_
  rintro e w2 ⟨s, rfl, hO2, hB2⟩
  have HB := Lib.hid (below_then hB hB2)
  obtain ⟨A, c, rfl⟩ := hO.num.form
  obtain ⟨A', c', rfl⟩ := hO2.num.form
  clear hO hO2 hB hB2
  generalize (dg (val xs)).length = m at *
  generalize (dg (val ys)).length = n at *
  have hne : ((m : Int) != (n : Int)) = true := by rw [bne_iff_ne]; omega
  by_cases hmn : m < n
  · have h2 : (m : Int) < n := by omega
    go_wp2_with fail
    go_ret
    exact ⟨ret_eq (show Value.int .i64 (-1) = _ by rw [HC.out, if_pos hmn]), HB.out⟩
  · have h2 : ¬ (m : Int) < n := by omega
    go_wp2_with fail
    go_ret
    exact ⟨ret_eq (show Value.int .i64 1 = _ by rw [HC.out, if_neg hmn]), HB.out⟩

set_option maxHeartbeats 2000000 in
theorem natCmp_eq (hl : (dg (val xs)).length = (dg (val ys)).length) :
    Calls Tryd.prog 66 #[va, vb] w (RInt w (cmpI (val xs) (val ys))) := by
  have Na := natNorm_c w va xs ha hza
  have Nb := fun w1 hB => natNorm_c w1 vb ys (Num.below (w' := w1) hb hB) hzb
  have hva := val_dg (val xs)
  have hvb := val_dg (val ys)
  have sa := small_dg (val xs)
  have sb := small_dg (val ys)
  unfold RNat at Na Nb
  generalize dg (val xs) = X at *
  generalize dg (val ys) = Y at *
  have HNa := Lib.hid Na
  have HNb := Lib.hid Nb
  clear Na Nb
  obtain ⟨m, hm⟩ : ∃ m, X.length = m := ⟨_, rfl⟩
  rw [hm] at hl
  rw [← hva, ← hvb]
  have HM := Lib.hid hm
  have HL := Lib.hid hl
  clear hva hvb
  go_enter Tryd.func66, Tryd.ntmps66
  go_wp2_with fail
  refine (HNa.out).mono ?_
  rintro e w1 ⟨r, rfl, hO, hB⟩
  go_wp2_with fail
  refine (HNb.out w1 hB).mono ?_
  rintro e w2 ⟨s, rfl, hO2, hB2⟩
  have HB := Lib.hid (below_then hB hB2)
  have hA := hO.num.below hB2
  have hA' := hO2.num
  obtain ⟨A, c, rfl⟩ := hA.form
  obtain ⟨A', c', rfl⟩ := hA'.form
  have hmx := hA.bounds.2.2
  have hmy := hA.bounds.2.1
  clear hO hO2 hB hB2
  rw [hm] at hA hmy ⊢
  rw [← hl] at hA' ⊢
  have hmc : (m : Int) ≤ 9223372036854775807 := by omega
  clear hm hl
  go_wp2_with fail
  go_loopw [7] (fun i wr => ∃ k N : Nat, k ≤ m ∧ i = .int .i64 ((k : Int) - 1) ∧ wr = w2.drewN N ∧ ∀ j, k ≤ j → j < m → X.getD j 0 = Y.getD j 0) (fun i _ => (intOf i + 1).toNat)
  case atStart => exact ⟨m, 0, Nat.le_refl _, rfl, rfl, fun j h1 h2 => by omega⟩
  case round =>
    obtain ⟨k, N, hk, rfl, rfl, he⟩ := hrel
    rcases Nat.eq_zero_or_pos k with h0 | h0
    · subst h0
      have E : X = Y := ext_getD (by rw [HM.out]; exact HL.out) (fun j hj => he j (by omega) (by rw [HM.out] at hj; exact hj))
      have EE := Lib.hid E
      clear E he
      go_wp2_with fail
      go_ret
      exact ⟨ret_eq (show Value.int .i64 0 = _ by rw [EE.out, cmpI_eq]), below_drewN HB.out _⟩
    · obtain ⟨b, off, rfl, hb1, cellx⟩ := hA.cells (by omega)
      obtain ⟨b', off', rfl, hb2, celly⟩ := hA'.cells (by omega)
      have cx := cellx (k - 1) (by omega)
      have cy := celly (k - 1) (by omega)
      clear cellx celly
      generalize hx : X.getD (k - 1) 0 = x at cx
      generalize hy : Y.getD (k - 1) 0 = y at cy
      have HX := Lib.hid hx
      have HY := Lib.hid hy
      have HEE := Lib.hid he
      clear hx hy he
      have k1 : (0 : Int) < k := by omega
      rcases Nat.lt_trichotomy x y with hxy | hxy | hxy
      · have hne : (x : Int) < (y : Int) := by omega
        have E := Lib.hid (cmpI_lt (lt_of_digit X Y sa (k - 1) (by rw [HM.out]; exact HL.out) (by rw [HM.out]; omega) (fun j h1 h2 => HEE.out j (by omega) (by rw [HM.out] at h2; exact h2)) (by rw [HX.out, HY.out]; exact hxy)))
        go_wp2_with fail
        go_quiet (fail)
        go_wp2_with fail
        go_ret
        exact ⟨ret_eq (show Value.int .i64 (-1) = _ by rw [E.out]), below_drewN (below_drewN HB.out _) _⟩
      · subst hxy
        go_wp2_with fail
        go_quiet (fail)
        go_wp2_with fail
        go_quiet (fail)
        go_wp2_with fail
        go_roundw
        case rel =>
          refine ⟨k - 1, _, by omega, by go_num, rfl, fun j h1 h2 => ?_⟩
          by_cases hj : j = k - 1
          · rw [hj, HX.out, HY.out]
          · exact HEE.out j (by omega) h2
        case measure => simp [intOf]; omega
      · have hne : ¬ (x : Int) < (y : Int) := by omega
        have hnl : (y : Int) < (x : Int) := by omega
        have E := Lib.hid (cmpI_gt (lt_of_digit Y X sb (k - 1) (by rw [HM.out]; exact HL.out.symm) (by rw [← HL.out]; omega) (fun j h1 h2 => (HEE.out j (by omega) (by rw [← HL.out] at h2; exact h2)).symm) (by rw [HX.out, HY.out]; exact hxy)))
        go_wp2_with fail
        go_quiet (fail)
        go_wp2_with fail
        go_quiet (fail)
        go_wp2_with fail
        go_ret
        exact ⟨ret_eq (show Value.int .i64 1 = _ by rw [E.out]), below_drewN (below_drewN (below_drewN HB.out _) _) _⟩

theorem natCmp_c : Calls Tryd.prog 66 #[va, vb] w (RInt w (cmpI (val xs) (val ys))) := by
  by_cases hl : (dg (val xs)).length = (dg (val ys)).length
  · exact natCmp_eq w va vb xs ys ha hb hza hzb hl
  · exact natCmp_ne w va vb xs ys ha hb hza hzb hl
end
end Go.Proofs.YtgjhgpfjeoeojaaDoor

/- The contract of the reference function NatMul. -/
namespace Go.Proofs.YtgjhgpfjeoeojaaDoor
open Go.RowKit Dig
set_option linter.unusedVariables false

end Go.Proofs.YtgjhgpfjeoeojaaDoor

/- The contract of the reference function NatSub. -/
namespace Go.Proofs.YtgjhgpfjeoeojaaDoor
open Go.RowKit Dig
set_option linter.unusedVariables false

/-- What is owned is a segment at the head of a block, or has no digits. -/
theorem Own.seg {base : Nat} {w : World} {A : Option Addr} {n c : Nat} {xs : List Nat} (h : Own base w (.slice A n c) xs) (h0 : 0 < n) :
    ∃ g rest, A = some ⟨g, 0, none⟩ ∧ n = xs.length ∧ c = n + rest.length ∧ base ≤ g ∧ c ≤ 9223372036854775807 ∧ Seg w g [] xs rest := by
  obtain ⟨hs, h⟩ := h
  rcases h with ⟨e, _⟩ | ⟨g, rest, e, hg, hm, hh⟩
  · simp only [Value.slice.injEq] at e; omega
  · simp only [Value.slice.injEq] at e
    obtain ⟨rfl, rfl, rfl⟩ := e
    exact ⟨g, rest, rfl, rfl, rfl, hg, by unfold maxLen at hm; omega, hh⟩

theorem Own.put0 {base : Nat} {w : World} {g n c : Nat} {xs : List Nat} (h : Own base w (.slice (some ⟨g, 0, none⟩) n c) xs) (hn : xs.length = n) (k d : Nat) (v : Int) (hk : k < n) (hv : v = (d : Int)) (hd : d < 4294967296) :
    Own base (w.setCell ⟨g, k, none⟩ (.int .u32 v)) (.slice (some ⟨g, 0, none⟩) n c) (xs.set k d) := by
  obtain ⟨g', rest, e, h1, h2, h3, h4, h5⟩ := h.seg (by omega)
  simp only [Option.some.injEq, Addr.mk.injEq, and_true] at e
  subst e
  refine ⟨h.small.set k d hd, .inr ⟨g, rest, ?_, h3, ?_, h5.put0 k d v (by omega) hv⟩⟩
  · rw [List.length_set, h2, hn]
  · rw [List.length_set, hn]; unfold maxLen; omega

section
variable (w : World) (va vb : Value) (xs ys : List Nat) (ha : Num w va xs) (hb : Num w vb ys) (hza : xs.length ≤ 4398046511104) (hzb : ys.length ≤ 4398046511104)
include ha hb hza hzb

set_option maxHeartbeats 1000000 in
theorem natSub_lt (h : val xs < val ys) : Calls Tryd.prog 67 #[va, vb] w (RNoSub w) := by
  have C := natCmp_c w va vb xs ys ha hb (by omega) (by omega)
  rw [cmpI_lt h] at C
  have HC := Lib.hid C
  clear C
  go_enter Tryd.func67, Tryd.ntmps67
  go_wp2_with fail
  refine (HC.out).mono ?_
  rintro e w1 ⟨rfl, hB⟩
  go_wp2_with fail
  go_ret2
  exact ⟨rfl, hB⟩

set_option maxHeartbeats 4000000 in
theorem natSub_ge (h : val ys ≤ val xs) : Calls Tryd.prog 67 #[va, vb] w fun e w' => ∃ r, e = .returned (.tuple #[r, .bool true]) ∧ Own w.heap.size w' r (dg (val xs - val ys)) ∧ Below w.heap.size w w' := by
  have C := natCmp_c w va vb xs ys ha hb (by omega) (by omega)
  obtain ⟨hc0, hc1⟩ : 0 ≤ cmpI (val xs) (val ys) ∧ cmpI (val xs) (val ys) ≤ 1 := by
    rcases Nat.lt_or_ge (val ys) (val xs) with h1 | h1
    · rw [cmpI_gt h1]; omega
    · rw [show val xs = val ys by omega, cmpI_eq]; omega
  have HC := Lib.hid C
  have Na := Lib.hid (fun w1 hB => natNorm_c w1 va xs (Num.below (w' := w1) ha hB) (by omega))
  have Nb := Lib.hid (fun w1 hB => natNorm_c w1 vb ys (Num.below (w' := w1) hb hB) (by omega))
  have hva := Lib.hid (val_dg (val xs))
  have hvb := Lib.hid (val_dg (val ys))
  have hla := dg_length_val xs ha.small
  have hlb := dg_length_val ys hb.small
  have hle := dg_length_mono h
  have HH := Lib.hid h
  generalize cmpI (val xs) (val ys) = cz at *
  clear C h
  go_enter Tryd.func67, Tryd.ntmps67
  go_wp2_with fail
  refine (HC.out).mono ?_
  rintro e w0 ⟨rfl, hB0⟩
  go_wp2_with fail
  refine (Na.out w0 hB0).mono ?_
  rintro e w1 ⟨x, rfl, hO1, hB1⟩
  have hB01 := below_then hB0 hB1
  go_wp2_with fail
  refine (Nb.out w1 hB01).mono ?_
  rintro e w2 ⟨y, rfl, hO2, hB2⟩
  have hX := (hO1.below hB2 (Nat.le_refl _)).mono hB0.size
  have hb02 := below_then hB01 hB2
  have hsy := hO2.num
  have hY := hO2.mono hB01.size
  obtain ⟨A, c, rfl⟩ := hX.num.form
  obtain ⟨A', c', rfl⟩ := hY.num.form
  have hbx := hX.num.bounds.2
  have hby := hY.num.bounds.2
  have hsx := hX.small
  -- the block of y is not the block of x
  have hfar : ∀ g, A = some ⟨g, 0, none⟩ → 0 < (dg (val ys)).length → (Value.slice A' (dg (val ys)).length c').ownBlock ≠ some g := by
    intro g hA hp e
    obtain ⟨g2, rest2, hA2, _, _, hg2, _⟩ := hO2.seg hp
    subst hA2
    simp only [Value.ownBlock, Option.some.injEq] at e
    obtain ⟨g3, r3, hA3, _, _, _, _, hs3⟩ := hO1.seg (by omega)
    rw [hA] at hA3
    simp only [Option.some.injEq, Addr.mk.injEq, and_true] at hA3
    have := hs3.lt
    omega
  generalize hXX : dg (val xs) = X at *
  generalize hYY : dg (val ys) = Y at *
  have HXX := Lib.hid hXX
  have HYY := Lib.hid hYY
  clear hXX hYY hO1 hO2 hB0 hB1 hB01 hB2
  have HFAR := Lib.hid hfar
  clear hfar
  have hlen : (X.length : Int) ≤ 4398046511104 := by omega
  go_wp2_with fail
  go_loopw [8, 9, 10] (fun cy i _ wr => ∃ (k q : Nat) (zs : List Nat), k ≤ X.length ∧ i = .int .i64 k ∧ cy = .int .u64 q ∧ SubRel X Y zs k q ∧ Own w.heap.size wr (.slice A X.length c) zs ∧ Num wr (.slice A' Y.length c') Y ∧ Below w.heap.size w wr) (fun _ i _ _ => X.length - (intOf i).toNat)
  case atStart => exact ⟨0, 0, X, Nat.zero_le _, rfl, rfl, SubRel.start X Y hsx, hX, hsy, hb02⟩
  case round =>
    clear hX hsy hb02
    obtain ⟨k, q, zs, hk, rfl, rfl, hr, hO, hN, hBw⟩ := hrel
    have hq := hr.2.2.2.2
    have hzl := hr.1
    by_cases hlt : k < X.length
    · obtain ⟨g, rest, rfl, _, rfl, hg, hcm, hseg⟩ := hO.seg (by omega)
      have hfx := hseg.frozen k
      have hcx := hseg.cell0 (j := k) (by omega)
      have bx := hr.2.1.get k
      generalize hxx : zs.getD k 0 = x at hcx bx
      have hki : (k : Int) < X.length := by omega
      have hqi : (q : Int) ≤ 1 := by omega
      have HNF := Lib.hid (fun (v : Value) => Num.far (w' := wr.setCell ⟨g, k, none⟩ v) hN (grown_set (World.grownBy.refl wr _) k v) (HFAR.out g rfl))
      have HBW := Lib.hid (fun (v : Value) => hBw.setCell (p := ⟨g, k, none⟩) hg v)
      have HO := Lib.hid (fun d v hv hd => hO.put0 hzl k d v hlt hv hd)
      have HX := Lib.hid hxx
      rcases Nat.lt_or_ge k Y.length with hky | hky
      · obtain ⟨b, off, rfl, hbb, hall⟩ := hN.cells (by omega)
        have hcy := hall k hky
        have by' := hN.small.get k
        clear hall
        generalize hyy : Y.getD k 0 = y at hcy by'
        have hkyi : (k : Int) < Y.length := by omega
        rcases Nat.lt_or_ge x (q + y) with hlo | hlo
        · have HR := Lib.hid (hr.step (d := x + 4294967296 - (q + y)) (b := 1) (by omega) hxx hyy (by omega) (by omega) (by omega))
          have hloi : (x : Int) < (q : Int) + (y : Int) := by omega
          have hd := Lib.hid (show x + 4294967296 - (q + y) < 4294967296 by omega)
          have hv := Lib.hid (show (x : Int) + 4294967296 - ((q : Int) + (y : Int)) = ((x + 4294967296 - (q + y) : Nat) : Int) by omega)
          clear hr hO hN hBw hseg hxx hyy hlo hq hzl hbx hby hc0 hc1 hle hlen hla hlb hza hzb
          go_wp2_with fail
          go_roundw
          case rel => exact ⟨k + 1, 1, _, by omega, by go_num, rfl, HR.out, HO.out _ _ hv.out hd.out, HNF.out _, HBW.out _⟩
          case measure => simp [intOf]; omega
        · have HR := Lib.hid (hr.step (d := x - (q + y)) (b := 0) (by omega) hxx hyy (by omega) (by omega) (by omega))
          have hloi : ¬ (x : Int) < (q : Int) + (y : Int) := by omega
          have hd := Lib.hid (show x - (q + y) < 4294967296 by omega)
          have hv := Lib.hid (show (x : Int) - ((q : Int) + (y : Int)) = ((x - (q + y) : Nat) : Int) by omega)
          clear hr hO hN hBw hseg hxx hyy hlo hq hzl hbx hby hc0 hc1 hle hlen hla hlb hza hzb
          go_wp2_with fail
          go_roundw
          case rel => exact ⟨k + 1, 0, _, by omega, by go_num, rfl, HR.out, HO.out _ _ hv.out hd.out, HNF.out _, HBW.out _⟩
          case measure => simp [intOf]; omega
      · have hyy : Y.getD k 0 = 0 := by rw [List.getD_eq_getElem?_getD, List.getElem?_eq_none hky]; rfl
        have hkyi : ¬ (k : Int) < Y.length := by omega
        rcases Nat.lt_or_ge x q with hlo | hlo
        · have HR := Lib.hid (hr.step (d := x + 4294967296 - q) (b := 1) (by omega) hxx hyy (by omega) (by omega) (by omega))
          have hloi : (x : Int) < (q : Int) := by omega
          have hd := Lib.hid (show x + 4294967296 - q < 4294967296 by omega)
          have hv := Lib.hid (show (x : Int) + 4294967296 - (q : Int) = ((x + 4294967296 - q : Nat) : Int) by omega)
          clear hr hO hN hBw hseg hxx hyy hlo hq hzl hbx hby hc0 hc1 hle hlen hla hlb hza hzb
          go_wp2_with fail
          go_roundw
          case rel => exact ⟨k + 1, 1, _, by omega, by go_num, rfl, HR.out, HO.out _ _ hv.out hd.out, HNF.out _, HBW.out _⟩
          case measure => simp [intOf]; omega
        · have HR := Lib.hid (hr.step (d := x - q) (b := 0) (by omega) hxx hyy (by omega) (by omega) (by omega))
          have hloi : ¬ (x : Int) < (q : Int) := by omega
          have hd := Lib.hid (show x - q < 4294967296 by omega)
          have hv := Lib.hid (show (x : Int) - (q : Int) = ((x - q : Nat) : Int) by omega)
          clear hr hO hN hBw hseg hxx hyy hlo hq hzl hbx hby hc0 hc1 hle hlen hla hlb hza hzb
          go_wp2_with fail
          go_roundw
          case rel => exact ⟨k + 1, 0, _, by omega, by go_num, rfl, HR.out, HO.out _ _ hv.out hd.out, HNF.out _, HBW.out _⟩
          case measure => simp [intOf]; omega
    · have hke : k = X.length := by omega
      subst hke
      have hle' := HH.out
      have hq0 : q = 0 := by
        rcases Nat.eq_zero_or_pos q with h | h
        · exact h
        · have h2 := hr.more (Nat.le_refl _) hle (by rw [hva.out, hvb.out]; exact hle') (by omega)
          omega
      subst hq0
      have hd := hr.done (Nat.le_refl _) hle
      rw [hva.out, hvb.out] at hd
      have NN := natNorm_c wr _ zs hO.num (by omega)
      rw [show val zs = val xs - val ys by omega] at NN
      have HN := Lib.hid NN
      have hsz := hBw.size
      clear hr NN hd hle' hle hq hzl hbx hby hc0 hc1 hla hlb hza hzb
      go_wp2_with fail
      refine (HN.out).mono ?_
      rintro e w3 ⟨r, rfl, hO3, hB3⟩
      go_wp2_with fail
      go_ret2
      exact ⟨_, rfl, hO3.mono hsz, below_then hBw hB3⟩
end
end Go.Proofs.YtgjhgpfjeoeojaaDoor

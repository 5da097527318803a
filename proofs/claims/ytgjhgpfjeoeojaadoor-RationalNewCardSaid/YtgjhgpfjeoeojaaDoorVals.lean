/- The contracts of the laws' own helpers: known, same. -/
import Derived.Test.YtgjhgpfjeoeojaaDoorTexts
import Derived.Test.YtgjhgpfjeoeojaaDoorMuls
namespace Go.Proofs.YtgjhgpfjeoeojaaDoor
open Go.RowKit Dig
set_option linter.unusedVariables false

theorem dg_length_eq (n k : Nat) (h1 : 4294967296 ^ k ≤ n) (h2 : n < 4294967296 ^ (k + 1)) : (dg n).length = k + 1 := by
  have a := dg_length_le n (k + 1) h2
  rcases Nat.lt_or_ge k (dg n).length with h | h
  · omega
  · have b := dg_lt n
    have c := pow_le h
    omega

theorem parse_c (w : World) (s : ByteArray) (h : s.size ≤ 4000) (hp : 0 < s.size) (hall : ∀ c ∈ chars s, isDig c = true) (hl : lead (chars s) = true) :
    Calls Tryd.prog 75 #[.string s] w (RParse w (dec (chars s))) := by
  refine parse_yes w s h hp hall ?_
  have := isDec_all w s h hp (fun j hj => hall _ (by rw [List.getD_eq_getElem?_getD, List.getElem?_eq_getElem hj]; exact List.getElem_mem hj))
  rwa [hl] at this
theorem format_c (w : World) (v : Value) (xs : List Nat) (h : Num w v xs) (hz : xs.length ≤ 8796093022208) :
    Calls Tryd.prog 10 #[v] w (RText w (val xs)) := by
  rcases Nat.eq_zero_or_pos (val xs) with h0 | h0
  · rw [h0]; exact format_zero w v xs h hz h0
  · exact format_pos w v xs h hz h0
theorem bitLen_v (w : World) (v : Value) (xs : List Nat) (h : Num w v xs) (hz : xs.length ≤ 8796093022208) :
    Calls Tryd.prog 58 #[v] w fun e w' => e = .returned (.int .i64 (nbits (val xs))) ∧ w = w' := by
  obtain ⟨A, c, rfl⟩ := h.form
  exact bitLen_c w A _ c xs h (by omega)

/-- The letters of 2 to the power 128. -/
def kList : List UInt8 := [51, 52, 48, 50, 56, 50, 51, 54, 54, 57, 50, 48, 57, 51, 56, 52, 54, 51, 52, 54, 51, 51, 55, 52, 54, 48, 55, 52, 51, 49, 55, 54, 56, 50, 49, 49, 52, 53, 54]
theorem k_all : ∀ c ∈ kList, isDig c = true := by decide +kernel
theorem k_lead : lead kList = true := by decide +kernel
theorem k_dec : dec kList = 340282366920938463463374607431768211456 := by decide +kernel
theorem k_text : dtext 340282366920938463463374607431768211456 = kList := (DecOf.eq ⟨k_all, k_dec, k_lead⟩).symm
theorem parse_k (w : World) : Calls Tryd.prog 75 #[.string ⟨#[51, 52, 48, 50, 56, 50, 51, 54, 54, 57, 50, 48, 57, 51, 56, 52, 54, 51, 52, 54, 51, 51, 55, 52, 54, 48, 55, 52, 51, 49, 55, 54, 56, 50, 49, 49, 52, 53, 54]⟩] w (RParse w 340282366920938463463374607431768211456) := by
  have := parse_c w ⟨kList.toArray⟩ (by decide) (by decide) k_all k_lead
  have e : chars ⟨kList.toArray⟩ = kList := rfl
  rw [e, k_dec] at this
  exact this


end Go.Proofs.YtgjhgpfjeoeojaaDoor

/- The contracts of same and of credencebase.Nat. -/
namespace Go.Proofs.YtgjhgpfjeoeojaaDoor
open Go.RowKit Dig
set_option linter.unusedVariables false

set_option maxHeartbeats 1000000 in
theorem natSame_c (w : World) (va vb : Value) (xs : List Nat) (ha : Num w va xs) (hb : Num w vb xs) :
    Calls Tryd.prog 50 #[va, vb] w fun e w' => e = .returned (.bool true) ∧ ∃ N, w' = w.drewN N := by
  obtain ⟨A, c, rfl⟩ := ha.form
  obtain ⟨A', c', rfl⟩ := hb.form
  have hbd := ha.bounds.2
  have hlen : (xs.length : Int) ≤ 9223372036854775807 := by omega
  go_enter Tryd.func50, Tryd.ntmps50
  go_wp2_with fail
  go_loopw [5] (fun i wr => ∃ k N : Nat, k ≤ xs.length ∧ i = .int .i64 k ∧ wr = w.drewN N) (fun i _ => xs.length - (intOf i).toNat)
  case atStart => exact ⟨0, 0, Nat.zero_le _, rfl, rfl⟩
  case round =>
    obtain ⟨k, N, hk, rfl, rfl⟩ := hrel
    by_cases hlt : k < xs.length
    · obtain ⟨b, off, rfl, hb1, h1⟩ := ha.cells (by omega)
      obtain ⟨b', off', rfl, hb2, h2⟩ := hb.cells (by omega)
      have c1 := h1 k hlt
      have c2 := h2 k hlt
      generalize xs.getD k 0 = x at c1 c2
      have hki : (k : Int) < xs.length := by omega
      clear h1 h2
      go_wp2_with fail
      go_quiet (fail)
      go_wp2_with fail
      go_roundw
      case rel => exact ⟨k + 1, _, by omega, by go_num, rfl⟩
      case measure => simp [intOf]; omega
    · have : k = xs.length := by omega
      subst this
      go_wp2_with fail
      go_ret
      exact ⟨rfl, _, rfl⟩


theorem and7 (d : Nat) (hd : d < 4294967296) : bits .and .u32 (d : Int) 7 = ((d % 8 : Nat) : Int) := by
  have h := u32_and_nat d 7 hd (by omega)
  have e : d &&& 7 = d % 8 := Nat.and_two_pow_sub_one_eq_mod d 3
  rw [e] at h
  exact h
/-- What credencebase.Nat makes of a digit. -/
def mkd (d : Nat) : Nat := if d % 8 = 7 then 4294967295 - d / 268435456 else d
def mkn (l : List Nat) : List Nat := (l.take 8).map mkd
theorem mkn_small (l : List Nat) (h : Small l) : Small (mkn l) := by
  intro d hd
  simp only [mkn, List.mem_map] at hd
  obtain ⟨x, hx, rfl⟩ := hd
  have := h x (List.mem_of_mem_take hx)
  unfold mkd
  split <;> omega
theorem mkn_length (l : List Nat) : (mkn l).length ≤ 8 := by simp [mkn]; omega
theorem mkn_snoc (l : List Nat) (k : Nat) (h : k < l.length) (h8 : k < 8) : mkn (l.take (k + 1)) = mkn (l.take k) ++ [mkd (l.getD k 0)] := by
  unfold mkn
  rw [List.take_take, List.take_take, Nat.min_eq_right (by omega), Nat.min_eq_right (by omega), List.take_succ_eq_append_getElem h, List.map_append]
  simp [List.getD_eq_getElem?_getD, h]

set_option maxHeartbeats 1000000 in
theorem base_c (w : World) (v : Value) (ls : List Nat) (h : Num w v ls) :
    Calls Tryd.prog 38 #[v] w fun e w' => ∃ r, e = .returned r ∧ Own w.heap.size w' r (mkn ls) ∧ Below w.heap.size w w' := by
  obtain ⟨A, c, rfl⟩ := h.form
  have hbd := h.bounds.2
  have hlen : (ls.length : Int) ≤ 9223372036854775807 := by omega
  go_enter Tryd.func38, Tryd.ntmps38
  go_wp2_with fail
  go_loopw [3, 4] (fun a i wr => ∃ k : Nat, k ≤ ls.length ∧ k ≤ 8 ∧ i = .int .i64 k ∧ Own w.heap.size wr a (mkn (ls.take k)) ∧ Below w.heap.size w wr) (fun _ i _ => 8 - (intOf i).toNat)
  case atStart => exact ⟨0, Nat.zero_le _, by omega, rfl, Own.nil _ _, Below.refl _ _⟩
  case round =>
    obtain ⟨k, hk, hk8, rfl, hO, hB⟩ := hrel
    by_cases hlt : k < ls.length
    · by_cases h8 : k < 8
      · obtain ⟨b, off, rfl, hbb, hall⟩ := (h.below hB).cells (by omega)
        have hc := hall k hlt
        have hdb := h.small.get k
        have hsn := mkn_snoc ls k hlt h8
        generalize ls.getD k 0 = d at hc hdb hsn
        have HSN := Lib.hid hsn
        have hki : (k : Int) < ls.length := by omega
        have hml := mkn_length (ls.take k)
        clear hall hsn
        have hbase := hB.size
        have hand := and7 d hdb
        by_cases h7 : d % 8 = 7
        · have hmk : mkd d = 4294967295 - d / 268435456 := by unfold mkd; rw [if_pos h7]
          have hbit : (bits .and .u32 (d : Int) 7 == 7) = true := by rw [hand, h7]; rfl
          have HN := Lib.hid (Num.one wr (mkd d) (4294967295 - (d : Int) / 268435456) (by rw [hmk]; omega) (by rw [hmk]; omega))
          have HO := Lib.hid (hO.alloc (.cells #[.int .u32 (4294967295 - (d : Int) / 268435456)] 32))
          have HOO := Lib.hid hO
          clear hand h7 hmk hO
          go_wp2_with (at_builtin; refine wp_append rfl _ _ rfl w.heap.size u3 (mkn (ls.take k)) rfl HO.out (.slice (some ⟨wr.heap.size, 0, none⟩) 1 1) [mkd d] rfl HN.out (by simp; omega) (by simp; omega) ?_; intro v' w' hv' hg' _)
          have hB2 := below_own hB (grown_after_alloc hg') HOO.out (Nat.le_refl _)
          go_roundw
          case rel => exact ⟨k + 1, by omega, by omega, by go_num, by rw [HSN.out]; exact hv', hB2⟩
          case measure => simp [intOf]; omega
        · have hmk : mkd d = d := by unfold mkd; rw [if_neg h7]
          have hbit : (bits .and .u32 (d : Int) 7 == 7) = false := by rw [hand, beq_eq_false_iff_ne]; omega
          have HN := Lib.hid (Num.one wr (mkd d) (d : Int) (by rw [hmk]; omega) (by rw [hmk]))
          have HO := Lib.hid (hO.alloc (.cells #[.int .u32 (d : Int)] 32))
          have HOO := Lib.hid hO
          clear hand h7 hmk hO
          go_wp2_with (at_builtin; refine wp_append rfl _ _ rfl w.heap.size u3 (mkn (ls.take k)) rfl HO.out (.slice (some ⟨wr.heap.size, 0, none⟩) 1 1) [mkd d] rfl HN.out (by simp; omega) (by simp; omega) ?_; intro v' w' hv' hg' _)
          have hB2 := below_own hB (grown_after_alloc hg') HOO.out (Nat.le_refl _)
          go_roundw
          case rel => exact ⟨k + 1, by omega, by omega, by go_num, by rw [HSN.out]; exact hv', hB2⟩
          case measure => simp [intOf]; omega
      · have : k = 8 := by omega
        subst this
        have he : mkn (ls.take 8) = mkn ls := by unfold mkn; rw [List.take_take, Nat.min_self]
        rw [he] at hO
        have h8l : (8 : Int) < ls.length := by omega
        clear he
        go_wp2_with fail
        go_ret
        exact ⟨_, rfl, hO, hB⟩
    · have : k = ls.length := by omega
      subst this
      rw [List.take_of_length_le (Nat.le_refl _)] at hO
      go_wp2_with fail
      go_ret
      exact ⟨_, rfl, hO, hB⟩
end Go.Proofs.YtgjhgpfjeoeojaaDoor

/- The contracts in the form in which the laws use them: numbers by their values, with a bound on their digits. -/
namespace Go.Proofs.YtgjhgpfjeoeojaaDoor
open Go.RowKit Dig
set_option linter.unusedVariables false

/-- v can be read as the number n, in at most k digits. -/
def NumV (w : World) (v : Value) (n k : Nat) : Prop := ∃ L, Num w v L ∧ val L = n ∧ L.length ≤ k
/-- v is the canonical form of n, which has at most k digits. -/
def Can (w : World) (v : Value) (n k : Nat) : Prop := Num w v (dg n) ∧ n < 4294967296 ^ k
/-- A call that hands back the canonical form of n in memory of its own. -/
def RCan (w : World) (n k : Nat) (e : Ending) (w' : World) : Prop := ∃ r, e = .returned r ∧ Can w' r n k ∧ Own w.heap.size w' r (dg n) ∧ Below w.heap.size w w'
def RVal (w : World) (v : Value) (e : Ending) (w' : World) : Prop := e = .returned v ∧ Below w.heap.size w w'

section
variable {w w' : World} {v : Value} {n k : Nat}
theorem Can.numV (h : Can w v n k) : NumV w v n k := ⟨_, h.1, val_dg n, dg_length_le n k h.2⟩
theorem NumV.lt (h : NumV w v n k) : n < 4294967296 ^ k := by
  obtain ⟨L, h1, h2, h3⟩ := h
  have := val_lt L h1.small
  rw [h2] at this
  exact Nat.lt_of_lt_of_le this (pow_le h3)
theorem NumV.below (h : NumV w v n k) (hb : Below w.heap.size w w') : NumV w' v n k := by
  obtain ⟨L, h1, h2⟩ := h
  exact ⟨L, h1.below hb, h2⟩
theorem Can.below (h : Can w v n k) (hb : Below w.heap.size w w') : Can w' v n k := ⟨h.1.below hb, h.2⟩
theorem Can.le {l : Nat} (h : Can w v n k) (hl : k ≤ l) : Can w v n l := ⟨h.1, Nat.lt_of_lt_of_le h.2 (pow_le hl)⟩
theorem RCan.of {e : Ending} (h : RNat w n e w') (hk : n < 4294967296 ^ k) : RCan w n k e w' := by
  obtain ⟨r, a, b, c⟩ := h
  exact ⟨r, a, ⟨b.num, hk⟩, b, c⟩
theorem below_step {w1 w2 : World} (h : Below w.heap.size w w1) (h2 : Below w1.heap.size w1 w2) : Below w.heap.size w w2 := h.trans (h2.mono h.size)
end

theorem add_lt {a b k l : Nat} (ha : a < 4294967296 ^ k) (hb : b < 4294967296 ^ l) : a + b < 4294967296 ^ (k + l + 1) := by
  have h1 := Nat.lt_of_lt_of_le ha (pow_le (show k ≤ k + l by omega))
  have h2 := Nat.lt_of_lt_of_le hb (pow_le (show l ≤ k + l by omega))
  exact add_fit _ _ _ h1 h2
theorem mul_lt {a b k l : Nat} (ha : a < 4294967296 ^ k) (hb : b < 4294967296 ^ l) : a * b < 4294967296 ^ (k + l) := by
  rw [Nat.pow_add]
  rcases Nat.eq_zero_or_pos b with h0 | h0
  · subst h0
    rw [Nat.mul_zero]
    exact Nat.mul_pos (Nat.pow_pos (by omega)) (Nat.pow_pos (by omega))
  · exact Nat.lt_of_lt_of_le (Nat.mul_lt_mul_of_pos_right ha h0) (Nat.mul_le_mul_left _ (Nat.le_of_lt hb))

section
variable {w : World} {va vb : Value} {a b k l : Nat}
theorem add_v (ha : NumV w va a k) (hb : NumV w vb b l) (hk : k ≤ 1000000) (hl : l ≤ 1000000) : Calls Tryd.prog 36 #[va, vb] w (RCan w (a + b) (k + l + 1)) := by
  have hf := add_lt ha.lt hb.lt
  obtain ⟨L, h1, h2, h3⟩ := ha
  obtain ⟨M, g1, g2, g3⟩ := hb
  subst h2
  subst g2
  exact (add_c w va vb L M h1 g1 (by omega) (by omega)).mono fun e w' h => RCan.of h hf
theorem mul_v (ha : NumV w va a k) (hb : NumV w vb b l) (hk : k ≤ 1000000) (hl : l ≤ 1000000) (h48 : k < 48 ∨ l < 48) : Calls Tryd.prog 16 #[va, vb] w (RCan w (a * b) (k + l)) := by
  have hf := mul_lt ha.lt hb.lt
  have hda := dg_length_le a k ha.lt
  have hdb := dg_length_le b l hb.lt
  obtain ⟨L, h1, h2, h3⟩ := ha
  obtain ⟨M, g1, g2, g3⟩ := hb
  subst h2
  subst g2
  exact (mul_small w va vb L M h1 g1 (by omega) (by omega) (by omega)).mono fun e w' h => RCan.of h hf
theorem norm_v (ha : NumV w va a k) (hk : k ≤ 1000000) : Calls Tryd.prog 29 #[va] w (RCan w a k) := by
  have hf := ha.lt
  obtain ⟨L, h1, h2, h3⟩ := ha
  subst h2
  exact (normalize_c w va L h1 (by omega)).mono fun e w' h => RCan.of h hf
theorem from_v (n : Nat) (hn : n < 18446744073709551616) : Calls Tryd.prog 11 #[.int .u64 (n : Int)] w (RCan w n 2) :=
  (from_c w n hn).mono fun e w' h => RCan.of h (by omega)
theorem cmp_v (ha : NumV w va a k) (hb : NumV w vb b l) : Calls Tryd.prog 52 #[va, vb] w (RVal w (.int .i64 (cmpI a b))) := by
  obtain ⟨L, h1, h2, h3⟩ := ha
  obtain ⟨M, g1, g2, g3⟩ := hb
  subst h2
  subst g2
  exact (cmp_c w va vb L M h1 g1).mono fun e w' ⟨h, N, h'⟩ => ⟨h, by rw [h']; exact below_drewN (Below.refl _ _) N⟩
theorem bitLen_n (ha : NumV w va a k) (hk : k ≤ 1000000) : Calls Tryd.prog 58 #[va] w (RVal w (.int .i64 (nbits a))) := by
  obtain ⟨L, h1, h2, h3⟩ := ha
  subst h2
  exact (bitLen_v w va L h1 (by omega)).mono fun e w' ⟨h, h'⟩ => ⟨h, by rw [← h']; exact Below.refl _ _⟩
theorem subge_v (ha : NumV w va a k) (hb : NumV w vb b l) (hk : k ≤ 1000000) (h : b ≤ a) :
    Calls Tryd.prog 37 #[va, vb] w fun e w' => ∃ r, e = .returned (.tuple #[r, .bool true]) ∧ Can w' r (a - b) k ∧ Below w.heap.size w w' := by
  have hf := ha.lt
  obtain ⟨L, h1, h2, h3⟩ := ha
  obtain ⟨M, g1, g2, g3⟩ := hb
  subst h2
  subst g2
  exact (sub_ge w va vb L M h1 g1 (by omega) h).mono fun e w' ⟨r, x, y, z⟩ => ⟨r, x, ⟨y.num, by omega⟩, z⟩
theorem sublt_v (ha : NumV w va a k) (hb : NumV w vb b l) (h : a < b) : Calls Tryd.prog 37 #[va, vb] w (RNoSub w) := by
  obtain ⟨L, h1, h2, h3⟩ := ha
  obtain ⟨M, g1, g2, g3⟩ := hb
  subst h2
  subst g2
  exact sub_lt w va vb L M h1 g1 h
theorem format_v (ha : NumV w va a k) (hk : k ≤ 1000000) : Calls Tryd.prog 10 #[va] w (RText w a) := by
  obtain ⟨L, h1, h2, h3⟩ := ha
  subst h2
  exact format_c w va L h1 (by omega)
theorem base_v {ls : List Nat} (h : Num w va ls) : Calls Tryd.prog 38 #[va] w fun e w' => ∃ r, e = .returned r ∧ NumV w' r (val (mkn ls)) 8 ∧ Own w.heap.size w' r (mkn ls) ∧ Below w.heap.size w w' :=
  (base_c w va ls h).mono fun e w' ⟨r, x, y, z⟩ => ⟨r, x, ⟨_, y.num, rfl, mkn_length ls⟩, y, z⟩
end

theorem wf_digit {n : Int} (h : (Lit.int .u32 n).wf = true) : 0 ≤ n ∧ n < 4294967296 := by
  have e1 : IntKind.u32.min = 0 := by decide
  have e2 : IntKind.u32.max = 4294967295 := by decide
  simp [Lit.wf] at h
  rw [e1, e2] at h
  omega
/-- What the row tells of a slice of integers that came in, as a number's digits. -/
theorem num_of_row {w : World} {a : Option Addr} {len cap : Nat} {zs : List Int}
    (h : (a = none ∧ len = 0 ∧ cap = 0 ∧ zs = []) ∨ ∃ x, a = some x ∧ len ≤ cap ∧ cap ≤ maxLen ∧ zs.length = cap ∧ (∀ i, i < zs.length → w.cell? (x.add i) = some (.int .u32 (zs.getD i 0))) ∧ ∀ n ∈ zs, (Lit.int .u32 n).wf = true) :
    ∃ ls, Num w (.slice a len cap) ls := by
  rcases h with ⟨rfl, rfl, rfl, rfl⟩ | ⟨x, rfl, hl, hm, hz, hcell, hwz⟩
  · exact ⟨[], Num.nil w⟩
  · have hlen : ((zs.take len).map Int.toNat).length = len := by simp; omega
    have hget : ∀ j, j < len → ((zs.take len).map Int.toNat).getD j 0 = (zs.getD j 0).toNat := by
      intro j hj
      have h1 : j < zs.length := by omega
      simp [List.getD_eq_getElem?_getD, hj, List.getElem?_eq_getElem h1]
    have hbd : ∀ j, j < zs.length → 0 ≤ zs.getD j 0 ∧ zs.getD j 0 < 4294967296 := by
      intro j hj
      have h1 : zs.getD j 0 ∈ zs := by
        rw [List.getD_eq_getElem?_getD, List.getElem?_eq_getElem hj]
        exact List.getElem_mem hj
      exact wf_digit (hwz _ h1)
    refine ⟨(zs.take len).map Int.toNat, some x, cap, by rw [hlen], ⟨by omega, fun e => by cases e⟩, hm, ?_, fun hp => ?_⟩
    · intro d hd
      simp only [List.mem_map] at hd
      obtain ⟨y, hy, rfl⟩ := hd
      have hy2 := List.mem_of_mem_take hy
      have h2 := wf_digit (hwz _ hy2)
      omega
    · rw [hlen] at hp
      obtain ⟨b, off, spot⟩ := x
      have hc := hcell 0 (by omega)
      have hspot : spot = none := by simpa [Addr.add] using World.cell?_spot hc
      subst hspot
      refine ⟨b, off, rfl, ?_, fun j hj => ?_⟩
      · have := World.block_lt_of_cell? w _ hc
        simpa [Addr.add] using this
      · rw [hlen] at hj
        have e : (⟨b, off, none⟩ : Addr).add j = ⟨b, off + j, none⟩ := by unfold Addr.add; split <;> simp_all
        have h1 := hcell j (by omega)
        rw [e] at h1
        rw [h1, hget j hj]
        have := hbd j (by omega)
        rw [Int.toNat_of_nonneg this.1]
end Go.Proofs.YtgjhgpfjeoeojaaDoor

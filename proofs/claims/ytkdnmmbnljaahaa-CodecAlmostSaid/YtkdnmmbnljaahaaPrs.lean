/- The contract of parseUint: the number at the beginning of some bytes. -/
import Derived.Laws.BitsAllLaws
import Derived.Test.YtkdnmmbnljaahaaEnc
namespace Go.Proofs.Ytkdnmmbnljaahaa
open Go.RowKit Dig
set_option linter.unusedVariables false

theorem pow7 (k : Nat) : (2 : Nat) ^ (k * 7) = 128 ^ k := by rw [Nat.mul_comm, Nat.pow_mul]
set_option maxRecDepth 100000 in
theorem andNot_low (c : Nat) (hc : c < 256) : bits .andNot .u8 (c : Int) 128 = ((c % 128 : Nat) : Int) := by
  have h := u8_andNot_nat c 128 hc (by omega)
  rw [show ((128 : Nat) : Int) = 128 from rfl] at h
  rw [h]
  congr 1
  have : ∀ m, m < 256 → m &&& (255 - 128) = m % 128 := by decide
  exact this c hc
set_option maxRecDepth 100000 in
theorem and_low7 (c : Nat) (hc : c < 256) : bits .and .u8 (c : Int) 127 = ((c % 128 : Nat) : Int) := by
  have h := u8_and_nat c 127 hc (by omega)
  rw [show ((127 : Nat) : Int) = 127 from rfl] at h
  rw [h]
  congr 1
  have : ∀ m, m < 256 → m &&& 127 = m % 128 := by decide
  exact this c hc
theorem or_place (a g k : Nat) (ha : a < 128 ^ k) (hs : a + g * 128 ^ k < 18446744073709551616) : bits .or .u64 (a : Int) ((g * 128 ^ k : Nat) : Int) = ((a + g * 128 ^ k : Nat) : Int) := by
  rw [u64_or_nat a (g * 128 ^ k) (by omega) (by omega)]
  congr 1
  have h := Nat.shiftLeft_add_eq_or_of_lt (i := k * 7) (b := a) (by rw [pow7]; exact ha) g
  rw [Nat.shiftLeft_eq, pow7] at h
  rw [Nat.or_comm, ← h]
  omega
namespace Dig
/-- What of a group of seven bits goes into 64 bits at place k. -/
def grp (k g : Nat) : Nat := if k = 9 then g % 2 else g
theorem grp_fit {k g acc : Nat} (hk : k ≤ 9) (hg : g < 128) (ha : acc < 128 ^ k) : acc + grp k g * 128 ^ k < 18446744073709551616 ∧ g * 128 ^ k % 18446744073709551616 = grp k g * 128 ^ k := by
  unfold grp
  by_cases h9 : k = 9
  · subst h9
    rw [if_pos rfl]
    have : g % 2 < 2 := Nat.mod_lt _ (by omega)
    have hp : (128 : Nat) ^ 9 = 9223372036854775808 := by decide
    rw [hp] at ha ⊢
    omega
  · rw [if_neg h9]
    have h8 := pow_fit (show k + 1 ≤ 9 by omega)
    rw [Nat.pow_succ] at h8
    have : g * 128 ^ k ≤ 127 * 128 ^ k := Nat.mul_le_mul_right _ (by omega)
    omega
theorem grp_small {k g : Nat} (h : k ≠ 9 ∨ g ≤ 1) : grp k g = g := by
  unfold grp
  split
  · omega
  · rfl
theorem grp_ne {g : Nat} (h : 1 < g) : grp 9 g ≠ g := by
  unfold grp
  rw [if_pos rfl]
  omega
end Dig
/-- The steps of one round, as the walk writes them. -/
theorem parse_steps {k acc cc : Nat} (hk : k ≤ 9) (hcc : cc < 256) (ha : acc < 128 ^ k) :
    IntKind.u64.wrap (bits .andNot .u8 (cc : Int) 128) = ((cc % 128 : Nat) : Int) ∧ IntKind.u64.wrap (((cc % 128 : Nat) : Int) * 2 ^ (k * 7)) = ((grp k (cc % 128) * 128 ^ k : Nat) : Int) ∧
    bits .or .u64 (acc : Int) ((grp k (cc % 128) * 128 ^ k : Nat) : Int) = ((acc + grp k (cc % 128) * 128 ^ k : Nat) : Int) ∧ ((acc + grp k (cc % 128) * 128 ^ k : Nat) : Int) / 2 ^ (k * 7) = ((grp k (cc % 128) : Nat) : Int) := by
  have hg : cc % 128 < 128 := Nat.mod_lt _ (by omega)
  obtain ⟨h1, h2⟩ := grp_fit hk hg ha
  have hp : (2 : Int) ^ (k * 7) = ((128 ^ k : Nat) : Int) := by rw [← pow7]; simp
  refine ⟨?_, ?_, or_place _ _ _ ha h1, ?_⟩
  · rw [andNot_low cc hcc, IntKind.wrap_u64]; omega
  · rw [hp, IntKind.wrap_u64, ← Int.natCast_mul, ← h2]; omega
  · rw [hp, ← Int.natCast_ediv]
    congr 1
    rw [Nat.add_mul_div_right _ _ (Nat.pow_pos (by omega)), Nat.div_eq_of_lt ha, Nat.zero_add]
theorem tuple3 {a b c a' b' c' : Value} (h1 : a = a') (h2 : b = b') (h3 : c = c') : Ending.returned (.tuple #[a, b, c]) = .returned (.tuple #[a', b', c']) := by rw [h1, h2, h3]

set_option maxRecDepth 20000 in
set_option maxHeartbeats 4000000 in
theorem parse_u (w : World) (v : Value) (ts : List UInt8) (h : Byt w v ts) (hz : ts.length ≤ 1000000000) :
    Calls Try.prog 42 #[v] w fun e w' => ∃ (n size : Nat) (err : Int), e = .returned (.tuple #[.int .u64 n, .int .i64 size, .int .i64 err]) ∧ PU ts n size err ∧ w = w' := by
  obtain ⟨A, c, rfl⟩ := h.form
  have hbd := h.bounds.2
  unfold maxLen at hbd
  have hzi : (ts.length : Int) ≤ 1000000000 := by omega
  obtain ⟨m, hm⟩ : ∃ m : Nat, min ts.length 10 = m := ⟨_, rfl⟩
  have hmin : min (ts.length : Int) 10 = (m : Int) := by omega
  have hml : m ≤ ts.length := by omega
  have hm10 : m ≤ 10 := by omega
  have hmx : m < 10 → m = ts.length := by omega
  have hmi : (m : Int) ≤ c := by omega
  have HM := Lib.hid hmx
  clear hm hmx
  go_enter Try.func42, Try.ntmps42
  go_wp2_with fail
  go_loop [2, 17] (fun a j => ∃ k acc : Nat, k ≤ m ∧ j = .int .i64 k ∧ (∃ z : Int, a = .int .u64 z ∧ (k ≤ 9 → z = acc)) ∧ At ts k acc) (fun _ j => m - (intOf j).toNat)
  case atStart => exact ⟨0, 0, Nat.zero_le _, rfl, ⟨0, rfl, fun _ => rfl⟩, At.start ts⟩
  case round =>
    obtain ⟨k, acc, hk, rfl, ⟨z, rfl, hz9⟩, hA⟩ := hrel
    by_cases hlt : k < m
    · obtain ⟨b, off, rfl, hbb, hall⟩ := h.cells (by omega)
      have hc := hall k (by omega)
      have hcb := oct_lt (ts.getD k 0)
      obtain ⟨cc, hcc⟩ : ∃ cc, (ts.getD k 0).toNat = cc := ⟨_, rfl⟩
      rw [hcc] at hc hcb
      have hki : (k : Int) < m := by omega
      have hk9 : z = acc := hz9 (by omega)
      subst hk9
      have hkk : k ≤ 9 := by omega
      obtain ⟨e1, e2, e3, e4⟩ := parse_steps hkk hcb hA.2.2.1
      have hcl : cc < 128 → cc % 128 = cc := fun h => Nat.mod_eq_of_lt h
      have hch : 128 ≤ cc → cc % 128 = cc - 128 := fun h => by omega
      obtain ⟨g, hg⟩ : ∃ g, cc % 128 = g := ⟨_, rfl⟩
      rw [hg] at e1 e2 e3 e4 hcl hch
      have hkt : k < ts.length := by omega
      have HA := Lib.hid hA
      have HC := Lib.hid hcc
      have HK := Lib.hid hkk
      have HT := Lib.hid hkt
      have hmk : k < m := hlt
      clear hall hA hcc hg hz9 hkk hkt
      rcases Nat.lt_or_ge cc 128 with h128 | h128
      · obtain rfl := (hcl h128).symm
        by_cases hbad : cc = 0 ∧ 0 < k ∨ k = 9 ∧ 1 < cc
        · have HB := Lib.hid (HA.out.bad (by have := HK.out; omega) HT.out HC.out h128 hbad)
          rcases hbad with ⟨hc0, hk0⟩ | ⟨hk9, hc1⟩
          · have hq : grp k cc = cc := grp_small (.inr (by omega))
            rw [hq] at e2 e3 e4
            have hb0 : ((cc : Int) == 0) = true := by rw [hc0]; rfl
            have hki0 : (0 : Int) < k := by omega
            have h128i : ¬ (128 : Int) ≤ cc := by omega
            generalize acc + cc * 128 ^ k = n' at *
            generalize cc * 128 ^ k = s at *
            clear hc0 hq h128 hcl hch
            go_wp2_with fail
            go_ret3
            exact ⟨0, 0, 2, rfl, .inr ⟨rfl, rfl, by decide, HB.out⟩, rfl⟩
          · have hq : grp k cc ≠ cc := by rw [hk9]; exact grp_ne hc1
            have h128i : ¬ (128 : Int) ≤ cc := by omega
            have hki0 : (0 : Int) < k := by omega
            have hk0 : 0 < k := by omega
            generalize acc + grp k cc * 128 ^ k = n' at *
            generalize grp k cc * 128 ^ k = s at *
            generalize grp k cc = q at *
            have hqi : ¬ (q : Int) = cc := by omega
            have hb0 : ((cc : Int) == 0) = false := by rw [beq_eq_false_iff_ne]; omega
            clear hk9 hc1 hq h128 hcl hch
            go_wp2_with fail
            go_ret3
            exact ⟨0, 0, 2, rfl, .inr ⟨rfl, rfl, by decide, HB.out⟩, rfl⟩
        · obtain ⟨g1, g2⟩ := HA.out.good (by have := HK.out; omega) HT.out HC.out h128 hbad
          have hq : grp k cc = cc := grp_small (by omega)
          rw [hq] at e2 e3 e4
          have h128i : ¬ (128 : Int) ≤ cc := by omega
          generalize acc + cc * 128 ^ k = n' at *
          generalize cc * 128 ^ k = s at *
          have HG1 := Lib.hid g1
          have HG2 := Lib.hid g2
          by_cases hk0 : 0 < k
          · have hki0 : (0 : Int) < k := by omega
            have hb0 : ((cc : Int) == 0) = false := by rw [beq_eq_false_iff_ne]; omega
            clear g1 g2 hq h128 hcl hch hbad
            go_wp2_with fail
            go_ret3
            exact ⟨n', k + 1, 0, tuple3 rfl (by go_num) rfl, .inl ⟨rfl, HG2.out, HT.out, HG1.out⟩, rfl⟩
          · have hki0 : ¬ (0 : Int) < k := by omega
            clear g1 g2 hq h128 hcl hch hbad
            go_wp2_with fail
            go_ret3
            exact ⟨n', k + 1, 0, tuple3 rfl (by go_num) rfl, .inl ⟨rfl, HG2.out, HT.out, HG1.out⟩, rfl⟩
      · have hgc := hch h128
        have h128i : (128 : Int) ≤ cc := by omega
        have HM9 := Lib.hid (fun (h : k + 1 ≤ 9) => show acc + grp k g * 128 ^ k = acc + g * 128 ^ k by rw [grp_small (.inl (by omega))])
        have HN := Lib.hid (HA.out.more (by have := HK.out; omega) HT.out HC.out h128)
        rw [← hgc] at HN
        generalize acc + grp k g * 128 ^ k = n' at *
        generalize grp k g * 128 ^ k = s at *
        clear hgc h128 hcl hch e4
        go_wp2_with fail
        go_round
        case rel => exact ⟨k + 1, acc + g * 128 ^ k, by omega, by go_num, ⟨_, rfl, fun h => by rw [HM9.out h]⟩, HN.out⟩
        case measure => simp [intOf]; omega
    · have hkm : k = m := by omega
      subst hkm
      rcases Nat.lt_or_ge k 10 with h10 | h10
      · have hkt := HM.out h10
        have HS := Lib.hid (show rd maxU ts = (0, 3, []) by rw [hkt] at hA; exact hA.short (by omega))
        have hti : (ts.length : Int) < 10 := by omega
        clear hkt hA hz9
        go_wp2_with fail
        go_ret3
        exact ⟨0, 0, 3, rfl, .inr ⟨rfl, rfl, by decide, HS.out⟩, rfl⟩
      · have hk10 : k = 10 := by omega
        have HS := Lib.hid (show rd maxU ts = (0, 2, []) by rw [hk10] at hA; exact hA.long)
        have hti : ¬ (ts.length : Int) < 10 := by omega
        clear hA hz9
        go_wp2_with fail
        go_ret3
        exact ⟨0, 0, 2, rfl, .inr ⟨rfl, rfl, by decide, HS.out⟩, rfl⟩
end Go.Proofs.Ytkdnmmbnljaahaa

/- The contracts of EncodeUint and EncodeBytes, of the program and of the reference. -/
import Derived.Laws.BitsAllLaws
import Derived.Lib.MinMax
import Derived.Lib.Hide
import Derived.Lib.SliceRun
import Derived.Test.YtckomifecmemnaaGreatBytes
import Derived.Test.YtckomifecmemnaaGreatCdcs
namespace Go.Proofs.YtckomifecmemnaaGreat
open Go.RowKit Dig
set_option linter.unusedVariables false

/-- A call that hands back bytes of its own, and leaves what was there. -/
def RByt (w : World) (ts : List UInt8) (e : Ending) (w' : World) : Prop := ∃ r, e = .returned r ∧ OwB w.heap.size w' r ts ∧ Below w.heap.size w w'

set_option maxRecDepth 100000 in
theorem or_more (k : Nat) : bits .or .u8 ((k : Int) % 256) 128 = ((oct (k % 128 + 128)).toNat : Int) := by
  have h := u8_or_nat (k % 256) 128 (Nat.mod_lt _ (by omega)) (by omega)
  rw [show ((k % 256 : Nat) : Int) = (k : Int) % 256 by omega] at h
  rw [show ((128 : Nat) : Int) = 128 from rfl] at h
  rw [h, oct_toNat (by omega)]
  congr 1
  have : ∀ m, m < 256 → m ||| 128 = m % 128 + 128 := by decide
  rw [this _ (Nat.mod_lt _ (by omega))]
  omega
theorem low_byte (k : Nat) (h : k < 128) : (k : Int) = ((oct k).toNat : Int) := by
  rw [oct_toNat (by omega)]

set_option maxRecDepth 20000 in
set_option maxHeartbeats 1000000 in
theorem encUint_c (w : World) (n : Nat) (hn : n < 18446744073709551616) :
    Calls Tryz.prog 65 #[.int .u64 (n : Int)] w (RByt w (encU n)) := by
  have HL := Lib.hid (encU_ten hn)
  go_enter Tryz.func65, Tryz.ntmps65
  go_wp2_with fail
  go_loopw [0, 3] (fun m out wr => ∃ (k : Nat) (ts : List UInt8), m = .int .u64 k ∧ k < 18446744073709551616 ∧ OwB w.heap.size wr out ts ∧ ts ++ encU k = encU n ∧ Below w.heap.size w wr) (fun m _ _ => (intOf m).toNat)
  case atStart => exact ⟨n, [], rfl, hn, OwB.nil _ _, rfl, Below.refl _ _⟩
  case round =>
    obtain ⟨k, ts, rfl, hk, hO, he, hB⟩ := hrel
    have hlen := congrArg List.length he
    rw [List.length_append] at hlen
    have hpos := encU_pos k
    have HT := Lib.hid (show ts.length < 10 by have := HL.out; omega)
    have HO := Lib.hid hO
    have HE := Lib.hid he
    have HB := Lib.hid hB
    have HK := Lib.hid hk
    clear hk
    rcases Nat.lt_or_ge k 128 with h | h
    · have hc : (k : Int) < 128 := by omega
      have HN := Lib.hid (Byt.one wr (k : Int) (oct k) (low_byte k h))
      have HS := Lib.hid (encU_small h)
      have HA := Lib.hid (hO.alloc (.cells #[.int .u8 (k : Int)] 5))
      clear hO he hB hlen hpos
      go_wp2_with (at_builtin; refine wp_appendB rfl _ _ rfl w.heap.size u3 ts rfl HA.out (.slice (some ⟨wr.heap.size, 0, none⟩) 1 1) [oct k] rfl HN.out (by have := HT.out; simp; omega) (by have := HB.out.size; simp; omega) ?_; intro v' w' hv' hg')
      go_ret
      exact ⟨_, rfl, by rw [← HE.out, HS.out]; exact hv', below_ownB HB.out (grown_after_alloc hg') HO.out (Nat.le_refl _)⟩
    · have hc : (128 : Int) ≤ k := by omega
      have HN := Lib.hid (Byt.one wr (bits .or .u8 ((k : Int) % 256) 128) (oct (k % 128 + 128)) (or_more k))
      have HS := Lib.hid (encU_step h)
      have HA := Lib.hid (hO.alloc (.cells #[.int .u8 (bits .or .u8 ((k : Int) % 256) 128)] 5))
      clear hO he hB hlen hpos
      go_wp2_with (at_builtin; refine wp_appendB rfl _ _ rfl w.heap.size u3 ts rfl HA.out (.slice (some ⟨wr.heap.size, 0, none⟩) 1 1) [oct (k % 128 + 128)] rfl HN.out (by have := HT.out; simp; omega) (by have := HB.out.size; simp; omega) ?_; intro v' w' hv' hg')
      have hB3 := below_ownB HB.out (grown_after_alloc hg') HO.out (Nat.le_refl _)
      go_roundw
      case rel => exact ⟨k / 128, _, by go_num, by have := HK.out; omega, hv', by rw [List.append_assoc, ← HE.out, HS.out]; rfl, hB3⟩
      case measure => simp [intOf]; omega


section
variable {w : World} {v : Value} {ts : List UInt8}
set_option maxHeartbeats 1000000 in
theorem encBytes_c (h : Byt w v ts) (hz : ts.length ≤ 1000000000) : Calls Tryz.prog 66 #[v] w (RByt w (encB ts)) := by
  have EU := Lib.hid (encUint_c w ts.length (by omega))
  have HL := Lib.hid (encU_ten (n := ts.length) (by omega))
  have hzi : (ts.length : Int) ≤ 1000000000 := by omega
  obtain ⟨A, c, rfl⟩ := h.form
  have H := Lib.hid h
  have HZ := Lib.hid hz
  clear h hz
  go_enter Tryz.func66, Tryz.ntmps66
  go_wp2_with fail
  refine (EU.out).mono ?_
  rintro e w1 ⟨r, rfl, hr, hB⟩
  have HR := Lib.hid hr
  go_wp2_with (at_builtin; refine wp_appendB rfl _ _ rfl w.heap.size r (encU ts.length) rfl HR.out _ ts rfl (H.out.below hB) (by have := HL.out; have := HZ.out; omega) hB.size ?_; intro v' w' hv' hg')
  go_ret
  exact ⟨_, rfl, hv', below_ownB hB hg' hr (Nat.le_refl _)⟩
end
end Go.Proofs.YtckomifecmemnaaGreat

/- The contract of parseUint: the number at the beginning of some bytes. -/
namespace Go.Proofs.YtckomifecmemnaaGreat
open Go.RowKit Dig
set_option linter.unusedVariables false

theorem pow7 (k : Nat) : (2 : Nat) ^ (k * 7) = 128 ^ k := by rw [Nat.mul_comm, Nat.pow_mul]
set_option maxRecDepth 100000 in
theorem andNot_low (c : Nat) (hc : c < 256) : bits .andNot .u8 (c : Int) 128 = ((c % 128 : Nat) : Int) := by
  have h := u8_andNot_nat c 128 hc (by omega)
  rw [show ((128 : Nat) : Int) = 128 from rfl] at h
  rw [h]
  congr 1
  have : ∀ m, m < 256 → m &&& (255 - 128) = m % 128 := by decide
  exact this c hc
set_option maxRecDepth 100000 in
theorem and_low7 (c : Nat) (hc : c < 256) : bits .and .u8 (c : Int) 127 = ((c % 128 : Nat) : Int) := by
  have h := u8_and_nat c 127 hc (by omega)
  rw [show ((127 : Nat) : Int) = 127 from rfl] at h
  rw [h]
  congr 1
  have : ∀ m, m < 256 → m &&& 127 = m % 128 := by decide
  exact this c hc
theorem or_place (a g k : Nat) (ha : a < 128 ^ k) (hs : a + g * 128 ^ k < 18446744073709551616) : bits .or .u64 (a : Int) ((g * 128 ^ k : Nat) : Int) = ((a + g * 128 ^ k : Nat) : Int) := by
  rw [u64_or_nat a (g * 128 ^ k) (by omega) (by omega)]
  congr 1
  have h := Nat.shiftLeft_add_eq_or_of_lt (i := k * 7) (b := a) (by rw [pow7]; exact ha) g
  rw [Nat.shiftLeft_eq, pow7] at h
  rw [Nat.or_comm, ← h]
  omega
namespace Dig
/-- What of a group of seven bits goes into 64 bits at place k. -/
def grp (k g : Nat) : Nat := if k = 9 then g % 2 else g
theorem grp_fit {k g acc : Nat} (hk : k ≤ 9) (hg : g < 128) (ha : acc < 128 ^ k) : acc + grp k g * 128 ^ k < 18446744073709551616 ∧ g * 128 ^ k % 18446744073709551616 = grp k g * 128 ^ k := by
  unfold grp
  by_cases h9 : k = 9
  · subst h9
    rw [if_pos rfl]
    have : g % 2 < 2 := Nat.mod_lt _ (by omega)
    have hp : (128 : Nat) ^ 9 = 9223372036854775808 := by decide
    rw [hp] at ha ⊢
    omega
  · rw [if_neg h9]
    have h8 := pow_fit (show k + 1 ≤ 9 by omega)
    rw [Nat.pow_succ] at h8
    have : g * 128 ^ k ≤ 127 * 128 ^ k := Nat.mul_le_mul_right _ (by omega)
    omega
theorem grp_small {k g : Nat} (h : k ≠ 9 ∨ g ≤ 1) : grp k g = g := by
  unfold grp
  split
  · omega
  · rfl
theorem grp_ne {g : Nat} (h : 1 < g) : grp 9 g ≠ g := by
  unfold grp
  rw [if_pos rfl]
  omega
end Dig
/-- The steps of one round, as the walk writes them. -/
theorem parse_steps {k acc cc : Nat} (hk : k ≤ 9) (hcc : cc < 256) (ha : acc < 128 ^ k) :
    IntKind.u64.wrap (bits .andNot .u8 (cc : Int) 128) = ((cc % 128 : Nat) : Int) ∧ IntKind.u64.wrap (((cc % 128 : Nat) : Int) * 2 ^ (k * 7)) = ((grp k (cc % 128) * 128 ^ k : Nat) : Int) ∧
    bits .or .u64 (acc : Int) ((grp k (cc % 128) * 128 ^ k : Nat) : Int) = ((acc + grp k (cc % 128) * 128 ^ k : Nat) : Int) ∧ ((acc + grp k (cc % 128) * 128 ^ k : Nat) : Int) / 2 ^ (k * 7) = ((grp k (cc % 128) : Nat) : Int) := by
  have hg : cc % 128 < 128 := Nat.mod_lt _ (by omega)
  obtain ⟨h1, h2⟩ := grp_fit hk hg ha
  have hp : (2 : Int) ^ (k * 7) = ((128 ^ k : Nat) : Int) := by rw [← pow7]; simp
  refine ⟨?_, ?_, or_place _ _ _ ha h1, ?_⟩
  · rw [andNot_low cc hcc, IntKind.wrap_u64]; omega
  · rw [hp, IntKind.wrap_u64, ← Int.natCast_mul, ← h2]; omega
  · rw [hp, ← Int.natCast_ediv]
    congr 1
    rw [Nat.add_mul_div_right _ _ (Nat.pow_pos (by omega)), Nat.div_eq_of_lt ha, Nat.zero_add]
theorem tuple3 {a b c a' b' c' : Value} (h1 : a = a') (h2 : b = b') (h3 : c = c') : Ending.returned (.tuple #[a, b, c]) = .returned (.tuple #[a', b', c']) := by rw [h1, h2, h3]

set_option maxRecDepth 20000 in
set_option maxHeartbeats 4000000 in
theorem parse_u (w : World) (v : Value) (ts : List UInt8) (h : Byt w v ts) (hz : ts.length ≤ 1000000000) :
    Calls Tryz.prog 123 #[v] w fun e w' => ∃ (n size : Nat) (err : Int), e = .returned (.tuple #[.int .u64 n, .int .i64 size, .int .i64 err]) ∧ PU ts n size err ∧ w = w' := by
  obtain ⟨A, c, rfl⟩ := h.form
  have hbd := h.bounds.2
  unfold maxLen at hbd
  have hzi : (ts.length : Int) ≤ 1000000000 := by omega
  obtain ⟨m, hm⟩ : ∃ m : Nat, min ts.length 10 = m := ⟨_, rfl⟩
  have hmin : min (ts.length : Int) 10 = (m : Int) := by omega
  have hml : m ≤ ts.length := by omega
  have hm10 : m ≤ 10 := by omega
  have hmx : m < 10 → m = ts.length := by omega
  have hmi : (m : Int) ≤ c := by omega
  have HM := Lib.hid hmx
  clear hm hmx
  go_enter Tryz.func123, Tryz.ntmps123
  go_wp2_with fail
  go_loop [2, 17] (fun a j => ∃ k acc : Nat, k ≤ m ∧ j = .int .i64 k ∧ (∃ z : Int, a = .int .u64 z ∧ (k ≤ 9 → z = acc)) ∧ At ts k acc) (fun _ j => m - (intOf j).toNat)
  case atStart => exact ⟨0, 0, Nat.zero_le _, rfl, ⟨0, rfl, fun _ => rfl⟩, At.start ts⟩
  case round =>
    obtain ⟨k, acc, hk, rfl, ⟨z, rfl, hz9⟩, hA⟩ := hrel
    by_cases hlt : k < m
    · obtain ⟨b, off, rfl, hbb, hall⟩ := h.cells (by omega)
      have hc := hall k (by omega)
      have hcb := oct_lt (ts.getD k 0)
      obtain ⟨cc, hcc⟩ : ∃ cc, (ts.getD k 0).toNat = cc := ⟨_, rfl⟩
      rw [hcc] at hc hcb
      have hki : (k : Int) < m := by omega
      have hk9 : z = acc := hz9 (by omega)
      subst hk9
      have hkk : k ≤ 9 := by omega
      obtain ⟨e1, e2, e3, e4⟩ := parse_steps hkk hcb hA.2.2.1
      have hcl : cc < 128 → cc % 128 = cc := fun h => Nat.mod_eq_of_lt h
      have hch : 128 ≤ cc → cc % 128 = cc - 128 := fun h => by omega
      obtain ⟨g, hg⟩ : ∃ g, cc % 128 = g := ⟨_, rfl⟩
      rw [hg] at e1 e2 e3 e4 hcl hch
      have hkt : k < ts.length := by omega
      have HA := Lib.hid hA
      have HC := Lib.hid hcc
      have HK := Lib.hid hkk
      have HT := Lib.hid hkt
      have hmk : k < m := hlt
      clear hall hA hcc hg hz9 hkk hkt
      rcases Nat.lt_or_ge cc 128 with h128 | h128
      · obtain rfl := (hcl h128).symm
        by_cases hbad : cc = 0 ∧ 0 < k ∨ k = 9 ∧ 1 < cc
        · have HB := Lib.hid (HA.out.bad (by have := HK.out; omega) HT.out HC.out h128 hbad)
          rcases hbad with ⟨hc0, hk0⟩ | ⟨hk9, hc1⟩
          · have hq : grp k cc = cc := grp_small (.inr (by omega))
            rw [hq] at e2 e3 e4
            have hb0 : ((cc : Int) == 0) = true := by rw [hc0]; rfl
            have hki0 : (0 : Int) < k := by omega
            have h128i : ¬ (128 : Int) ≤ cc := by omega
            generalize acc + cc * 128 ^ k = n' at *
            generalize cc * 128 ^ k = s at *
            clear hc0 hq h128 hcl hch
            go_wp2_with fail
            go_ret3
            exact ⟨0, 0, 2, rfl, .inr ⟨rfl, rfl, by decide, HB.out⟩, rfl⟩
          · have hq : grp k cc ≠ cc := by rw [hk9]; exact grp_ne hc1
            have h128i : ¬ (128 : Int) ≤ cc := by omega
            have hki0 : (0 : Int) < k := by omega
            have hk0 : 0 < k := by omega
            generalize acc + grp k cc * 128 ^ k = n' at *
            generalize grp k cc * 128 ^ k = s at *
            generalize grp k cc = q at *
            have hqi : ¬ (q : Int) = cc := by omega
            have hb0 : ((cc : Int) == 0) = false := by rw [beq_eq_false_iff_ne]; omega
            clear hk9 hc1 hq h128 hcl hch
            go_wp2_with fail
            go_ret3
            exact ⟨0, 0, 2, rfl, .inr ⟨rfl, rfl, by decide, HB.out⟩, rfl⟩
        · obtain ⟨g1, g2⟩ := HA.out.good (by have := HK.out; omega) HT.out HC.out h128 hbad
          have hq : grp k cc = cc := grp_small (by omega)
          rw [hq] at e2 e3 e4
          have h128i : ¬ (128 : Int) ≤ cc := by omega
          generalize acc + cc * 128 ^ k = n' at *
          generalize cc * 128 ^ k = s at *
          have HG1 := Lib.hid g1
          have HG2 := Lib.hid g2
          by_cases hk0 : 0 < k
          · have hki0 : (0 : Int) < k := by omega
            have hb0 : ((cc : Int) == 0) = false := by rw [beq_eq_false_iff_ne]; omega
            clear g1 g2 hq h128 hcl hch hbad
            go_wp2_with fail
            go_ret3
            exact ⟨n', k + 1, 0, tuple3 rfl (by go_num) rfl, .inl ⟨rfl, HG2.out, HT.out, HG1.out⟩, rfl⟩
          · have hki0 : ¬ (0 : Int) < k := by omega
            clear g1 g2 hq h128 hcl hch hbad
            go_wp2_with fail
            go_ret3
            exact ⟨n', k + 1, 0, tuple3 rfl (by go_num) rfl, .inl ⟨rfl, HG2.out, HT.out, HG1.out⟩, rfl⟩
      · have hgc := hch h128
        have h128i : (128 : Int) ≤ cc := by omega
        have HM9 := Lib.hid (fun (h : k + 1 ≤ 9) => show acc + grp k g * 128 ^ k = acc + g * 128 ^ k by rw [grp_small (.inl (by omega))])
        have HN := Lib.hid (HA.out.more (by have := HK.out; omega) HT.out HC.out h128)
        rw [← hgc] at HN
        generalize acc + grp k g * 128 ^ k = n' at *
        generalize grp k g * 128 ^ k = s at *
        clear hgc h128 hcl hch e4
        go_wp2_with fail
        go_round
        case rel => exact ⟨k + 1, acc + g * 128 ^ k, by omega, by go_num, ⟨_, rfl, fun h => by rw [HM9.out h]⟩, HN.out⟩
        case measure => simp [intOf]; omega
    · have hkm : k = m := by omega
      subst hkm
      rcases Nat.lt_or_ge k 10 with h10 | h10
      · have hkt := HM.out h10
        have HS := Lib.hid (show rd maxU ts = (0, 3, []) by rw [hkt] at hA; exact hA.short (by omega))
        have hti : (ts.length : Int) < 10 := by omega
        clear hkt hA hz9
        go_wp2_with fail
        go_ret3
        exact ⟨0, 0, 3, rfl, .inr ⟨rfl, rfl, by decide, HS.out⟩, rfl⟩
      · have hk10 : k = 10 := by omega
        have HS := Lib.hid (show rd maxU ts = (0, 2, []) by rw [hk10] at hA; exact hA.long)
        have hti : ¬ (ts.length : Int) < 10 := by omega
        clear hA hz9
        go_wp2_with fail
        go_ret3
        exact ⟨0, 0, 2, rfl, .inr ⟨rfl, rfl, by decide, HS.out⟩, rfl⟩
end Go.Proofs.YtckomifecmemnaaGreat

/- A reader in memory: a block of two cells, the bytes that are left and the error; what else is there stays when the reader turns. -/
namespace Go.Proofs.YtckomifecmemnaaGreat
open Go.RowKit Dig
set_option linter.unusedVariables false

/-- Block g is a reader: the bytes that are left, the error. -/
def Rdr (T : TypeId) (w : World) (g : Nat) (s : RS) : Prop := (∃ A n c, w.heap[g]? = some (.cells #[.slice A n c, .int .i64 s.2] T (0, 0)) ∧ Byt w (.slice A n c) s.1) ∧ okR s

section
variable {w w' w2 : World} {g g' : Nat} {T T' : TypeId} {x y v : Value} {ts : List UInt8} {xs : List Nat} {s s' : RS}
theorem row2_cells (h : w.heap[g]? = some (.cells #[x, y] T (0, 0))) : w.cell? ⟨g, 0, none⟩ = some x ∧ w.cell? ⟨g, 1, none⟩ = some y := by
  rw [cell_of_row w g _ _ _ (0, 0) h, cell_of_row w g _ _ _ (0, 0) h]
  exact ⟨rfl, rfl⟩
theorem row2_frozen (h : w.heap[g]? = some (.cells #[x, y] T (0, 0))) : w.frozen? ⟨g, 0, none⟩ = false ∧ w.frozen? ⟨g, 1, none⟩ = false := by
  simp [World.frozen?, h]
theorem row2_put0 (h : w.heap[g]? = some (.cells #[x, y] T (0, 0))) (u : Value) : (w.setCell ⟨g, 0, none⟩ u).heap[g]? = some (.cells #[u, y] T (0, 0)) := by
  simp [World.setCell, Array.getElem?_modify, h]
theorem row2_put1 (h : w.heap[g]? = some (.cells #[x, y] T (0, 0))) (u : Value) : (w.setCell ⟨g, 1, none⟩ u).heap[g]? = some (.cells #[x, u] T (0, 0)) := by
  simp [World.setCell, Array.getElem?_modify, h]
/-- A block of a reader holds no bytes and no digits. -/
theorem row2_other {A : Option Addr} {n c o : Nat} {e z : Int} {k : IntKind} (h : w.heap[g]? = some (.cells #[.slice A n c, .int .i64 e] T (0, 0))) (hk : k ≠ .i64) : w.cell? ⟨g, o, none⟩ ≠ some (.int k z) := by
  rw [cell_of_row w g _ _ _ (0, 0) h]
  intro h1
  match o with
  | 0 => cases h1
  | 1 =>
    have h2 : Value.int .i64 e = .int k z := Option.some.inj h1
    injection h2 with h3 _
    exact hk h3.symm
  | o + 2 => simp at h1
theorem Byt.but {A : Option Addr} {n c : Nat} {e : Int} (h : Byt w v ts) (hr : w.heap[g]? = some (.cells #[.slice A n c, .int .i64 e] T (0, 0))) (hg : w.grownBy w' (some g)) : Byt w' v ts := by
  obtain ⟨A', c', h1, h2, h3, h5⟩ := h
  refine ⟨A', c', h1, h2, h3, fun hp => ?_⟩
  obtain ⟨b, off, e1, hb, hc⟩ := h5 hp
  have hne : b ≠ g := by
    intro e2
    subst e2
    exact row2_other hr (by decide) (hc 0 hp)
  exact ⟨b, off, e1, Nat.lt_of_lt_of_le hb hg.size, fun j hj => by rw [World.cell?_of_block (a := ⟨b, off + j, none⟩) (hg.block b hb (by simpa using hne))]; exact hc j hj⟩
theorem Rdr.lt (h : Rdr T w g s) : g < w.heap.size := by
  obtain ⟨⟨A, n, c, h, _⟩, _⟩ := h
  exact lt_of_heap h
theorem Rdr.ok (h : Rdr T w g s) : okR s := h.2
/-- What is beside a reader stays when it turns. -/
theorem Byt.beside (h : Byt w v ts) (hr : Rdr T w g s) (hg : w.grownBy w' (some g)) : Byt w' v ts := by
  obtain ⟨⟨A, n, c, hr, _⟩, _⟩ := hr
  exact h.but hr hg
theorem Rdr.beside (h : Rdr T w g s) (hr : Rdr T' w g' s') (hne : g ≠ g') (hg : w.grownBy w' (some g')) : Rdr T w' g s := by
  have hlt := h.lt
  obtain ⟨⟨A, n, c, h1, h2⟩, h3⟩ := h
  exact ⟨⟨A, n, c, by rw [hg.block g hlt (by simpa using hne)]; exact h1, h2.beside hr hg⟩, h3⟩
theorem Rdr.below (h : Rdr T w g s) (hb : Below w.heap.size w w') : Rdr T w' g s := by
  have hlt := h.lt
  obtain ⟨⟨A, n, c, h1, h2⟩, h3⟩ := h
  exact ⟨⟨A, n, c, by rw [hb.block g hlt]; exact h1, h2.below hb⟩, h3⟩
theorem grown_of_below {row : Option Nat} (hb : Below w.heap.size w w') : w.grownBy w' row := ⟨hb.os, hb.tape, hb.output, hb.size, fun k hk _ => hb.block k hk⟩
theorem grown_then {row : Option Nat} (h : w.grownBy w' row) (h2 : w'.grownBy w2 row) : w.grownBy w2 row := grown_trans h h2
theorem below_of_grown {B : Nat} (h : Below B w w') (hg : w'.grownBy w2 (some g)) (hB : B ≤ w'.heap.size) (hb : B ≤ g) : Below B w w2 := h.grown hg hB (fun k e => by injection e with e; omega)
theorem grown_put (h : w.grownBy w' (some g)) (i : Nat) (u : Value) : w.grownBy (w'.setCell ⟨g, i, none⟩ u) (some g) := grown_set h i u
/-- The bytes that are left are put anew. -/
theorem Rdr.rest {A A' : Option Addr} {n c n' c' : Nat} {e : Int} (hh : w.heap[g]? = some (.cells #[.slice A n c, .int .i64 e] T (0, 0))) (hb : Byt w (.slice A' n' c') ts) (hok : okR (ts, e)) : Rdr T (w.setCell ⟨g, 0, none⟩ (.slice A' n' c')) g (ts, e) :=
  ⟨⟨_, _, _, row2_put0 hh _, hb.but hh (grown_put (World.grownBy.refl _ _) 0 _)⟩, hok⟩
/-- A new reader. -/
theorem Rdr.new {A : Option Addr} {n c : Nat} (h : Byt w (.slice A n c) ts) : Rdr T (w.alloc (.cells #[.slice A n c, .int .i64 0] T)) w.heap.size (ts, 0) :=
  ⟨⟨A, n, c, heap_alloc_new _ _, h.alloc _⟩, .inl rfl⟩
end

/-- A reader's method: what it hands back, the state behind; nothing else that was there turns. -/
def RRd (T : TypeId) (g : Nat) (w : World) (K : World → Value → Prop) (s' : RS) (e : Ending) (w' : World) : Prop := ∃ r, e = .returned r ∧ K w' r ∧ Rdr T w' g s' ∧ w.grownBy w' (some g)
end Go.Proofs.YtckomifecmemnaaGreat

/- The contracts of the program's Reader: NewReader, Remaining, Err, fail, Uint, Raw, Bytes. -/
namespace Go.Proofs.YtckomifecmemnaaGreat
open Go.RowKit Dig
set_option linter.unusedVariables false

section
variable {w : World} {v : Value} {ts : List UInt8}
set_option maxRecDepth 20000 in
set_option maxHeartbeats 1000000 in
theorem clone_c (h : Byt w v ts) (hz : ts.length ≤ 1000000000) : Calls Tryz.prog 47 #[v] w (RByt w ts) := by
  obtain ⟨A, c, rfl⟩ := h.form
  have H := Lib.hid h
  have HZ := Lib.hid hz
  cases A with
  | none =>
    have h0 : ts = [] := by
      obtain ⟨A', c', e, ⟨h1, h2⟩, _⟩ := h
      simp only [Value.slice.injEq] at e
      obtain ⟨rfl, _, rfl⟩ := e
      have := h2 rfl
      exact List.eq_nil_of_length_eq_zero (by omega)
    subst h0
    have hE := Go.Lib.run_eql_slice_nil (P := Tryz.prog) w 33 5 none 0 c 0 0 Tryz.underlying33
    clear h hz
    go_enter Tryz.func47, Tryz.ntmps47
    go_wp2_with fail
    go_ret
    exact ⟨_, rfl, OwB.nil _ _, Below.refl _ _⟩
  | some ad =>
    have hE := Go.Lib.run_eql_slice_nil (P := Tryz.prog) w 33 5 (some ad) ts.length c 0 0 Tryz.underlying33
    clear h hz
    go_enter Tryz.func47, Tryz.ntmps47
    go_wp2_with (first | ((with_reducible refine wp_noneB rfl rfl ?_); intro w1 hS hB1) | (at_builtin; refine wp_appendB rfl _ _ rfl w.heap.size _ [] rfl hS _ ts rfl (H.out.below hB1) (by have := HZ.out; simp; omega) hB1.size ?_; intro v' w' hv' hg'))
    go_ret
    exact ⟨_, rfl, by simpa using hv', below_ownB hB1 hg' hS (Nat.le_refl _)⟩
set_option maxHeartbeats 1000000 in
theorem newReader_c (h : Byt w v ts) (hz : ts.length ≤ 1000000000) :
    Calls Tryz.prog 93 #[v] w fun e w' => ∃ g, e = .returned (.pointer (some ⟨g, 0, none⟩)) ∧ w.heap.size ≤ g ∧ Rdr 139 w' g (ts, 0) ∧ Below w.heap.size w w' := by
  have C := Lib.hid (clone_c h hz)
  obtain ⟨A, c, rfl⟩ := h.form
  go_enter Tryz.func93, Tryz.ntmps93
  go_wp2_with fail
  refine (C.out).mono ?_
  rintro e w1 ⟨r, rfl, hr, hB⟩
  obtain ⟨A', c', rfl⟩ := hr.byt.form
  go_wp2_with fail
  go_ret
  exact ⟨_, rfl, hB.size, Rdr.new hr.byt, hB.alloc hB.size _⟩
end

section
variable {w : World} {g : Nat} {s : RS}
theorem remaining_c (h : Rdr 139 w g s) : Calls Tryz.prog 96 #[.pointer (some ⟨g, 0, none⟩)] w fun e w' => e = .returned (.int .i64 s.1.length) ∧ w = w' := by
  obtain ⟨⟨A, n, c, hh, hb⟩, hok⟩ := h
  obtain ⟨hn, _⟩ := hb.bounds
  obtain ⟨c0, c1⟩ := row2_cells hh
  subst hn
  clear hh hb
  go_enter Tryz.func96, Tryz.ntmps96
  go_wp2_with fail
  go_ret
  exact ⟨rfl, rfl⟩
theorem err_c (h : Rdr 139 w g s) : Calls Tryz.prog 95 #[.pointer (some ⟨g, 0, none⟩)] w fun e w' => e = .returned (.int .i64 s.2) ∧ w = w' := by
  obtain ⟨⟨A, n, c, hh, hb⟩, hok⟩ := h
  obtain ⟨c0, c1⟩ := row2_cells hh
  clear hh hb
  go_enter Tryz.func95, Tryz.ntmps95
  go_wp2_with fail
  go_ret
  exact ⟨rfl, rfl⟩
/-- What a failure leaves: the first error stays. -/
def failS (e : Int) (s : RS) : RS := ([], if s.2 = 0 then e else s.2)
theorem failS_ok {e : Int} (he : e = 2 ∨ e = 3 ∨ e = 4) (h : okR s) : okR (failS e s) := by
  refine .inr ⟨?_, rfl⟩
  unfold failS
  by_cases h0 : s.2 = 0
  · simp only [h0, if_true]; exact he
  · simp only [h0, if_false]
    rcases h with h | h
    · exact absurd h h0
    · exact h.1
theorem fail_c (h : Rdr 139 w g s) (e : Int) (he : e = 2 ∨ e = 3 ∨ e = 4) : Calls Tryz.prog 124 #[.pointer (some ⟨g, 0, none⟩), .int .i64 e] w fun x w' => x = .returned (.tuple #[]) ∧ Rdr 139 w' g (failS e s) ∧ w.grownBy w' (some g) := by
  have hok := failS_ok he h.ok
  obtain ⟨⟨A, n, c, hh, hb⟩, _⟩ := h
  obtain ⟨c0, c1⟩ := row2_cells hh
  obtain ⟨f0, f1⟩ := row2_frozen hh
  have HH := Lib.hid hh
  unfold failS at *
  by_cases h0 : s.2 = 0
  · rw [if_pos h0] at *
    have hz : (s.2 == 0) = true := by rw [h0]; rfl
    clear hh hb h0
    go_enter Tryz.func124, Tryz.ntmps124
    go_wp2_with fail
    go_end0
    exact ⟨rfl, ⟨⟨none, 0, 0, row2_put0 (row2_put1 HH.out _) _, Byt.nil _⟩, hok⟩, grown_put (grown_put (World.grownBy.refl _ _) 1 _) 0 _⟩
  · rw [if_neg h0] at *
    have hz : (s.2 == 0) = false := by rw [beq_eq_false_iff_ne]; exact h0
    clear hh hb h0
    go_enter Tryz.func124, Tryz.ntmps124
    go_wp2_with fail
    go_end0
    exact ⟨rfl, ⟨⟨none, 0, 0, row2_put0 HH.out _, Byt.nil _⟩, hok⟩, grown_put (World.grownBy.refl _ _) 0 _⟩
theorem rs_stop {s : RS} (h : okR s) (h0 : s.2 ≠ 0) : s = ([], s.2) := by
  have := h.stop h0
  obtain ⟨a, b⟩ := s
  simp at this
  rw [this]
theorem rs_zero {s : RS} (h0 : s.2 = 0) : s = (s.1, 0) := by
  obtain ⟨a, b⟩ := s
  simp at h0
  rw [h0]
theorem failS_of {s : RS} {e : Int} (h : s.2 = 0) : failS e s = ([], e) := by unfold failS; rw [if_pos h]
theorem failS_stop {s : RS} {e : Int} (hok : okR s) (h : s.2 ≠ 0) : failS e s = s := by
  unfold failS
  rw [if_neg h]
  exact (rs_stop hok h).symm
set_option maxRecDepth 20000 in
set_option maxHeartbeats 2000000 in
theorem uint_c (h : Rdr 139 w g s) (hz : s.1.length ≤ 1000000000) (max : Nat) (hm : max < 18446744073709551616) :
    Calls Tryz.prog 107 #[.pointer (some ⟨g, 0, none⟩), .int .u64 (max : Int)] w fun e w' => e = .returned (.int .u64 ((uintS max s).1 : Nat)) ∧ Rdr 139 w' g (uintS max s).2 ∧ w.grownBy w' (some g) := by
  have hok := h.ok
  have FF := Lib.hid (fun e he => fail_c h e he)
  obtain ⟨⟨A, n0, c, hh, hb⟩, _⟩ := h
  obtain ⟨rfl, hnc, hcm⟩ := hb.bounds
  obtain ⟨c0, c1⟩ := row2_cells hh
  obtain ⟨f0, f1⟩ := row2_frozen hh
  have PP := Lib.hid (parse_u w _ s.1 hb hz)
  have HH := Lib.hid hh
  have HB := Lib.hid hb
  have HM := Lib.hid hm
  have HZ := Lib.hid hz
  have HCM := Lib.hid hcm
  clear hh hb hm hcm
  go_enter Tryz.func107, Tryz.ntmps107
  go_wp2_with fail
  refine (PP.out).mono ?_
  rintro e w' ⟨n, size, err, rfl, hPU, rfl⟩
  by_cases h0 : s.2 = 0
  · rcases hPU with ⟨rfl, h1, h2, h3⟩ | ⟨rfl, rfl, h1, h2⟩
    · rcases Nat.lt_or_ge max n with h4 | h4
      · have e := uintS_pu_large h1 h4
        rw [← rs_zero h0] at e
        have HE := Lib.hid e
        have F4 := Lib.hid (FF.out 4 (by omega))
        rw [failS_of h0] at F4
        have h4i : (max : Int) < n := by omega
        clear h1 h2 h3 h0 e
        go_wp2_with fail
        refine (F4.out).mono ?_
        rintro x w2 ⟨rfl, hR, hG⟩
        go_wp2_with fail
        go_ret
        rw [HE.out]
        exact ⟨rfl, hR, hG⟩
      · have e := uintS_pu_good h1 h4
        rw [← rs_zero h0] at e
        have HE := Lib.hid e
        have HT := Lib.hid (HB.out.tail h2)
        unfold tailB at HT
        have h4i : ¬ (max : Int) < n := by omega
        have h2i : (size : Int) ≤ s.1.length := by omega
        have H0 := Lib.hid h0
        by_cases hcs : c = size
        · subst hcs
          rw [if_pos rfl, show s.1.length = c by omega, Nat.sub_self] at HT
          clear h1 h2 h3 h0 e
          go_wp2_with fail
          go_ret
          rw [HE.out]
          exact ⟨rfl, Rdr.rest (by have := HH.out; rw [H0.out] at this; exact this) HT.out (.inl rfl), grown_put (World.grownBy.refl _ _) 0 _⟩
        · rw [if_neg hcs] at HT
          clear h1 h2 h3 h0 e
          go_wp2_with fail
          go_ret
          rw [HE.out]
          exact ⟨rfl, Rdr.rest (by have := HH.out; rw [H0.out] at this; exact this) HT.out (.inl rfl), grown_put (World.grownBy.refl _ _) 0 _⟩
    · have e := uintS_pu_bad (max := max) h2 h1
      rw [← rs_zero h0] at e
      have HE := Lib.hid e
      have F4 := Lib.hid (FF.out err (rd_err h2 h1))
      rw [failS_of h0] at F4
      have hez : (err == 0) = false := by rw [beq_eq_false_iff_ne]; exact h1
      have hnz : (err != 0) = true := by rw [bne_iff_ne]; exact h1
      clear h1 h2 h0 e
      go_wp2_with fail
      refine (F4.out).mono ?_
      rintro x w2 ⟨rfl, hR, hG⟩
      go_wp2_with fail
      go_ret
      rw [HE.out]
      exact ⟨rfl, hR, hG⟩
  · have hn := hok.stop h0
    rw [hn] at hPU
    obtain ⟨rfl, rfl, h1, h2⟩ := hPU.nil
    have HE := Lib.hid (uintS_stop (max := max) h0)
    have F4 := Lib.hid (FF.out err (rd_err h2 h1))
    rw [failS_stop hok h0] at F4
    have hez : (err == 0) = false := by rw [beq_eq_false_iff_ne]; exact h1
    have hnz : (err != 0) = true := by rw [bne_iff_ne]; exact h1
    clear h1 h2 h0 hn hPU
    go_wp2_with fail
    refine (F4.out).mono ?_
    rintro x w2 ⟨rfl, hR, hG⟩
    go_wp2_with fail
    go_ret
    rw [HE.out]
    exact ⟨rfl, hR, hG⟩
end
end Go.Proofs.YtckomifecmemnaaGreat

/- The contracts of the program's Reader: Raw, Bytes. -/
namespace Go.Proofs.YtckomifecmemnaaGreat
open Go.RowKit Dig
set_option linter.unusedVariables false

/-- A reader's method that hands back bytes. -/
def RRB (T : TypeId) (g : Nat) (w : World) (p : List UInt8 × RS) (e : Ending) (w' : World) : Prop := ∃ r, e = .returned r ∧ Byt w' r p.1 ∧ Rdr T w' g p.2 ∧ w.grownBy w' (some g) ∧ ∀ k, r.ownBlock = some k → w.heap.size ≤ k
section
variable {w : World} {g : Nat} {s : RS}
theorem rawS_more {n : Nat} (hok : okR s) (h : s.1.length < n) : rawS n s = ([], failS 3 s) := by
  unfold rawS
  by_cases h0 : s.2 = 0
  · rw [if_pos h0, if_pos h, failS_of h0]
  · rw [if_neg h0, failS_stop hok h0]
theorem rawS_some {n : Nat} (hok : okR s) (h : n ≤ s.1.length) : rawS n s = (s.1.take n, (s.1.drop n, s.2)) := by
  unfold rawS
  by_cases h0 : s.2 = 0
  · rw [if_pos h0, if_neg (by omega), h0]
  · rw [if_neg h0]
    have hn := hok.stop h0
    rw [hn] at h ⊢
    have : n = 0 := by simpa using h
    subst this
    have e := rs_stop hok h0
    simp
    exact e
set_option maxRecDepth 20000 in
set_option maxHeartbeats 2000000 in
theorem raw_c (h : Rdr 139 w g s) (hz : s.1.length ≤ 1000000000) (z : Int) (hb1 : -9223372036854775808 ≤ z) (hb2 : z ≤ 9223372036854775807) :
    Calls Tryz.prog 125 #[.pointer (some ⟨g, 0, none⟩), .int .i64 z] w (RRB 139 g w (rawS z.toNat s)) := by
  have hok := h.ok
  have FF := Lib.hid (fun e he => fail_c h e he)
  have H := Lib.hid h
  obtain ⟨⟨A, n0, c, hh, hb⟩, _⟩ := h
  obtain ⟨rfl, hnc, hcm⟩ := hb.bounds
  obtain ⟨c0, c1⟩ := row2_cells hh
  obtain ⟨f0, f1⟩ := row2_frozen hh
  have HH := Lib.hid hh
  have HB := Lib.hid hb
  obtain ⟨k, hk⟩ : ∃ k, z.toNat = k := ⟨_, rfl⟩
  have hmax : max z 0 = (k : Int) := by omega
  rw [hk]
  clear hh hb hk hcm hb1 hb2
  rcases Nat.lt_or_ge s.1.length k with h1 | h1
  · have h1i : (s.1.length : Int) < k := by omega
    have F3 := Lib.hid (FF.out 3 (by omega))
    rw [rawS_more hok h1]
    clear h1 hz hnc
    go_enter Tryz.func125, Tryz.ntmps125
    go_wp2_with fail
    refine (F3.out).mono ?_
    rintro x w2 ⟨rfl, hR, hG⟩
    go_wp2_with fail
    go_ret
    exact ⟨_, rfl, Byt.nil _, hR, hG, fun k hk => by cases hk⟩
  · have h1i : ¬ (s.1.length : Int) < k := by omega
    have hkc : (k : Int) ≤ c := by omega
    have hkl : (k : Int) ≤ s.1.length := by omega
    rw [rawS_some hok h1]
    have HC := Lib.hid (clone_c (HB.out.cut h1) (by rw [List.length_take]; omega))
    have HT := Lib.hid (HB.out.tail h1)
    have hok2 : okR (s.1.drop k, s.2) := by
      rcases hok with h | ⟨h, h'⟩
      · exact .inl h
      · exact .inr ⟨h, by rw [h']; simp⟩
    have HO := Lib.hid hok2
    have HL := Lib.hid h1
    have HZ := Lib.hid hnc
    clear hz hok2 hnc h1
    go_enter Tryz.func125, Tryz.ntmps125
    go_wp2_with fail
    refine (HC.out).mono ?_
    rintro x w2 ⟨r, rfl, hr, hB⟩
    have hh2 : w2.heap[g]? = some (.cells #[.slice A s.1.length c, .int .i64 s.2] 139 (0, 0)) := by rw [hB.block g (lt_of_heap HH.out)]; exact HH.out
    clear c0 c1 f0 f1
    obtain ⟨c0, c1⟩ := row2_cells hh2
    obtain ⟨f0, f1⟩ := row2_frozen hh2
    have HH2 := Lib.hid hh2
    have HT2 := Lib.hid (HT.out.below hB)
    unfold tailB at HT2
    clear hh2
    by_cases hcs : c = k
    · rw [if_pos hcs, show c - k = 0 by omega] at HT2
      subst hcs
      go_wp2_with fail
      go_ret
      exact ⟨_, rfl, hr.byt.but HH2.out (grown_put (World.grownBy.refl _ _) 0 _), Rdr.rest HH2.out HT2.out HO.out, grown_put (grown_of_below hB) 0 _, fun k hk => (hr.block k hk).1⟩
    · rw [if_neg hcs] at HT2
      go_wp2_with fail
      go_ret
      exact ⟨_, rfl, hr.byt.but HH2.out (grown_put (World.grownBy.refl _ _) 0 _), Rdr.rest HH2.out HT2.out HO.out, grown_put (grown_of_below hB) 0 _, fun k hk => (hr.block k hk).1⟩
set_option maxRecDepth 20000 in
set_option maxHeartbeats 2000000 in
theorem bytes_c (h : Rdr 139 w g s) (hz : s.1.length ≤ 1000000000) (z : Int) (hb1 : -9223372036854775808 ≤ z) (hb2 : z ≤ 9223372036854775807) :
    Calls Tryz.prog 108 #[.pointer (some ⟨g, 0, none⟩), .int .i64 z] w (RRB 139 g w (bytesS z.toNat s)) := by
  obtain ⟨k, hk⟩ : ∃ k, z.toNat = k := ⟨_, rfl⟩
  have hk2 : k ≤ 9223372036854775807 := by omega
  have UU := Lib.hid (uint_c h hz k (by omega))
  have hle := uintS_le k s
  have hln := uintS_len k s
  have hu : ((uintS k s).1 : Int) ≤ 9223372036854775807 := by omega
  have HL := Lib.hid (show (uintS k s).2.1.length ≤ 1000000000 by omega)
  have RR := Lib.hid (fun w2 (hR : Rdr 139 w2 g (uintS k s).2) => raw_c hR HL.out ((uintS k s).1 : Int) (by omega) hu)
  rw [Int.toNat_natCast] at RR
  rw [hk]
  have HE := Lib.hid (show bytesS k s = rawS (uintS k s).1 (uintS k s).2 from rfl)
  generalize (uintS k s).1 = n at *
  generalize (uintS k s).2 = s1 at *
  generalize bytesS k s = p at *
  by_cases hz0 : z < 0
  · have hk0 : k = 0 := by omega
    subst hk0
    clear hz hk hk2 hle hln
    go_enter Tryz.func108, Tryz.ntmps108
    go_wp2_with fail
    refine (UU.out).mono ?_
    rintro x w2 ⟨rfl, hR, hG⟩
    go_wp2_with fail
    refine (RR.out _ hR).mono ?_
    rintro x w3 ⟨r, rfl, hr, hR3, hG3, hK3⟩
    go_wp2_with fail
    go_ret
    rw [HE.out]
    exact ⟨_, rfl, hr, hR3, grown_then hG hG3, fun k hk => Nat.le_trans hG.size (hK3 k hk)⟩
  · have hzk : z = (k : Int) := by omega
    subst hzk
    have hkb : (k : Int) ≤ 9223372036854775807 := hb2
    clear hz hk hk2 hle hln
    go_enter Tryz.func108, Tryz.ntmps108
    go_wp2_with fail
    refine (UU.out).mono ?_
    rintro x w2 ⟨rfl, hR, hG⟩
    go_wp2_with fail
    refine (RR.out _ hR).mono ?_
    rintro x w3 ⟨r, rfl, hr, hR3, hG3, hK3⟩
    go_wp2_with fail
    go_ret
    rw [HE.out]
    exact ⟨_, rfl, hr, hR3, grown_then hG hG3, fun k hk => Nat.le_trans hG.size (hK3 k hk)⟩
end
end Go.Proofs.YtckomifecmemnaaGreat

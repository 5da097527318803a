/- The contracts of EncodeUint and EncodeBytes, of the program and of the reference. -/
import Derived.Laws.BitsAllLaws
import Derived.Test.YtkdnmmbnljaahaaBytes
namespace Go.Proofs.Ytkdnmmbnljaahaa
open Go.RowKit Dig
set_option linter.unusedVariables false

/-- A call that hands back bytes of its own, and leaves what was there. -/
def RByt (w : World) (ts : List UInt8) (e : Ending) (w' : World) : Prop := ∃ r, e = .returned r ∧ OwB w.heap.size w' r ts ∧ Below w.heap.size w w'

set_option maxRecDepth 100000 in
theorem or_more (k : Nat) : bits .or .u8 ((k : Int) % 256) 128 = ((oct (k % 128 + 128)).toNat : Int) := by
  have h := u8_or_nat (k % 256) 128 (Nat.mod_lt _ (by omega)) (by omega)
  rw [show ((k % 256 : Nat) : Int) = (k : Int) % 256 by omega] at h
  rw [show ((128 : Nat) : Int) = 128 from rfl] at h
  rw [h, oct_toNat (by omega)]
  congr 1
  have : ∀ m, m < 256 → m ||| 128 = m % 128 + 128 := by decide
  rw [this _ (Nat.mod_lt _ (by omega))]
  omega
theorem low_byte (k : Nat) (h : k < 128) : (k : Int) = ((oct k).toNat : Int) := by
  rw [oct_toNat (by omega)]

set_option maxRecDepth 20000 in
set_option maxHeartbeats 1000000 in
theorem encUint_c (w : World) (n : Nat) (hn : n < 18446744073709551616) :
    Calls Try.prog 11 #[.int .u64 (n : Int)] w (RByt w (encU n)) := by
  have HL := Lib.hid (encU_ten hn)
  go_enter Try.func11, Try.ntmps11
  go_wp2_with fail
  go_loopw [0, 3] (fun m out wr => ∃ (k : Nat) (ts : List UInt8), m = .int .u64 k ∧ k < 18446744073709551616 ∧ OwB w.heap.size wr out ts ∧ ts ++ encU k = encU n ∧ Below w.heap.size w wr) (fun m _ _ => (intOf m).toNat)
  case atStart => exact ⟨n, [], rfl, hn, OwB.nil _ _, rfl, Below.refl _ _⟩
  case round =>
    obtain ⟨k, ts, rfl, hk, hO, he, hB⟩ := hrel
    have hlen := congrArg List.length he
    rw [List.length_append] at hlen
    have hpos := encU_pos k
    have HT := Lib.hid (show ts.length < 10 by have := HL.out; omega)
    have HO := Lib.hid hO
    have HE := Lib.hid he
    have HB := Lib.hid hB
    have HK := Lib.hid hk
    clear hk
    rcases Nat.lt_or_ge k 128 with h | h
    · have hc : (k : Int) < 128 := by omega
      have HN := Lib.hid (Byt.one wr (k : Int) (oct k) (low_byte k h))
      have HS := Lib.hid (encU_small h)
      have HA := Lib.hid (hO.alloc (.cells #[.int .u8 (k : Int)] 5))
      clear hO he hB hlen hpos
      go_wp2_with (at_builtin; refine wp_appendB rfl _ _ rfl w.heap.size u3 ts rfl HA.out (.slice (some ⟨wr.heap.size, 0, none⟩) 1 1) [oct k] rfl HN.out (by have := HT.out; simp; omega) (by have := HB.out.size; simp; omega) ?_; intro v' w' hv' hg')
      go_ret
      exact ⟨_, rfl, by rw [← HE.out, HS.out]; exact hv', below_ownB HB.out (grown_after_alloc hg') HO.out (Nat.le_refl _)⟩
    · have hc : (128 : Int) ≤ k := by omega
      have HN := Lib.hid (Byt.one wr (bits .or .u8 ((k : Int) % 256) 128) (oct (k % 128 + 128)) (or_more k))
      have HS := Lib.hid (encU_step h)
      have HA := Lib.hid (hO.alloc (.cells #[.int .u8 (bits .or .u8 ((k : Int) % 256) 128)] 5))
      clear hO he hB hlen hpos
      go_wp2_with (at_builtin; refine wp_appendB rfl _ _ rfl w.heap.size u3 ts rfl HA.out (.slice (some ⟨wr.heap.size, 0, none⟩) 1 1) [oct (k % 128 + 128)] rfl HN.out (by have := HT.out; simp; omega) (by have := HB.out.size; simp; omega) ?_; intro v' w' hv' hg')
      have hB3 := below_ownB HB.out (grown_after_alloc hg') HO.out (Nat.le_refl _)
      go_roundw
      case rel => exact ⟨k / 128, _, by go_num, by have := HK.out; omega, hv', by rw [List.append_assoc, ← HE.out, HS.out]; rfl, hB3⟩
      case measure => simp [intOf]; omega

set_option maxRecDepth 20000 in
set_option maxHeartbeats 1000000 in
theorem refUint_c (w : World) (n : Nat) (hn : n < 18446744073709551616) :
    Calls Try.prog 12 #[.int .u64 (n : Int)] w (RByt w (encU n)) := by
  have HL := Lib.hid (encU_ten hn)
  go_enter Try.func12, Try.ntmps12
  go_wp2_with fail
  go_loopw [0, 3] (fun m out wr => ∃ (k : Nat) (ts : List UInt8), m = .int .u64 k ∧ k < 18446744073709551616 ∧ OwB w.heap.size wr out ts ∧ ts ++ encU k = encU n ∧ Below w.heap.size w wr) (fun m _ _ => (intOf m).toNat)
  case atStart => exact ⟨n, [], rfl, hn, OwB.nil _ _, rfl, Below.refl _ _⟩
  case round =>
    obtain ⟨k, ts, rfl, hk, hO, he, hB⟩ := hrel
    have hlen := congrArg List.length he
    rw [List.length_append] at hlen
    have hpos := encU_pos k
    have HT := Lib.hid (show ts.length < 10 by have := HL.out; omega)
    have HO := Lib.hid hO
    have HE := Lib.hid he
    have HB := Lib.hid hB
    have HK := Lib.hid hk
    clear hk
    rcases Nat.lt_or_ge k 128 with h | h
    · have hc : (k : Int) < 128 := by omega
      have HN := Lib.hid (Byt.one wr (k : Int) (oct k) (low_byte k h))
      have HS := Lib.hid (encU_small h)
      have HA := Lib.hid (hO.alloc (.cells #[.int .u8 (k : Int)] 5))
      clear hO he hB hlen hpos
      go_wp2_with (at_builtin; refine wp_appendB rfl _ _ rfl w.heap.size u3 ts rfl HA.out (.slice (some ⟨wr.heap.size, 0, none⟩) 1 1) [oct k] rfl HN.out (by have := HT.out; simp; omega) (by have := HB.out.size; simp; omega) ?_; intro v' w' hv' hg')
      go_ret
      exact ⟨_, rfl, by rw [← HE.out, HS.out]; exact hv', below_ownB HB.out (grown_after_alloc hg') HO.out (Nat.le_refl _)⟩
    · have hc : (128 : Int) ≤ k := by omega
      have HN := Lib.hid (Byt.one wr (bits .or .u8 ((k : Int) % 256) 128) (oct (k % 128 + 128)) (or_more k))
      have HS := Lib.hid (encU_step h)
      have HA := Lib.hid (hO.alloc (.cells #[.int .u8 (bits .or .u8 ((k : Int) % 256) 128)] 5))
      clear hO he hB hlen hpos
      go_wp2_with (at_builtin; refine wp_appendB rfl _ _ rfl w.heap.size u3 ts rfl HA.out (.slice (some ⟨wr.heap.size, 0, none⟩) 1 1) [oct (k % 128 + 128)] rfl HN.out (by have := HT.out; simp; omega) (by have := HB.out.size; simp; omega) ?_; intro v' w' hv' hg')
      have hB3 := below_ownB HB.out (grown_after_alloc hg') HO.out (Nat.le_refl _)
      go_roundw
      case rel => exact ⟨k / 128, _, by go_num, by have := HK.out; omega, hv', by rw [List.append_assoc, ← HE.out, HS.out]; rfl, hB3⟩
      case measure => simp [intOf]; omega

section
variable {w : World} {v : Value} {ts : List UInt8}
set_option maxHeartbeats 1000000 in
theorem encBytes_c (h : Byt w v ts) (hz : ts.length ≤ 1000000000) : Calls Try.prog 13 #[v] w (RByt w (encB ts)) := by
  have EU := Lib.hid (encUint_c w ts.length (by omega))
  have HL := Lib.hid (encU_ten (n := ts.length) (by omega))
  have hzi : (ts.length : Int) ≤ 1000000000 := by omega
  obtain ⟨A, c, rfl⟩ := h.form
  have H := Lib.hid h
  have HZ := Lib.hid hz
  clear h hz
  go_enter Try.func13, Try.ntmps13
  go_wp2_with fail
  refine (EU.out).mono ?_
  rintro e w1 ⟨r, rfl, hr, hB⟩
  have HR := Lib.hid hr
  go_wp2_with (at_builtin; refine wp_appendB rfl _ _ rfl w.heap.size r (encU ts.length) rfl HR.out _ ts rfl (H.out.below hB) (by have := HL.out; have := HZ.out; omega) hB.size ?_; intro v' w' hv' hg')
  go_ret
  exact ⟨_, rfl, hv', below_ownB hB hg' hr (Nat.le_refl _)⟩
set_option maxHeartbeats 1000000 in
theorem refBytes_c (h : Byt w v ts) (hz : ts.length ≤ 1000000000) : Calls Try.prog 14 #[v] w (RByt w (encB ts)) := by
  have EU := Lib.hid (refUint_c w ts.length (by omega))
  have HL := Lib.hid (encU_ten (n := ts.length) (by omega))
  have hzi : (ts.length : Int) ≤ 1000000000 := by omega
  obtain ⟨A, c, rfl⟩ := h.form
  have H := Lib.hid h
  have HZ := Lib.hid hz
  clear h hz
  go_enter Try.func14, Try.ntmps14
  go_wp2_with fail
  refine (EU.out).mono ?_
  rintro e w1 ⟨r, rfl, hr, hB⟩
  have HR := Lib.hid hr
  go_wp2_with (at_builtin; refine wp_appendB rfl _ _ rfl w.heap.size r (encU ts.length) rfl HR.out _ ts rfl (H.out.below hB) (by have := HL.out; have := HZ.out; omega) hB.size ?_; intro v' w' hv' hg')
  go_ret
  exact ⟨_, rfl, hv', below_ownB hB hg' hr (Nat.le_refl _)⟩
end
end Go.Proofs.Ytkdnmmbnljaahaa

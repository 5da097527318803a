/- The contract of EncodeNat of the program. -/
import Derived.Test.YtkdnmmbnljaahaaEnc
namespace Go.Proofs.Ytkdnmmbnljaahaa
open Go.RowKit Dig
set_option linter.unusedVariables false

section
variable {w : World} {v : Value} {xs : List Nat}
set_option maxHeartbeats 4000000 in
theorem encNat_c (h : Num w v xs) (hz : xs.length ≤ 100000) : Calls Try.prog 15 #[v] w (RByt w (encN (val xs))) := by
  obtain ⟨A, c, rfl⟩ := h.form
  have BL := Lib.hid (bitLen_c w A _ c xs h (by omega))
  have hlen := beB_len (val xs)
  have hsh := beB_short (val_lt xs h.small)
  have hsm := h.small
  obtain ⟨L, hL⟩ : ∃ L, (beB (val xs)).length = L := ⟨_, rfl⟩
  rw [hL] at hlen hsh
  have HL := Lib.hid hL
  have HX := Lib.hid hz
  have HS := Lib.hid hsh
  have hdiv : ((nbits (val xs) : Int) + 7) / 8 = (L : Int) := by omega
  have hnb : (nbits (val xs) : Int) ≤ 4000000 := by omega
  generalize nbits (val xs) = nb at BL hdiv hnb
  have hLz : L ≤ 400000 := by omega
  have hLi : (L : Int) ≤ 400000 := by omega
  have HM := Lib.hid hsm
  have H := Lib.hid h
  clear hL hlen hsh hsm hz h
  go_enter Try.func15, Try.ntmps15
  go_wp2_with fail
  refine (BL.out).mono ?_
  rintro e w' ⟨rfl, rfl⟩
  go_wp2_with (at_make; refine wp_makeB rfl _ _ rfl _ _ L rfl rfl (by omega) (by omega) (by omega) ?_; intro w1 hO1 hB1)
  clear hdiv hnb
  go_loopw [15] (fun j wr => ∃ k : Nat, k ≤ L ∧ j = .int .i64 k ∧ LetB wr w.heap.size (beP (val xs) k) ∧ Below w.heap.size w wr) (fun j _ => L - (intOf j).toNat)
  case atStart => exact ⟨0, Nat.zero_le _, rfl, by rw [beP_zero, HL.out]; exact hO1, hB1⟩
  case round =>
    obtain ⟨k, hk, rfl, hO, hB⟩ := hrel
    by_cases hlt : k < L
    · obtain ⟨p, hp⟩ : ∃ p, L = p + 1 + k := ⟨L - 1 - k, by omega⟩
      have hq : p / 4 < xs.length := by have := HS.out; omega
      obtain ⟨b, off, rfl, hbb, hall⟩ := (H.out.below hB).cells (by omega)
      have hcd := hall (p / 4) hq
      have hby := byte_at xs HM.out p
      have hget := beB_get (val xs) k (by rw [HL.out]; exact hlt)
      rw [HL.out, show L - 1 - k = p by omega, hby] at hget
      have hstep := beP_step (val xs) k (by rw [HL.out]; exact hlt)
      rw [hget] at hstep
      have hfz := hO.frozen k
      have hce := hO.cell (j := k) (by rw [beP_length _ _ (by rw [HL.out]; exact hk), HL.out]; exact hlt)
      have hdb := Small.get HM.out (p / 4)
      generalize ((beP (val xs) k).getD k 0).toNat = old at hce
      generalize xs.getD (p / 4) 0 = d at *
      have hr4 : p % 4 = 0 ∨ p % 4 = 1 ∨ p % 4 = 2 ∨ p % 4 = 3 := by omega
      have hpl : (L : Int) - 1 - (k : Int) = (p : Int) := by omega
      have hqi : (p : Int) / 4 = ((p / 4 : Nat) : Int) := by omega
      have hki : (k : Int) < L := by omega
      generalize hqq : p / 4 = q at *
      have hqx : (q : Int) < xs.length := by omega
      have hdi : (d : Int) < 4294967296 := by omega
      have HO := Lib.hid hO
      have HB := Lib.hid hB
      have HST := Lib.hid hstep
      have hp0 : (0 : Int) ≤ p := by omega
      clear hall hby hget hO hB hstep hp hqq hlt
      rcases hr4 with h4 | h4 | h4 | h4
      · have hri : (p : Int) % 4 = 0 := by omega
        rw [h4] at HST
        have HP := Lib.hid (HO.out.put k (oct (d / 256 ^ 0 % 256)) ((d : Int) % 256) (by rw [oct_toNat (Nat.mod_lt _ (by omega))]; simp))
        clear h4
        go_wp2_with fail
        go_roundw
        case rel => exact ⟨k + 1, by omega, by go_num, by rw [← HST.out]; exact HP.out, HB.out.setCell (p := ⟨w.heap.size, k, none⟩) (Nat.le_refl _) _⟩
        case measure => simp [intOf]; omega
      · have hri : (p : Int) % 4 = 1 := by omega
        rw [h4] at HST
        have HP := Lib.hid (HO.out.put k (oct (d / 256 ^ 1 % 256)) ((d : Int) / 256 % 256) (by rw [oct_toNat (Nat.mod_lt _ (by omega))]; simp))
        clear h4
        go_wp2_with fail
        go_roundw
        case rel => exact ⟨k + 1, by omega, by go_num, by rw [← HST.out]; exact HP.out, HB.out.setCell (p := ⟨w.heap.size, k, none⟩) (Nat.le_refl _) _⟩
        case measure => simp [intOf]; omega
      · have hri : (p : Int) % 4 = 2 := by omega
        rw [h4] at HST
        have HP := Lib.hid (HO.out.put k (oct (d / 256 ^ 2 % 256)) ((d : Int) / 65536 % 256) (by rw [oct_toNat (Nat.mod_lt _ (by omega))]; simp))
        clear h4
        go_wp2_with fail
        go_roundw
        case rel => exact ⟨k + 1, by omega, by go_num, by rw [← HST.out]; exact HP.out, HB.out.setCell (p := ⟨w.heap.size, k, none⟩) (Nat.le_refl _) _⟩
        case measure => simp [intOf]; omega
      · have hri : (p : Int) % 4 = 3 := by omega
        rw [h4] at HST
        have HP := Lib.hid (HO.out.put k (oct (d / 256 ^ 3 % 256)) ((d : Int) / 16777216) (by rw [oct_toNat (Nat.mod_lt _ (by omega))]; simp; omega))
        clear h4
        go_wp2_with fail
        go_roundw
        case rel => exact ⟨k + 1, by omega, by go_num, by rw [← HST.out]; exact HP.out, HB.out.setCell (p := ⟨w.heap.size, k, none⟩) (Nat.le_refl _) _⟩
        case measure => simp [intOf]; omega
    · have : k = L := by omega
      subst this
      have hA : beP (val xs) k = beB (val xs) := by rw [← HL.out]; exact beP_all _
      rw [hA] at hO
      have hOw : OwB w.heap.size wr (.slice (some ⟨w.heap.size, 0, none⟩) k k) (beB (val xs)) := hO.own (Nat.le_refl _) HL.out (by omega)
      have EB := Lib.hid (encBytes_c hOw.byt (by rw [HL.out]; omega))
      have hsz := hB.size
      clear hA hO hOw
      go_wp2_with fail
      refine (EB.out).mono ?_
      rintro e w2 ⟨r, rfl, hr, hB2⟩
      go_wp2_with fail
      go_ret
      exact ⟨_, rfl, hr.mono hsz, below_then hB hB2⟩
end
end Go.Proofs.Ytkdnmmbnljaahaa

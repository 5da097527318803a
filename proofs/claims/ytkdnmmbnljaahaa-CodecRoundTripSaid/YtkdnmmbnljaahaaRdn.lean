/- The contract of the program's Reader: Nat. -/
import Derived.StillTailTactics
import Derived.Test.YtkdnmmbnljaahaaRdb
import Derived.Test.YtkdnmmbnljaahaaCdq
import Derived.Test.YtkdnmmbnljaahaaRefs
namespace Go.Proofs.Ytkdnmmbnljaahaa
open Go.RowKit Dig
set_option linter.unusedVariables false

/-- A reader's method that hands back a number. -/
def RRN (T : TypeId) (g : Nat) (w : World) (p : Nat × RS) (e : Ending) (w' : World) : Prop := ∃ r, e = .returned r ∧ Num w' r (dg p.1) ∧ Rdr T w' g p.2 ∧ w.grownBy w' (some g)
section
variable {w : World} {g : Nat} {s : RS}
set_option maxRecDepth 20000 in
set_option maxHeartbeats 8000000 in
theorem nat_c (h : Rdr 66 w g s) (hz : s.1.length ≤ 1000000) :
    Calls Try.prog 26 #[.pointer (some ⟨g, 0, none⟩)] w (RRN 66 g w (natS s)) := by
  have BB := Lib.hid (bytes_c h (by omega) 8192 (by omega) (by omega))
  rw [show (8192 : Int).toNat = 8192 from rfl] at BB
  have hlen := (bytesS_len 8192 s).2
  have herr := Lib.hid (fun h => bytesS_err (max := 8192) (s := s) h)
  have HN := Lib.hid (show natS s = if (bytesS 8192 s).1.head? = some 0 then (0, ([], 2)) else (beV (bytesS 8192 s).1, (bytesS 8192 s).2) from rfl)
  have hok := h.ok
  clear h
  go_enter Try.func26, Try.ntmps26
  go_wp2_with fail
  refine (BB.out).mono ?_
  rintro x w2 ⟨r, rfl, hr, hR, hG⟩
  have HE := Lib.hid hok
  clear BB hok
  generalize (bytesS 8192 s).1 = bs at *
  generalize (bytesS 8192 s).2 = s1 at *
  obtain ⟨A, c, rfl⟩ := hr.form
  have hbd := hr.bounds.2
  rcases Nat.eq_zero_or_pos bs.length with h0 | h0
  · have : bs = [] := List.eq_nil_of_length_eq_zero h0
    subst this
    have HP := Lib.hid (show natS s = (0, s1) from HN.out)
    clear h0 hlen HN
    go_wp2_with fail
    go_ret
    rw [HP.out]
    exact ⟨_, rfl, Num.nil _, hR, hG⟩
  · have hne : bs ≠ [] := fun e => by rw [e] at h0; simp at h0
    have hs0 : s1.2 = 0 := by
      by_cases e : s1.2 = 0
      · exact e
      · exact absurd (herr.out e) hne
    obtain ⟨b, off, rfl, hbb, hall⟩ := hr.cells h0
    have hc0 := hall 0 h0
    rw [Nat.add_zero] at hc0
    have h0i : ((bs.length : Int) == 0) = false := by rw [beq_eq_false_iff_ne]; omega
    have h0p : (0 : Int) < bs.length := by omega
    have hli : (bs.length : Int) ≤ 1000000 := by omega
    by_cases hlead : bs.head? = some 0
    · have hz : ((bs.getD 0 0).toNat : Int) = 0 := by
        cases bs with
        | nil => exact absurd rfl hne
        | cons a l =>
          have : a = 0 := by simpa using hlead
          rw [this]; rfl
      rw [hz] at hc0
      have FF := Lib.hid (fail_c hR 2 (by omega))
      rw [failS_of hs0] at FF
      have HP := Lib.hid (HN.out.trans (if_pos hlead))
      clear HN hz hall hlead hs0 hlen h0
      go_wp2_with fail
      refine (FF.out).mono ?_
      rintro x w3 ⟨rfl, hR3, hG3⟩
      go_wp2_with fail
      go_ret
      rw [HP.out]
      exact ⟨_, rfl, Num.nil _, hR3, grown_then hG hG3⟩
    · have hnz : (((bs.getD 0 0).toNat : Int) == 0) = false := by
        rw [beq_eq_false_iff_ne]
        intro e
        apply hlead
        cases bs with
        | nil => exact absurd rfl hne
        | cons a l =>
          have : a.toNat = 0 := by simpa using e
          simp
          exact UInt8.toNat.inj this
      generalize ((bs.getD 0 0).toNat : Int) = z0 at hc0 hnz
      have HP := Lib.hid (HN.out.trans (if_neg hlead))
      clear HN
      have HD := Lib.hid (fun zs (hr : BeRel bs zs bs.length) => hr.done hne hlead)
      have HR := Lib.hid hr
      have HRd := Lib.hid hR
      have HG := Lib.hid hG
      have hdiv : ((bs.length : Int) + 3) / 4 = (((bs.length + 3) / 4 : Nat) : Int) := by omega
      have hDz : (bs.length + 3) / 4 ≤ 1000000 := by omega
      have hstart := BeRel.start bs
      obtain ⟨D, hD⟩ : ∃ D, (bs.length + 3) / 4 = D := ⟨_, rfl⟩
      rw [hD] at hdiv hDz hstart
      have hDi : (D : Int) ≤ 1000000 := by omega
      have HDD := Lib.hid hD
      clear hall hlead hs0 hlen h0 hr hR hG hD
      go_wp2_with (at_make; refine wp_make rfl _ _ rfl _ _ D rfl rfl (by omega) (by omega) (by omega) ?_; intro w3 hS3 hB3)
      clear hdiv hc0 hnz
      go_loopw [26] (fun j wr => ∃ (k : Nat) (zs : List Nat), k ≤ bs.length ∧ j = .int .i64 k ∧ Seg wr w2.heap.size [] zs [] ∧ BeRel bs zs k ∧ Below w2.heap.size w2 wr) (fun j _ => bs.length - (intOf j).toNat)
      case atStart => exact ⟨0, _, Nat.zero_le _, rfl, hS3, hstart, hB3⟩
      case round =>
        obtain ⟨k, zs, hk, rfl, hS, hRel, hB⟩ := hrel
        by_cases hlt : k < bs.length
        · obtain ⟨p, hp⟩ : ∃ p, bs.length = p + 1 + k := ⟨bs.length - 1 - k, by omega⟩
          obtain ⟨b', off', e', _, hall⟩ := (HR.out.below hB).cells (by omega)
          cases e'
          have hcx := hall k hlt
          have hxb := oct_lt (bs.getD k 0)
          obtain ⟨x, hx⟩ : ∃ x, (bs.getD k 0).toNat = x := ⟨_, rfl⟩
          rw [hx] at hcx hxb
          have hqz : p / 4 < zs.length := by rw [hRel.1]; omega
          have hcd := hS.cell0 hqz
          have hfd := hS.frozen (p / 4)
          obtain ⟨d, hd⟩ : ∃ d, zs.getD (p / 4) 0 = d := ⟨_, rfl⟩
          rw [hd] at hcd
          have hdv := hRel.digit hp
          rw [hd] at hdv
          obtain ⟨HLT, hst⟩ := hRel.step hp hx hd
          have HST := Lib.hid hst
          have HS := Lib.hid hS
          have HB := Lib.hid hB
          have hr4 : p % 4 = 0 ∨ p % 4 = 1 ∨ p % 4 = 2 ∨ p % 4 = 3 := by omega
          have hpl : (bs.length : Int) - 1 - (k : Int) = (p : Int) := by omega
          have hqi : (p : Int) / 4 = ((p / 4 : Nat) : Int) := by omega
          have hki : (k : Int) < bs.length := by omega
          have hzl : zs.length = D := by rw [hRel.1]; exact HDD.out
          generalize hqq : p / 4 = q at *
          have hqD : (q : Int) < D := by omega
          have hp0 : (0 : Int) ≤ p := by omega
          have hqw : IntKind.i64.wrap (q : Int) = (q : Int) := by rw [IntKind.wrap_i64]; omega
          clear hall hst hS hB hRel hd hx hp hqq hlt
          rcases hr4 with h4 | h4 | h4 | h4
          · have hri : (p : Int) % 4 = 0 := by omega
            have hrt : (p : Int).tmod 4 = 0 := by rw [Int.tmod_eq_emod_of_nonneg hp0]; exact hri
            have hx32 : IntKind.u32.wrap (x : Int) = x := by rw [IntKind.wrap_u32]; omega
            have hw8 : IntKind.i64.wrap 0 = 0 := by decide
            rw [h4] at hdv HST HLT
            have hor := or_byte d x 0 hxb hdv HLT
            rw [show ((x * 256 ^ 0 : Nat) : Int) = (x : Int) by simp] at hor
            generalize d + x * 256 ^ 0 = v at *
            have HP := Lib.hid (HS.out.put0 q v (v : Int) hqz rfl)
            clear h4 hdv HLT
            go_wp2_with fail
            go_still_tail 13, (by kernel_rfl)
            change wpList _ _ _ _ _ wr.drew
            go_wp2_with fail
            go_roundw
            case rel => exact ⟨k + 1, _, by omega, by go_num, HP.out.drewN 1, HST.out, (HB.out.setCell (p := ⟨w2.heap.size, q, none⟩) (Nat.le_refl _) _).drew⟩
            case measure => simp [intOf]; omega
          · have hri : (p : Int) % 4 = 1 := by omega
            have hrt : (p : Int).tmod 4 = 1 := by rw [Int.tmod_eq_emod_of_nonneg hp0]; exact hri
            have hx32 : IntKind.u32.wrap (x : Int) = x := by rw [IntKind.wrap_u32]; omega
            have hw8 : IntKind.i64.wrap 8 = 8 := by decide
            rw [h4] at hdv HST HLT
            have hor := or_byte d x 1 hxb hdv HLT
            rw [show ((x * 256 ^ 1 : Nat) : Int) = (x : Int) * 256 by simp] at hor
            generalize d + x * 256 ^ 1 = v at *
            have HP := Lib.hid (HS.out.put0 q v (v : Int) hqz rfl)
            clear h4 hdv HLT
            go_wp2_with fail
            go_still_tail 13, (by kernel_rfl)
            change wpList _ _ _ _ _ wr.drew
            go_wp2_with fail
            go_roundw
            case rel => exact ⟨k + 1, _, by omega, by go_num, HP.out.drewN 1, HST.out, (HB.out.setCell (p := ⟨w2.heap.size, q, none⟩) (Nat.le_refl _) _).drew⟩
            case measure => simp [intOf]; omega
          · have hri : (p : Int) % 4 = 2 := by omega
            have hrt : (p : Int).tmod 4 = 2 := by rw [Int.tmod_eq_emod_of_nonneg hp0]; exact hri
            have hx32 : IntKind.u32.wrap (x : Int) = x := by rw [IntKind.wrap_u32]; omega
            have hw8 : IntKind.i64.wrap 16 = 16 := by decide
            rw [h4] at hdv HST HLT
            have hor := or_byte d x 2 hxb hdv HLT
            rw [show ((x * 256 ^ 2 : Nat) : Int) = (x : Int) * 65536 by simp] at hor
            generalize d + x * 256 ^ 2 = v at *
            have HP := Lib.hid (HS.out.put0 q v (v : Int) hqz rfl)
            clear h4 hdv HLT
            go_wp2_with fail
            go_still_tail 13, (by kernel_rfl)
            change wpList _ _ _ _ _ wr.drew
            go_wp2_with fail
            go_roundw
            case rel => exact ⟨k + 1, _, by omega, by go_num, HP.out.drewN 1, HST.out, (HB.out.setCell (p := ⟨w2.heap.size, q, none⟩) (Nat.le_refl _) _).drew⟩
            case measure => simp [intOf]; omega
          · have hri : (p : Int) % 4 = 3 := by omega
            have hrt : (p : Int).tmod 4 = 3 := by rw [Int.tmod_eq_emod_of_nonneg hp0]; exact hri
            have hx32 : IntKind.u32.wrap (x : Int) = x := by rw [IntKind.wrap_u32]; omega
            have hw8 : IntKind.i64.wrap 24 = 24 := by decide
            rw [h4] at hdv HST HLT
            have hor := or_byte d x 3 hxb hdv HLT
            rw [show ((x * 256 ^ 3 : Nat) : Int) = (x : Int) * 16777216 by simp] at hor
            generalize d + x * 256 ^ 3 = v at *
            have HP := Lib.hid (HS.out.put0 q v (v : Int) hqz rfl)
            clear h4 hdv HLT
            go_wp2_with fail
            go_still_tail 13, (by kernel_rfl)
            change wpList _ _ _ _ _ wr.drew
            go_wp2_with fail
            go_roundw
            case rel => exact ⟨k + 1, _, by omega, by go_num, HP.out.drewN 1, HST.out, (HB.out.setCell (p := ⟨w2.heap.size, q, none⟩) (Nat.le_refl _) _).drew⟩
            case measure => simp [intOf]; omega
        · have : k = bs.length := by omega
          subst this
          have hzs := HD.out zs hRel
          have hOw : Own w2.heap.size wr (.slice (some ⟨w2.heap.size, 0, none⟩) D D) zs := Own.of_seg hS hRel.2.1 (by rw [hRel.1]; exact HDD.out) (Nat.le_refl _) rfl (by omega)
          rw [hzs] at hOw
          have HO := Lib.hid hOw
          have HB := Lib.hid hB
          clear hOw hzs hRel hS hB
          go_wp2_with fail
          go_ret
          rw [HP.out]
          exact ⟨_, rfl, HO.out.num, HRd.out.below HB.out, grown_then HG.out (grown_of_below HB.out)⟩
end
end Go.Proofs.Ytkdnmmbnljaahaa

/- The contract of the program's Reader: Nat. -/
import Derived.StillTailTactics
import Derived.Test.YtkdnmmbnljaahaaRdb
import Derived.Test.YtkdnmmbnljaahaaCdq
import Derived.Test.YtkdnmmbnljaahaaRefs
import Derived.Test.YtkdnmmbnljaahaaRatF
import Derived.Test.YtkdnmmbnljaahaaRefI
namespace Go.Proofs.Ytkdnmmbnljaahaa
open Go.RowKit Dig
set_option linter.unusedVariables false

/-- A reader's method that hands back a number. -/
def RRN (T : TypeId) (g : Nat) (w : World) (p : Nat × RS) (e : Ending) (w' : World) : Prop := ∃ r, e = .returned r ∧ Num w' r (dg p.1) ∧ Rdr T w' g p.2 ∧ w.grownBy w' (some g)
section
variable {w : World} {g : Nat} {s : RS}
set_option maxRecDepth 20000 in
set_option maxHeartbeats 8000000 in
theorem nat_c (h : Rdr 66 w g s) (hz : s.1.length ≤ 1000000) :
    Calls Try.prog 26 #[.pointer (some ⟨g, 0, none⟩)] w (RRN 66 g w (natS s)) := by
  have BB := Lib.hid (bytes_c h (by omega) 8192 (by omega) (by omega))
  rw [show (8192 : Int).toNat = 8192 from rfl] at BB
  have hlen := (bytesS_len 8192 s).2
  have herr := Lib.hid (fun h => bytesS_err (max := 8192) (s := s) h)
  have HN := Lib.hid (show natS s = if (bytesS 8192 s).1.head? = some 0 then (0, ([], 2)) else (beV (bytesS 8192 s).1, (bytesS 8192 s).2) from rfl)
  have hok := h.ok
  clear h
  go_enter Try.func26, Try.ntmps26
  go_wp2_with fail
  refine (BB.out).mono ?_
  rintro x w2 ⟨r, rfl, hr, hR, hG⟩
  have HE := Lib.hid hok
  clear BB hok
  generalize (bytesS 8192 s).1 = bs at *
  generalize (bytesS 8192 s).2 = s1 at *
  obtain ⟨A, c, rfl⟩ := hr.form
  have hbd := hr.bounds.2
  rcases Nat.eq_zero_or_pos bs.length with h0 | h0
  · have : bs = [] := List.eq_nil_of_length_eq_zero h0
    subst this
    have HP := Lib.hid (show natS s = (0, s1) from HN.out)
    clear h0 hlen HN
    go_wp2_with fail
    go_ret
    rw [HP.out]
    exact ⟨_, rfl, Num.nil _, hR, hG⟩
  · have hne : bs ≠ [] := fun e => by rw [e] at h0; simp at h0
    have hs0 : s1.2 = 0 := by
      by_cases e : s1.2 = 0
      · exact e
      · exact absurd (herr.out e) hne
    obtain ⟨b, off, rfl, hbb, hall⟩ := hr.cells h0
    have hc0 := hall 0 h0
    rw [Nat.add_zero] at hc0
    have h0i : ((bs.length : Int) == 0) = false := by rw [beq_eq_false_iff_ne]; omega
    have h0p : (0 : Int) < bs.length := by omega
    have hli : (bs.length : Int) ≤ 1000000 := by omega
    by_cases hlead : bs.head? = some 0
    · have hz : ((bs.getD 0 0).toNat : Int) = 0 := by
        cases bs with
        | nil => exact absurd rfl hne
        | cons a l =>
          have : a = 0 := by simpa using hlead
          rw [this]; rfl
      rw [hz] at hc0
      have FF := Lib.hid (fail_c hR 2 (by omega))
      rw [failS_of hs0] at FF
      have HP := Lib.hid (HN.out.trans (if_pos hlead))
      clear HN hz hall hlead hs0 hlen h0
      go_wp2_with fail
      refine (FF.out).mono ?_
      rintro x w3 ⟨rfl, hR3, hG3⟩
      go_wp2_with fail
      go_ret
      rw [HP.out]
      exact ⟨_, rfl, Num.nil _, hR3, grown_then hG hG3⟩
    · have hnz : (((bs.getD 0 0).toNat : Int) == 0) = false := by
        rw [beq_eq_false_iff_ne]
        intro e
        apply hlead
        cases bs with
        | nil => exact absurd rfl hne
        | cons a l =>
          have : a.toNat = 0 := by simpa using e
          simp
          exact UInt8.toNat.inj this
      generalize ((bs.getD 0 0).toNat : Int) = z0 at hc0 hnz
      have HP := Lib.hid (HN.out.trans (if_neg hlead))
      clear HN
      have HD := Lib.hid (fun zs (hr : BeRel bs zs bs.length) => hr.done hne hlead)
      have HR := Lib.hid hr
      have HRd := Lib.hid hR
      have HG := Lib.hid hG
      have hdiv : ((bs.length : Int) + 3) / 4 = (((bs.length + 3) / 4 : Nat) : Int) := by omega
      have hDz : (bs.length + 3) / 4 ≤ 1000000 := by omega
      have hstart := BeRel.start bs
      obtain ⟨D, hD⟩ : ∃ D, (bs.length + 3) / 4 = D := ⟨_, rfl⟩
      rw [hD] at hdiv hDz hstart
      have hDi : (D : Int) ≤ 1000000 := by omega
      have HDD := Lib.hid hD
      clear hall hlead hs0 hlen h0 hr hR hG hD
      go_wp2_with (at_make; refine wp_make rfl _ _ rfl _ _ D rfl rfl (by omega) (by omega) (by omega) ?_; intro w3 hS3 hB3)
      clear hdiv hc0 hnz
      go_loopw [26] (fun j wr => ∃ (k : Nat) (zs : List Nat), k ≤ bs.length ∧ j = .int .i64 k ∧ Seg wr w2.heap.size [] zs [] ∧ BeRel bs zs k ∧ Below w2.heap.size w2 wr) (fun j _ => bs.length - (intOf j).toNat)
      case atStart => exact ⟨0, _, Nat.zero_le _, rfl, hS3, hstart, hB3⟩
      case round =>
        obtain ⟨k, zs, hk, rfl, hS, hRel, hB⟩ := hrel
        by_cases hlt : k < bs.length
        · obtain ⟨p, hp⟩ : ∃ p, bs.length = p + 1 + k := ⟨bs.length - 1 - k, by omega⟩
          obtain ⟨b', off', e', _, hall⟩ := (HR.out.below hB).cells (by omega)
          cases e'
          have hcx := hall k hlt
          have hxb := oct_lt (bs.getD k 0)
          obtain ⟨x, hx⟩ : ∃ x, (bs.getD k 0).toNat = x := ⟨_, rfl⟩
          rw [hx] at hcx hxb
          have hqz : p / 4 < zs.length := by rw [hRel.1]; omega
          have hcd := hS.cell0 hqz
          have hfd := hS.frozen (p / 4)
          obtain ⟨d, hd⟩ : ∃ d, zs.getD (p / 4) 0 = d := ⟨_, rfl⟩
          rw [hd] at hcd
          have hdv := hRel.digit hp
          rw [hd] at hdv
          obtain ⟨HLT, hst⟩ := hRel.step hp hx hd
          have HST := Lib.hid hst
          have HS := Lib.hid hS
          have HB := Lib.hid hB
          have hr4 : p % 4 = 0 ∨ p % 4 = 1 ∨ p % 4 = 2 ∨ p % 4 = 3 := by omega
          have hpl : (bs.length : Int) - 1 - (k : Int) = (p : Int) := by omega
          have hqi : (p : Int) / 4 = ((p / 4 : Nat) : Int) := by omega
          have hki : (k : Int) < bs.length := by omega
          have hzl : zs.length = D := by rw [hRel.1]; exact HDD.out
          generalize hqq : p / 4 = q at *
          have hqD : (q : Int) < D := by omega
          have hp0 : (0 : Int) ≤ p := by omega
          have hqw : IntKind.i64.wrap (q : Int) = (q : Int) := by rw [IntKind.wrap_i64]; omega
          clear hall hst hS hB hRel hd hx hp hqq hlt
          rcases hr4 with h4 | h4 | h4 | h4
          · have hri : (p : Int) % 4 = 0 := by omega
            have hrt : (p : Int).tmod 4 = 0 := by rw [Int.tmod_eq_emod_of_nonneg hp0]; exact hri
            have hx32 : IntKind.u32.wrap (x : Int) = x := by rw [IntKind.wrap_u32]; omega
            have hw8 : IntKind.i64.wrap 0 = 0 := by decide
            rw [h4] at hdv HST HLT
            have hor := or_byte d x 0 hxb hdv HLT
            rw [show ((x * 256 ^ 0 : Nat) : Int) = (x : Int) by simp] at hor
            generalize d + x * 256 ^ 0 = v at *
            have HP := Lib.hid (HS.out.put0 q v (v : Int) hqz rfl)
            clear h4 hdv HLT
            go_wp2_with fail
            go_still_tail 13, (by kernel_rfl)
            change wpList _ _ _ _ _ wr.drew
            go_wp2_with fail
            go_roundw
            case rel => exact ⟨k + 1, _, by omega, by go_num, HP.out.drewN 1, HST.out, (HB.out.setCell (p := ⟨w2.heap.size, q, none⟩) (Nat.le_refl _) _).drew⟩
            case measure => simp [intOf]; omega
          · have hri : (p : Int) % 4 = 1 := by omega
            have hrt : (p : Int).tmod 4 = 1 := by rw [Int.tmod_eq_emod_of_nonneg hp0]; exact hri
            have hx32 : IntKind.u32.wrap (x : Int) = x := by rw [IntKind.wrap_u32]; omega
            have hw8 : IntKind.i64.wrap 8 = 8 := by decide
            rw [h4] at hdv HST HLT
            have hor := or_byte d x 1 hxb hdv HLT
            rw [show ((x * 256 ^ 1 : Nat) : Int) = (x : Int) * 256 by simp] at hor
            generalize d + x * 256 ^ 1 = v at *
            have HP := Lib.hid (HS.out.put0 q v (v : Int) hqz rfl)
            clear h4 hdv HLT
            go_wp2_with fail
            go_still_tail 13, (by kernel_rfl)
            change wpList _ _ _ _ _ wr.drew
            go_wp2_with fail
            go_roundw
            case rel => exact ⟨k + 1, _, by omega, by go_num, HP.out.drewN 1, HST.out, (HB.out.setCell (p := ⟨w2.heap.size, q, none⟩) (Nat.le_refl _) _).drew⟩
            case measure => simp [intOf]; omega
          · have hri : (p : Int) % 4 = 2 := by omega
            have hrt : (p : Int).tmod 4 = 2 := by rw [Int.tmod_eq_emod_of_nonneg hp0]; exact hri
            have hx32 : IntKind.u32.wrap (x : Int) = x := by rw [IntKind.wrap_u32]; omega
            have hw8 : IntKind.i64.wrap 16 = 16 := by decide
            rw [h4] at hdv HST HLT
            have hor := or_byte d x 2 hxb hdv HLT
            rw [show ((x * 256 ^ 2 : Nat) : Int) = (x : Int) * 65536 by simp] at hor
            generalize d + x * 256 ^ 2 = v at *
            have HP := Lib.hid (HS.out.put0 q v (v : Int) hqz rfl)
            clear h4 hdv HLT
            go_wp2_with fail
            go_still_tail 13, (by kernel_rfl)
            change wpList _ _ _ _ _ wr.drew
            go_wp2_with fail
            go_roundw
            case rel => exact ⟨k + 1, _, by omega, by go_num, HP.out.drewN 1, HST.out, (HB.out.setCell (p := ⟨w2.heap.size, q, none⟩) (Nat.le_refl _) _).drew⟩
            case measure => simp [intOf]; omega
          · have hri : (p : Int) % 4 = 3 := by omega
            have hrt : (p : Int).tmod 4 = 3 := by rw [Int.tmod_eq_emod_of_nonneg hp0]; exact hri
            have hx32 : IntKind.u32.wrap (x : Int) = x := by rw [IntKind.wrap_u32]; omega
            have hw8 : IntKind.i64.wrap 24 = 24 := by decide
            rw [h4] at hdv HST HLT
            have hor := or_byte d x 3 hxb hdv HLT
            rw [show ((x * 256 ^ 3 : Nat) : Int) = (x : Int) * 16777216 by simp] at hor
            generalize d + x * 256 ^ 3 = v at *
            have HP := Lib.hid (HS.out.put0 q v (v : Int) hqz rfl)
            clear h4 hdv HLT
            go_wp2_with fail
            go_still_tail 13, (by kernel_rfl)
            change wpList _ _ _ _ _ wr.drew
            go_wp2_with fail
            go_roundw
            case rel => exact ⟨k + 1, _, by omega, by go_num, HP.out.drewN 1, HST.out, (HB.out.setCell (p := ⟨w2.heap.size, q, none⟩) (Nat.le_refl _) _).drew⟩
            case measure => simp [intOf]; omega
        · have : k = bs.length := by omega
          subst this
          have hzs := HD.out zs hRel
          have hOw : Own w2.heap.size wr (.slice (some ⟨w2.heap.size, 0, none⟩) D D) zs := Own.of_seg hS hRel.2.1 (by rw [hRel.1]; exact HDD.out) (Nat.le_refl _) rfl (by omega)
          rw [hzs] at hOw
          have HO := Lib.hid hOw
          have HB := Lib.hid hB
          clear hOw hzs hRel hS hB
          go_wp2_with fail
          go_ret
          rw [HP.out]
          exact ⟨_, rfl, HO.out.num, HRd.out.below HB.out, grown_then HG.out (grown_of_below HB.out)⟩
end
end Go.Proofs.Ytkdnmmbnljaahaa

/- A reader beside fractions in memory; what a reader hands back as a fraction. -/
namespace Go.Proofs.Ytkdnmmbnljaahaa
open Go.RowKit Dig
set_option linter.unusedVariables false

/-- Is this the canonical form? -/
def canonN (neg : Bool) (n d : Nat) : Bool := canon neg (dg n) (dg d)
/-- A fraction that was read, or the zero value. -/
def FxO (w : World) (v : Value) : Option (Bool × Nat × Nat) → Prop
  | none => Fx w v false [] []
  | some (b, n, d) => Fx w v b (dg n) (dg d)
/-- A reader's method that hands back a fraction. -/
def RRF (T : TypeId) (g : Nat) (w : World) (p : Option (Bool × Nat × Nat) × RS) (e : Ending) (w' : World) : Prop := ∃ r, e = .returned r ∧ FxO w' r p.1 ∧ Rdr T w' g p.2 ∧ w.grownBy w' (some g)
section
variable {w w' W W2 : World} {g g' gR ga i : Nat} {v u : Value} {ts : List UInt8} {xs : List Nat} {p b : Bool} {A A' : Option Addr} {m m' e e' : Nat} {T : TypeId} {s s2 : RS}
theorem Byt.keepF (h : Byt w v ts) (hF : Fcl w g p (.slice A m e) (.slice A' m' e')) (hs : w.heap.size ≤ w'.heap.size) (hk : ∀ j, j ≠ g → w'.heap[j]? = w.heap[j]?) : Byt w' v ts := by
  obtain ⟨B, c, h1, h2, h3, h5⟩ := h
  refine ⟨B, c, h1, h2, h3, fun hp => ?_⟩
  obtain ⟨b, off, e1, hb, hc⟩ := h5 hp
  have hne : b ≠ g := by
    rintro rfl
    have h0 := hc 0 hp
    unfold Fcl at hF
    rw [cell_of_row w b _ _ _ (0, 0) hF] at h0
    rcases hoff : off + 0 with _ | _ | _ | q <;> rw [hoff] at h0 <;> simp at h0
  refine ⟨b, off, e1, by omega, fun j hj => ?_⟩
  rw [← hc j hj]
  simp only [World.cell?, hk b hne]
theorem Rdr.keepF (h : Rdr T w g' s) (hF : Fcl w g p (.slice A m e) (.slice A' m' e')) (hs : w.heap.size ≤ w'.heap.size) (hk : ∀ j, j ≠ g → w'.heap[j]? = w.heap[j]?) : Rdr T w' g' s := by
  obtain ⟨⟨B, n, c, h1, h2⟩, h3⟩ := h
  have hne : g' ≠ g := by
    rintro rfl
    unfold Fcl at hF
    rw [h1] at hF
    have := congrArg (fun o => match o with | some (Obj.cells cs _ _) => cs.size | _ => 0) hF
    simp at this
  exact ⟨⟨B, n, c, by rw [hk g' hne]; exact h1, h2.keepF hF hs hk⟩, h3⟩
theorem set_heap (w : World) (g i : Nat) (u : Value) : ∀ j, j ≠ g → (w.setCell ⟨g, i, none⟩ u).heap[j]? = w.heap[j]? := fun j hj => Below.heap_setCell w ⟨g, i, none⟩ u j hj
theorem set_size (w : World) (g i : Nat) (u : Value) : (w.setCell ⟨g, i, none⟩ u).heap.size = w.heap.size := by simp [World.setCell]
theorem Fcl.put1 {x y : Value} (hF : Fcl w g p x y) (u : Value) : Fcl (w.setCell ⟨g, 1, none⟩ u) g p u y := by
  unfold Fcl at hF ⊢
  simp [World.setCell, Array.getElem?_modify, hF]
theorem Fcl.put2 {x y : Value} (hF : Fcl w g p x y) (u : Value) : Fcl (w.setCell ⟨g, 2, none⟩ u) g p x u := by
  unfold Fcl at hF ⊢
  simp [World.setCell, Array.getElem?_modify, hF]
theorem grown_new {row : Option Nat} (h : w.grownBy w' row) (hg : w.heap.size ≤ ga) (i : Nat) (u : Value) : w.grownBy (w'.setCell ⟨ga, i, none⟩ u) row :=
  ⟨h.os, h.tape, h.output, by rw [set_size]; exact h.size, fun k hk hne => (set_heap w' ga i u k (by omega)).trans (h.block k hk hne)⟩
theorem grown_stor3 {row : Option Nat} (h : w.grownBy w' row) (hg : w.heap.size ≤ ga) (a b c : Value) : w.grownBy (stor3 w' ga a b c) row := grown_new (grown_new (grown_new h hg 0 a) hg 1 b) hg 2 c
theorem Fcl.grow1 {x y : Value} {o : Option Nat} (h : Fcl w g b x y) (hg : w.grownBy w' o) (hne : o ≠ Option.some g) : Fcl w' g b x y := h.of_block (hg.block g h.lt (Ne.symm hne))
/-- The state of a reading function: the reader, the result's block, nothing else turned. -/
def FSt (T : TypeId) (w : World) (g gR : Nat) (s : RS) (W : World) : Prop := Rdr T W g s ∧ Fcl W gR false (.slice none 0 0) (.slice none 0 0) ∧ w.grownBy W (some g) ∧ g < gR ∧ w.heap.size ≤ gR
theorem FSt.call (h : FSt T w g gR s W) (hR : Rdr T W2 g s2) (hG : W.grownBy W2 (some g)) : FSt T w g gR s2 W2 :=
  ⟨hR, h.2.1.grow1 hG (by have := h.2.2.2.1; simp; omega), grown_then h.2.2.1 hG, h.2.2.2⟩
theorem FSt.below (h : FSt T w g gR s W) (hB : Below W.heap.size W W2) : FSt T w g gR s W2 :=
  ⟨h.1.below hB, h.2.1.below hB, grown_then h.2.2.1 (grown_of_below hB), h.2.2.2⟩
theorem FSt.set (h : FSt T w g gR s W) (hF : Fcl W ga p (.slice A m e) (.slice A' m' e')) (hne : gR ≠ ga) (hg : w.heap.size ≤ ga) (i : Nat) (u : Value) : FSt T w g gR s (W.setCell ⟨ga, i, none⟩ u) :=
  ⟨h.1.keepF hF (by rw [set_size]; exact Nat.le_refl _) (set_heap W ga i u), h.2.1.of_block (set_heap W ga i u gR hne), grown_new h.2.2.1 hg i u, h.2.2.2⟩
theorem FSt.new (h : Rdr T w g s) : FSt T w g w.heap.size s (w.alloc (.cells #[.bool false, .slice none 0 0, .slice none 0 0] 28)) :=
  have hB : Below w.heap.size w (w.alloc (.cells #[.bool false, .slice none 0 0, .slice none 0 0] 28)) := (Below.refl _ _).alloc (Nat.le_refl _) _
  ⟨h.below hB, Fcl.new w _ _ _, grown_of_below hB, h.lt, Nat.le_refl _⟩
/-- The zero value is handed back. -/
theorem FSt.zero (h : FSt T w g gR s W) : RRF T g w (none, s) (.returned (.agg #[.bool false, .slice none 0 0, .slice none 0 0])) (stor3 W gR (.bool false) (.slice none 0 0) (.slice none 0 0)) :=
  ⟨_, rfl, Fx.zero _, h.1.keepF h.2.1 (by rw [put3_size]; exact Nat.le_refl _) (put3_heap W gR _ _ _), grown_stor3 h.2.2.1 h.2.2.2.2 _ _ _⟩
/-- A fraction is handed back. -/
theorem FSt.some {n d : Nat} (h : FSt T w g gR s W) (hx : Num W (.slice A m e) (dg n)) (hy : Num W (.slice A' m' e') (dg d)) : RRF T g w (some (b, n, d), s) (.returned (.agg #[.bool b, .slice A m e, .slice A' m' e'])) (stor3 W gR (.bool b) (.slice A m e) (.slice A' m' e')) :=
  ⟨_, rfl, ⟨_, _, rfl, hx.keepBut h.2.1 (by rw [put3_size]; exact Nat.le_refl _) (put3_heap W gR _ _ _), hy.keepBut h.2.1 (by rw [put3_size]; exact Nat.le_refl _) (put3_heap W gR _ _ _)⟩, h.1.keepF h.2.1 (by rw [put3_size]; exact Nat.le_refl _) (put3_heap W gR _ _ _), grown_stor3 h.2.2.1 h.2.2.2.2 _ _ _⟩
end
end Go.Proofs.Ytkdnmmbnljaahaa

/- The contract of the program's Reader: Frac. -/
namespace Go.Proofs.Ytkdnmmbnljaahaa
open Go.RowKit Dig
set_option linter.unusedVariables false

section
variable {w : World} {g : Nat} {s : RS}
/-- What a reading of a fraction comes to. -/
theorem restS_good {neg : Bool} {s1 s2 s3 : RS} {n d : Nat} (e1 : natS s1 = (n, s2)) (e2 : natS s2 = (d, s3)) (h0 : s3.2 = 0) (hk : canon neg (dg n) (dg d) = true) : restS canonN neg s1 = (some (neg, n, d), s3) := by
  unfold restS
  rw [e1, e2, if_pos h0]
  exact if_pos hk
theorem restS_bad {neg : Bool} {s1 s2 s3 : RS} {n d : Nat} (e1 : natS s1 = (n, s2)) (e2 : natS s2 = (d, s3)) (h0 : s3.2 = 0) (hk : canon neg (dg n) (dg d) = false) : restS canonN neg s1 = (none, ([], 2)) := by
  unfold restS
  rw [e1, e2, if_pos h0]
  exact if_neg (by show ¬ canonN neg n d = true; unfold canonN; rw [hk]; exact Bool.false_ne_true)
theorem restS_err {neg : Bool} {s1 s2 s3 : RS} {n d : Nat} (e1 : natS s1 = (n, s2)) (e2 : natS s2 = (d, s3)) (h0 : s3.2 ≠ 0) : restS canonN neg s1 = (none, s3) := by
  unfold restS
  rw [e1, e2]
  exact if_neg h0
set_option maxRecDepth 20000 in
set_option maxHeartbeats 8000000 in
theorem frac_c (h : Rdr 66 w g s) (hz : s.1.length ≤ 1000000) :
    Calls Try.prog 27 #[.pointer (some ⟨g, 0, none⟩)] w (RRF 66 g w (fracS canonN s)) := by
  have S0 := FSt.new h
  have RW := Lib.hid (raw_c S0.1 (by omega) 1 (by omega) (by omega))
  rw [show (1 : Int).toNat = 1 from rfl] at RW
  have hl := (rawS_len 1 s).1
  have herr := Lib.hid (fun h => rawS_err (n := 1) (s := s) h)
  have HN := Lib.hid (show fracS canonN s = match (rawS 1 s).1 with | [] => (none, (rawS 1 s).2) | c :: _ => if 1 < c.toNat then (none, ([], 2)) else restS canonN (c.toNat == 1) (rawS 1 s).2 from rfl)
  have HS0 := Lib.hid S0
  have hlt := h.lt
  clear S0 h
  go_enter Try.func27, Try.ntmps27
  go_wp2_with fail
  refine (RW.out).mono ?_
  rintro x w1 ⟨r, rfl, hr, hR, hG⟩
  have S1 := HS0.out.call hR hG
  clear RW hR hG
  generalize (rawS 1 s).1 = bs at *
  generalize (rawS 1 s).2 = s1 at *
  obtain ⟨A, c, rfl⟩ := hr.form
  have hbd := hr.bounds.2
  obtain ⟨q0, q1, q2⟩ := S1.2.1.cells
  obtain ⟨z0, z1, z2⟩ := S1.2.1.frozen
  cases bs with
  | nil =>
    have HP := Lib.hid (show fracS canonN s = (none, s1) from HN.out)
    have HS1 := Lib.hid S1
    clear HN S1 hr
    go_wp2_with fail
    refine bodyPost_ret (v := .agg #[.bool false, .slice none 0 0, .slice none 0 0]) (by rw [results_one rfl]; go_simp) rfl ?_
    rw [HP.out]
    exact HS1.out.zero
  | cons a l =>
    have hs0 : s1.2 = 0 := by
      by_cases e : s1.2 = 0
      · exact e
      · exact absurd (herr.out e) (by simp)
    obtain ⟨b, off, rfl, _, hall⟩ := hr.cells (by simp)
    have hcz := hall 0 (by simp)
    rw [Nat.add_zero] at hcz
    have hc0 : w1.cell? ⟨b, off, none⟩ = some (.int .u8 (a.toNat : Int)) := hcz
    clear hcz
    have HN := Lib.hid (show fracS canonN s = if 1 < a.toNat then (none, ([], 2)) else restS canonN (a.toNat == 1) s1 from HN.out)
    rw [List.length_cons] at *
    have hll : (((l.length + 1 : Nat) : Int) == 0) = false := by rw [beq_eq_false_iff_ne]; omega
    have hlp : (0 : Int) < ((l.length + 1 : Nat) : Int) := by omega
    generalize l.length + 1 = L at *
    clear hall herr
    by_cases ha : 1 < a.toNat
    · have HP := Lib.hid (HN.out.trans (if_pos ha))
      have FF := Lib.hid (fail_c S1.1 2 (by omega))
      rw [failS_of hs0] at FF
      have hai : (1 : Int) < (a.toNat : Int) := by omega
      generalize (a.toNat : Int) = z at *
      have HS1 := Lib.hid S1
      clear HN S1 ha hr hs0
      go_wp2_with fail
      refine (FF.out).mono ?_
      rintro x w2 ⟨rfl, hR2, hG2⟩
      have S2 := HS1.out.call hR2 hG2
      have HS2 := Lib.hid S2
      clear q0 q1 q2 z0 z1 z2 hc0
      obtain ⟨q0, q1, q2⟩ := S2.2.1.cells
      obtain ⟨z0, z1, z2⟩ := S2.2.1.frozen
      clear S2
      go_wp2_with fail
      refine bodyPost_ret (v := .agg #[.bool false, .slice none 0 0, .slice none 0 0]) (by rw [results_one rfl]; go_simp) rfl ?_
      rw [HP.out]
      exact HS2.out.zero
    · have HP := Lib.hid (HN.out.trans (if_neg ha))
      have hai : ¬ (1 : Int) < (a.toNat : Int) := by omega
      obtain ⟨neg, hneg⟩ : ∃ neg, (a.toNat == 1) = neg := ⟨_, rfl⟩
      have hni : ((a.toNat : Int) == 1) = neg := by
        rw [← hneg]
        by_cases e : a.toNat = 1
        · rw [e]; rfl
        · rw [show (a.toNat == 1) = false by simpa using e, beq_eq_false_iff_ne]; omega
      rw [hneg] at HP
      generalize (a.toNat : Int) = z at *
      have hBa : Below w1.heap.size w1 (w1.alloc (.cells #[.bool neg, .slice none 0 0, .slice none 0 0] 28)) := (Below.refl _ _).alloc (Nat.le_refl _) _
      have S2 := Lib.hid (S1.below hBa)
      have F2 := Lib.hid (Fcl.new w1 neg (.slice none 0 0) (.slice none 0 0))
      have l1 := natS_len s1
      have l2 := natS_len (natS s1).2
      have hgR := S1.2.1.lt
      have hgw := S1.2.2.1.size
      have hgl := S1.1.lt
      clear HN S1 ha hr hneg hBa
      go_wp2_with fail
      generalize w1.alloc (.cells #[.bool neg, .slice none 0 0, .slice none 0 0] 28) = w2 at *
      generalize hga : w1.heap.size = ga at *
      have hwga : w.heap.size < ga := by have := HS0.out.2.1.lt; omega
      refine (nat_c S2.out.1 (by omega)).mono ?_
      rintro x w3 ⟨rx, rfl, hx, hR3, hG3⟩
      have e1 : natS s1 = ((natS s1).1, (natS s1).2) := rfl
      have e2 : natS (natS s1).2 = ((natS (natS s1).2).1, (natS (natS s1).2).2) := rfl
      have hz2 : (natS s1).2.1.length ≤ 1000000 := by omega
      have hln := Lib.hid (dg_length_le _ 2048 (natS_lt s1 2048 (by omega)))
      have hld := Lib.hid (dg_length_le _ 2048 (natS_lt (natS s1).2 2048 (by omega)))
      generalize (natS s1).1 = n at *
      generalize (natS s1).2 = s2 at *
      generalize (natS s2).1 = d at *
      have HLn := hln
      have HLd := hld
      clear hln hld
      have S3 := S2.out.call hR3 hG3
      have F3 := F2.out.grow1 hG3 (by simp; omega)
      obtain ⟨X, xc, rfl⟩ := hx.form
      generalize (dg n).length = xn at hx F3 ⊢
      clear q0 q1 q2 z0 z1 z2 hc0
      obtain ⟨k0, k1, k2⟩ := F3.cells
      obtain ⟨f0, f1, f2⟩ := F3.frozen
      have S4 := Lib.hid (S3.set F3 (by omega) (by omega) 1 (.slice X xn xc))
      have F4 := Lib.hid (F3.put1 (.slice X xn xc))
      have hx4 := Lib.hid (hx.keepBut (w' := w3.setCell ⟨ga, 1, none⟩ (.slice X xn xc)) F3 (by rw [set_size]; exact Nat.le_refl _) (set_heap _ _ _ _))
      clear S3 F3 hx
      go_wp2_with fail
      generalize w3.setCell ⟨ga, 1, none⟩ (.slice X xn xc) = w4 at *
      refine (nat_c S4.out.1 hz2).mono ?_
      rintro x w5 ⟨ry, rfl, hy, hR5, hG5⟩
      have S5 := S4.out.call hR5 hG5
      have F5 := F4.out.grow1 hG5 (by simp; omega)
      have hx5 := hx4.out.beside S4.out.1 hG5
      rw [e2] at S5 hy
      have S5 : FSt _ w g w.heap.size (natS s2).2 w5 := S5
      have hy : Num w5 ry (dg d) := hy
      generalize (natS s2).2 = s3 at *
      obtain ⟨Y, yc, rfl⟩ := hy.form
      generalize (dg d).length = yn at hy F5 ⊢
      clear k0 k1 k2 f0 f1 f2
      obtain ⟨k0, k1, k2⟩ := F5.cells
      obtain ⟨f0, f1, f2⟩ := F5.frozen
      have S6 := S5.set F5 (by omega) (by omega) 2 (.slice Y yn yc)
      have F6 := F5.put2 (.slice Y yn yc)
      have hx6 := hx5.keepBut (w' := w5.setCell ⟨ga, 2, none⟩ (.slice Y yn yc)) F5 (by rw [set_size]; exact Nat.le_refl _) (set_heap _ _ _ _)
      have hy6 := hy.keepBut (w' := w5.setCell ⟨ga, 2, none⟩ (.slice Y yn yc)) F5 (by rw [set_size]; exact Nat.le_refl _) (set_heap _ _ _ _)
      clear F5 hx5 hy S5
      have HS6 := Lib.hid S6
      have HF6 := Lib.hid F6
      have hX6 := Lib.hid hx6
      have hY6 := Lib.hid hy6
      obtain ⟨⟨⟨RA, rn, rc, rh, rb⟩, rok⟩, _⟩ := S6
      have re := (row2_cells rh).2
      obtain ⟨j0, j1, j2⟩ := F6.cells
      clear rh rb rok F6 hx6 hy6 hl l1 l2 hz2 hG3 hR3 hG5 hR5
      by_cases hs : s3.2 = 0
      · have hez : (s3.2 == 0) = true := by rw [hs]; rfl
        have hnz : (s3.2 != 0) = false := by rw [hs]; rfl
        have HC := isCanon_v (w5.setCell ⟨ga, 2, none⟩ (.slice Y yn yc)) neg _ _ (dg n) (dg d) hX6.out hY6.out (by have := HLn.out; omega) (by have := HLd.out; omega)
        cases hk : canon neg (dg n) (dg d) with
        | true =>
          have HE := Lib.hid (restS_good e1 e2 hs hk)
          rw [hk] at HC
          have HC := Lib.hid HC
          clear hs hk e1 e2
          go_wp2_with fail
          refine (HC.out).mono ?_
          rintro x w7 ⟨rfl, hB7⟩
          have S7 := HS6.out.below hB7
          have F7 := HF6.out.below hB7
          have hx7 := hX6.out.below hB7
          have hy7 := hY6.out.below hB7
          clear k0 k1 k2 f0 f1 f2 j0 j1 j2 re
          have HS7 := Lib.hid S7
          obtain ⟨q0, q1, q2⟩ := S7.2.1.cells
          obtain ⟨z0, z1, z2⟩ := S7.2.1.frozen
          obtain ⟨j0, j1, j2⟩ := F7.cells
          obtain ⟨⟨⟨RA, rn, rc, rh, rb⟩, rok⟩, _⟩ := S7
          have re := (row2_cells rh).2
          clear rh rb rok F7
          go_wp2_with fail
          refine bodyPost_ret (v := .agg #[.bool neg, .slice X xn xc, .slice Y yn yc]) (by rw [results_one rfl]; go_simp) rfl ?_
          rw [HP.out, HE.out]
          exact HS7.out.some hx7 hy7
        | false =>
          have HE := Lib.hid (restS_bad e1 e2 hs hk)
          rw [hk] at HC
          have HC := Lib.hid HC
          have HH := Lib.hid hs
          clear hs hk e1 e2
          go_wp2_with fail
          refine (HC.out).mono ?_
          rintro x w7 ⟨rfl, hB7⟩
          have S7 := HS6.out.below hB7
          have FF := Lib.hid (fail_c S7.1 2 (by omega))
          rw [failS_of HH.out] at FF
          have HS7 := Lib.hid S7
          clear S7 k0 k1 k2 f0 f1 f2 j0 j1 j2 re
          go_wp2_with fail
          refine (FF.out).mono ?_
          rintro x w8 ⟨rfl, hR8, hG8⟩
          have S8 := HS7.out.call hR8 hG8
          have HS8 := Lib.hid S8
          obtain ⟨q0, q1, q2⟩ := S8.2.1.cells
          obtain ⟨z0, z1, z2⟩ := S8.2.1.frozen
          obtain ⟨⟨⟨RA, rn, rc, rh, rb⟩, rok⟩, _⟩ := S8
          have re := (row2_cells rh).2
          have re : w8.cell? ⟨g, 1, none⟩ = some (.int .i64 2) := re
          clear rh rb rok
          go_wp2_with fail
          refine bodyPost_ret (v := .agg #[.bool false, .slice none 0 0, .slice none 0 0]) (by rw [results_one rfl]; go_simp) rfl ?_
          rw [HP.out, HE.out]
          exact HS8.out.zero
      · have hez : (s3.2 == 0) = false := by rw [beq_eq_false_iff_ne]; exact hs
        have hnz : (s3.2 != 0) = true := by rw [bne_iff_ne]; exact hs
        have HE := Lib.hid (restS_err (neg := neg) e1 e2 hs)
        obtain ⟨q0, q1, q2⟩ := HS6.out.2.1.cells
        obtain ⟨z0, z1, z2⟩ := HS6.out.2.1.frozen
        clear hs e1 e2
        go_wp2_with fail
        refine bodyPost_ret (v := .agg #[.bool false, .slice none 0 0, .slice none 0 0]) (by rw [results_one rfl]; go_simp) rfl ?_
        rw [HP.out, HE.out]
        exact HS6.out.zero
end
end Go.Proofs.Ytkdnmmbnljaahaa

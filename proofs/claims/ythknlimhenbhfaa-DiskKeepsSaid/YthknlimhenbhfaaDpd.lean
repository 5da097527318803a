/- The program's disk: its small methods. -/
import Derived.Lib.BufferMore
import Derived.Test.YthknlimhenbhfaaDpc
namespace Go.Proofs.Ythknlimhenbhfaa
open Go.RowKit Dig
set_option linter.unusedVariables false

theorem lnk_off {s : DS} (hs : s.armed = false) : Lnk s (-1) := ⟨fun h => (by rw [hs] at h; cases h), fun _ => by omega, by omega, by omega⟩
/-- The count behind a call that would otherwise succeed. -/
def nextC (c : Int) : Int := if c = 0 then -1 else if 0 < c then c - 1 else c
theorem fails_lnk {s : DS} {c : Int} (h : Lnk s c) : (failsS s).1 = decide (c = 0) ∧ (!(failsS s).2.off) = (if c = 0 then false else !s.off) ∧ Lnk (failsS s).2 (nextC c) := by
  obtain ⟨h1, h2, h3, h4⟩ := h
  unfold failsS nextC
  by_cases ha : s.armed = false
  · have hc := h2 ha
    rw [if_pos ha, if_neg (by omega), if_neg (by omega), if_neg (by omega)]
    exact ⟨by simp; omega, rfl, h1, h2, h3, h4⟩
  · have ha' : s.armed = true := by simpa using ha
    have hc := h1 ha'
    rw [if_neg ha]
    by_cases hl : 0 < s.left
    · rw [if_pos hl, if_neg (by omega), if_neg (by omega), if_pos (by omega)]
      exact ⟨by simp; omega, rfl, fun _ => by show c - 1 = ((s.left - 1 : Nat) : Int); omega, fun h => absurd h ha, by omega, by omega⟩
    · rw [if_neg hl, if_pos (by omega), if_pos (by omega)]
      exact ⟨by simp; omega, rfl, lnk_off rfl⟩
section
variable {w w' : World} {g bd bv n : Nat} {ve : Value} {on : Bool} {c : Int} {es : List Ent} {L V : List (List UInt8)} {s : DS}
set_option maxHeartbeats 1000000 in
theorem psize_c (h : Mem w g bd bv ve n on c es L V) (hn : n ≤ 8192) : Calls Try.prog 15 #[.pointer (some ⟨g, 0, none⟩)] w (RVal w (.int .i64 (n : Int))) := by
  obtain ⟨-, c1, -, -, -, -⟩ := h.fld.cells
  unfold rowV at c1
  obtain ⟨m, hm⟩ : ∃ m, m = n * 64 := ⟨_, rfl⟩
  rw [← hm] at c1
  have hmi : (m : Int) ≤ 524288 := by omega
  have hd : (m : Int) / 64 = (n : Int) := by omega
  clear h hn hm
  go_enter Try.func15, Try.ntmps15
  go_wp2_with fail
  go_ret
  exact ⟨by first | rfl | (rw [hd]) | (simp [hd]), Below.refl _ _⟩
theorem ponline_c (h : Mem w g bd bv ve n on c es L V) : Calls Try.prog 24 #[.pointer (some ⟨g, 0, none⟩)] w (RVal w (.bool on)) := by
  obtain ⟨-, -, -, -, c7, -⟩ := h.fld.cells
  clear h
  go_enter Try.func24, Try.ntmps24
  go_wp2_with fail
  go_ret
  exact ⟨rfl, Below.refl _ _⟩
theorem ppending_c (h : Mem w g bd bv ve n on c es L V) : Calls Try.prog 22 #[.pointer (some ⟨g, 0, none⟩)] w (RVal w (.int .i64 (es.length : Int))) := by
  obtain ⟨-, -, c2, -, -, -⟩ := h.fld.cells
  clear h
  go_enter Try.func22, Try.ntmps22
  go_wp2_with fail
  go_ret
  exact ⟨rfl, Below.refl _ _⟩
set_option maxHeartbeats 1000000 in
theorem pfailAfter_c (h : Mem w g bd bv ve n on c es L V) (z : Int) (h1 : -9223372036854775808 ≤ z) (h2 : z ≤ 9223372036854775807) : Calls Try.prog 23 #[.pointer (some ⟨g, 0, none⟩), .int .i64 z] w fun e w' => e = .returned (.tuple #[]) ∧ Mem w' g bd bv ve n on z es L V ∧ w.grownBy w' (some g) := by
  have H := Lib.hid h
  obtain ⟨-, -, -, -, -, c8⟩ := h.fld.cells
  have z8 := h.fld.thaw 8
  clear h h1 h2
  go_enter Try.func23, Try.ntmps23
  go_wp2_with fail
  go_end0
  exact ⟨rfl, H.out.fields (H.out.fld.put8 z) (grown_put' _ _ _ _), grown_put' _ _ _ _⟩
set_option maxHeartbeats 1000000 in
theorem ppower_c (h : Mem w g bd bv ve n on c es L V) : Calls Try.prog 21 #[.pointer (some ⟨g, 0, none⟩)] w fun e w' => e = .returned (.tuple #[]) ∧ Mem w' g bd bv ve n true (-1) es L V ∧ w.grownBy w' (some g) := by
  have H := Lib.hid h
  obtain ⟨-, -, -, -, c7, c8⟩ := h.fld.cells
  have z7 := h.fld.thaw 7
  have z8 := h.fld.thaw 8
  clear h
  go_enter Try.func21, Try.ntmps21
  go_wp2_with fail
  go_end0
  exact ⟨rfl, H.out.fields ((H.out.fld.put7 true).put8 (-1)) (grown_set (grown_put' _ _ _ _) _ _), grown_set (grown_put' _ _ _ _) _ _⟩
set_option maxHeartbeats 1000000 in
theorem poff_c (h : Mem w g bd bv ve n on c es L V) : Calls Try.prog 37 #[.pointer (some ⟨g, 0, none⟩)] w fun e w' => e = .returned (.tuple #[]) ∧ Mem w' g bd bv ve n false (-1) es L V ∧ w.grownBy w' (some g) := by
  have H := Lib.hid h
  obtain ⟨-, -, -, -, c7, c8⟩ := h.fld.cells
  have z7 := h.fld.thaw 7
  have z8 := h.fld.thaw 8
  clear h
  go_enter Try.func37, Try.ntmps37
  go_wp2_with fail
  go_end0
  exact ⟨rfl, H.out.fields ((H.out.fld.put7 false).put8 (-1)) (grown_set (grown_put' _ _ _ _) _ _), grown_set (grown_put' _ _ _ _) _ _⟩
set_option maxHeartbeats 2000000 in
theorem pfails_c (h : Mem w g bd bv ve n on c es L V) (h1 : -9223372036854775808 ≤ c) (h2 : c ≤ 9223372036854775807) : Calls Try.prog 34 #[.pointer (some ⟨g, 0, none⟩)] w fun e w' => e = .returned (.bool (decide (c = 0))) ∧ Mem w' g bd bv ve n (if c = 0 then false else on) (nextC c) es L V ∧ w.grownBy w' (some g) := by
  have H := Lib.hid h
  have F := Lib.hid (poff_c h)
  obtain ⟨-, -, -, -, -, c8⟩ := h.fld.cells
  have z8 := h.fld.thaw 8
  unfold nextC
  clear h
  by_cases h0 : c = 0
  · subst h0
    clear h1 h2 z8
    rw [if_pos rfl, if_pos rfl]
    go_enter Try.func34, Try.ntmps34
    go_wp2_with fail
    refine (F.out).mono ?_
    rintro e w1 ⟨rfl, hM, hG⟩
    have HM := Lib.hid hM
    have HG := Lib.hid hG
    clear hM hG c8
    go_wp2_with fail
    go_ret
    exact ⟨rfl, HM.out, HG.out⟩
  · rw [if_neg h0, if_neg h0]
    have hd : decide (c = 0) = false := by simpa using h0
    rw [hd]
    by_cases hp : 0 < c
    · rw [if_pos hp]
      clear F hd
      go_enter Try.func34, Try.ntmps34
      go_wp2_with fail
      go_ret
      exact ⟨rfl, H.out.fields (H.out.fld.put8 (c - 1)) (grown_put' _ _ _ _), grown_put' _ _ _ _⟩
    · rw [if_neg hp]
      clear F hd h1 h2 z8
      go_enter Try.func34, Try.ntmps34
      go_wp2_with fail
      go_ret
      exact ⟨rfl, H.out, World.grownBy.refl _ _⟩
/-- The same by the disk's state. -/
theorem pfails_s (h : Mem w g bd bv ve n (!s.off) c es L V) (hl : Lnk s c) : Calls Try.prog 34 #[.pointer (some ⟨g, 0, none⟩)] w fun e w' => e = .returned (.bool (failsS s).1) ∧ Mem w' g bd bv ve n (!(failsS s).2.off) (nextC c) es L V ∧ w.grownBy w' (some g) := by
  obtain ⟨h1, h2, h3⟩ := fails_lnk hl
  rw [h1, h2]
  exact pfails_c h hl.2.2.1 hl.2.2.2
set_option maxHeartbeats 2000000 in
theorem pcheck_c (h : Mem w g bd bv ve s.dur.length (!s.off) c es L V) (hn : s.dur.length ≤ 8192) (at' : Int) : Calls Try.prog 31 #[.pointer (some ⟨g, 0, none⟩), .int .i64 at'] w (RVal w (.int .i64 (badS s at' 0))) := by
  have F := Lib.hid (psize_c h hn)
  obtain ⟨-, -, -, -, c7, -⟩ := h.fld.cells
  have hni : (s.dur.length : Int) ≤ 8192 := by omega
  unfold badS
  clear h hn
  by_cases ho : s.off = true
  · rw [if_pos ho]
    rw [ho] at c7
    clear ho F hni
    go_enter Try.func31, Try.ntmps31
    go_wp2_with fail
    go_ret
    exact ⟨rfl, Below.refl _ _⟩
  · rw [if_neg ho]
    have ho' : s.off = false := by simpa using ho
    rw [ho'] at c7
    by_cases h0 : at' < 0
    · rw [if_pos (.inl h0)]
      clear ho ho' F hni
      go_enter Try.func31, Try.ntmps31
      go_wp2_with fail
      go_ret
      exact ⟨rfl, Below.refl _ _⟩
    · by_cases h1 : (s.dur.length : Int) ≤ at'
      · rw [if_pos (.inr h1)]
        have h1' : at' ≥ (s.dur.length : Int) := h1
        clear ho ho' h1
        go_enter Try.func31, Try.ntmps31
        go_wp2_with fail
        refine (F.out).mono ?_
        rintro e w1 ⟨rfl, hB⟩
        have HB := Lib.hid hB
        clear hB c7 F
        generalize s.dur.length = n at *
        go_wp2_with fail
        go_ret
        exact ⟨rfl, HB.out⟩
      · rw [if_neg (by omega), if_neg (by omega)]
        have h1' : ¬ at' ≥ (s.dur.length : Int) := h1
        clear ho ho' h1
        go_enter Try.func31, Try.ntmps31
        go_wp2_with fail
        refine (F.out).mono ?_
        rintro e w1 ⟨rfl, hB⟩
        have HB := Lib.hid hB
        clear hB c7 F
        generalize s.dur.length = n at *
        go_wp2_with fail
        go_ret
        exact ⟨rfl, HB.out⟩
set_option maxHeartbeats 1000000 in
theorem psector_c (w : World) (b m c k : Nat) (hk : k * 64 + 64 ≤ m) (hm : m ≤ c) (hc : c ≤ 1000000) : Calls Try.prog 33 #[.slice (some ⟨b, 0, none⟩) m c, .int .i64 (k : Int)] w (RVal w (.slice (some ⟨b, k * 64, none⟩) 64 (c - k * 64))) := by
  have hki : (k : Int) ≤ 1000000 := by omega
  obtain ⟨q, hq⟩ : ∃ q, q = k * 64 := ⟨_, rfl⟩
  have hqi : (k : Int) * 64 = (q : Int) := by omega
  rw [← hq] at hk ⊢
  have hqm : q ≤ m := by omega
  have hq64 : 64 ≤ m - q := by omega
  clear hq
  go_enter Try.func33, Try.ntmps33
  go_wp2_with fail
  go_ret
  exact ⟨rfl, Below.refl _ _⟩
set_option maxHeartbeats 1000000 in
theorem pclone_c (w : World) {b off c : Nat} {ts : List UInt8} (hv : Byt w (.slice (some ⟨b, off, none⟩) 64 c) ts) (hl : ts.length = 64) : Calls Try.prog 32 #[.slice (some ⟨b, off, none⟩) 64 c] w fun e w' => ∃ r, e = .returned r ∧ OwB w.heap.size w' r ts ∧ Below w.heap.size w w' := by
  have HV := Lib.hid hv
  have HL := Lib.hid hl
  have hnil : ∀ W, (binOp .eql 32 (.slice (some ⟨b, off, none⟩) 64 c) (.slice none 0 0)).run Try.prog W = .ok (.bool false) W := fun W => Lib.run_eql_slice_some_nil W _ _ _ Try.underlying32
  clear hv hl
  go_enter Try.func32, Try.ntmps32
  go_wp2_with (first | ((with_reducible refine wp_noneB rfl rfl ?_); intro w4 hS4 hB4; have o4 := Lib.hid hS4; have BN4 := Lib.hid hB4; clear hS4 hB4) | (at_builtin; refine wp_appendB rfl _ _ rfl w.heap.size _ [] rfl o4.out _ ts rfl (HV.out.below BN4.out) (by have := HL.out; simp; omega) BN4.out.size ?_; intro v5 w5 hv5 hg5; have B5 := Lib.hid (below_ownB BN4.out hg5 o4.out (Nat.le_refl _)); have o5 := Lib.hid hv5; clear hv5 hg5))
  go_ret
  rw [List.nil_append] at o5
  exact ⟨_, rfl, o5.out, B5.out⟩
end
end Go.Proofs.Ythknlimhenbhfaa

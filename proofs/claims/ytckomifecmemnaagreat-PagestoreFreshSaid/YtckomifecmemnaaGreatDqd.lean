/- The program's disk: its small methods. -/
import Derived.Test.YtckomifecmemnaaGreatDqc
namespace Go.Proofs.YtckomifecmemnaaGreat
open Go.RowKit Dig
set_option linter.unusedVariables false

section
variable {w w' : World} {g bd bv n : Nat} {F : Nat → Prop} {ve : Value} {t : Tl} {on : Bool} {c : Int} {es : List Ent} {ls : List (Nat × List UInt8)} {L V : List (List UInt8)} {s : DS}
set_option maxHeartbeats 1000000 in
theorem qsize_c (h : MemG w F g bd bv ve t n on c es ls L V) (hn : n ≤ 8192) : Calls Tryz.prog 25 #[.pointer (some ⟨g, 0, none⟩)] w (RVal w (.int .i64 (n : Int))) := by
  obtain ⟨-, c1, -, -, -, -⟩ := h.fld.cells
  unfold rowV at c1
  obtain ⟨m, hm⟩ : ∃ m, m = n * 64 := ⟨_, rfl⟩
  rw [← hm] at c1
  have hmi : (m : Int) ≤ 524288 := by omega
  have hd : (m : Int) / 64 = (n : Int) := by omega
  clear h hn hm
  go_enter Tryz.func25, Tryz.ntmps25
  go_wp2_with fail
  go_ret
  exact ⟨by first | rfl | (rw [hd]) | (simp [hd]), Below.refl _ _⟩
theorem qpending_c (h : MemG w F g bd bv ve t n on c es ls L V) : Calls Tryz.prog 28 #[.pointer (some ⟨g, 0, none⟩)] w (RVal w (.int .i64 ((es.length + ls.length : Nat) : Int))) := by
  obtain ⟨-, -, c2, -, -, -⟩ := h.fld.cells
  clear h
  go_enter Tryz.func28, Tryz.ntmps28
  go_wp2_with fail
  go_ret
  exact ⟨rfl, Below.refl _ _⟩
set_option maxHeartbeats 1000000 in
theorem qoff_c (h : MemG w F g bd bv ve t n on c es ls L V) : Calls Tryz.prog 44 #[.pointer (some ⟨g, 0, none⟩)] w fun e w' => e = .returned (.tuple #[]) ∧ MemG w' F g bd bv ve t n false (-1) es ls L V ∧ w.grownBy w' (some g) := by
  have H := Lib.hid h
  obtain ⟨-, -, -, -, c7, c8⟩ := h.fld.cells
  have z7 := h.fld.thaw 7
  have z8 := h.fld.thaw 8
  clear h
  go_enter Tryz.func44, Tryz.ntmps44
  go_wp2_with fail
  go_end0
  exact ⟨rfl, H.out.fields ((H.out.fld.put7 false).put8 (-1)) (grown_set (grown_put' _ _ _ _) _ _), grown_set (grown_put' _ _ _ _) _ _⟩
set_option maxHeartbeats 2000000 in
theorem qfails_c (h : MemG w F g bd bv ve t n on c es ls L V) (h1 : -9223372036854775808 ≤ c) (h2 : c ≤ 9223372036854775807) : Calls Tryz.prog 61 #[.pointer (some ⟨g, 0, none⟩)] w fun e w' => e = .returned (.bool (decide (c = 0))) ∧ MemG w' F g bd bv ve t n (if c = 0 then false else on) (nextC c) es ls L V ∧ w.grownBy w' (some g) := by
  have H := Lib.hid h
  have F := Lib.hid (qoff_c h)
  obtain ⟨-, -, -, -, -, c8⟩ := h.fld.cells
  have z8 := h.fld.thaw 8
  unfold nextC
  clear h
  by_cases h0 : c = 0
  · subst h0
    clear h1 h2 z8
    rw [if_pos rfl, if_pos rfl]
    go_enter Tryz.func61, Tryz.ntmps61
    go_wp2_with fail
    refine (F.out).mono ?_
    rintro e w1 ⟨rfl, hM, hG⟩
    have HM := Lib.hid hM
    have HG := Lib.hid hG
    clear hM hG c8
    go_wp2_with fail
    go_ret
    exact ⟨rfl, HM.out, HG.out⟩
  · rw [if_neg h0, if_neg h0]
    have hd : decide (c = 0) = false := by simpa using h0
    rw [hd]
    by_cases hp : 0 < c
    · rw [if_pos hp]
      clear F hd
      go_enter Tryz.func61, Tryz.ntmps61
      go_wp2_with fail
      go_ret
      exact ⟨rfl, H.out.fields (H.out.fld.put8 (c - 1)) (grown_put' _ _ _ _), grown_put' _ _ _ _⟩
    · rw [if_neg hp]
      clear F hd h1 h2 z8
      go_enter Tryz.func61, Tryz.ntmps61
      go_wp2_with fail
      go_ret
      exact ⟨rfl, H.out, World.grownBy.refl _ _⟩
/-- The same by the disk's state. -/
theorem qfails_s (h : MemG w F g bd bv ve t n (!s.off) c es ls L V) (hl : Lnk s c) : Calls Tryz.prog 61 #[.pointer (some ⟨g, 0, none⟩)] w fun e w' => e = .returned (.bool (failsS s).1) ∧ MemG w' F g bd bv ve t n (!(failsS s).2.off) (nextC c) es ls L V ∧ w.grownBy w' (some g) := by
  obtain ⟨h1, h2, h3⟩ := fails_lnk hl
  rw [h1, h2]
  exact qfails_c h hl.2.2.1 hl.2.2.2
set_option maxHeartbeats 2000000 in
theorem qcheck_c (h : MemG w F g bd bv ve t s.dur.length (!s.off) c es ls L V) (hn : s.dur.length ≤ 8192) (at' : Int) : Calls Tryz.prog 77 #[.pointer (some ⟨g, 0, none⟩), .int .i64 at'] w (RVal w (.int .i64 (badS s at' 0))) := by
  have F := Lib.hid (qsize_c h hn)
  obtain ⟨-, -, -, -, c7, -⟩ := h.fld.cells
  have hni : (s.dur.length : Int) ≤ 8192 := by omega
  unfold badS
  clear h hn
  by_cases ho : s.off = true
  · rw [if_pos ho]
    rw [ho] at c7
    clear ho F hni
    go_enter Tryz.func77, Tryz.ntmps77
    go_wp2_with fail
    go_ret
    exact ⟨rfl, Below.refl _ _⟩
  · rw [if_neg ho]
    have ho' : s.off = false := by simpa using ho
    rw [ho'] at c7
    by_cases h0 : at' < 0
    · rw [if_pos (.inl h0)]
      clear ho ho' F hni
      go_enter Tryz.func77, Tryz.ntmps77
      go_wp2_with fail
      go_ret
      exact ⟨rfl, Below.refl _ _⟩
    · by_cases h1 : (s.dur.length : Int) ≤ at'
      · rw [if_pos (.inr h1)]
        have h1' : at' ≥ (s.dur.length : Int) := h1
        clear ho ho' h1
        go_enter Tryz.func77, Tryz.ntmps77
        go_wp2_with fail
        refine (F.out).mono ?_
        rintro e w1 ⟨rfl, hB⟩
        have HB := Lib.hid hB
        clear hB c7 F
        generalize s.dur.length = n at *
        go_wp2_with fail
        go_ret
        exact ⟨rfl, HB.out⟩
      · rw [if_neg (by omega), if_neg (by omega)]
        have h1' : ¬ at' ≥ (s.dur.length : Int) := h1
        clear ho ho' h1
        go_enter Tryz.func77, Tryz.ntmps77
        go_wp2_with fail
        refine (F.out).mono ?_
        rintro e w1 ⟨rfl, hB⟩
        have HB := Lib.hid hB
        clear hB c7 F
        generalize s.dur.length = n at *
        go_wp2_with fail
        go_ret
        exact ⟨rfl, HB.out⟩
set_option maxHeartbeats 1000000 in
theorem qsector_c (w : World) (b m c k : Nat) (hk : k * 64 + 64 ≤ m) (hm : m ≤ c) (hc : c ≤ 1000000) : Calls Tryz.prog 78 #[.slice (some ⟨b, 0, none⟩) m c, .int .i64 (k : Int)] w (RVal w (.slice (some ⟨b, k * 64, none⟩) 64 (c - k * 64))) := by
  have hki : (k : Int) ≤ 1000000 := by omega
  obtain ⟨q, hq⟩ : ∃ q, q = k * 64 := ⟨_, rfl⟩
  have hqi : (k : Int) * 64 = (q : Int) := by omega
  rw [← hq] at hk ⊢
  have hqm : q ≤ m := by omega
  have hq64 : 64 ≤ m - q := by omega
  clear hq
  go_enter Tryz.func78, Tryz.ntmps78
  go_wp2_with fail
  go_ret
  exact ⟨rfl, Below.refl _ _⟩
set_option maxHeartbeats 1000000 in
theorem qclone_c (w : World) {b off c : Nat} {ts : List UInt8} (hv : Byt w (.slice (some ⟨b, off, none⟩) 64 c) ts) (hl : ts.length = 64) : Calls Tryz.prog 47 #[.slice (some ⟨b, off, none⟩) 64 c] w fun e w' => ∃ r, e = .returned r ∧ OwB w.heap.size w' r ts ∧ Below w.heap.size w w' := by
  have HV := Lib.hid hv
  have HL := Lib.hid hl
  have hnil : ∀ W, (binOp .eql 33 (.slice (some ⟨b, off, none⟩) 64 c) (.slice none 0 0)).run Tryz.prog W = .ok (.bool false) W := fun W => Lib.run_eql_slice_some_nil W _ _ _ Tryz.underlying33
  clear hv hl
  go_enter Tryz.func47, Tryz.ntmps47
  go_wp2_with (first | ((with_reducible refine wp_noneB rfl rfl ?_); intro w4 hS4 hB4; have o4 := Lib.hid hS4; have BN4 := Lib.hid hB4; clear hS4 hB4) | (at_builtin; refine wp_appendB rfl _ _ rfl w.heap.size _ [] rfl o4.out _ ts rfl (HV.out.below BN4.out) (by have := HL.out; simp; omega) BN4.out.size ?_; intro v5 w5 hv5 hg5; have B5 := Lib.hid (below_ownB BN4.out hg5 o4.out (Nat.le_refl _)); have o5 := Lib.hid hv5; clear hv5 hg5))
  go_ret
  rw [List.nil_append] at o5
  exact ⟨_, rfl, o5.out, B5.out⟩
end
end Go.Proofs.YtckomifecmemnaaGreat

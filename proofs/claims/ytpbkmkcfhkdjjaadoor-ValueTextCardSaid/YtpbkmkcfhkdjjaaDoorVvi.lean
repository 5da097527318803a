/- Package value as landed: what the worlds hold, Format. -/
import Derived.Test.YtpbkmkcfhkdjjaaDoorVvd
import Derived.Test.YtpbkmkcfhkdjjaaDoorVve
import Derived.Test.YtpbkmkcfhkdjjaaDoorVli
namespace Go.Proofs.YtpbkmkcfhkdjjaaDoor
open Go.RowKit Dig
set_option linter.unusedVariables false

/-- What the variables of the library hold where a law is called. -/
def MaxL (w : World) : Prop := ∃ m, w.cell? ⟨0, 0, none⟩ = some (.int .i64 m)
def TabW (w : World) : Prop := Lib.TabIs Tryd.prog w "internal/strconv.uint64pow10" .u64 Lib.pow10Tab
def ErrW (w : World) (g : Nat) : Prop := ∃ ev, w.cell? ⟨g, 0, none⟩ = some ev ∧ (ev = .nilIface ∨ ∃ te pe, ev = .iface te pe)
def Std (w : World) : Prop := MaxL w ∧ TabW w ∧ ErrW w 2 ∧ ErrW w 3
section
variable {w w' : World} {g : Nat}
theorem MaxL.below (h : MaxL w) (hB : Below w.heap.size w w') : MaxL w' := by
  obtain ⟨m, hm⟩ := h
  have hg := World.block_lt_of_cell? w ⟨0, 0, none⟩ hm
  exact ⟨m, by rw [hB.cell (p := ⟨0, 0, none⟩) hg]; exact hm⟩
theorem ErrW.below (h : ErrW w g) (hB : Below w.heap.size w w') : ErrW w' g := by
  obtain ⟨m, hm, h2⟩ := h
  have hg := World.block_lt_of_cell? w ⟨g, 0, none⟩ hm
  exact ⟨m, by rw [hB.cell (p := ⟨g, 0, none⟩) hg]; exact hm, h2⟩
theorem tab_global : Tryd.prog.globalNamed "internal/strconv.uint64pow10" = some 1 := by kernel_rfl
theorem TabW.below (h : TabW w) (hB : Below w.heap.size w w') : TabW w' := by
  unfold TabW Lib.TabIs World.var? at h ⊢
  rw [tab_global] at h ⊢
  simp only [Option.bind_some] at h ⊢
  have hg : 1 < w.heap.size := by
    rcases Nat.lt_or_ge 1 w.heap.size with h1 | h1
    · exact h1
    · rw [Array.getElem?_eq_none h1] at h
      cases h
  rw [hB.block _ hg]
  exact h
theorem Std.below (h : Std w) (hB : Below w.heap.size w w') : Std w' := ⟨h.1.below hB, h.2.1.below hB, h.2.2.1.below hB, h.2.2.2.below hB⟩
theorem below_grown (w : World) (k : Nat) (os : Array Obj) : Below w.heap.size w (Go.Sort.grow (w.drewN k) os) := by
  refine ⟨rfl, rfl, rfl, ?_, fun b hb => ?_⟩
  · show w.heap.size ≤ (w.heap ++ os).size
    rw [Array.size_append]
    omega
  · show (w.heap ++ os)[b]? = w.heap[b]?
    rw [Array.getElem?_append_left hb]
theorem formatInt_c (hS : Std w) (n : Int) (h1 : -9223372036854775808 ≤ n) (h2 : n ≤ 9223372036854775807) : Calls Tryd.prog 43 #[.int .i64 n, .int .i64 10] w (RVal w (.string ⟨(intT n).toArray⟩)) := by
  refine (Tryd.strconv_FormatInt_10 n h1 h2 w hS.2.1).mono ?_
  rintro e w' ⟨rfl, k, os, rfl⟩
  rw [itoa_int]
  exact ⟨rfl, below_grown w k os⟩
theorem replace_c (hS : Std w) (s old new : List UInt8) (hs : s.length ≤ 1000000) (ho : 1 ≤ old.length) (hn : new.length ≤ 2) : Calls Tryd.prog 44 #[.string ⟨s.toArray⟩, .string ⟨old.toArray⟩, .string ⟨new.toArray⟩] w (RVal w (.string ⟨(Lib.replaceAll s old new).toArray⟩)) := by
  obtain ⟨m, hm⟩ := hS.1
  have hc := Lib.countB_mul_le ⟨old.toArray⟩ ho s.length ⟨s.toArray⟩ (Nat.le_refl _)
  have h1 : Lib.countB ⟨s.toArray⟩ ⟨old.toArray⟩ ≤ s.length := Nat.le_trans (Nat.le_mul_of_pos_right _ ho) hc
  have h2 : Lib.countB ⟨s.toArray⟩ ⟨old.toArray⟩ * new.length ≤ s.length * 2 := Nat.mul_le_mul h1 hn
  refine (Tryd.strings_ReplaceAll ⟨s.toArray⟩ ⟨old.toArray⟩ ⟨new.toArray⟩ m w (show s.length < _ by omega) hm ho (show s.length + _ * new.length ≤ _ by omega)).mono ?_
  rintro e w' ⟨rfl, hB⟩
  exact ⟨rfl, hB⟩
set_option maxRecDepth 20000 in
set_option maxHeartbeats 4000000 in
theorem format_c (hS : Std w) (x : Vl) (h1 : -9223372036854775808 ≤ x.2.1) (h2 : x.2.1 ≤ 9223372036854775807) (hl : x.2.2.length ≤ 1000000) :
    Calls Tryd.prog 32 #[vV x] w (RVal w (.string ⟨(if vldB x then fmtV x else []).toArray⟩)) := by
  have HS := Lib.hid hS
  have HL := Lib.hid hl
  have H1 := Lib.hid h1
  have H2 := Lib.hid h2
  have FV := fun w => valid_c w x HL.out
  clear hS hl h1 h2
  cases hv : vldB x with
  | false =>
    rw [hv] at FV
    rw [if_neg (by simp)]
    clear hv
    go_enter Tryd.func32, Tryd.ntmps32
    go_wp2_with (first | ((with_reducible refine wp_boxV 1 rfl rfl 0 rfl x ?hx ?_); (case hx => rfl); intro w1 hv hb; have V1 := Lib.hid hv; have B1 := Lib.hid hb; clear hv hb) | ((with_reducible refine wp_loadV rfl 1 rfl w.heap.size (0) x ?hx V1.out.range ?_); (case hx => rfl)))
    refine (FV _).mono ?_
    rintro e w2 ⟨rfl, hB2⟩
    have BB := Lib.hid (below_then B1.out hB2)
    clear hB2
    go_wp2_with fail
    go_ret
    exact ⟨rfl, BB.out⟩
  | true =>
    rw [hv] at FV
    rw [if_pos rfl]
    have hvv := (vldB_iff x).1 hv
    clear hv
    obtain ⟨t, n, s⟩ := x
    rcases hvv with ⟨e1, e2⟩ | ⟨e1, e2, e3, e4⟩
    · obtain rfl : t = 1 := e1
      obtain rfl : s = [] := e2
      show Calls Tryd.prog 32 #[vV (1, n, [])] w (RVal w (.string ⟨(intT n).toArray⟩))
      go_enter Tryd.func32, Tryd.ntmps32
      go_wp2_with (first | ((with_reducible refine wp_boxV 1 rfl rfl 0 rfl (1, n, []) ?hx ?_); (case hx => rfl); intro w1 hv hb; have V1 := Lib.hid hv; have B1 := Lib.hid hb; clear hv hb) | ((with_reducible refine wp_loadV rfl 1 rfl w.heap.size (0) (1, n, []) ?hx V1.out.range ?_); (case hx => rfl)))
      refine (FV _).mono ?_
      rintro e w2 ⟨rfl, hB2⟩
      have BB := Lib.hid (below_then B1.out hB2)
      have V2 := Lib.hid (V1.out.below hB2)
      have c0 : w2.cell? ⟨w.heap.size, 0, none⟩ = some (.int .i64 1) := V2.out.cells.1
      have c1 : w2.cell? ⟨w.heap.size, 1, none⟩ = some (.int .i64 n) := V2.out.cells.2.1
      clear hB2 V1 B1
      go_wp2_with fail
      refine (formatInt_c (HS.out.below BB.out) n H1.out H2.out).mono ?_
      rintro e w3 ⟨rfl, hB3⟩
      have BC := Lib.hid (below_then BB.out hB3)
      clear hB3 c0 c1
      go_wp2_with fail
      go_ret
      exact ⟨rfl, BC.out⟩
    · obtain rfl : t = 2 := e1
      obtain rfl : n = 0 := e2
      show Calls Tryd.prog 32 #[vV (2, 0, s)] w (RVal w (.string ⟨(strT s).toArray⟩))
      go_enter Tryd.func32, Tryd.ntmps32
      go_wp2_with (first | ((with_reducible refine wp_boxV 1 rfl rfl 0 rfl (2, 0, s) ?hx ?_); (case hx => rfl); intro w1 hv hb; have V1 := Lib.hid hv; have B1 := Lib.hid hb; clear hv hb) | ((with_reducible refine wp_loadV rfl 1 rfl w.heap.size (0) (2, 0, s) ?hx V1.out.range ?_); (case hx => rfl)))
      refine (FV _).mono ?_
      rintro e w2 ⟨rfl, hB2⟩
      have BB := Lib.hid (below_then B1.out hB2)
      have V2 := Lib.hid (V1.out.below hB2)
      have c0 : w2.cell? ⟨w.heap.size, 0, none⟩ = some (.int .i64 2) := V2.out.cells.1
      have c2 : w2.cell? ⟨w.heap.size, 2, none⟩ = some (.string ⟨s.toArray⟩) := V2.out.cells.2.2
      clear hB2 V1 B1
      go_wp2_with fail
      refine (replace_c (HS.out.below BB.out) s [39] [39, 39] HL.out (by decide) (by decide)).mono ?_
      rintro e w3 ⟨rfl, hB3⟩
      have BC := Lib.hid (below_then BB.out hB3)
      rw [rep_two]
      have HT := Lib.hid (show 39 :: (qs s ++ [39]) = strT s from rfl)
      have hq : (qs s).length ≤ 2000000 := by have := (qs_length s).2; have h5 : s.length ≤ 1000000 := HL.out; omega
      clear hB3 c0 c2 FV e3 e4 HL
      generalize strT s = R at *
      generalize qs s = q at *
      have k1 : ¬ (1 + q.length > 9223372036854775807) := by omega
      have k2 : ¬ (1 + q.length + 1 > 9223372036854775807) := by omega
      clear hq
      go_wp2_with fail
      go_ret
      refine ⟨?_, BC.out⟩
      show Ending.returned (Value.string ((⟨[39].toArray⟩ : ByteArray) ++ ⟨q.toArray⟩ ++ ⟨[39].toArray⟩)) = _
      rw [ByteArray.mk_append_mk, ByteArray.mk_append_mk, ← HT.out]
      rfl
end
end Go.Proofs.YtpbkmkcfhkdjjaaDoor

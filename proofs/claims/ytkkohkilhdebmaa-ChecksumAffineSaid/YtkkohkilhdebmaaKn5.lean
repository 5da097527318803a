/- The sanity check of the laws of stage 5 returns true. -/
import Derived.Lib.SlBytesConst
import Derived.Test.YtkkohkilhdebmaaCkc
namespace Go.Proofs.Ytkkohkilhdebmaa
open Go.RowKit Dig
set_option linter.unusedVariables false
/-- The row of a literal of bytes. -/
theorem byt_lit (w : World) (ts : List UInt8) (n : Nat) (cs : Array Value) (fr : Nat × Nat) (hc : cs = (Y ts).toArray) (hn : ts.length = n) (hm : n ≤ 1000000) : Byt (w.alloc (.cells cs 5 fr)) (.slice (some ⟨w.heap.size, 0, none⟩) n n) ts := by
  subst hc hn
  refine ⟨some ⟨w.heap.size, 0, none⟩, ts.length, rfl, ⟨Nat.le_refl _, fun e => by cases e⟩, by unfold maxLen; omega, fun _ => ⟨w.heap.size, 0, rfl, ?_, fun j hj => ?_⟩⟩
  · show w.heap.size < (w.heap.push _).size
    simp
  · rw [World.cell?_alloc_mark, Nat.zero_add, List.getElem?_toArray]
    exact Y_get ts j hj
theorem check_crc : crcN [49, 50, 51, 52, 53, 54, 55, 56, 57] = 3808858755 := by kernel_rfl
theorem check_hash : hashN [97] = 12638187200555641996 := by kernel_rfl
theorem known5_c (w : World) : Calls Try.prog 15 #[] w (RVal w (.bool true)) := by
  have kc := fun (w : World) (C : Array Value) (n c : Nat) => Lib.run_convert_bytes_const (P := Try.prog) w 22 5 C n c Try.underlying22 Try.underlying5
  go_enter Try.func15, Try.ntmps15
  go_wp2_with fail
  have C1 := crc_c (byt_lit w [49, 50, 51, 52, 53, 54, 55, 56, 57] 9 #[.int .u8 49, .int .u8 50, .int .u8 51, .int .u8 52, .int .u8 53, .int .u8 54, .int .u8 55, .int .u8 56, .int .u8 57] (9, 10) rfl rfl (by omega)) (by decide)
  rw [check_crc] at C1
  have hB0 := (Below.refl w.heap.size w).alloc (Nat.le_refl _) (.cells #[.int .u8 49, .int .u8 50, .int .u8 51, .int .u8 52, .int .u8 53, .int .u8 54, .int .u8 55, .int .u8 56, .int .u8 57] 5 (9, 10))
  refine C1.mono ?_
  rintro e w1 ⟨rfl, hB1⟩
  have B1 := Lib.hid (hB0.trans (hB1.mono hB0.size))
  clear hB0 hB1 C1
  go_wp2_with fail
  have C2 := hash_c (byt_lit w1 [97] 1 #[.int .u8 97] (1, 2) rfl rfl (by omega)) (by decide)
  rw [check_hash] at C2
  have hB2 : Below w1.heap.size w1 (w1.alloc (.cells #[.int .u8 97] 5 (1, 2))) := (Below.refl w1.heap.size w1).alloc (Nat.le_refl _) _
  refine C2.mono ?_
  rintro e w2 ⟨rfl, hB3⟩
  have B2 := Lib.hid (below_then (below_then B1.out hB2) hB3)
  clear hB2 hB3 C2
  go_wp2_with fail
  have C3 := Lib.hid (show Calls Try.prog 13 #[.slice none 0 0] w2 (RVal w2 (.int .u64 14695981039346656037)) from hash_c (Byt.nil w2) (by decide))
  refine (C3.out).mono ?_
  rintro e w3 ⟨rfl, hB4⟩
  have B3 := Lib.hid (below_then B2.out hB4)
  clear hB4 C3
  go_wp2_with fail
  go_ret
  exact ⟨rfl, B3.out⟩
end Go.Proofs.Ytkkohkilhdebmaa

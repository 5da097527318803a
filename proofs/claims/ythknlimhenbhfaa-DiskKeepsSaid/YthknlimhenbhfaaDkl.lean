/- One disk of the program alone; the sanity check of the laws of stage 6 returns true. -/
import Derived.Lib.SlBytesConst
import Derived.Test.YthknlimhenbhfaaDkb
namespace Go.Proofs.Ythknlimhenbhfaa
open Go.RowKit Dig
set_option linter.unusedVariables false

/-- The program's disk, apart from what was there. -/
def One (D : World → Nat → DS → Prop) (fp : World → Nat → Nat → Prop) (w : World) (B g : Nat) (s : DS) : Prop := D w g s ∧ ∀ b, fp w g b → B ≤ b
section
variable {D : World → Nat → DS → Prop} {fp : World → Nat → Nat → Prop} {w w' : World} {B g : Nat} {s s' : DS} {v : Value} {e : Ending}
theorem One.prog (h : One D fp w B g s) (hB : B ≤ w.heap.size) (hd : PDk D fp w g v s' e w') : e = .returned v ∧ One D fp w' B g s' ∧ Below B w w' := by
  obtain ⟨hD, h1⟩ := h
  obtain ⟨he, hD', ⟨t1, t2, t3, t4, t5⟩, hf⟩ := hd
  exact ⟨he, ⟨hD', fun b hb => (hf b hb).elim (h1 b) (fun h => Nat.le_trans hB h)⟩, t1, t2, t3, t4, fun b hb => t5 b (by omega) (fun hF => by have := h1 b hF; omega)⟩
theorem One.below (P : Prog6 D fp) (h : One D fp w B g s) (hB : Below w.heap.size w w') : One D fp w' B g s := by
  have hk := P.keep h.1 hB.size (fun b hb _ => hB.block b hb)
  exact ⟨hk.1, fun b hb => h.2 b (hk.2 b hb)⟩
/-- A block that is new lies apart. -/
theorem One.apart (P : Prog6 D fp) (h : One D fp w B g s) (hB : Below w.heap.size w w') {b : Nat} (hb : w.heap.size ≤ b) : ¬ fp w' g b := fun hF => by
  have hk := P.keep h.1 hB.size (fun b hb _ => hB.block b hb)
  have := P.fpLt h.1 (hk.2 _ hF)
  omega
end
/-- The row of a literal of bytes. -/
theorem byt_lit6 (w : World) (ts : List UInt8) (n : Nat) (cs : Array Value) (fr : Nat × Nat) (hc : cs = (Y ts).toArray) (hn : ts.length = n) (hm : n ≤ 1000000) : Byt (w.alloc (.cells cs 5 fr)) (.slice (some ⟨w.heap.size, 0, none⟩) n n) ts := by
  subst hc hn
  refine ⟨some ⟨w.heap.size, 0, none⟩, ts.length, rfl, ⟨Nat.le_refl _, fun e => by cases e⟩, by unfold maxLen; omega, fun _ => ⟨w.heap.size, 0, rfl, ?_, fun j hj => ?_⟩⟩
  · show w.heap.size < (w.heap.push _).size
    simp
  · rw [World.cell?_alloc_mark, Nat.zero_add, List.getElem?_toArray]
    exact Y_get ts j hj
/-- The states that the sanity check goes through. -/
def kn1 : DS := (writeS (newS 2) 0 [102, 105, 114, 115, 116]).2
def kn2 : DS := (flushS kn1).2
def kn3 : DS := (writeS kn2 0 [70, 73, 82, 83, 84]).2
def kn4 : DS := crashS kn3 1 2
def kn5 : DS := powerS kn4
theorem kn_facts : (writeS (newS 2) 0 [102, 105, 114, 115, 116]).1 = 0 ∧ (flushS kn1).1 = 0 ∧ (writeS kn2 0 [70, 73, 82, 83, 84]).1 = 0 ∧ kn3.pend.length = 1 ∧ kn4.off = true ∧ (readS kn5 0).1 = 0 ∧ (readS kn5 0).2.length = 64 ∧ (readS kn5 0).2.take 6 = [70, 73, 114, 115, 116, 0] ∧ kn5.pend.length = 0 :=
  ⟨by kernel_rfl, by kernel_rfl, by kernel_rfl, by kernel_rfl, by kernel_rfl, by kernel_rfl, by kernel_rfl, by kernel_rfl, by kernel_rfl⟩
theorem fewD_of {s : DS} {m n : Nat} (h1 : s.dur.length = m) (h2 : s.pend.length = n) (hm : m ≤ 10000) (hn : n ≤ 62) : fewD s := ⟨by omega, by omega⟩
theorem kn_few : fewD (newS 2) ∧ fewD kn1 ∧ fewD kn2 ∧ fewD kn3 ∧ fewD kn5 :=
  ⟨fewD_of (m := 2) (n := 0) (by kernel_rfl) (by kernel_rfl) (by omega) (by omega), fewD_of (m := 2) (n := 1) (by kernel_rfl) (by kernel_rfl) (by omega) (by omega), fewD_of (m := 2) (n := 0) (by kernel_rfl) (by kernel_rfl) (by omega) (by omega), fewD_of (m := 2) (n := 1) (by kernel_rfl) (by kernel_rfl) (by omega) (by omega), fewD_of (m := 2) (n := 0) (by kernel_rfl) (by kernel_rfl) (by omega) (by omega)⟩
section
variable {D : World → Nat → DS → Prop} {fp : World → Nat → Nat → Prop}
set_option maxHeartbeats 4000000 in
theorem known6_c (P : Prog6 D fp) (w : World) : Calls Try.prog 14 #[] w (RVal w (.bool true)) := by
  have kc := fun (w : World) (C : Array Value) (n c : Nat) => Lib.run_convert_bytes_const (P := Try.prog) w 32 5 C n c Try.underlying32 Try.underlying5
  have hP := Lib.hid P
  have KF := Lib.hid kn_facts
  have KW := Lib.hid kn_few
  clear P
  go_enter Try.func14, Try.ntmps14
  go_wp2_with fail
  refine (hP.out.new w 2 (by omega) (by omega)).mono ?_
  rintro e w1 ⟨g, rfl, hD, hB1, hF⟩
  have O1 := Lib.hid (show One D fp w1 w.heap.size g (newS 2) from ⟨hD, hF⟩)
  have B1 := Lib.hid hB1
  clear hD hF hB1
  go_wp2_with fail
  have hBa : Below w1.heap.size w1 (w1.alloc (.cells #[.int .u8 102, .int .u8 105, .int .u8 114, .int .u8 115, .int .u8 116] 5 (5, 6))) := (Below.refl _ _).alloc (Nat.le_refl _) _
  have O := Lib.hid (O1.out.below hP.out hBa)
  have hlt := Lib.hid (Nat.le_trans B1.out.size hBa.size)
  have C := hP.out.write O.out.1 KW.out.1 0 _ [102, 105, 114, 115, 116] (byt_lit6 w1 [102, 105, 114, 115, 116] 5 #[.int .u8 102, .int .u8 105, .int .u8 114, .int .u8 115, .int .u8 116] (5, 6) rfl rfl (by omega)) (by decide) (fun _ k e hF => by
    obtain rfl : w1.heap.size = k := by simpa [Value.ownBlock] using e
    exact O1.out.apart hP.out hBa (Nat.le_refl _) hF)
  rw [KF.out.1] at C
  have B := Lib.hid (below_then B1.out hBa)
  refine C.mono ?_
  rintro e w2 hd
  obtain ⟨rfl, hO, hB⟩ := O.out.prog hlt.out hd
  have O2 := Lib.hid (show One D fp w2 w.heap.size g kn1 from hO)
  have B2 := Lib.hid (B.out.trans hB)
  clear hd hO hB C O hlt B hBa O1 B1
  go_wp2_with fail
  have C := hP.out.flush O2.out.1 KW.out.2.1
  rw [KF.out.2.1] at C
  refine C.mono ?_
  rintro e w3 hd
  obtain ⟨rfl, hO, hB⟩ := O2.out.prog B2.out.size hd
  have O3 := Lib.hid (show One D fp w3 w.heap.size g kn2 from hO)
  have B3 := Lib.hid (B2.out.trans hB)
  clear hd hO hB C O2 B2
  go_wp2_with fail
  have hBa : Below w3.heap.size w3 (w3.alloc (.cells #[.int .u8 70, .int .u8 73, .int .u8 82, .int .u8 83, .int .u8 84] 5 (5, 6))) := (Below.refl _ _).alloc (Nat.le_refl _) _
  have O := Lib.hid (O3.out.below hP.out hBa)
  have hlt := Lib.hid (Nat.le_trans B3.out.size hBa.size)
  have C := hP.out.write O.out.1 KW.out.2.2.1 0 _ [70, 73, 82, 83, 84] (byt_lit6 w3 [70, 73, 82, 83, 84] 5 #[.int .u8 70, .int .u8 73, .int .u8 82, .int .u8 83, .int .u8 84] (5, 6) rfl rfl (by omega)) (by decide) (fun _ k e hF => by
    obtain rfl : w3.heap.size = k := by simpa [Value.ownBlock] using e
    exact O3.out.apart hP.out hBa (Nat.le_refl _) hF)
  rw [KF.out.2.2.1] at C
  have B := Lib.hid (below_then B3.out hBa)
  refine C.mono ?_
  rintro e w4 hd
  obtain ⟨rfl, hO, hB⟩ := O.out.prog hlt.out hd
  have O4 := Lib.hid (show One D fp w4 w.heap.size g kn3 from hO)
  have B4 := Lib.hid (B.out.trans hB)
  clear hd hO hB C O hlt B hBa O3 B3
  go_wp2_with fail
  have C := hP.out.pending O4.out.1
  rw [KF.out.2.2.2.1] at C
  refine C.mono ?_
  rintro e w5 ⟨rfl, hB⟩
  have O5 := Lib.hid (O4.out.below hP.out hB)
  have B5 := Lib.hid (below_then B4.out hB)
  clear hB C O4 B4
  go_wp2_with fail
  have C := hP.out.crash O5.out.1 KW.out.2.2.2.1 1 2 (by omega)
  refine C.mono ?_
  rintro e w6 hd
  obtain ⟨rfl, hO, hB⟩ := O5.out.prog B5.out.size hd
  have O6 := Lib.hid (show One D fp w6 w.heap.size g kn4 from hO)
  have B6 := Lib.hid (B5.out.trans hB)
  clear hd hO hB C O5 B5
  go_wp2_with fail
  have C := hP.out.online O6.out.1
  rw [KF.out.2.2.2.2.1] at C
  refine C.mono ?_
  rintro e w7 ⟨rfl, hB⟩
  have O7 := Lib.hid (O6.out.below hP.out hB)
  have B7 := Lib.hid (below_then B6.out hB)
  clear hB C O6 B6
  go_wp2_with fail
  have C := hP.out.power O7.out.1
  refine C.mono ?_
  rintro e w8 hd
  obtain ⟨rfl, hO, hB⟩ := O7.out.prog B7.out.size hd
  have O8 := Lib.hid (show One D fp w8 w.heap.size g kn5 from hO)
  have B8 := Lib.hid (B7.out.trans hB)
  clear hd hO hB C O7 B7
  go_wp2_with fail
  have C := hP.out.read O8.out.1 KW.out.2.2.2.2 0
  rw [KF.out.2.2.2.2.2.1] at C
  refine C.mono ?_
  rintro e w9 ⟨r, rfl, hr, hB⟩
  have O9 := Lib.hid (O8.out.below hP.out hB)
  have B9 := Lib.hid (below_then B8.out hB)
  have hb := hr.byt
  clear hB C O8 B8 hr
  have l64 := KF.out.2.2.2.2.2.2.1
  have l6 := KF.out.2.2.2.2.2.2.2.1
  have l0 := KF.out.2.2.2.2.2.2.2.2
  generalize (readS kn5 0).2 = L at hb l64 l6
  obtain ⟨A, c, er⟩ := hb.form
  rw [l64] at er
  subst er
  obtain ⟨-, hc1, hc2⟩ := hb.bounds
  have hcut := run_stringB w9 _ _ (hb.cut (show 6 ≤ 64 by omega))
  rw [l6] at hcut
  have hc3 : (64 : Int) ≤ (c : Int) := by omega
  have C := hP.out.pending O9.out.1
  rw [l0] at C
  have C := Lib.hid C
  clear hb l64 l6 l0 KF KW kc hc2
  go_wp2_with fail
  refine (C.out).mono ?_
  rintro e w10 ⟨rfl, hB⟩
  have B10 := Lib.hid (below_then B9.out hB)
  clear hB C O9 B9
  go_wp2_with fail
  go_ret
  exact ⟨rfl, B10.out⟩
end
end Go.Proofs.Ythknlimhenbhfaa

/- act of the laws of stage 6: one call on the program's disk and on the model. -/
import Derived.Test.YthknlimhenbhfaaDki
namespace Go.Proofs.Ythknlimhenbhfaa
set_option linter.unusedSimpArgs false
open Go.RowKit Dig
set_option linter.unusedVariables false

/-- The number that FailAfter is called with. -/
def failN (n : Int) : Int := if n % 16 = 15 then n else smallS n 5 - 1
/-- What a call leaves. -/
def actS (s : DS) (o : Op6) : DS :=
  if o.kind % 8 = 4 then (flushS s).2 else if o.kind % 8 = 5 then failAfterS s (failN o.num) else if o.kind % 8 = 6 then crashS s o.keep (smallS o.num 80) else if o.kind % 8 = 7 then powerS s else (writeS s (smallS o.at' 5) o.data).2
def opV (o : Op6) (vd : Value) : Value := .agg #[.int .u8 (o.kind : Int), .int .i64 o.at', .int .i64 o.num, .int .u64 (o.keep : Int), vd]
theorem kind8 {k : Nat} (h : k < 256) : bits .and .u8 (k : Int) 7 = ((k % 8 : Nat) : Int) := by
  have e := u8_and_nat k 7 h (by omega)
  rw [Nat.and_two_pow_sub_one_eq_mod k 3] at e
  exact e
/-- The variable of the argument. -/
def HoldP (w : World) (g : Nat) (o : Op6) (vd : Value) : Prop := w.heap[g]? = some (.cells #[.int .u8 (o.kind : Int), .int .i64 o.at', .int .i64 o.num, .int .u64 (o.keep : Int), vd] 34 (0, 0))
theorem HoldP.cells {w : World} {g : Nat} {o : Op6} {vd : Value} (h : HoldP w g o vd) : w.cell? ⟨g, 0, none⟩ = some (.int .u8 (o.kind : Int)) ∧ w.cell? ⟨g, 1, none⟩ = some (.int .i64 o.at') ∧ w.cell? ⟨g, 2, none⟩ = some (.int .i64 o.num) ∧ w.cell? ⟨g, 3, none⟩ = some (.int .u64 (o.keep : Int)) ∧ w.cell? ⟨g, 4, none⟩ = some vd := by
  unfold HoldP at h
  refine ⟨?_, ?_, ?_, ?_, ?_⟩ <;> rw [cell_of_row w g _ _ _ (0, 0) h] <;> rfl
/-- What a call on both leaves: they agree, and nothing older turns. -/
def RAct (D : World → Nat → DS → Prop) (fp : World → Nat → Nat → Prop) (w : World) (B g1 g2 : Nat) (s : DS) (e : Ending) (w' : World) : Prop := e = .returned (.bool true) ∧ Two D fp w' B g1 g2 s s ∧ Below B w w'
theorem HoldP.new (w : World) (o : Op6) (vd : Value) : HoldP (w.alloc (.cells #[.int .u8 (o.kind : Int), .int .i64 o.at', .int .i64 o.num, .int .u64 (o.keep : Int), vd] 34)) w.heap.size o vd := by
  unfold HoldP
  rw [heap_alloc_new]
/-- Bytes that lie low stay. -/
theorem byt_low {w w' : World} {v : Value} {ts : List UInt8} {B : Nat} (h : Byt w v ts) (hlow : 0 < ts.length → ∀ k, v.ownBlock = some k → k < B) (hb : Below B w w') : Byt w' v ts := by
  obtain ⟨A, c, h1, h2, h3, h5⟩ := h
  refine ⟨A, c, h1, h2, h3, fun hp => ?_⟩
  obtain ⟨b, off, e, hlt, hc⟩ := h5 hp
  subst e
  have hbB : b < B := hlow hp b (by rw [h1]; rfl)
  exact ⟨b, off, rfl, Nat.lt_of_lt_of_le hlt hb.size, fun j hj => (hb.cell (p := ⟨b, off + j, none⟩) hbB).trans (hc j hj)⟩
section
variable {D : World → Nat → DS → Prop} {fp : World → Nat → Nat → Prop} {w w' : World} {B g1 g2 : Nat} {s s1 s2 : DS} {o : Op6} {v vd : Value} {e : Ending}
/-- The argument's variable beside both disks. -/
def Beside (fp : World → Nat → Nat → Prop) (w : World) (g1 g2 gb : Nat) : Prop := gb < w.heap.size ∧ ¬ fp w g1 gb ∧ ¬ foot w g2 gb
theorem Beside.new (P : Prog6 D fp) (h : Two D fp w B g1 g2 s1 s2) (ob : Obj) : Beside fp (w.alloc ob) g1 g2 w.heap.size := by
  have hBa : Below w.heap.size w (w.alloc ob) := (Below.refl _ _).alloc (Nat.le_refl _) _
  have h1 := P.keep h.1 hBa.size (fun b hb _ => hBa.block b hb)
  have h2 := h.2.1.keep hBa.size (fun b hb _ => hBa.block b hb)
  refine ⟨?_, fun hf => ?_, fun hf => ?_⟩
  · show w.heap.size < (w.heap.push ob).size
    simp
  · exact Nat.lt_irrefl _ (P.fpLt h.1 (h1.2 _ hf))
  · exact Nat.lt_irrefl _ (h.2.1.footLt (h2.2 _ hf))
theorem HoldP.prog {gb : Nat} (P : Prog6 D fp) (hT : Two D fp w B g1 g2 s1 s2) (hb : Beside fp w g1 g2 gb) (hd : PDk D fp w g1 v s e w') (h : HoldP w gb o vd) : HoldP w' gb o vd ∧ Beside fp w' g1 g2 gb := by
  obtain ⟨h1, h2, h3⟩ := hb
  obtain ⟨_, _, ⟨_, _, _, t4, t5⟩, hf⟩ := hd
  refine ⟨by unfold HoldP at h ⊢; rw [t5 gb h1 h2]; exact h, Nat.lt_of_lt_of_le h1 t4, fun hF => (hf gb hF).elim h2 (fun h => by omega), fun hF => h3 ((hT.2.1.keep t4 (fun b hb hfb => t5 b hb (fun hp => hT.2.2.2.2 b hp hfb))).2 gb hF)⟩
theorem HoldP.ref {gb : Nat} (hb : Beside fp w g1 g2 gb) (hd : RDk w g2 v s e w') (h : HoldP w gb o vd) : HoldP w' gb o vd := by
  obtain ⟨h1, h2, h3⟩ := hb
  obtain ⟨_, _, hg, _⟩ := hd
  unfold HoldP at h ⊢
  rw [hg.block gb h1 (fun e => by injection e with e; exact h3 (e ▸ .inl rfl))]
  exact h
theorem HoldP.stay {gb B : Nat} (hlt : gb < B) (hb : Below B w w') (h : HoldP w gb o vd) : HoldP w' gb o vd := by
  unfold HoldP at h ⊢
  rw [hb.block gb hlt]
  exact h
theorem Beside.stay {gb : Nat} (P : Prog6 D fp) (hT : Two D fp w B g1 g2 s1 s2) (hb : Below w.heap.size w w') (h : Beside fp w g1 g2 gb) : Beside fp w' g1 g2 gb := by
  obtain ⟨h1, h2, h3⟩ := h
  have k1 := P.keep hT.1 hb.size (fun b hl _ => hb.block b hl)
  have k2 := hT.2.1.keep hb.size (fun b hl _ => hb.block b hl)
  exact ⟨Nat.lt_of_lt_of_le h1 hb.size, fun hF => h2 (k1.2 gb hF), fun hF => h3 (k2.2 gb hF)⟩
section
variable {K : DS → DS}
set_option maxRecDepth 20000 in
set_option maxHeartbeats 4000000 in
theorem act_4 (P : Prog6 D fp) (h : Two D fp w B g1 g2 s s) (hB : B ≤ w.heap.size) (hf : fewD s) (ho : OkOp6 o) (h8 : o.kind % 8 = 4) :
    Calls Try.prog 12 #[.pointer (some ⟨g1, 0, none⟩), .pointer (some ⟨g2, 0, none⟩), opV o vd] w (RAct D fp w B g1 g2 (flushS s).2) := by
  have hk := kind8 ho.1
  rw [h8] at hk
  have hBa : Below w.heap.size w (w.alloc (.cells #[.int .u8 (o.kind : Int), .int .i64 o.at', .int .i64 o.num, .int .u64 (o.keep : Int), vd] 34)) := (Below.refl _ _).alloc (Nat.le_refl _) _
  have T0 := Lib.hid (h.below P hBa)
  have B0 := Lib.hid (hBa.mono hB)
  have hBs := Lib.hid (Nat.le_trans hB hBa.size)
  have HP0 := Lib.hid (HoldP.new w o vd)
  have BS0 := Lib.hid (Beside.new P h (.cells #[.int .u8 (o.kind : Int), .int .i64 o.at', .int .i64 o.num, .int .u64 (o.keep : Int), vd] 34))
  have HF := Lib.hid hf
  have HO := Lib.hid ho
  have hP := Lib.hid P
  unfold opV
  clear h hBa hf h8 hB ho P
  obtain ⟨kd, ekd⟩ : ∃ k, o.kind = k := ⟨_, rfl⟩
  rw [ekd] at hk
  rw [ekd]
  go_enter Try.func12, Try.ntmps12
  go_wp2_with fail
  rw [← ekd]
  generalize w.alloc (.cells #[.int .u8 (o.kind : Int), .int .i64 o.at', .int .i64 o.num, .int .u64 (o.keep : Int), vd] 34) = w0 at *
  have C1 := hP.out.flush T0.out.1 HF.out
  refine C1.mono ?_
  rintro e w1 hd1
  obtain ⟨rfl, hT1, hB1⟩ := T0.out.prog hP.out hBs.out hd1
  have T1 := Lib.hid hT1
  have B1 := Lib.hid hB1
  have hBs1 := Lib.hid (Nat.le_trans hBs.out hB1.size)
  clear hT1 hB1 hd1 C1
  go_wp2_with fail
  refine (rflush_c T1.out.2.1 (by have := HF.out; unfold fewD at this; omega) (by have := HF.out; unfold fewD at this; omega)).mono ?_
  rintro e w2 hd2
  obtain ⟨rfl, hT2, hB2⟩ := T1.out.ref hP.out hBs1.out hd2
  have T2 := Lib.hid hT2
  have B2 := Lib.hid hB2
  clear hT2 hB2 hd2
  go_wp2_with fail
  go_ret
  exact ⟨rfl, T2.out, B0.out.trans (B1.out.trans B2.out)⟩
set_option maxRecDepth 20000 in
set_option maxHeartbeats 4000000 in
theorem act_7 (P : Prog6 D fp) (h : Two D fp w B g1 g2 s s) (hB : B ≤ w.heap.size) (hf : fewD s) (ho : OkOp6 o) (h8 : o.kind % 8 = 7) :
    Calls Try.prog 12 #[.pointer (some ⟨g1, 0, none⟩), .pointer (some ⟨g2, 0, none⟩), opV o vd] w (RAct D fp w B g1 g2 (powerS s)) := by
  have hk := kind8 ho.1
  rw [h8] at hk
  have hBa : Below w.heap.size w (w.alloc (.cells #[.int .u8 (o.kind : Int), .int .i64 o.at', .int .i64 o.num, .int .u64 (o.keep : Int), vd] 34)) := (Below.refl _ _).alloc (Nat.le_refl _) _
  have T0 := Lib.hid (h.below P hBa)
  have B0 := Lib.hid (hBa.mono hB)
  have hBs := Lib.hid (Nat.le_trans hB hBa.size)
  have HP0 := Lib.hid (HoldP.new w o vd)
  have BS0 := Lib.hid (Beside.new P h (.cells #[.int .u8 (o.kind : Int), .int .i64 o.at', .int .i64 o.num, .int .u64 (o.keep : Int), vd] 34))
  have HF := Lib.hid hf
  have HO := Lib.hid ho
  have hP := Lib.hid P
  unfold opV
  clear h hBa hf h8 hB ho P
  obtain ⟨kd, ekd⟩ : ∃ k, o.kind = k := ⟨_, rfl⟩
  rw [ekd] at hk
  rw [ekd]
  go_enter Try.func12, Try.ntmps12
  go_wp2_with fail
  rw [← ekd]
  generalize w.alloc (.cells #[.int .u8 (o.kind : Int), .int .i64 o.at', .int .i64 o.num, .int .u64 (o.keep : Int), vd] 34) = w0 at *
  have C1 := hP.out.power T0.out.1
  refine C1.mono ?_
  rintro e w1 hd1
  obtain ⟨rfl, hT1, hB1⟩ := T0.out.prog hP.out hBs.out hd1
  have T1 := Lib.hid hT1
  have B1 := Lib.hid hB1
  have hBs1 := Lib.hid (Nat.le_trans hBs.out hB1.size)
  clear hT1 hB1 hd1 C1
  go_wp2_with fail
  refine (rpower_c T1.out.2.1).mono ?_
  rintro e w2 hd2
  obtain ⟨rfl, hT2, hB2⟩ := T1.out.ref hP.out hBs1.out hd2
  have T2 := Lib.hid hT2
  have B2 := Lib.hid hB2
  clear hT2 hB2 hd2
  go_wp2_with fail
  go_ret
  exact ⟨rfl, T2.out, B0.out.trans (B1.out.trans B2.out)⟩
set_option maxRecDepth 20000 in
set_option maxHeartbeats 4000000 in
theorem act_6 (P : Prog6 D fp) (h : Two D fp w B g1 g2 s s) (hB : B ≤ w.heap.size) (hf : fewD s) (ho : OkOp6 o) (h8 : o.kind % 8 = 6) :
    Calls Try.prog 12 #[.pointer (some ⟨g1, 0, none⟩), .pointer (some ⟨g2, 0, none⟩), opV o vd] w (RAct D fp w B g1 g2 (crashS s o.keep (smallS o.num 80))) := by
  have hk := kind8 ho.1
  rw [h8] at hk
  have hBa : Below w.heap.size w (w.alloc (.cells #[.int .u8 (o.kind : Int), .int .i64 o.at', .int .i64 o.num, .int .u64 (o.keep : Int), vd] 34)) := (Below.refl _ _).alloc (Nat.le_refl _) _
  have T0 := Lib.hid (h.below P hBa)
  have B0 := Lib.hid (hBa.mono hB)
  have hBs := Lib.hid (Nat.le_trans hB hBa.size)
  have HP0 := Lib.hid (HoldP.new w o vd)
  have BS0 := Lib.hid (Beside.new P h (.cells #[.int .u8 (o.kind : Int), .int .i64 o.at', .int .i64 o.num, .int .u64 (o.keep : Int), vd] 34))
  have HF := Lib.hid hf
  have HO := Lib.hid ho
  have hP := Lib.hid P
  have SM := Lib.hid (small_c (w.alloc (.cells #[.int .u8 (o.kind : Int), .int .i64 o.at', .int .i64 o.num, .int .u64 (o.keep : Int), vd] 34)) o.num 80 (by omega) (by omega))
  unfold opV
  clear h hBa hf h8 hB ho P
  obtain ⟨kd, ekd⟩ : ∃ k, o.kind = k := ⟨_, rfl⟩
  rw [ekd] at hk SM
  obtain ⟨q, eq⟩ : ∃ q, smallS o.num 80 = q := ⟨_, rfl⟩
  rw [eq] at SM ⊢
  clear eq
  rw [ekd]
  go_enter Try.func12, Try.ntmps12
  go_wp2_with fail
  refine (SM.out).mono ?_
  rintro e wz ⟨rfl, rfl⟩
  go_wp2_with fail
  clear SM
  rw [← ekd]
  generalize w.alloc (.cells #[.int .u8 (o.kind : Int), .int .i64 o.at', .int .i64 o.num, .int .u64 (o.keep : Int), vd] 34) = w0 at *
  have C1 := hP.out.crash T0.out.1 HF.out o.keep q HO.out.2.2.2
  refine C1.mono ?_
  rintro e w1 hd1
  have HP1 := (HoldP.prog hP.out T0.out BS0.out hd1 HP0.out).1
  obtain ⟨-, -, -, c3, -⟩ := HP1.cells
  obtain ⟨rfl, hT1, hB1⟩ := T0.out.prog hP.out hBs.out hd1
  have T1 := Lib.hid hT1
  have B1 := Lib.hid hB1
  have hBs1 := Lib.hid (Nat.le_trans hBs.out hB1.size)
  clear hT1 hB1 hd1 C1
  go_wp2_with fail
  refine (rcrash_c T1.out.2.1 (by have := HF.out; unfold fewD at this; omega) (by have := HF.out; unfold fewD at this; omega) o.keep HO.out.2.2.2 q).mono ?_
  rintro e w2 hd2
  obtain ⟨rfl, hT2, hB2⟩ := T1.out.ref hP.out hBs1.out hd2
  have T2 := Lib.hid hT2
  have B2 := Lib.hid hB2
  clear hT2 hB2 hd2
  go_wp2_with fail
  go_ret
  exact ⟨rfl, T2.out, B0.out.trans (B1.out.trans B2.out)⟩
set_option maxRecDepth 20000 in
set_option maxHeartbeats 4000000 in
theorem act_5 (P : Prog6 D fp) (h : Two D fp w B g1 g2 s s) (hB : B ≤ w.heap.size) (hf : fewD s) (ho : OkOp6 o) (h8 : o.kind % 8 = 5) :
    Calls Try.prog 12 #[.pointer (some ⟨g1, 0, none⟩), .pointer (some ⟨g2, 0, none⟩), opV o vd] w (RAct D fp w B g1 g2 (failAfterS s (failN o.num))) := by
  have hk := kind8 ho.1
  rw [h8] at hk
  have hBa : Below w.heap.size w (w.alloc (.cells #[.int .u8 (o.kind : Int), .int .i64 o.at', .int .i64 o.num, .int .u64 (o.keep : Int), vd] 34)) := (Below.refl _ _).alloc (Nat.le_refl _) _
  have T0 := Lib.hid (h.below P hBa)
  have B0 := Lib.hid (hBa.mono hB)
  have hBs := Lib.hid (Nat.le_trans hB hBa.size)
  have HP0 := Lib.hid (HoldP.new w o vd)
  have BS0 := Lib.hid (Beside.new P h (.cells #[.int .u8 (o.kind : Int), .int .i64 o.at', .int .i64 o.num, .int .u64 (o.keep : Int), vd] 34))
  have HF := Lib.hid hf
  have HO := Lib.hid ho
  have hP := Lib.hid P
  unfold opV
  have a1 := and15 o.num
  have SM := Lib.hid (small_c (w.alloc (.cells #[.int .u8 (o.kind : Int), .int .i64 o.at', .int .i64 o.num, .int .u64 (o.keep : Int), vd] 34)) o.num 5 (by omega) (by omega))
  have hn1 := ho.2.2.1.1
  have hn2 := ho.2.2.1.2
  unfold failN
  unfold smallS at *
  clear h hBa hf h8 hB ho P
  obtain ⟨kd, ekd⟩ : ∃ k, o.kind = k := ⟨_, rfl⟩
  rw [ekd] at hk SM
  obtain ⟨nm, enm⟩ : ∃ k, o.num = k := ⟨_, rfl⟩
  rw [enm] at a1 SM hn1 hn2
  rw [enm]
  by_cases h15 : nm % 16 = 15
  · rw [if_pos h15] at SM ⊢
    rw [h15] at a1
    have hlo : (-9223372036854775807 : Int) ≤ nm := by omega
    have HN1 := Lib.hid hn1
    have HN2 := Lib.hid hn2
    clear h15
    rw [ekd]
    go_enter Try.func12, Try.ntmps12
    go_wp2_with fail
    refine (SM.out).mono ?_
    rintro e wz ⟨rfl, rfl⟩
    go_wp2_with fail
    rw [← ekd, ← enm]
    generalize w.alloc (.cells #[.int .u8 (o.kind : Int), .int .i64 o.at', .int .i64 o.num, .int .u64 (o.keep : Int), vd] 34) = w0 at *
    rw [enm]
    refine (hP.out.failAfter T0.out.1 nm HN1.out HN2.out).mono ?_
    rintro e w1 hd1
    obtain ⟨rfl, hT1, hB1⟩ := T0.out.prog hP.out hBs.out hd1
    have T1 := Lib.hid hT1
    have B1 := Lib.hid hB1
    have hBs1 := Lib.hid (Nat.le_trans hBs.out hB1.size)
    clear hT1 hB1 hd1
    go_wp2_with fail
    refine (rfailAfter_c T1.out.2.1 nm HN1.out HN2.out).mono ?_
    rintro e w2 hd2
    obtain ⟨rfl, hT2, hB2⟩ := T1.out.ref hP.out hBs1.out hd2
    have T2 := Lib.hid hT2
    have B2 := Lib.hid hB2
    clear hT2 hB2 hd2
    go_wp2_with fail
    go_ret
    exact ⟨rfl, T2.out, B0.out.trans (B1.out.trans B2.out)⟩
  · rw [if_neg h15] at SM
    rw [if_neg h15, if_neg h15]
    have hb : (bits .and .i64 nm 15 == 15) = false := by rw [a1, beq_eq_false_iff_ne]; exact h15
    obtain ⟨q, eq⟩ : ∃ q, nm % 65536 % 5 = q := ⟨_, rfl⟩
    have hq : 0 ≤ q ∧ q < 5 := by omega
    rw [eq] at SM ⊢
    obtain ⟨hq1, hq2⟩ := hq
    have HQ1 := Lib.hid (show (-9223372036854775808 : Int) ≤ q - 1 by omega)
    have HQ2 := Lib.hid (show q - 1 ≤ (9223372036854775807 : Int) by omega)
    clear h15 a1 eq
    rw [ekd]
    go_enter Try.func12, Try.ntmps12
    go_wp2_with fail
    refine (SM.out).mono ?_
    rintro e wz ⟨rfl, rfl⟩
    go_wp2_with fail
    rw [← ekd, ← enm]
    generalize w.alloc (.cells #[.int .u8 (o.kind : Int), .int .i64 o.at', .int .i64 o.num, .int .u64 (o.keep : Int), vd] 34) = w0 at *
    refine (hP.out.failAfter T0.out.1 (q - 1) HQ1.out HQ2.out).mono ?_
    rintro e w1 hd1
    obtain ⟨rfl, hT1, hB1⟩ := T0.out.prog hP.out hBs.out hd1
    have T1 := Lib.hid hT1
    have B1 := Lib.hid hB1
    have hBs1 := Lib.hid (Nat.le_trans hBs.out hB1.size)
    clear hT1 hB1 hd1
    go_wp2_with fail
    refine (rfailAfter_c T1.out.2.1 (q - 1) HQ1.out HQ2.out).mono ?_
    rintro e w2 hd2
    obtain ⟨rfl, hT2, hB2⟩ := T1.out.ref hP.out hBs1.out hd2
    have T2 := Lib.hid hT2
    have B2 := Lib.hid hB2
    clear hT2 hB2 hd2
    go_wp2_with fail
    go_ret
    exact ⟨rfl, T2.out, B0.out.trans (B1.out.trans B2.out)⟩
set_option maxRecDepth 20000 in
set_option maxHeartbeats 4000000 in
theorem act_w (P : Prog6 D fp) (h : Two D fp w B g1 g2 s s) (hB : B ≤ w.heap.size) (hf : fewD s) (ho : OkOp6 o) (h8 : o.kind % 8 < 4) (hv : Byt w vd o.data) (hlow : 0 < o.data.length → ∀ k, vd.ownBlock = some k → k < B) (h80 : o.data.length ≤ 80) :
    Calls Try.prog 12 #[.pointer (some ⟨g1, 0, none⟩), .pointer (some ⟨g2, 0, none⟩), opV o vd] w (RAct D fp w B g1 g2 (writeS s (smallS o.at' 5) o.data).2) := by
  have hk := kind8 ho.1
  have hk4 : (bits .and .u8 (o.kind : Int) 7 == 4) = false := by rw [hk, beq_eq_false_iff_ne]; omega
  have hk5 : (bits .and .u8 (o.kind : Int) 7 == 5) = false := by rw [hk, beq_eq_false_iff_ne]; omega
  have hk6 : (bits .and .u8 (o.kind : Int) 7 == 6) = false := by rw [hk, beq_eq_false_iff_ne]; omega
  have hk7 : (bits .and .u8 (o.kind : Int) 7 == 7) = false := by rw [hk, beq_eq_false_iff_ne]; omega
  have hBa : Below w.heap.size w (w.alloc (.cells #[.int .u8 (o.kind : Int), .int .i64 o.at', .int .i64 o.num, .int .u64 (o.keep : Int), vd] 34)) := (Below.refl _ _).alloc (Nat.le_refl _) _
  have hBd0 : Below w.heap.size w (w.alloc (.cells #[.int .u8 (o.kind : Int), .int .i64 o.at', .int .i64 o.num, .int .u64 (o.keep : Int), vd] 34)).drew := hBa.drew
  have hdr : Below (w.alloc (.cells #[.int .u8 (o.kind : Int), .int .i64 o.at', .int .i64 o.num, .int .u64 (o.keep : Int), vd] 34)).heap.size (w.alloc (.cells #[.int .u8 (o.kind : Int), .int .i64 o.at', .int .i64 o.num, .int .u64 (o.keep : Int), vd] 34)) (w.alloc (.cells #[.int .u8 (o.kind : Int), .int .i64 o.at', .int .i64 o.num, .int .u64 (o.keep : Int), vd] 34)).drew := (Below.refl _ _).drew
  have T0d := Lib.hid (h.below P hBd0)
  have B0d := Lib.hid (hBd0.mono hB)
  have hBd := Lib.hid (Nat.le_trans hB hBd0.size)
  have hs0 := (Beside.new P h (.cells #[.int .u8 (o.kind : Int), .int .i64 o.at', .int .i64 o.num, .int .u64 (o.keep : Int), vd] 34))
  have HP0 := Lib.hid ((HoldP.new w o vd).stay hs0.1 hdr)
  have BS0 := Lib.hid (hs0.stay P (h.below P hBa) hdr)
  have HV := Lib.hid (hv.below hBd0)
  have HV0 := Lib.hid hv
  have HLO := Lib.hid hlow
  have HN : Hid (0 < o.data.length → ∀ k, vd.ownBlock = some k → ¬ fp (w.alloc (.cells #[.int .u8 (o.kind : Int), .int .i64 o.at', .int .i64 o.num, .int .u64 (o.keep : Int), vd] 34)).drew g1 k) := Lib.hid (fun hp k hk hF => by have h1 := hlow hp k hk; have h2 := T0d.out.2.2.1 k hF; omega)
  have H80 := Lib.hid h80
  have HF := Lib.hid hf
  have HO := Lib.hid ho
  have hP := Lib.hid P
  have SM := Lib.hid (small_c (w.alloc (.cells #[.int .u8 (o.kind : Int), .int .i64 o.at', .int .i64 o.num, .int .u64 (o.keep : Int), vd] 34)) o.at' 5 (by omega) (by omega))
  unfold opV
  clear h hBa hf h8 hB ho P hk hBd0 hs0 hv hlow h80 hdr
  obtain ⟨kd, ekd⟩ : ∃ k, o.kind = k := ⟨_, rfl⟩
  rw [ekd] at hk4 hk5 hk6 hk7 SM
  obtain ⟨q, eq⟩ : ∃ q, smallS o.at' 5 = q := ⟨_, rfl⟩
  rw [eq] at SM ⊢
  clear eq
  obtain ⟨r, er⟩ : ∃ r, (writeS s q o.data).1 = r := ⟨_, rfl⟩
  rw [ekd]
  go_enter Try.func12, Try.ntmps12
  go_wp2_with fail
  refine (SM.out).mono ?_
  rintro e wz ⟨rfl, rfl⟩
  go_wp2_with fail
  clear SM
  rw [← ekd]
  generalize w.alloc (.cells #[.int .u8 (o.kind : Int), .int .i64 o.at', .int .i64 o.num, .int .u64 (o.keep : Int), vd] 34) = w0 at *
  refine wp_region_plan (S := fun W => W.cell? ⟨w.heap.size, 4, none⟩ = some vd) [(0, true), (1, true), (2, true), (3, true), (5, true), (6, true), (7, true), (8, true), (4, false), (9, false), (10, true), (11, true)] (by kernel_rfl) (by kernel_rfl) (by kernel_rfl) (by kernel_rfl) (fun _ _ d _ _ h => by cases d <;> exact h) HP0.out.cells.2.2.2.2 ?_
  refine wkS_take (some 62) (.pointer (some ⟨g1, 0, none⟩)) (by kernel_rfl) (by kernel_rfl) (by kernel_rfl) (fun W hS => by kernel_rfl) ?_
  simp only [put_lit, put_non, List.set_cons_zero, List.set_cons_succ]
  refine wkS_take (some 63) (.int .i64 q) (by kernel_rfl) (by kernel_rfl) (by kernel_rfl) (fun W hS => by kernel_rfl) ?_
  simp only [put_lit, put_non, List.set_cons_zero, List.set_cons_succ]
  refine wkS_take (some 64) (.pointer (some ⟨w.heap.size, 4, none⟩)) (by kernel_rfl) (by kernel_rfl) (by kernel_rfl) (fun W hS => by kernel_rfl) ?_
  simp only [put_lit, put_non, List.set_cons_zero, List.set_cons_succ]
  refine wkS_take (some 65) (vd) (by kernel_rfl) (by kernel_rfl) (by kernel_rfl) (fun W hS => exec_loadCell 32 (.tmp 64) ⟨w.heap.size, 4, none⟩ _ _ (by kernel_rfl) (by kernel_rfl) hS Try.underlying32 rfl) ?_
  simp only [put_lit, put_non, List.set_cons_zero, List.set_cons_succ]
  refine wkS_take (some 67) (.pointer (some ⟨g2, 0, none⟩)) (by kernel_rfl) (by kernel_rfl) (by kernel_rfl) (fun W hS => by kernel_rfl) ?_
  simp only [put_lit, put_non, List.set_cons_zero, List.set_cons_succ]
  refine wkS_take (some 68) (.int .i64 q) (by kernel_rfl) (by kernel_rfl) (by kernel_rfl) (fun W hS => by kernel_rfl) ?_
  simp only [put_lit, put_non, List.set_cons_zero, List.set_cons_succ]
  refine wkS_take (some 69) (.pointer (some ⟨w.heap.size, 4, none⟩)) (by kernel_rfl) (by kernel_rfl) (by kernel_rfl) (fun W hS => by kernel_rfl) ?_
  simp only [put_lit, put_non, List.set_cons_zero, List.set_cons_succ]
  refine wkS_take (some 70) (vd) (by kernel_rfl) (by kernel_rfl) (by kernel_rfl) (fun W hS => exec_loadCell 32 (.tmp 69) ⟨w.heap.size, 4, none⟩ _ _ (by kernel_rfl) (by kernel_rfl) hS Try.underlying32 rfl) ?_
  simp only [put_lit, put_non, List.set_cons_zero, List.set_cons_succ]
  refine wkS_call (some 66) 17 #[.pointer (some ⟨g1, 0, none⟩), .int .i64 q, vd] (by kernel_rfl) (by kernel_rfl) (by kernel_rfl) (fun w => (by kernel_rfl)) ?_
  refine (hP.out.write T0d.out.1 HF.out q vd o.data HV.out (by have := H80.out; omega) HN.out).mono ?_
  rintro e w1 hd1
  rw [er] at hd1
  have HP1 := (HoldP.prog hP.out T0d.out BS0.out hd1 HP0.out).1
  have BS1 := (HoldP.prog hP.out T0d.out BS0.out hd1 HP0.out).2
  obtain ⟨rfl, hT1, hB1⟩ := T0d.out.prog hP.out hBd.out hd1
  refine ⟨_, rfl, HP1.cells.2.2.2.2, ?_⟩
  have HV1 := byt_low HV0.out HLO.out (B0d.out.trans hB1)
  have T1 := Lib.hid hT1
  have B1 := Lib.hid hB1
  have hBs1 := Lib.hid (Nat.le_trans hBd.out hB1.size)
  clear hT1 hB1 hd1
  simp only [put_lit, put_non, List.set_cons_zero, List.set_cons_succ]
  refine wkS_call (some 71) 29 #[.pointer (some ⟨g2, 0, none⟩), .int .i64 q, vd] (by kernel_rfl) (by kernel_rfl) (by kernel_rfl) (fun w => (by kernel_rfl)) ?_
  refine (rwrite_c T1.out.2.1 (by have := HF.out; unfold fewD at this; omega) (by have := HF.out; unfold fewD at this; omega) q HV1 (by have := H80.out; omega)).mono ?_
  rintro e w2 hd2
  rw [er] at hd2
  have HP2 := HoldP.ref BS1 hd2 HP1
  obtain ⟨rfl, hT2, hB2⟩ := T1.out.ref hP.out hBs1.out hd2
  refine ⟨_, rfl, HP2.cells.2.2.2.2, ?_⟩
  have T2 := Lib.hid hT2
  have B2 := Lib.hid hB2
  clear hT2 hB2 hd2
  simp only [put_lit, put_non, List.set_cons_zero, List.set_cons_succ]
  refine wkS_take (some 72) (.bool true) (by kernel_rfl) (by kernel_rfl) (by kernel_rfl) (fun W hS => exec_eqInt (T := 25) (T' := 25) (k := .i64) 66 71 r (by kernel_rfl) (by kernel_rfl) (by kernel_rfl)) ?_
  simp only [put_lit, put_non, List.set_cons_zero, List.set_cons_succ]
  refine wkS_take (some 6) (.bool true) (by kernel_rfl) (by kernel_rfl) (by kernel_rfl) (fun W hS => by kernel_rfl) ?_
  simp only [put_lit, put_non, List.set_cons_zero, List.set_cons_succ]
  refine wkS_done ?_
  go_wp2_with fail
  go_ret
  exact ⟨rfl, T2.out, B0d.out.trans (B1.out.trans B2.out)⟩
/-- One call on both: they agree and go on side by side. -/
theorem act_c (P : Prog6 D fp) (h : Two D fp w B g1 g2 s s) (hB : B ≤ w.heap.size) (hf : fewD s) (ho : OkOp6 o) (hv : Byt w vd o.data) (hlow : 0 < o.data.length → ∀ k, vd.ownBlock = some k → k < B) (h80 : o.data.length ≤ 80) :
    Calls Try.prog 12 #[.pointer (some ⟨g1, 0, none⟩), .pointer (some ⟨g2, 0, none⟩), opV o vd] w (RAct D fp w B g1 g2 (actS s o)) := by
  unfold actS
  by_cases h4 : o.kind % 8 = 4
  · rw [if_pos h4]
    exact act_4 P h hB hf ho h4
  rw [if_neg h4]
  by_cases h5 : o.kind % 8 = 5
  · rw [if_pos h5]
    exact act_5 P h hB hf ho h5
  rw [if_neg h5]
  by_cases h6 : o.kind % 8 = 6
  · rw [if_pos h6]
    exact act_6 P h hB hf ho h6
  rw [if_neg h6]
  by_cases h7 : o.kind % 8 = 7
  · rw [if_pos h7]
    exact act_7 P h hB hf ho h7
  rw [if_neg h7]
  exact act_w P h hB hf ho (by omega) hv hlow h80
end
end
end Go.Proofs.Ythknlimhenbhfaa

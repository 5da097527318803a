/- edit of the laws of stage 7: Put, Delete and Rollback on a store and on its model. -/
import Derived.Lib.SlBytesConst
import Derived.Test.YtckomifecmemnaaGreatPki
import Derived.Test.YtckomifecmemnaaGreatHkm
namespace Go.Proofs.YtckomifecmemnaaGreat
set_option linter.unusedSimpArgs false
open Go.RowKit Dig
set_option linter.unusedVariables false

/-- What a call of edit leaves. -/
def editS (s : SS) (o : Op7) : SS :=
  if o.kind % 10 = 4 then (deleteS s (pageS o.page)).2 else if o.kind % 10 = 7 then rollbackS s else (putS s (pageS o.page) (dataS o.size o.data)).2
/-- The variable of the argument. -/
def Hold7 (w : World) (gb : Nat) (o : Op7) (vd : Value) : Prop := w.heap[gb]? = some (.cells #[.int .u8 (o.kind : Int), .int .i64 o.page, .int .i64 o.size, vd, .int .i64 o.fail, .int .u64 (o.keep : Int), .int .i64 o.torn] 36 (0, 0))
theorem Hold7.page {w : World} {gb : Nat} {o : Op7} {vd : Value} (h : Hold7 w gb o vd) : w.cell? ⟨gb, 1, none⟩ = some (.int .i64 o.page) := by
  unfold Hold7 at h
  rw [cell_of_row w gb _ _ _ (0, 0) h]
  rfl
theorem Hold7.kind {w : World} {gb : Nat} {o : Op7} {vd : Value} (h : Hold7 w gb o vd) : w.cell? ⟨gb, 0, none⟩ = some (.int .u8 (o.kind : Int)) := by
  unfold Hold7 at h
  rw [cell_of_row w gb _ _ _ (0, 0) h]
  rfl
/-- What edit hands back: they agree and go on side by side. -/
def REd {G : Type} (Obj : ObjP G) (w : World) (B m d a b : Nat) (g : G) (x : Nat) (F R : Nat → Prop) (s : SS) (e : Ending) (w' : World) : Prop :=
  e = .returned (.bool true) ∧ ∃ F' R', Duo Obj w' B F' R' m d a b g x s s ∧ (∀ k, F' k → MoreR F w w' k) ∧ (∀ k, R' k → MoreR R w w' k) ∧ Below B w w' ∧ Turn (fun k => F k ∨ R k) w w'
/-- Bytes that lie low stay. -/
theorem low7 {w w' : World} {v : Value} {ts : List UInt8} {B : Nat} (h : Byt w v ts) (hlow : 0 < ts.length → ∀ k, v.ownBlock = some k → k < B) (hb : Below B w w') : Byt w' v ts := by
  obtain ⟨A, c, h1, h2, h3, h5⟩ := h
  refine ⟨A, c, h1, h2, h3, fun hp => ?_⟩
  obtain ⟨b, off, e, hlt, hc⟩ := h5 hp
  subst e
  have hbB : b < B := hlow hp b (by rw [h1]; rfl)
  exact ⟨b, off, rfl, Nat.lt_of_lt_of_le hlt hb.size, fun j hj => (hb.cell (p := ⟨b, off + j, none⟩) hbB).trans (hc j hj)⟩
theorem info_op7 : (Tryz.prog.info? 36).map (·.size) = some 7 := by kernel_rfl
section
variable {G : Type} {Obj : ObjP G} {Fit : FitP G} {w0 w w' : World} {B m d a b x gb : Nat} {F R F' : Nat → Prop} {g : G} {s1 s2 s : SS} {v vd : Value} {e : Ending} {o : Op7}
/-- The argument's variable beside both. -/
def Out7 (F R : Nat → Prop) (w : World) (gb : Nat) : Prop := gb < w.heap.size ∧ ¬ F gb ∧ ¬ R gb
theorem Hold7.prog (hd : PSt Obj w F m d a b g v s w') (ho : Out7 F R w gb) (h : Hold7 w gb o vd) : Hold7 w' gb o vd ∧ gb < w'.heap.size ∧ ¬ R gb := by
  obtain ⟨F', _, _, _, ⟨_, _, _, t4, t5⟩⟩ := hd
  exact ⟨by unfold Hold7 at h ⊢; rw [t5 gb ho.1 ho.2.1]; exact h, Nat.lt_of_lt_of_le ho.1 t4, ho.2.2⟩
theorem Hold7.ref (hx : R x) (hd : RSd w R x v s e w') (h1 : gb < w.heap.size) (h2 : ¬ R gb) (h : Hold7 w gb o vd) : Hold7 w' gb o vd := by
  obtain ⟨_, _, ⟨_, _, _, t4, t5⟩⟩ := hd
  unfold Hold7 at h ⊢
  rw [t5 gb h1 fun e => h2 (by rw [e]; exact hx)]
  exact h
theorem Hold7.below (h1 : gb < w.heap.size) (hB : Below w.heap.size w w') (h : Hold7 w gb o vd) : Hold7 w' gb o vd := by
  unfold Hold7 at h ⊢
  rw [hB.block gb h1]
  exact h
theorem PSt.turn (h : PSt Obj w F m d a b g v s w') : Turn F w w' := by
  obtain ⟨_, _, _, _, t⟩ := h
  exact t
theorem turn_up {w0 w1 wy w2 : World} (h0 : Below w.heap.size w w0) (h1 : Turn F w0 w1) (h2 : Below w1.heap.size w1 wy) (h3 : Turn (fun k => k = x) wy w2) (hx : R x) : Turn (fun k => F k ∨ R k) w w2 :=
  (((Turn.of_below _ h0).then h1 fun k _ h => .inl h).then (Turn.of_below (fun _ => False) h2) fun k _ h => h.elim).then h3 fun k _ h => .inr (by rw [h]; exact hx)
theorem moreR_then {F F' : Nat → Prop} {w1 w2 : World} (h1 : ∀ k, F' k → MoreR F w w1 k) (hs : w.heap.size ≤ w1.heap.size) (hs2 : w1.heap.size ≤ w2.heap.size) : ∀ k, MoreR F' w1 w2 k → MoreR F w w2 k := fun k hk => by
  rcases hk with h | h
  · rcases h1 k h with h | h
    · exact .inl h
    · exact .inr ⟨h.1, by omega⟩
  · exact .inr ⟨by omega, h.2⟩
theorem more_up {F1 : Nat → Prop} {w1 w2 : World} (h : ∀ k, F1 k → MoreR F w0 w1 k) (h0 : w.heap.size ≤ w0.heap.size) (h1 : w0.heap.size ≤ w1.heap.size) (h2 : w1.heap.size ≤ w2.heap.size) : ∀ k, F1 k → MoreR F w w2 k := fun k hk => (h k hk).imp id fun h => ⟨by omega, by omega⟩
theorem more_upR {w1 w2 : World} (h0 : w.heap.size ≤ w0.heap.size) (h1 : w0.heap.size ≤ w1.heap.size) (h2 : w1.heap.size ≤ w2.heap.size) : ∀ k, MoreR R w1 w2 k → MoreR R w w2 k := fun k hk => hk.imp id fun h => ⟨by omega, h.2⟩
theorem kind10 {k : Nat} : Int.tmod (k : Int) 10 = ((k % 10 : Nat) : Int) := by
  rw [Int.tmod_eq_emod_of_nonneg (by omega)]
  omega
set_option maxRecDepth 20000 in
set_option maxHeartbeats 4000000 in
theorem edit_7 (P : Prog7 Obj Fit) (h : Duo Obj w B F R m d a b g x s s) (hB : B ≤ w.heap.size) (ho : OkOp7 o) (hk : o.kind % 10 = 7) : Calls Tryz.prog 17 #[.pointer (some ⟨m, 0, none⟩), .pointer (some ⟨x, 0, none⟩), opV o vd] w (REd Obj w B m d a b g x F R (rollbackS s)) := by
  have hkk := kind10 (k := o.kind)
  have hkb : o.kind % 10 < 10 := Nat.mod_lt _ (by omega)
  rw [hk] at hkk
  obtain ⟨w0, ew⟩ : ∃ W, W = w.alloc (.cells #[.int .u8 (o.kind : Int), .int .i64 o.page, .int .i64 o.size, vd, .int .i64 o.fail, .int .u64 (o.keep : Int), .int .i64 o.torn] 36) := ⟨_, rfl⟩
  have hBa : Below w.heap.size w w0 := by rw [ew]; exact (Below.refl _ _).alloc (Nat.le_refl _) _
  have hgb : w.heap.size < w0.heap.size := by rw [ew, World.size_alloc]; omega
  have hH : Hold7 w0 w.heap.size o vd := by unfold Hold7; rw [ew, heap_alloc_new]
  have HEW := Lib.hid ew
  have D0 := Lib.hid (h.below P hBa)
  have OUT := Lib.hid (show Out7 F R w0 w.heap.size from ⟨hgb, fun hf => Nat.lt_irrefl _ (P.lt h.1 _ hf), fun hr => Nat.lt_irrefl _ (h.2.1.2.2.1 _ hr)⟩)
  have HH := Lib.hid hH
  have HBA := Lib.hid hBa
  have HWB := Lib.hid hB
  have hP := Lib.hid P
  have HFEW := Lib.hid (P.ok h.1).2
  clear ew hBa hgb hH h hB P
  unfold opV
  have hk0 := ho.1
  clear ho hk
  go_enter Tryz.func17, Tryz.ntmps17
  go_wp2_with fail
  rw [← HEW.out]
  refine (hP.out.rollback D0.out.1).mono ?_
  rintro e w1 ⟨rfl, hd1⟩
  obtain ⟨⟨F1, hD1, hF1, -⟩, hB1⟩ := D0.out.prog hP.out (Nat.le_trans HWB.out HBA.out.size) hd1
  have D1 := Lib.hid hD1
  have HF1 := Lib.hid hF1
  have B1 := Lib.hid hB1
  have TN1 := Lib.hid hd1.turn
  have hs1 := Lib.hid (show w0.heap.size ≤ w1.heap.size from by obtain ⟨_, _, _, _, t⟩ := hd1; exact t.2.2.2.1)
  clear hD1 hF1 hB1 hd1
  go_wp2_with fail
  refine (rrollback_c D1.out.2.1).mono ?_
  rintro e w2 hd2
  have hs2 := Lib.hid hd2.2.2.2.2.2.1
  have TN2 := Lib.hid hd2.2.2
  obtain ⟨rfl, hD2, hB2⟩ := D1.out.ref hP.out (Nat.le_trans HWB.out (Nat.le_trans HBA.out.size hs1.out)) hd2
  have D2 := Lib.hid hD2
  have B2 := Lib.hid hB2
  clear hD2 hB2 hd2
  go_wp2_with fail
  go_ret
  exact ⟨rfl, F1, _, D2.out, more_up HF1.out HBA.out.size hs1.out hs2.out, more_upR HBA.out.size hs1.out hs2.out, (HBA.out.mono HWB.out).trans (B1.out.trans B2.out), turn_up HBA.out TN1.out (Below.refl _ _) TN2.out D1.out.2.1.2.1⟩
set_option maxRecDepth 20000 in
set_option maxHeartbeats 4000000 in
theorem edit_4 (P : Prog7 Obj Fit) (h : Duo Obj w B F R m d a b g x s s) (hB : B ≤ w.heap.size) (ho : OkOp7 o) (hk : o.kind % 10 = 4) : Calls Tryz.prog 17 #[.pointer (some ⟨m, 0, none⟩), .pointer (some ⟨x, 0, none⟩), opV o vd] w (REd Obj w B m d a b g x F R (deleteS s (pageS o.page)).2) := by
  have hkk := kind10 (k := o.kind)
  have hkb : o.kind % 10 < 10 := Nat.mod_lt _ (by omega)
  rw [hk] at hkk
  obtain ⟨w0, ew⟩ : ∃ W, W = w.alloc (.cells #[.int .u8 (o.kind : Int), .int .i64 o.page, .int .i64 o.size, vd, .int .i64 o.fail, .int .u64 (o.keep : Int), .int .i64 o.torn] 36) := ⟨_, rfl⟩
  have hBa : Below w.heap.size w w0 := by rw [ew]; exact (Below.refl _ _).alloc (Nat.le_refl _) _
  have hgb : w.heap.size < w0.heap.size := by rw [ew, World.size_alloc]; omega
  have hH : Hold7 w0 w.heap.size o vd := by unfold Hold7; rw [ew, heap_alloc_new]
  have HEW := Lib.hid ew
  have D0 := Lib.hid (h.below P hBa)
  have OUT := Lib.hid (show Out7 F R w0 w.heap.size from ⟨hgb, fun hf => Nat.lt_irrefl _ (P.lt h.1 _ hf), fun hr => Nat.lt_irrefl _ (h.2.1.2.2.1 _ hr)⟩)
  have HH := Lib.hid hH
  have HBA := Lib.hid hBa
  have HWB := Lib.hid hB
  have hP := Lib.hid P
  have HFEW := Lib.hid (P.ok h.1).2
  clear ew hBa hgb hH h hB P
  unfold opV
  have hk0 := ho.1
  clear ho hk
  obtain ⟨r, er⟩ : ∃ r, (deleteS s (pageS o.page)).1 = r := ⟨_, rfl⟩
  go_enter Tryz.func17, Tryz.ntmps17
  go_wp2_with fail
  refine wp_region_plan (S := fun W => Hold7 W w.heap.size o vd) [(0, true), (1, true), (2, true), (5, true), (6, true), (7, true), (3, false), (4, false), (8, false), (9, false), (10, true), (11, true)] (by kernel_rfl) (by kernel_rfl) (by kernel_rfl) (by kernel_rfl) (fun _ _ d _ _ h => by cases d <;> exact h) (by rw [← HEW.out]; exact HH.out.below OUT.out.1 ((Below.refl _ _).drew)) ?_
  rw [← HEW.out]
  have hdr : Below w0.heap.size w0 w0.drew := (Below.refl _ _).drew
  have Dd := Lib.hid (D0.out.below hP.out hdr)
  have HHd := Lib.hid (HH.out.below OUT.out.1 hdr)
  have OUTd := Lib.hid (show Out7 F R w0.drew w.heap.size from ⟨Nat.lt_of_lt_of_le OUT.out.1 hdr.size, OUT.out.2⟩)
  have HBAd := Lib.hid (below_then HBA.out hdr)
  have HWBd := Lib.hid (Nat.le_trans HWB.out HBAd.out.size)
  clear hdr D0 HH OUT
  generalize w0.drew = wd at *
  refine wkS_take (some 12) (.pointer (some ⟨m, 0, none⟩)) (by kernel_rfl) (by kernel_rfl) (by kernel_rfl) (fun W hS => by kernel_rfl) ?_
  simp only [put_lit, put_non, List.set_cons_zero, List.set_cons_succ]
  refine wkS_take (some 13) (.pointer (some ⟨w.heap.size, 1, none⟩)) (by kernel_rfl) (by kernel_rfl) (by kernel_rfl) (fun W hS => by kernel_rfl) ?_
  simp only [put_lit, put_non, List.set_cons_zero, List.set_cons_succ]
  refine wkS_take (some 14) (.int .i64 o.page) (by kernel_rfl) (by kernel_rfl) (by kernel_rfl) (fun W hS => exec_loadCell 3 (.tmp 13) ⟨w.heap.size, 1, none⟩ _ _ (by kernel_rfl) (by kernel_rfl) hS.page Tryz.underlying3 rfl) ?_
  simp only [put_lit, put_non, List.set_cons_zero, List.set_cons_succ]
  refine wkS_take (some 17) (.pointer (some ⟨x, 0, none⟩)) (by kernel_rfl) (by kernel_rfl) (by kernel_rfl) (fun W hS => by kernel_rfl) ?_
  simp only [put_lit, put_non, List.set_cons_zero, List.set_cons_succ]
  refine wkS_take (some 18) (.pointer (some ⟨w.heap.size, 1, none⟩)) (by kernel_rfl) (by kernel_rfl) (by kernel_rfl) (fun W hS => by kernel_rfl) ?_
  simp only [put_lit, put_non, List.set_cons_zero, List.set_cons_succ]
  refine wkS_take (some 19) (.int .i64 o.page) (by kernel_rfl) (by kernel_rfl) (by kernel_rfl) (fun W hS => exec_loadCell 3 (.tmp 18) ⟨w.heap.size, 1, none⟩ _ _ (by kernel_rfl) (by kernel_rfl) hS.page Tryz.underlying3 rfl) ?_
  simp only [put_lit, put_non, List.set_cons_zero, List.set_cons_succ]
  refine wkS_call (some 15) 38 #[.int .i64 o.page] (by kernel_rfl) (by kernel_rfl) (by kernel_rfl) (fun w => (by kernel_rfl)) ?_
  refine (page_c _ o.page).mono ?_
  rintro e wz ⟨rfl, rfl⟩
  refine ⟨_, rfl, HHd.out, ?_⟩
  simp only [put_lit, put_non, List.set_cons_zero, List.set_cons_succ]
  refine wkS_call (some 16) 37 #[.pointer (some ⟨m, 0, none⟩), .int .i64 (pageS o.page)] (by kernel_rfl) (by kernel_rfl) (by kernel_rfl) (fun w => (by kernel_rfl)) ?_
  refine (hP.out.delete Dd.out.1 (pageS o.page)).mono ?_
  rintro e w1 ⟨rfl, hd1⟩
  rw [er]
  have hh1 := Hold7.prog hd1 OUTd.out HHd.out
  have TN1 := Lib.hid hd1.turn
  have hs1 := Lib.hid (show wd.heap.size ≤ w1.heap.size from by obtain ⟨_, _, _, _, t⟩ := hd1; exact t.2.2.2.1)
  obtain ⟨⟨F1, hD1, hF1, -⟩, hB1⟩ := Dd.out.prog hP.out HWBd.out hd1
  refine ⟨_, rfl, hh1.1, ?_⟩
  have HH1 := Lib.hid hh1
  have D1 := Lib.hid hD1
  have HF1 := Lib.hid hF1
  have B1 := Lib.hid hB1
  clear hh1 hD1 hF1 hB1 hd1
  simp only [put_lit, put_non, List.set_cons_zero, List.set_cons_succ]
  refine wkS_call (some 20) 38 #[.int .i64 o.page] (by kernel_rfl) (by kernel_rfl) (by kernel_rfl) (fun w => (by kernel_rfl)) ?_
  refine (page_c _ o.page).mono ?_
  rintro e wz ⟨rfl, rfl⟩
  refine ⟨_, rfl, HH1.out.1, ?_⟩
  simp only [put_lit, put_non, List.set_cons_zero, List.set_cons_succ]
  refine wkS_call (some 21) 39 #[.pointer (some ⟨x, 0, none⟩), .int .i64 (pageS o.page)] (by kernel_rfl) (by kernel_rfl) (by kernel_rfl) (fun w => (by kernel_rfl)) ?_
  refine (rdelete_c D1.out.2.1 (by have := HFEW.out.1; omega) (pageS o.page)).mono ?_
  rintro e w2 hd2
  rw [er] at hd2
  have hh2 := Hold7.ref D1.out.2.1.2.1 hd2 HH1.out.2.1 HH1.out.2.2 HH1.out.1
  have hs2 := Lib.hid hd2.2.2.2.2.2.1
  have TN2 := Lib.hid hd2.2.2
  obtain ⟨rfl, hD2, hB2⟩ := D1.out.ref hP.out (Nat.le_trans HWBd.out hs1.out) hd2
  refine ⟨_, rfl, hh2, ?_⟩
  have HH2 := Lib.hid hh2
  have D2 := Lib.hid hD2
  have B2 := Lib.hid hB2
  clear hD2 hB2 hd2 hh2
  simp only [put_lit, put_non, List.set_cons_zero, List.set_cons_succ]
  refine wkS_take (some 22) (.bool true) (by kernel_rfl) (by kernel_rfl) (by kernel_rfl) (fun W hS => exec_eqInt (T := 25) (T' := 25) (k := .i64) 16 21 r (by kernel_rfl) (by kernel_rfl) (by kernel_rfl)) ?_
  simp only [put_lit, put_non, List.set_cons_zero, List.set_cons_succ]
  refine wkS_take (some 6) (.bool true) (by kernel_rfl) (by kernel_rfl) (by kernel_rfl) (fun W hS => by kernel_rfl) ?_
  simp only [put_lit, put_non, List.set_cons_zero, List.set_cons_succ]
  refine wkS_done ?_
  go_wp2_with fail
  go_ret
  exact ⟨rfl, F1, _, D2.out, more_up HF1.out HBAd.out.size hs1.out hs2.out, more_upR HBAd.out.size hs1.out hs2.out, (HBAd.out.mono HWB.out).trans (B1.out.trans B2.out), turn_up HBAd.out TN1.out (Below.refl _ _) TN2.out D1.out.2.1.2.1⟩
set_option maxRecDepth 20000 in
set_option maxHeartbeats 4000000 in
theorem edit_p (P : Prog7 Obj Fit) (h : Duo Obj w B F R m d a b g x s s) (hB : B ≤ w.heap.size) (ho : OkOp7 o) (hk4 : o.kind % 10 ≠ 4) (hk7 : o.kind % 10 ≠ 7) (hv : Byt w vd o.data) (hlow : 0 < o.data.length → ∀ k, vd.ownBlock = some k → k < B) (h100 : o.data.length ≤ 100) : Calls Tryz.prog 17 #[.pointer (some ⟨m, 0, none⟩), .pointer (some ⟨x, 0, none⟩), opV o vd] w (REd Obj w B m d a b g x F R (putS s (pageS o.page) (dataS o.size o.data)).2) := by
  have HV := Lib.hid hv
  have HLO := Lib.hid hlow
  have H100 := Lib.hid h100
  have HDL := Lib.hid (dataS_length o.size o.data)
  clear hv hlow h100
  have hkk := kind10 (k := o.kind)
  have hkb : o.kind % 10 < 10 := Nat.mod_lt _ (by omega)
  obtain ⟨kq, ekq⟩ : ∃ q, o.kind % 10 = q := ⟨_, rfl⟩
  rw [ekq] at hkk hkb hk4 hk7
  have h4 : ((kq : Int) == 4) = false := by rw [beq_eq_false_iff_ne]; omega
  have h7 : ((kq : Int) == 7) = false := by rw [beq_eq_false_iff_ne]; omega
  obtain ⟨w0, ew⟩ : ∃ W, W = w.alloc (.cells #[.int .u8 (o.kind : Int), .int .i64 o.page, .int .i64 o.size, vd, .int .i64 o.fail, .int .u64 (o.keep : Int), .int .i64 o.torn] 36) := ⟨_, rfl⟩
  have hBa : Below w.heap.size w w0 := by rw [ew]; exact (Below.refl _ _).alloc (Nat.le_refl _) _
  have hgb : w.heap.size < w0.heap.size := by rw [ew, World.size_alloc]; omega
  have hH : Hold7 w0 w.heap.size o vd := by unfold Hold7; rw [ew, heap_alloc_new]
  have HEW := Lib.hid ew
  have D0 := Lib.hid (h.below P hBa)
  have OUT := Lib.hid (show Out7 F R w0 w.heap.size from ⟨hgb, fun hf => Nat.lt_irrefl _ (P.lt h.1 _ hf), fun hr => Nat.lt_irrefl _ (h.2.1.2.2.1 _ hr)⟩)
  have HH := Lib.hid hH
  have HBA := Lib.hid hBa
  have HWB := Lib.hid hB
  have hP := Lib.hid P
  have HFEW := Lib.hid (P.ok h.1).2
  clear ew hBa hgb hH h hB P
  unfold opV
  have hk0 := ho.1
  clear ho hk4 hk7 ekq
  obtain ⟨r, er⟩ : ∃ r, (putS s (pageS o.page) (dataS o.size o.data)).1 = r := ⟨_, rfl⟩
  go_enter Tryz.func17, Tryz.ntmps17
  go_wp2_with fail
  refine wp_region_plan (S := fun W => Hold7 W w.heap.size o vd) [(0, true), (1, true), (2, true), (4, true), (7, true), (8, true), (9, true), (11, true), (3, false), (5, false), (6, false), (10, false), (12, false), (13, false), (14, true), (15, true)] (by kernel_rfl) (by kernel_rfl) (by kernel_rfl) (by kernel_rfl) (fun _ _ d _ _ h => by cases d <;> exact h) (by rw [← HEW.out]; exact HH.out.below OUT.out.1 ((Below.refl _ _).drew)) ?_
  rw [← HEW.out]
  have hdr : Below w0.heap.size w0 w0.drew := (Below.refl _ _).drew
  have Dd := Lib.hid (D0.out.below hP.out hdr)
  have HHd := Lib.hid (HH.out.below OUT.out.1 hdr)
  have OUTd := Lib.hid (show Out7 F R w0.drew w.heap.size from ⟨Nat.lt_of_lt_of_le OUT.out.1 hdr.size, OUT.out.2⟩)
  have HBAd := Lib.hid (below_then HBA.out hdr)
  have HWBd := Lib.hid (Nat.le_trans HWB.out HBAd.out.size)
  clear hdr D0 HH OUT
  generalize w0.drew = wd at *
  refine wkS_take (some 29) (.pointer (some ⟨m, 0, none⟩)) (by kernel_rfl) (by kernel_rfl) (by kernel_rfl) (fun W hS => by kernel_rfl) ?_
  simp only [put_lit, put_non, List.set_cons_zero, List.set_cons_succ]
  refine wkS_take (some 30) (.pointer (some ⟨w.heap.size, 1, none⟩)) (by kernel_rfl) (by kernel_rfl) (by kernel_rfl) (fun W hS => by kernel_rfl) ?_
  simp only [put_lit, put_non, List.set_cons_zero, List.set_cons_succ]
  refine wkS_take (some 31) (.int .i64 o.page) (by kernel_rfl) (by kernel_rfl) (by kernel_rfl) (fun W hS => exec_loadCell 3 (.tmp 30) ⟨w.heap.size, 1, none⟩ _ _ (by kernel_rfl) (by kernel_rfl) hS.page Tryz.underlying3 rfl) ?_
  simp only [put_lit, put_non, List.set_cons_zero, List.set_cons_succ]
  refine wkS_take (some 33) (.agg #[.int .u8 (o.kind : Int), .int .i64 o.page, .int .i64 o.size, vd, .int .i64 o.fail, .int .u64 (o.keep : Int), .int .i64 o.torn]) (by kernel_rfl) (by kernel_rfl) (by kernel_rfl) (fun W hS => exec_loadRow 36 (.tmp 5) w.heap.size _ _ (by kernel_rfl) (by kernel_rfl) hS Tryz.underlying36 rfl info_op7) ?_
  simp only [put_lit, put_non, List.set_cons_zero, List.set_cons_succ]
  refine wkS_take (some 36) (.pointer (some ⟨x, 0, none⟩)) (by kernel_rfl) (by kernel_rfl) (by kernel_rfl) (fun W hS => by kernel_rfl) ?_
  simp only [put_lit, put_non, List.set_cons_zero, List.set_cons_succ]
  refine wkS_take (some 37) (.pointer (some ⟨w.heap.size, 1, none⟩)) (by kernel_rfl) (by kernel_rfl) (by kernel_rfl) (fun W hS => by kernel_rfl) ?_
  simp only [put_lit, put_non, List.set_cons_zero, List.set_cons_succ]
  refine wkS_take (some 38) (.int .i64 o.page) (by kernel_rfl) (by kernel_rfl) (by kernel_rfl) (fun W hS => exec_loadCell 3 (.tmp 37) ⟨w.heap.size, 1, none⟩ _ _ (by kernel_rfl) (by kernel_rfl) hS.page Tryz.underlying3 rfl) ?_
  simp only [put_lit, put_non, List.set_cons_zero, List.set_cons_succ]
  refine wkS_take (some 40) (.agg #[.int .u8 (o.kind : Int), .int .i64 o.page, .int .i64 o.size, vd, .int .i64 o.fail, .int .u64 (o.keep : Int), .int .i64 o.torn]) (by kernel_rfl) (by kernel_rfl) (by kernel_rfl) (fun W hS => exec_loadRow 36 (.tmp 5) w.heap.size _ _ (by kernel_rfl) (by kernel_rfl) hS Tryz.underlying36 rfl info_op7) ?_
  simp only [put_lit, put_non, List.set_cons_zero, List.set_cons_succ]
  refine wkS_call (some 32) 38 #[.int .i64 o.page] (by kernel_rfl) (by kernel_rfl) (by kernel_rfl) (fun w => (by kernel_rfl)) ?_
  refine (page_c _ o.page).mono ?_
  rintro e wz ⟨rfl, rfl⟩
  refine ⟨_, rfl, HHd.out, ?_⟩
  simp only [put_lit, put_non, List.set_cons_zero, List.set_cons_succ]
  refine wkS_call (some 34) 41 #[.agg #[.int .u8 (o.kind : Int), .int .i64 o.page, .int .i64 o.size, vd, .int .i64 o.fail, .int .u64 (o.keep : Int), .int .i64 o.torn]] (by kernel_rfl) (by kernel_rfl) (by kernel_rfl) (fun w => (by kernel_rfl)) ?_
  refine (data_c (o := o) (HV.out.below HBAd.out) H100.out).mono ?_
  rintro e wz ⟨r1, rfl, hr1, hn1, hB1z⟩
  have HHz := Lib.hid (HHd.out.below OUTd.out.1 hB1z)
  refine ⟨_, rfl, HHz.out, ?_⟩
  have HR1 := Lib.hid hr1
  have Dz := Lib.hid (Dd.out.below hP.out hB1z)
  have HNF := Lib.hid (show 0 < (dataS o.size o.data).length → ∀ k, r1.ownBlock = some k → ¬ F k from fun _ k hk hF => by have h1 := hn1 k hk; have h2 := hP.out.lt Dd.out.1 k hF; omega)
  have OUTz := Lib.hid (show Out7 F R wz w.heap.size from ⟨Nat.lt_of_lt_of_le OUTd.out.1 hB1z.size, OUTd.out.2⟩)
  have HBAz := Lib.hid (below_then HBAd.out hB1z)
  have HWBz := Lib.hid (Nat.le_trans HWB.out HBAz.out.size)
  clear hr1 hn1 hB1z
  simp only [put_lit, put_non, List.set_cons_zero, List.set_cons_succ]
  refine wkS_call (some 35) 20 #[.pointer (some ⟨m, 0, none⟩), .int .i64 (pageS o.page), r1] (by kernel_rfl) (by kernel_rfl) (by kernel_rfl) (fun w => (by kernel_rfl)) ?_
  refine (hP.out.put Dz.out.1 (pageS o.page) r1 (dataS o.size o.data) HR1.out (by have := HDL.out; omega) HNF.out).mono ?_
  rintro e w1 ⟨rfl, hd1⟩
  rw [er]
  have hh1 := Hold7.prog hd1 OUTz.out HHz.out
  have TN1 := Lib.hid hd1.turn
  have hs1 := Lib.hid (show wz.heap.size ≤ w1.heap.size from by obtain ⟨_, _, _, _, t⟩ := hd1; exact t.2.2.2.1)
  obtain ⟨⟨F1, hD1, hF1, -⟩, hB1⟩ := Dz.out.prog hP.out HWBz.out hd1
  refine ⟨_, rfl, hh1.1, ?_⟩
  have HH1 := Lib.hid hh1
  have D1 := Lib.hid hD1
  have HF1 := Lib.hid hF1
  have B1 := Lib.hid hB1
  clear hh1 hD1 hF1 hB1 hd1
  simp only [put_lit, put_non, List.set_cons_zero, List.set_cons_succ]
  refine wkS_call (some 39) 38 #[.int .i64 o.page] (by kernel_rfl) (by kernel_rfl) (by kernel_rfl) (fun w => (by kernel_rfl)) ?_
  refine (page_c _ o.page).mono ?_
  rintro e wz ⟨rfl, rfl⟩
  refine ⟨_, rfl, HH1.out.1, ?_⟩
  simp only [put_lit, put_non, List.set_cons_zero, List.set_cons_succ]
  refine wkS_call (some 41) 41 #[.agg #[.int .u8 (o.kind : Int), .int .i64 o.page, .int .i64 o.size, vd, .int .i64 o.fail, .int .u64 (o.keep : Int), .int .i64 o.torn]] (by kernel_rfl) (by kernel_rfl) (by kernel_rfl) (fun w => (by kernel_rfl)) ?_
  refine (data_c (o := o) (low7 HV.out HLO.out ((HBAz.out.mono HWB.out).trans B1.out)) H100.out).mono ?_
  rintro e wy ⟨r2, rfl, hr2, -, hB2y⟩
  have hh3 := HH1.out.1.below HH1.out.2.1 hB2y
  refine ⟨_, rfl, hh3, ?_⟩
  have HH3 := Lib.hid (show Hold7 wy w.heap.size o vd ∧ w.heap.size < wy.heap.size ∧ ¬ R w.heap.size from ⟨hh3, Nat.lt_of_lt_of_le HH1.out.2.1 hB2y.size, HH1.out.2.2⟩)
  have HR2 := Lib.hid hr2
  have Dy := Lib.hid (D1.out.below hP.out hB2y)
  have By := Lib.hid (hB2y.mono (Nat.le_trans HWBz.out hs1.out))
  have hsy := Lib.hid hB2y.size
  have BYY := Lib.hid hB2y
  clear hr2 hB2y hh3
  simp only [put_lit, put_non, List.set_cons_zero, List.set_cons_succ]
  refine wkS_call (some 42) 21 #[.pointer (some ⟨x, 0, none⟩), .int .i64 (pageS o.page), r2] (by kernel_rfl) (by kernel_rfl) (by kernel_rfl) (fun w => (by kernel_rfl)) ?_
  refine (rput_c Dy.out.2.1 (by have := HFEW.out.1; omega) (pageS o.page) HR2.out (by have := HDL.out; omega)).mono ?_
  rintro e w2 hd2
  rw [er] at hd2
  have hh2 := Hold7.ref Dy.out.2.1.2.1 hd2 HH3.out.2.1 HH3.out.2.2 HH3.out.1
  have hs2 := Lib.hid hd2.2.2.2.2.2.1
  have TN2 := Lib.hid hd2.2.2
  obtain ⟨rfl, hD2, hB2⟩ := Dy.out.ref hP.out (Nat.le_trans HWBz.out (Nat.le_trans hs1.out hsy.out)) hd2
  refine ⟨_, rfl, hh2, ?_⟩
  have HH2 := Lib.hid hh2
  have D2 := Lib.hid hD2
  have B2 := Lib.hid hB2
  clear hD2 hB2 hd2 hh2
  simp only [put_lit, put_non, List.set_cons_zero, List.set_cons_succ]
  refine wkS_take (some 43) (.bool true) (by kernel_rfl) (by kernel_rfl) (by kernel_rfl) (fun W hS => exec_eqInt (T := 25) (T' := 25) (k := .i64) 35 42 r (by kernel_rfl) (by kernel_rfl) (by kernel_rfl)) ?_
  simp only [put_lit, put_non, List.set_cons_zero, List.set_cons_succ]
  refine wkS_take (some 6) (.bool true) (by kernel_rfl) (by kernel_rfl) (by kernel_rfl) (fun W hS => by kernel_rfl) ?_
  simp only [put_lit, put_non, List.set_cons_zero, List.set_cons_succ]
  refine wkS_done ?_
  go_wp2_with fail
  go_ret
  exact ⟨rfl, F1, _, D2.out, more_up HF1.out HBAz.out.size hs1.out (Nat.le_trans hsy.out hs2.out), more_upR HBAz.out.size (Nat.le_trans hs1.out hsy.out) hs2.out, (HBAz.out.mono HWB.out).trans (B1.out.trans (By.out.trans B2.out)), turn_up HBAz.out TN1.out BYY.out TN2.out D1.out.2.1.2.1⟩
/-- One call of edit. -/
theorem edit_c (P : Prog7 Obj Fit) (h : Duo Obj w B F R m d a b g x s s) (hB : B ≤ w.heap.size) (ho : OkOp7 o) (hv : Byt w vd o.data) (hlow : 0 < o.data.length → ∀ k, vd.ownBlock = some k → k < B) (h100 : o.data.length ≤ 100) :
    Calls Tryz.prog 17 #[.pointer (some ⟨m, 0, none⟩), .pointer (some ⟨x, 0, none⟩), opV o vd] w (REd Obj w B m d a b g x F R (editS s o)) := by
  unfold editS
  by_cases h4 : o.kind % 10 = 4
  · rw [if_pos h4]
    exact edit_4 P h hB ho h4
  rw [if_neg h4]
  by_cases h7 : o.kind % 10 = 7
  · rw [if_pos h7]
    exact edit_7 P h hB ho h7
  rw [if_neg h7]
  exact edit_p P h hB ho h4 h7 hv hlow h100
end
end Go.Proofs.YtckomifecmemnaaGreat

/- agree of the laws of stage 7: a store looks like its model. -/
namespace Go.Proofs.YtckomifecmemnaaGreat
set_option linter.unusedSimpArgs false
open Go.RowKit Dig
set_option linter.unusedVariables false

theorem size_int : (Tryz.prog.info? 3).map (·.size) = some 1 := by kernel_rfl
section
variable {ev : Operand → Value} {o : Oper} {w : World}
theorem exec_neInt7 {T T' : TypeId} {k : IntKind} (t s : Tmp) (x : Int) (ho : o.op = .binOp .neq T (.tmp t) (.tmp s) T') (hx : ev (.tmp t) = .int k x) (hy : ev (.tmp s) = .int k x) :
    (execOp ev o).run Tryz.prog w = .ok (.value (.bool false)) w := by
  unfold execOp
  simp only [ho, hx, hy]
  cases k <;> go_simp
theorem exec_addI (x y : Operand) (a b : Int) (ho : o.op = .binOp .add 3 x y 3) (hx : ev x = .int .i64 a) (hy : ev y = .int .i64 b) (h1 : -1000000000 ≤ a) (h2 : a ≤ 1000000000) (h3 : -1000000000 ≤ b) (h4 : b ≤ 1000000000) :
    (execOp ev o).run Tryz.prog w = .ok (.value (.int .i64 (a + b))) w := by
  unfold execOp
  simp only [ho, hx, hy]
  go_simp
  exact IntWalk.i64_in _ (by omega)
theorem exec_pg0 (t : Tmp) {b off : Nat} (ho : o.op = .fieldAddr 80 (.tmp t) 0) (hx : ev (.tmp t) = .pointer (some ⟨b, off, none⟩)) :
    (execOp ev o).run Tryz.prog w = .ok (.value (.pointer (some ⟨b, off, none⟩))) w := by
  unfold execOp
  simp only [ho, hx]
  go_simp
end
theorem RSto.cells {w : World} {R : Nat → Prop} {m : Nat} {s : SS} (h : RSto w R m s) : w.cell? ⟨m, 0, none⟩ = some (.int .i64 (s.last : Int)) ∧ ∃ A c, w.cell? ⟨m, 1, none⟩ = some (.slice A s.kept.length c) := by
  obtain ⟨_, _, _, kv, wv, hc, hK, _⟩ := h
  obtain ⟨A, c, rfl⟩ := hK.form
  exact ⟨hc.cells.1, A, c, hc.cells.2.1⟩
/-- The store and its model, in the midst of agree. -/
def Ag {G : Type} (Obj : ObjP G) (w : World) (B m d a b : Nat) (g : G) (x : Nat) (F R : Nat → Prop) (s : SS) (F1 : Nat → Prop) (wr : World) : Prop :=
  Duo Obj wr B F1 R m d a b g x s s ∧ (∀ k, F1 k → MoreR F w wr k) ∧ Below B w wr ∧ w.heap.size ≤ wr.heap.size ∧ Turn F w wr
section
variable {G : Type} {Obj : ObjP G} {Fit : FitP G} {w wr w' : World} {B m d a b x : Nat} {F R F1 : Nat → Prop} {g : G} {s : SS} {v : Value} {e : Ending}
theorem Ag.start (h : Duo Obj w B F R m d a b g x s s) : Ag Obj w B m d a b g x F R s F w := ⟨h, fun _ h => .inl h, Below.refl _ _, Nat.le_refl _, Turn.refl _ _⟩
theorem Ag.below (P : Prog7 Obj Fit) (h : Ag Obj w B m d a b g x F R s F1 wr) (hB : B ≤ w.heap.size) (h2 : Below wr.heap.size wr w') : Ag Obj w B m d a b g x F R s F1 w' := by
  obtain ⟨h0, h1, h3, h4, h5⟩ := h
  exact ⟨h0.below P h2, fun k hk => (h1 k hk).imp id fun h => ⟨h.1, Nat.lt_of_lt_of_le h.2 h2.size⟩, h3.trans (h2.mono (Nat.le_trans hB h4)), Nat.le_trans h4 h2.size, h5.then (Turn.of_below (fun _ => False) h2) fun _ _ h => h.elim⟩
theorem Ag.prog (P : Prog7 Obj Fit) (h : Ag Obj w B m d a b g x F R s F1 wr) (hB : B ≤ w.heap.size) (hd : PSt Obj wr F1 m d a b g v s w') : ∃ F2, Ag Obj w B m d a b g x F R s F2 w' := by
  obtain ⟨h0, h1, h3, h4, h5⟩ := h
  have hs : wr.heap.size ≤ w'.heap.size := by obtain ⟨_, _, _, _, t⟩ := hd; exact t.2.2.2.1
  obtain ⟨⟨F2, hD, hF, _⟩, hb⟩ := h0.prog P (Nat.le_trans hB h4) hd
  refine ⟨F2, hD, fun k hk => ?_, h3.trans hb, Nat.le_trans h4 hs, h5.then hd.turn fun k hk h => (h1 k h).elim id fun h => by omega⟩
  rcases hF k hk with h | h
  · exact (h1 k h).imp id fun h => ⟨h.1, by omega⟩
  · exact .inr ⟨by omega, h.2⟩
/-- The blocks of the model do not turn. -/
theorem PSt.refs (h : Duo Obj wr B F1 R m d a b g x s s) (hd : PSt Obj wr F1 m d a b g v s w') : wr.heap.size ≤ w'.heap.size ∧ ∀ k, R k → w'.heap[k]? = wr.heap[k]? := by
  obtain ⟨_, _, _, _, ⟨_, _, _, t4, t5⟩⟩ := hd
  exact ⟨t4, fun k hk => t5 k (h.2.1.2.2.1 k hk) fun hf => h.2.2.2.2 k hf hk⟩
theorem Turn.wider {F' : Nat → Prop} (h : Turn F w w') (hF : ∀ k, F k → F' k) : Turn F' w w' := ⟨h.1, h.2.1, h.2.2.1, h.2.2.2.1, fun k hk hn => h.2.2.2.2 k hk fun hf => hn (hF k hf)⟩
theorem versions_length (s : SS) : (versionsS s).length = s.kept.length := by unfold versionsS; simp
theorem versions_get (s : SS) {j : Nat} (h : j < (versionsS s).length) : (versionsS s)[j] = (s.last : Int) - s.kept.length + 1 + j := by simp only [versionsS, List.getElem_map, List.getElem_range]
theorem find_few (hok : okSS s) (hf : fewS s) (v : Int) : ∀ l, findS s v = some l → l.length ≤ 1000 ∧ ∀ p ∈ l, p.2.length ≤ 2000 := by
  intro l hl
  have hm : l = s.work ∨ l ∈ s.kept := by
    unfold findS at hl
    split at hl
    · injection hl with hl
      exact .inl hl.symm
    · split at hl
      · cases hl
      · exact .inr (List.mem_of_getElem? hl)
  rcases hm with rfl | hm
  · exact ⟨Nat.le_trans hf.1 (by omega), fun p hp => Nat.le_trans (hok.2.2.2.2 p hp).2 (by omega)⟩
  · exact ⟨Nat.le_trans (hf.2 l hm) (by omega), fun p hp => Nat.le_trans (hok.2.2.2.1 l hm p hp).2 (by omega)⟩
set_option maxRecDepth 20000 in
set_option maxHeartbeats 16000000 in
theorem agree7_c (P : Prog7 Obj Fit) (h : Duo Obj w B F R m d a b g x s s) (hB : B ≤ w.heap.size) (hlast : s.last ≤ 1000) : Calls Tryz.prog 18 #[.pointer (some ⟨m, 0, none⟩), .pointer (some ⟨x, 0, none⟩)] w (REd Obj w B m d a b g x F R s) := by
  have hP := Lib.hid P
  have HWB := Lib.hid hB
  have HLA := Lib.hid hlast
  have HOK := Lib.hid (P.ok h.1)
  have A0 := Lib.hid ((Ag.start h).below P hB ((Below.refl w.heap.size w).drew))
  have hli : (s.last : Int) ≤ 1000 := by omega
  have HFW := Lib.hid (find_few (P.ok h.1).1 (P.ok h.1).2)
  clear h hB P hlast
  obtain ⟨la, ela⟩ : ∃ la, s.last = la := ⟨_, rfl⟩
  have ELA := Lib.hid ela
  rw [ela] at hli
  clear ela
  go_enter Tryz.func18, Tryz.ntmps18
  go_wp2_with fail
  have C0 := Lib.hid (show ∀ W F1, Ag Obj w B m d a b g x F R s F1 W → W.cell? ⟨x, 0, none⟩ = some (.int .i64 (la : Int)) from fun W F1 h => by rw [← ELA.out]; exact h.1.2.1.cells.1)
  refine wp_region_plan (S := fun W => W.cell? ⟨x, 0, none⟩ = some (.int .i64 (la : Int))) [(0, true), (2, true), (3, true), (4, true), (5, true), (1, false), (6, true)] (by kernel_rfl) (by kernel_rfl) (by kernel_rfl) (by kernel_rfl) (fun _ _ d _ _ h => by cases d <;> exact h) (C0.out _ _ A0.out) ?_
  refine wkS_take (some 17) (.pointer (some ⟨m, 0, none⟩)) (by kernel_rfl) (by kernel_rfl) (by kernel_rfl) (fun W hS => by kernel_rfl) ?_
  simp only [put_lit, put_non, List.set_cons_zero, List.set_cons_succ]
  refine wkS_take (some 19) (.pointer (some ⟨x, 0, none⟩)) (by kernel_rfl) (by kernel_rfl) (by kernel_rfl) (fun W hS => by kernel_rfl) ?_
  simp only [put_lit, put_non, List.set_cons_zero, List.set_cons_succ]
  refine wkS_take (some 20) (.pointer (some ⟨x, 0, none⟩)) (by kernel_rfl) (by kernel_rfl) (by kernel_rfl) (fun W hS => by kernel_rfl) ?_
  simp only [put_lit, put_non, List.set_cons_zero, List.set_cons_succ]
  refine wkS_take (some 21) (.pointer (some ⟨x, 0, none⟩)) (by kernel_rfl) (by kernel_rfl) (by kernel_rfl) (fun W hS => by kernel_rfl) ?_
  simp only [put_lit, put_non, List.set_cons_zero, List.set_cons_succ]
  refine wkS_take (some 22) (.int .i64 (la : Int)) (by kernel_rfl) (by kernel_rfl) (by kernel_rfl) (fun W hS => exec_loadCell 3 (.tmp 21) ⟨x, 0, none⟩ _ _ (by kernel_rfl) (by kernel_rfl) (hS) Tryz.underlying3 rfl) ?_
  simp only [put_lit, put_non, List.set_cons_zero, List.set_cons_succ]
  refine wkS_call (some 18) 32 #[.pointer (some ⟨m, 0, none⟩)] (by kernel_rfl) (by kernel_rfl) (by kernel_rfl) (fun w => (by kernel_rfl)) ?_
  refine (hP.out.version A0.out.1.1 (by have := HLA.out; omega)).mono ?_
  rintro e w1 ⟨rfl, hd⟩
  obtain ⟨F1, hA1⟩ := A0.out.prog hP.out HWB.out hd
  rw [ELA.out]
  refine ⟨_, rfl, C0.out _ _ hA1, ?_⟩
  have A1 := Lib.hid hA1
  clear hd hA1 A0
  simp only [put_lit, put_non, List.set_cons_zero, List.set_cons_succ]
  refine wkS_take (some 23) (.bool false) (by kernel_rfl) (by kernel_rfl) (by kernel_rfl) (fun W hS => exec_neInt7 (T := 3) (T' := 3) (k := .i64) 18 22 (la : Int) (by kernel_rfl) (by kernel_rfl) (by kernel_rfl)) ?_
  simp only [put_lit, put_non, List.set_cons_zero, List.set_cons_succ]
  refine wkS_done ?_
  go_wp2_with fail
  refine (hP.out.versions A1.out.1.1 (by have := HLA.out; omega)).mono ?_
  rintro e w2 ⟨r, rfl, hr, hd⟩
  obtain ⟨F2, hA2⟩ := A1.out.prog hP.out HWB.out hd
  have A2 := Lib.hid hA2
  have hgl := fun j (h : j < (versionsS s).length) => versions_get s h
  generalize hvs : versionsS s = vs at *
  have hvl : vs.length = s.kept.length := by rw [← hvs]; exact versions_length s
  have hk1 : 1 ≤ s.kept.length := HOK.out.1.1
  have hk4 : s.kept.length ≤ 4 := HOK.out.1.2.1
  obtain ⟨k0, Ak, ck, k1⟩ := hA2.1.2.1.cells
  rw [ELA.out] at k0 hgl
  obtain ⟨nk, enk⟩ : ∃ nk, s.kept.length = nk := ⟨_, rfl⟩
  rw [enk] at hvl hk1 hk4 k1 hgl
  obtain ⟨bl, cl, rfl⟩ := own_block hr (by omega)
  have hcr := own_cel hr
  obtain ⟨b', off', e', hbl, hrg⟩ := hcr.range (by omega)
  injection e' with e'
  injection e' with e1' e2'
  subst e1' e2'
  have HGL := Lib.hid (show ∀ j, j < nk → w2.cell? ⟨bl, 0 + j, none⟩ = some (.int .i64 ((la : Int) - nk + 1 + j)) from fun j hj => by
    have := hrg j (.int .i64 ((la : Int) - nk + 1 + j)) (by rw [List.getElem?_map, List.getElem?_eq_getElem (by omega), Option.map_some, hgl j (by omega)])
    exact this)
  rw [hvl]
  have HBL := Lib.hid hbl
  have K0 := Lib.hid k0
  have hx2 : x < w2.heap.size := hA2.1.2.1.2.2.1 x hA2.1.2.1.2.1
  have HX2 := Lib.hid hx2
  clear hd hA2 hr hcr hrg hgl hvs hvl hbl k0 hx2 A1 enk
  have hnki : (nk : Int) ≤ 4 := by omega
  go_wp2_with fail
  go_loopw [6] (fun i wr => ∃ j : Nat, j ≤ nk ∧ i = .int .i64 j ∧ Below w2.heap.size w2 wr) (fun i _ => nk - (intOf i).toNat)
  case atStart => exact ⟨0, Nat.zero_le _, rfl, Below.refl _ _⟩
  case round =>
    obtain ⟨j, hj, rfl, hBr⟩ := hrel
    have BR := Lib.hid hBr
    clear k1
    by_cases hjn : j < nk
    · have HJ : (j : Int) < nk := by omega
      clear hBr
      go_wp2_with fail
      refine wp_region_plan (S := fun W => Below w2.heap.size w2 W) [(0, true), (1, true), (2, true), (3, true), (4, true), (5, true), (6, true), (7, true), (8, true), (9, true), (10, true), (11, true), (12, true), (13, true), (14, true)] (by kernel_rfl) (by kernel_rfl) (by kernel_rfl) (by kernel_rfl) (fun _ _ d _ _ h => by cases d <;> exact h) (BR.out.drew) ?_
      refine wkS_take (some 40) (.slice (some ⟨bl, 0, none⟩) nk cl) (by kernel_rfl) (by kernel_rfl) (by kernel_rfl) (fun W hS => by kernel_rfl) ?_
      simp only [put_lit, put_non, List.set_cons_zero, List.set_cons_succ]
      refine wkS_take (some 41) (.int .i64 (j : Int)) (by kernel_rfl) (by kernel_rfl) (by kernel_rfl) (fun W hS => by kernel_rfl) ?_
      simp only [put_lit, put_non, List.set_cons_zero, List.set_cons_succ]
      refine wkS_take (some 42) (.pointer (some ⟨bl, 0 + j * 1, none⟩)) (by kernel_rfl) (by kernel_rfl) (by kernel_rfl) (fun W hS => exec_indexC Tryz.underlying47 size_int 40 41 (n := nk) (c := cl) (j := j) (by kernel_rfl) (by kernel_rfl) (by kernel_rfl) hjn) ?_
      simp only [put_lit, put_non, List.set_cons_zero, List.set_cons_succ]
      refine wkS_take (some 43) (.int .i64 ((la : Int) - nk + 1 + j)) (by kernel_rfl) (by kernel_rfl) (by kernel_rfl) (fun W hS => exec_loadCell 3 (.tmp 42) ⟨bl, 0 + j * 1, none⟩ _ _ (by kernel_rfl) (by kernel_rfl) ((hS.cell (p := ⟨bl, 0 + j * 1, none⟩) HBL.out).trans (by rw [Nat.mul_one]; exact HGL.out j hjn)) Tryz.underlying3 rfl) ?_
      simp only [put_lit, put_non, List.set_cons_zero, List.set_cons_succ]
      refine wkS_take (some 44) (.pointer (some ⟨x, 0, none⟩)) (by kernel_rfl) (by kernel_rfl) (by kernel_rfl) (fun W hS => by kernel_rfl) ?_
      simp only [put_lit, put_non, List.set_cons_zero, List.set_cons_succ]
      refine wkS_take (some 45) (.pointer (some ⟨x, 0, none⟩)) (by kernel_rfl) (by kernel_rfl) (by kernel_rfl) (fun W hS => by kernel_rfl) ?_
      simp only [put_lit, put_non, List.set_cons_zero, List.set_cons_succ]
      refine wkS_take (some 46) (.pointer (some ⟨x, 0, none⟩)) (by kernel_rfl) (by kernel_rfl) (by kernel_rfl) (fun W hS => by kernel_rfl) ?_
      simp only [put_lit, put_non, List.set_cons_zero, List.set_cons_succ]
      refine wkS_take (some 47) (.int .i64 (la : Int)) (by kernel_rfl) (by kernel_rfl) (by kernel_rfl) (fun W hS => exec_loadCell 3 (.tmp 46) ⟨x, 0, none⟩ _ _ (by kernel_rfl) (by kernel_rfl) ((hS.cell (p := ⟨x, 0, none⟩) HX2.out).trans K0.out) Tryz.underlying3 rfl) ?_
      simp only [put_lit, put_non, List.set_cons_zero, List.set_cons_succ]
      refine wkS_take (some 48) (.slice (some ⟨bl, 0, none⟩) nk cl) (by kernel_rfl) (by kernel_rfl) (by kernel_rfl) (fun W hS => by kernel_rfl) ?_
      simp only [put_lit, put_non, List.set_cons_zero, List.set_cons_succ]
      refine wkS_take (some 49) (.int .i64 (nk : Int)) (by kernel_rfl) (by kernel_rfl) (by kernel_rfl) (fun W hS => by kernel_rfl) ?_
      simp only [put_lit, put_non, List.set_cons_zero, List.set_cons_succ]
      refine wkS_take (some 50) (.int .i64 ((la : Int) - nk)) (by kernel_rfl) (by kernel_rfl) (by kernel_rfl) (fun W hS => exec_subI (.tmp 47) (.tmp 49) (la : Int) (nk : Int) (by kernel_rfl) (by kernel_rfl) (by kernel_rfl) (by omega) (by omega) (by omega) (by omega)) ?_
      simp only [put_lit, put_non, List.set_cons_zero, List.set_cons_succ]
      refine wkS_take (some 51) (.int .i64 ((la : Int) - nk + 1)) (by kernel_rfl) (by kernel_rfl) (by kernel_rfl) (fun W hS => exec_addI (.tmp 50) (.const (.int .i64 1)) ((la : Int) - nk) 1 (by kernel_rfl) (by kernel_rfl) (by kernel_rfl) (by omega) (by omega) (by omega) (by omega)) ?_
      simp only [put_lit, put_non, List.set_cons_zero, List.set_cons_succ]
      refine wkS_take (some 52) (.int .i64 (j : Int)) (by kernel_rfl) (by kernel_rfl) (by kernel_rfl) (fun W hS => by kernel_rfl) ?_
      simp only [put_lit, put_non, List.set_cons_zero, List.set_cons_succ]
      refine wkS_take (some 53) (.int .i64 ((la : Int) - nk + 1 + j)) (by kernel_rfl) (by kernel_rfl) (by kernel_rfl) (fun W hS => exec_addI (.tmp 51) (.tmp 52) ((la : Int) - nk + 1) (j : Int) (by kernel_rfl) (by kernel_rfl) (by kernel_rfl) (by omega) (by omega) (by omega) (by omega)) ?_
      simp only [put_lit, put_non, List.set_cons_zero, List.set_cons_succ]
      refine wkS_take (some 54) (.bool false) (by kernel_rfl) (by kernel_rfl) (by kernel_rfl) (fun W hS => exec_neInt7 (T := 3) (T' := 3) (k := .i64) 43 53 ((la : Int) - nk + 1 + j) (by kernel_rfl) (by kernel_rfl) (by kernel_rfl)) ?_
      simp only [put_lit, put_non, List.set_cons_zero, List.set_cons_succ]
      refine wkS_done ?_
      go_wp2_with fail
      go_roundw
      case rel => exact ⟨j + 1, by omega, by go_num, BR.out.drew⟩
      case measure => simp [intOf]; omega
    · have HJ : ¬ (j : Int) < nk := by omega
      have hw2 := wr
      have A3 := Lib.hid (A2.out.below hP.out HWB.out hBr)
      have k0 := C0.out _ _ A3.out
      clear hBr BR A2 HGL HBL K0 HX2 hw2
      go_wp2_with fail
      go_loopw [7] (fun v wr => ∃ t : Nat, t ≤ 8 ∧ v = .int .i64 ((la : Int) - 5 + t) ∧ ∃ F4, Ag Obj w B m d a b g x F R s F4 wr) (fun v _ => ((la : Int) + 3 - intOf v).toNat)
      case atStart => exact ⟨0, by omega, by simp, F2, A3.out⟩
      case round =>
        obtain ⟨t, ht, rfl, F4, hA4⟩ := hrel
        clear A3 k0
        generalize wr = w4 at *
        have k0 := C0.out _ _ hA4
        have A4 := Lib.hid hA4
        clear hA4
        obtain ⟨V, eV⟩ : ∃ V, (la : Int) - 5 + t = V := ⟨_, rfl⟩
        have hV0 : -5 ≤ V := by omega
        have hV1 : V ≤ la + 3 := by omega
        have EV := Lib.hid eV
        rw [eV]
        by_cases ht7 : t ≤ 7
        · have hV2 : V ≤ (la : Int) + 2 := by omega
          clear eV
          go_wp2_with fail
          refine (rfind_c A4.out.1.2.1 (by have := HLA.out; omega) V (by omega) (by omega)).mono ?_
          rintro e w5 ⟨r, rfl, hp, hB5⟩
          have A5 := Lib.hid (A4.out.below hP.out HWB.out hB5)
          have hp5 : PgsV w5 (fun b => R b ∧ b ≠ x) r ((findS s V).getD []) := hp.below hB5
          have HP5 := Lib.hid hp5
          clear hp hB5 k0
          go_wp2_with fail
          refine (hP.out.pages A5.out.1.1 (by have := HLA.out; omega) V (by omega) (by omega)).mono ?_
          rintro e w6 ⟨r2, rfl, hr2, hd⟩
          obtain ⟨F6, hA6⟩ := A5.out.prog hP.out HWB.out hd
          have hrf := PSt.refs A5.out.1 hd
          have A6 := Lib.hid hA6
          have hp6 := hp5.keep hrf.1 (fun k _ hk => hrf.2 k hk.1) (fun _ h => h)
          have hps : pagesS s V = ((findS s V).getD []).map (·.1) := rfl
          have hL : ((findS s V).getD []).length ≤ 1000 := by
            cases h : findS s V with
            | none => simp
            | some l => exact (HFW.out V l h).1
          rw [hps] at hr2
          clear hd hA6 hrf hps HP5 hp5
          generalize (findS s V).getD [] = L at hr2 hp6 hL
          obtain ⟨np, enp⟩ : ∃ np, L.length = np := ⟨_, rfl⟩
          have hcr := own_cel hr2
          rw [List.length_map, enp] at hcr
          obtain ⟨A1, c1, rfl⟩ := hp6.form
          obtain ⟨A2, c2, rfl⟩ := hcr.form
          rw [enp] at hp6 hL ⊢
          have HP6 := Lib.hid hp6
          have HCR := Lib.hid hcr
          have ENP := Lib.hid enp
          have hnp : (np : Int) ≤ 1000 := by omega
          clear hL hr2 hcr hp6 enp
          go_wp2_with fail
          go_loopw [11] (fun i wr => ∃ j : Nat, j ≤ np ∧ i = .int .i64 j ∧ Below w6.heap.size w6 wr) (fun i _ => np - (intOf i).toNat)
          case atStart => exact ⟨0, Nat.zero_le _, rfl, Below.refl _ _⟩
          case round =>
            obtain ⟨j, hj, rfl, hBr⟩ := hrel
            have BR := Lib.hid hBr
            by_cases hjn : j < np
            · have HJ : (j : Int) < np := by omega
              have hjL : j < L.length := by rw [ENP.out]; exact hjn
              obtain ⟨b1, o1, vb, rfl, hb1, hrp, -⟩ := HP6.out.at' hjL
              obtain ⟨b2, o2, rfl, hb2, hrg⟩ := HCR.out.range (by omega)
              have hq1 : w6.cell? ⟨b1, o1 + j * 2, none⟩ = some (.int .i64 (L[j].1 : Int)) := hrp 0 _ rfl
              have hq2 : w6.cell? ⟨b2, o2 + j, none⟩ = some (.int .i64 (L[j].1 : Int)) := hrg j _ (by simp [hjL])
              generalize L[j].1 = pn at *
              have HQ1 := Lib.hid hq1
              have HQ2 := Lib.hid hq2
              have HB1 := Lib.hid hb1
              have HB2 := Lib.hid hb2
              clear hrp hrg hq1 hq2 hb1 hb2 hBr
              go_wp2_with fail
              refine wp_region_plan (S := fun W => Below w6.heap.size w6 W) [(0, true), (1, true), (2, true), (3, true), (4, true), (5, true), (6, true), (7, true), (8, true), (9, true)] (by kernel_rfl) (by kernel_rfl) (by kernel_rfl) (by kernel_rfl) (fun _ _ d _ _ h => by cases d <;> exact h) (BR.out.drew) ?_
              refine wkS_take (some 89) (.slice (some ⟨b2, o2, none⟩) np c2) (by kernel_rfl) (by kernel_rfl) (by kernel_rfl) (fun W hS => by kernel_rfl) ?_
              simp only [put_lit, put_non, List.set_cons_zero, List.set_cons_succ]
              refine wkS_take (some 90) (.int .i64 (j : Int)) (by kernel_rfl) (by kernel_rfl) (by kernel_rfl) (fun W hS => by kernel_rfl) ?_
              simp only [put_lit, put_non, List.set_cons_zero, List.set_cons_succ]
              refine wkS_take (some 91) (.pointer (some ⟨b2, o2 + j * 1, none⟩)) (by kernel_rfl) (by kernel_rfl) (by kernel_rfl) (fun W hS => exec_indexC Tryz.underlying47 size_int 89 90 (n := np) (c := c2) (j := j) (by kernel_rfl) (by kernel_rfl) (by kernel_rfl) hjn) ?_
              simp only [put_lit, put_non, List.set_cons_zero, List.set_cons_succ]
              refine wkS_take (some 92) (.int .i64 (pn : Int)) (by kernel_rfl) (by kernel_rfl) (by kernel_rfl) (fun W hS => exec_loadCell 3 (.tmp 91) ⟨b2, o2 + j * 1, none⟩ _ _ (by kernel_rfl) (by kernel_rfl) ((hS.cell (p := ⟨b2, o2 + j * 1, none⟩) HB2.out).trans (by rw [Nat.mul_one]; exact HQ2.out)) Tryz.underlying3 rfl) ?_
              simp only [put_lit, put_non, List.set_cons_zero, List.set_cons_succ]
              refine wkS_take (some 93) (.slice (some ⟨b1, o1, none⟩) np c1) (by kernel_rfl) (by kernel_rfl) (by kernel_rfl) (fun W hS => by kernel_rfl) ?_
              simp only [put_lit, put_non, List.set_cons_zero, List.set_cons_succ]
              refine wkS_take (some 94) (.int .i64 (j : Int)) (by kernel_rfl) (by kernel_rfl) (by kernel_rfl) (fun W hS => by kernel_rfl) ?_
              simp only [put_lit, put_non, List.set_cons_zero, List.set_cons_succ]
              refine wkS_take (some 95) (.pointer (some ⟨b1, o1 + j * 2, none⟩)) (by kernel_rfl) (by kernel_rfl) (by kernel_rfl) (fun W hS => exec_indexC Tryz.underlying76 size_pg 93 94 (n := np) (c := c1) (j := j) (by kernel_rfl) (by kernel_rfl) (by kernel_rfl) hjn) ?_
              simp only [put_lit, put_non, List.set_cons_zero, List.set_cons_succ]
              refine wkS_take (some 96) (.pointer (some ⟨b1, o1 + j * 2, none⟩)) (by kernel_rfl) (by kernel_rfl) (by kernel_rfl) (fun W hS => exec_pg0 95 (by kernel_rfl) (by kernel_rfl)) ?_
              simp only [put_lit, put_non, List.set_cons_zero, List.set_cons_succ]
              refine wkS_take (some 97) (.int .i64 (pn : Int)) (by kernel_rfl) (by kernel_rfl) (by kernel_rfl) (fun W hS => exec_loadCell 3 (.tmp 96) ⟨b1, o1 + j * 2, none⟩ _ _ (by kernel_rfl) (by kernel_rfl) ((hS.cell (p := ⟨b1, o1 + j * 2, none⟩) HB1.out).trans HQ1.out) Tryz.underlying3 rfl) ?_
              simp only [put_lit, put_non, List.set_cons_zero, List.set_cons_succ]
              refine wkS_take (some 98) (.bool false) (by kernel_rfl) (by kernel_rfl) (by kernel_rfl) (fun W hS => exec_neInt7 (T := 3) (T' := 3) (k := .i64) 92 97 (pn : Int) (by kernel_rfl) (by kernel_rfl) (by kernel_rfl)) ?_
              simp only [put_lit, put_non, List.set_cons_zero, List.set_cons_succ]
              refine wkS_done ?_
              go_wp2_with fail
              go_roundw
              case rel => exact ⟨j + 1, by omega, by go_num, BR.out.drew⟩
              case measure => simp [intOf]; omega
            · have HJ : ¬ (j : Int) < np := by omega
              have A7 := Lib.hid (A6.out.below hP.out HWB.out hBr)
              clear hBr BR A6 HP6 HCR ENP
              go_wp2_with fail
              go_loopw [12] (fun z wr => ∃ q : Int, -1 ≤ q ∧ q ≤ 7 ∧ z = .int .i64 q ∧ ∃ F8, Ag Obj w B m d a b g x F R s F8 wr) (fun z _ => (7 - intOf z).toNat)
              case atStart => exact ⟨-1, by omega, by omega, rfl, F6, A7.out⟩
              case round =>
                obtain ⟨q, hq1, hq2, rfl, F8, hA8⟩ := hrel
                have A8 := Lib.hid hA8
                clear hA8 A7
                generalize wr = w8 at *
                by_cases hq6 : q ≤ 6
                · go_wp2_with fail
                  refine (hP.out.get A8.out.1.1 (by have := HLA.out; omega) V (51 * q) (by omega) (by omega)).mono ?_
                  rintro e w9 ⟨r1, rfl, hr1, hd⟩
                  obtain ⟨F9, hA9⟩ := A8.out.prog hP.out HWB.out hd
                  have A9 := Lib.hid hA9
                  have HR1 := Lib.hid hr1.byt
                  clear hr1 hd hA9
                  have GT := Lib.hid (rget_c A9.out.1.2.1 (by have := HLA.out; omega) V (by omega) (by omega) (HFW.out V) (51 * q))
                  generalize getS s V (51 * q) = gq at *
                  go_wp2_with fail
                  refine (GT.out).mono ?_
                  rintro e w10 ⟨r2, rfl, hr2, hB10⟩
                  have A10 := Lib.hid (A9.out.below hP.out HWB.out hB10)
                  have hc1 := run_stringB w10 r1 _ (HR1.out.below hB10)
                  have hc2 := run_stringB w10 r2 _ hr2.byt
                  obtain ⟨k, bs⟩ := gq
                  dsimp only at hc1 hc2
                  clear hB10 hr2 GT
                  go_wp2_with fail
                  go_roundw
                  case rel => exact ⟨q + 1, by omega, by omega, by go_num, F9, A10.out⟩
                  case measure => simp [intOf]; omega
                · go_wp2_with fail
                  go_roundw
                  case rel => exact ⟨t + 1, by omega, by rw [show ((la : Int) - 5 + ((t + 1 : Nat) : Int)) = V + 1 by have := EV.out; omega], F8, A8.out⟩
                  case measure => simp [intOf]; omega
        · have hV2 : ¬ V ≤ (la : Int) + 2 := by omega
          clear eV
          go_wp2_with fail
          go_ret
          exact ⟨rfl, F4, R, A4.out.1, A4.out.2.1, (fun _ h => .inl h), A4.out.2.2.1, A4.out.2.2.2.2.wider fun _ h => .inl h⟩
end
end Go.Proofs.YtckomifecmemnaaGreat

/- A store on its disk; the sanity check of the laws of stage 7 returns true. -/
namespace Go.Proofs.YtckomifecmemnaaGreat
open Go.RowKit Dig
set_option linter.unusedVariables false

/-- A disk that nobody else holds, and that is calm. -/
def Alone (w : World) (B : Nat) (Fd : Nat → Prop) (d : Nat) (ds : DS) : Prop := Disk w Fd d ds ∧ (∀ k, Fd k → B ≤ k) ∧ calmD ds
/-- A store on its disk, apart from what was there. -/
def Sit {G : Type} (Obj : ObjP G) (Fit : FitP G) (w : World) (B : Nat) (F Fd : Nat → Prop) (m d a b : Nat) (g : G) (s : SS) (ds : DS) : Prop :=
  Obj w F m d a b g s ∧ Alone w B Fd d ds ∧ (∀ k, F k → ¬ Fd k) ∧ (∀ k, F k → B ≤ k) ∧ b ≤ ds.dur.length ∧ Fit (cutD ds a b) g s.last s.kept
/-- A world that goes on: nothing below B turns. -/
abbrev On (B : Nat) (w w' : World) : Prop := Below B w w' ∧ w.heap.size ≤ w'.heap.size
theorem calm_newS (n : Nat) : calmD (newS n) := ⟨rfl, rfl, rfl⟩
theorem newS_len (n : Nat) : (newS n).dur.length = n := List.length_replicate
theorem cut_newS {n a b : Nat} (h : b ≤ n) : cutD (newS n) a b = List.replicate (b - a) Z64 := by
  show ((List.replicate n Z64).drop a).take (b - a) = _
  rw [List.drop_replicate, List.take_replicate, Nat.min_eq_left (by omega)]
section
variable {G : Type} {Obj : ObjP G} {Fit : FitP G} {w w' : World} {B m d a b : Nat} {F Fd : Nat → Prop} {g : G} {s s' : SS} {ds : DS} {v : Value} {e : Ending}
theorem Alone.below (h : Alone w B Fd d ds) (hB : Below w.heap.size w w') : Alone w' B Fd d ds := ⟨h.1.below hB, h.2⟩
theorem Sit.below (P : Prog7 Obj Fit) (h : Sit Obj Fit w B F Fd m d a b g s ds) (hB : Below w.heap.size w w') : Sit Obj Fit w' B F Fd m d a b g s ds :=
  ⟨P.keep h.1 hB.size fun k hk => hB.block k (P.lt h.1 k hk), h.2.1.below hB, h.2.2⟩
theorem Sit.prog (P : Prog7 Obj Fit) (h : Sit Obj Fit w B F Fd m d a b g s ds) (hB : B ≤ w.heap.size) (hl : s'.last = s.last) (hk : s'.kept = s.kept) (hd : PSt Obj w F m d a b g v s' w') :
    ∃ F', Sit Obj Fit w' B F' Fd m d a b g s' ds ∧ (∀ k, F' k → MoreR F w w' k) ∧ (∀ k, v.ownBlock = some k → w.heap.size ≤ k → ¬ F' k) ∧ On B w w' := by
  obtain ⟨hO, hA, h1, h2, h3, h4⟩ := h
  obtain ⟨F', hO', hF, hv, ⟨t1, t2, t3, t4, t5⟩⟩ := hd
  refine ⟨F', ⟨hO', ⟨hA.1.keep t4 fun k hk => t5 k (hA.1.lt hk) fun hf => h1 k hf hk, hA.2⟩, fun k hk hf => ?_, fun k hk => (hF k hk).elim (h2 k) fun h => Nat.le_trans hB h.1, h3, by rw [hl, hk]; exact h4⟩, hF, hv, ⟨t1, t2, t3, t4, fun k hk => t5 k (by omega) fun hf => by have := h2 k hf; omega⟩, t4⟩
  rcases hF k hk with h | h
  · exact h1 k h hf
  · have := hA.1.lt hf
    omega
/-- What Open leaves. -/
theorem Sit.made (P : Prog7 Obj Fit) {m' : Nat} {F' Fd' : Nat → Prop} {g' : G} {ds' : DS} {n : Nat} {L : List (List Pg)} (hA : Alone w B Fd d ds) (hB : B ≤ w.heap.size) (hb : b ≤ ds.dur.length)
    (hO : Obj w' F' m' d a b g' ⟨n, L, L.getLastD []⟩) (hD : Disk w' Fd' d ds') (h1 : ∀ k, F' k → ¬ Fd' k) (h2 : ∀ k, F' k → w.heap.size ≤ k) (h3 : ∀ k, Fd' k → MoreR Fd w w' k) (ht : Turn Fd w w') (hc : calmD ds') (hs : SameD a b ds ds') (hf : Fit (cutD ds' a b) g' n L) :
    Sit Obj Fit w' B F' Fd' m' d a b g' ⟨n, L, L.getLastD []⟩ ds' ∧ On B w w' := by
  obtain ⟨t1, t2, t3, t4, t5⟩ := ht
  exact ⟨⟨hO, ⟨hD, fun k hk => (h3 k hk).elim (hA.2.1 k) fun h => Nat.le_trans hB h.1, hc⟩, h1, fun k hk => Nat.le_trans hB (h2 k hk), by rw [hs.1]; exact hb, hf⟩, ⟨t1, t2, t3, t4, fun k hk => t5 k (by omega) fun hf => by have := hA.2.1 k hf; omega⟩, t4⟩
/-- What Commit leaves. -/
theorem Sit.put {F' Fd' : Nat → Prop} {g' : G} {ds' : DS} (h : Sit Obj Fit w B F Fd m d a b g s ds) (hB : B ≤ w.heap.size) (hO : Obj w' F' m d a b g' s') (hD : Disk w' Fd' d ds') (h1 : ∀ k, F' k → ¬ Fd' k) (h2 : ∀ k, F' k ∨ Fd' k → MoreR (fun k => F k ∨ Fd k) w w' k)
    (ht : Turn (fun k => F k ∨ Fd k) w w') (hc : calmD ds') (hs : SameD a b ds ds') (hf : Fit (cutD ds' a b) g' s'.last s'.kept) : Sit Obj Fit w' B F' Fd' m d a b g' s' ds' ∧ On B w w' := by
  obtain ⟨-, hA, -, q2, q3, -⟩ := h
  obtain ⟨t1, t2, t3, t4, t5⟩ := ht
  have low : ∀ k, F k ∨ Fd k → B ≤ k := fun k hk => hk.elim (q2 k) (hA.2.1 k)
  have lo2 : ∀ k, F' k ∨ Fd' k → B ≤ k := fun k hk => (h2 k hk).elim (low k) fun h => Nat.le_trans hB h.1
  exact ⟨⟨hO, ⟨hD, fun k hk => lo2 k (.inr hk), hc⟩, h1, fun k hk => lo2 k (.inl hk), by rw [hs.1]; exact q3, hf⟩, ⟨t1, t2, t3, t4, fun k hk => t5 k (by omega) fun hf => by have := low k hf; omega⟩, t4⟩
end
/-- Bytes that do not turn. -/
theorem byt_turn {w w' : World} {F : Nat → Prop} {v : Value} {ts : List UInt8} (h : Byt w v ts) (ht : Turn F w w') (hn : ∀ k, v.ownBlock = some k → ¬ F k) : Byt w' v ts := by
  obtain ⟨A, c, h1, h2, h3, h5⟩ := h
  refine ⟨A, c, h1, h2, h3, fun hp => ?_⟩
  obtain ⟨b, off, e, hlt, hc⟩ := h5 hp
  subst e
  have hb := ht.2.2.2.2 b hlt (hn b (by rw [h1]; rfl))
  refine ⟨b, off, rfl, Nat.lt_of_lt_of_le hlt ht.2.2.2.1, fun j hj => ?_⟩
  rw [World.cell?_of_block (a := ⟨b, off + j, none⟩) hb]
  exact hc j hj
/-- The row of a literal of bytes. -/
theorem byt_lit7 (w : World) (ts : List UInt8) (n : Nat) (cs : Array Value) (fr : Nat × Nat) (hc : cs = (Y ts).toArray) (hn : ts.length = n) (hm : n ≤ 1000000) : Byt (w.alloc (.cells cs 5 fr)) (.slice (some ⟨w.heap.size, 0, none⟩) n n) ts := by
  subst hc hn
  refine ⟨some ⟨w.heap.size, 0, none⟩, ts.length, rfl, ⟨Nat.le_refl _, fun e => by cases e⟩, by unfold maxLen; omega, fun _ => ⟨w.heap.size, 0, rfl, ?_, fun j hj => ?_⟩⟩
  · show w.heap.size < (w.heap.push _).size
    simp
  · rw [World.cell?_alloc_mark, Nat.zero_add, List.getElem?_toArray]
    exact Y_get ts j hj
/-- The states that the sanity check goes through. -/
def kp1 : SS := (putS emptyS 3 [112, 97, 103, 101]).2
def kp2 : SS := commitS kp1
def kp3 : SS := ⟨kp2.last, kp2.kept, kp2.kept.getLastD []⟩
theorem kp_facts : (putS emptyS 3 [112, 97, 103, 101]).1 = 0 ∧ kp1.last = 0 ∧ kp1.kept = [[]] ∧ needS kp1 = 14 ∧ getS kp3 1 3 = (0, [112, 97, 103, 101]) ∧ kp3.last = 1 ∧ (versionsS kp3).length = 2 :=
  ⟨by kernel_rfl, by kernel_rfl, by kernel_rfl, by kernel_rfl, by kernel_rfl, by kernel_rfl, by kernel_rfl⟩
section
variable {G : Type} {Obj : ObjP G} {Fit : FitP G}
set_option maxRecDepth 20000 in
set_option maxHeartbeats 8000000 in
theorem known7_c (P : Prog7 Obj Fit) (w : World) : Calls Tryz.prog 13 #[] w (RVal w (.bool true)) := by
  have kc := fun (w : World) (C : Array Value) (n c : Nat) => Lib.run_convert_bytes_const (P := Tryz.prog) w 33 5 C n c Tryz.underlying33 Tryz.underlying5
  have hP := Lib.hid P
  have KF := Lib.hid kp_facts
  obtain ⟨g0, hz⟩ := P.zero 64 (by omega) (by omega)
  have HZ := Lib.hid hz
  clear P hz
  go_enter Tryz.func13, Tryz.ntmps13
  go_wp2_with fail
  refine (qnew_c w 64 (by omega) (by omega)).mono ?_
  rintro e w1 ⟨d, rfl, hD, hB1⟩
  have A1 := Lib.hid (show Alone w1 w.heap.size _ d (newS 64) from ⟨hD, fun k hk => hk.1, calm_newS 64⟩)
  have B1 := Lib.hid hB1
  clear hD hB1
  go_wp2_with fail
  refine (hP.out.open' A1.out.1 0 64 (by omega) (by rw [newS_len]; omega) A1.out.2.2 (by rw [cut_newS (by omega)]; exact HZ.out)).mono ?_
  rintro e w2 ⟨m, F2, Fd2, g2, ds2, rfl, hO, hD, h1, h2, h3, ht, hc, hs, hf⟩
  obtain ⟨hS, hon⟩ := Sit.made hP.out A1.out B1.out.size (by rw [newS_len]; omega) hO hD h1 h2 h3 ht hc hs hf
  have S2 := Lib.hid (show Sit Obj Fit w2 w.heap.size F2 Fd2 m d 0 64 g2 emptyS ds2 from hS)
  have B2 := Lib.hid (show Below w.heap.size w w2 from B1.out.trans hon.1)
  clear hO hD h1 h2 h3 ht hc hs hf hS hon A1 B1
  go_wp2_with fail
  have hBa : Below w2.heap.size w2 (w2.alloc (.cells #[.int .u8 112, .int .u8 97, .int .u8 103, .int .u8 101] 5 (4, 5))) := (Below.refl _ _).alloc (Nat.le_refl _) _
  have SA := Lib.hid (S2.out.below hP.out hBa)
  have hlt := Lib.hid (Nat.le_trans B2.out.size hBa.size)
  have C := hP.out.put SA.out.1 3 _ [112, 97, 103, 101] (byt_lit7 w2 [112, 97, 103, 101] 4 #[.int .u8 112, .int .u8 97, .int .u8 103, .int .u8 101] (4, 5) rfl rfl (by omega)) (by decide) (fun _ k e hF => by
    obtain rfl : w2.heap.size = k := by simpa [Value.ownBlock] using e
    exact Nat.lt_irrefl _ (hP.out.lt S2.out.1 _ hF))
  rw [KF.out.1] at C
  have B := Lib.hid (below_then B2.out hBa)
  refine C.mono ?_
  rintro e w3 ⟨rfl, hd⟩
  obtain ⟨F3, hS, -, -, hon⟩ := SA.out.prog hP.out hlt.out (s' := kp1) (by rw [KF.out.2.1]; rfl) (by rw [KF.out.2.2.1]; rfl) hd
  have S3 := Lib.hid hS
  have B3 := Lib.hid (B.out.trans hon.1)
  clear hd hS hon C SA hlt B hBa S2 B2
  go_wp2_with fail
  refine (hP.out.commit S3.out.1 S3.out.2.1.1 S3.out.2.2.1 S3.out.2.1.2.2 S3.out.2.2.2.2.1 S3.out.2.2.2.2.2 (by rw [KF.out.2.1]; omega)).mono ?_
  rintro e w4 ⟨F4, Fd4, g4, ds4, s4, hO, hD, h1, h2, ht, hc, hs, hf, hres⟩
  obtain ⟨rfl, rfl⟩ : s4 = kp2 ∧ e = .returned (.tuple #[.int .i64 1, .int .i64 0]) := by
    rcases hres with ⟨h, he⟩ | ⟨-, hn, -⟩
    · exact ⟨h, by rw [he, KF.out.2.1]; rfl⟩
    · rw [KF.out.2.2.2.1] at hn
      omega
  obtain ⟨hS, hon⟩ := S3.out.put B3.out.size hO hD h1 h2 ht hc hs hf
  have S4 := Lib.hid hS
  have B4 := Lib.hid (B3.out.trans hon.1)
  clear hO hD h1 h2 ht hc hs hf hres hS hon S3 B3
  go_wp2_with fail
  refine (hP.out.open' S4.out.2.1.1 0 64 (by omega) S4.out.2.2.2.2.1 S4.out.2.1.2.2 S4.out.2.2.2.2.2).mono ?_
  rintro e w5 ⟨m5, F5, Fd5, g5, ds5, rfl, hO, hD, h1, h2, h3, ht, hc, hs, hf⟩
  obtain ⟨hS, hon⟩ := Sit.made hP.out S4.out.2.1 B4.out.size S4.out.2.2.2.2.1 hO hD h1 h2 h3 ht hc hs hf
  have S5 := Lib.hid (show Sit Obj Fit w5 w.heap.size F5 Fd5 m5 d 0 64 g5 kp3 ds5 from hS)
  have B5 := Lib.hid (B4.out.trans hon.1)
  clear hO hD h1 h2 h3 ht hc hs hf hS hon S4 B4
  go_wp2_with fail
  refine (hP.out.get S5.out.1 (by rw [KF.out.2.2.2.2.2.1]; omega) 1 3 (by omega) (by omega)).mono ?_
  rintro e w6 ⟨r, rfl, hr, hd⟩
  obtain ⟨F6, hS, -, hv6, hon⟩ := S5.out.prog hP.out B5.out.size rfl rfl hd
  have S6 := Lib.hid hS
  have B6 := Lib.hid (B5.out.trans hon.1)
  rw [KF.out.2.2.2.2.1] at hr ⊢
  have HR := Lib.hid hr.byt
  have HNR := Lib.hid (show ∀ k, r.ownBlock = some k → ¬ F6 k from fun k hk => hv6 k hk (hr.block k hk).1)
  clear hd hS hon hr hv6 S5 B5
  have CV := Lib.hid (hP.out.version S6.out.1 (by rw [KF.out.2.2.2.2.2.1]; omega))
  have KL := Lib.hid KF.out.2.2.2.2.2.1
  rw [KL.out] at CV
  go_wp2_with fail
  refine (CV.out).mono ?_
  rintro e w7 ⟨rfl, hd⟩
  have hst := run_stringB w7 _ _ (byt_turn HR.out hd.turn HNR.out)
  obtain ⟨F7, hS, -, -, hon⟩ := S6.out.prog hP.out B6.out.size rfl rfl hd
  have S7 := Lib.hid hS
  have B7 := Lib.hid (B6.out.trans hon.1)
  clear hd hS hon HR HNR CV S6 B6
  have CW := Lib.hid (hP.out.versions S7.out.1 (by rw [KL.out]; omega))
  have kv2 := KF.out.2.2.2.2.2.2
  generalize versionsS kp3 = vs at *
  go_wp2_with fail
  refine (CW.out).mono ?_
  rintro e w8 ⟨r8, rfl, hr8, hd⟩
  obtain ⟨F8, hS, -, -, hon⟩ := S7.out.prog hP.out B7.out.size rfl rfl hd
  have B8 := Lib.hid (B7.out.trans hon.1)
  obtain ⟨A8, c8, rfl⟩ := (own_cel hr8).form
  rw [kv2]
  clear hd hS hon hr8 S7 B7
  go_wp2_with fail
  go_ret
  exact ⟨rfl, B8.out⟩
end
end Go.Proofs.YtckomifecmemnaaGreat

/- The landed pagestore: Commit. -/
import Derived.Test.YtckomifecmemnaaGreatPmgd
import Derived.Test.YtckomifecmemnaaGreatPmgc
import Derived.Test.YtckomifecmemnaaGreatPmga
namespace Go.Proofs.YtckomifecmemnaaGreat
set_option linter.unusedSimpArgs false
open Go.RowKit Dig Go.Shelf
set_option linter.unusedVariables false

section
variable {ev : Operand → Value} {o : Oper} {w w' : World}
theorem exec_allocC {T : TypeId} {z : Value} {k by' : Nat} (hI : (Tryz.prog.info? T).map (fun i => (i.zero, i.size, i.bytes)) = some (some z, k, by')) (ho : o.op = .alloc T) :
    (execOp ev o).run Tryz.prog w = .ok (.value (.pointer (some ⟨w.heap.size, 0, none⟩))) (w.alloc (.cells z.cells T)) := by
  cases hq : Tryz.prog.info? T with
  | none => simp [hq] at hI
  | some i0 =>
    simp [hq] at hI
    have hr : (Instr.alloc T true (.tuple #[])).run Tryz.prog w = .ok (.pointer (some ⟨w.heap.size, 0, none⟩)) (w.alloc (.cells z.cells T)) := by
      simp [Instr.alloc, zeroValue, typeInfo, hq, hI.1, newVar, newRow]
    unfold execOp
    simp only [ho, Sem.run_bind, hr, Result.andThen_ok, Sem.run_pure]
theorem splice_all {cur cs : List Value} (h : cs.length = cur.length) : splice cur 0 cs = cs := by
  unfold splice
  rw [List.take_zero, List.nil_append, List.drop_eq_nil_of_le (by omega), List.append_nil]
theorem exec_storeX {T e : TypeId} {g : Nat} {cur : Array Value} {cs : List Value} (hi : (Tryz.prog.info? T).map (·.size) = some cs.length) (hg : w.heap[g]? = some (.cells cur e (0, 0))) (hl : cs.length = cur.size) (h1 : ∀ v ∈ cs, v.oneCell' = true) :
    ∃ w', (∀ (ev : Operand → Value) (o : Oper) (t s : Tmp), o.op = .store T (.tmp t) (.tmp s) → ev (.tmp t) = .pointer (some ⟨g, 0, none⟩) → ev (.tmp s) = .agg cs.toArray → (execOp ev o).run Tryz.prog w = .ok .skip w') ∧ w'.heap[g]? = some (.cells cs.toArray e (0, 0)) ∧ w.grownBy w' (some g) := by
  refine ⟨spl w g 0 cs, fun ev o t s ho hx hy => exec_storeC t s hi hg (by omega) h1 ho hx hy, ?_, grown_spl (World.grownBy.refl _ _)⟩
  unfold spl
  rw [hg]
  show (w.setRow g (splice cur.toList 0 cs).toArray).heap[g]? = _
  rw [splice_all (by simpa using hl)]
  exact setRow_heap w g cur _ e (0, 0) hg
variable {ops : Array Oper} {rest : List Oper} {a : Act} {Q : Exit → Act → World → Prop}
/-- A whole value is stored within a row. -/
theorem wp_storeK {T e : TypeId} {g off : Nat} {cur : Array Value} {cs : List Value} (hi : (Tryz.prog.info? T).map (·.size) = some cs.length) (hg : w.heap[g]? = some (.cells cur e (0, 0))) (hl : off + cs.length ≤ cur.size) (h1 : ∀ v ∈ cs, v.oneCell' = true)
    (hgd : o.guard = none) (t s : Tmp) (ho : o.op = .store T (.tmp t) (.tmp s)) (hx : a.eval (.tmp t) = .pointer (some ⟨g, off, none⟩)) (hy : a.eval (.tmp s) = .agg cs.toArray)
    (h : ∀ w', w' = spl w g off cs → wpList Tryz.prog ops Q rest (a.put o.dst undef) w') : wpList Tryz.prog ops Q (o :: rest) a w := by
  refine wpList_plain hgd fun K hK => ?_
  have hr := exec_storeC (w := w) (ev := a.eval) (o := o) t s hi hg hl h1 ho hx hy
  unfold Oper.wp
  rw [hr]
  exact hK _ _ (h _ rfl)
theorem range_three {b q : Nat} {x y z : Value} (h0 : w.cell? ⟨b, q, none⟩ = some x) (h1 : w.cell? ⟨b, q + 1, none⟩ = some y) (h2 : w.cell? ⟨b, q + 2, none⟩ = some z) : w.rangeAt b q [x, y, z] := by
  intro j v hj
  match j, hj with
  | 0, hj =>
    obtain rfl : x = v := by simpa using hj
    exact h0
  | 1, hj =>
    obtain rfl : y = v := by simpa using hj
    exact h1
  | 2, hj =>
    obtain rfl : z = v := by simpa using hj
    exact h2
end
section
variable {w w' : World} {F Fd : Nat → Prop} {m d a b n last g c wb : Nat} {s : SS} {bs : List Nat} {ds : DS}
theorem stoM_set {l2 nn kl g' c' bl : Nat} (h : StoM w m d a nn last g bl c wb) : StoM ((w.setCell ⟨m, 3, none⟩ (.int .i64 (l2 : Int))).setCell ⟨m, 4, none⟩ (.slice (some ⟨g', 0, none⟩) kl c')) m d a nn l2 g' kl c' wb := by
  unfold StoM at h ⊢
  simp [World.setCell, Array.getElem?_modify, h]
/-- What extended has left. -/
def ExtR (w : World) (F : Nat → Prop) (m wb last : Nat) (s : SS) (bs : List Nat) (wx : World) (v : Value) : Prop :=
  ∃ gx g' c' nb, v = .pointer (some ⟨gx, 0, none⟩) ∧ wx.heap[gx]? = some (.cells #[.int .i64 ((last + 1 : Nat) : Int), .slice (some ⟨g', 0, none⟩) (nextB bs nb).length c'] 66 (0, 0)) ∧ KpV wx g' c' (nextB bs nb) ∧ w.heap.size ≤ gx ∧ w.heap.size ≤ g' ∧ w.heap.size ≤ nb ∧ nb < wx.heap.size ∧ gx ≠ g' ∧ PgM wx (Row7 F m) nb s.work ∧ Below w.heap.size w wx
theorem next_length {nb : Nat} (h : bs.length = s.kept.length) : (nextB bs nb).length = (commitS s).kept.length := by
  unfold nextB commitS
  rw [h]
  split <;> simp [h]
theorem next_get {nb i x : Nat} {l : List Pg} (h : bs.length = s.kept.length) (hx : (nextB bs nb)[i]? = some x) (hl : (commitS s).kept[i]? = some l) : (∃ j : Nat, bs[j]? = some x ∧ s.kept[j]? = some l) ∨ (x = nb ∧ l = s.work) := by
  have key : ∀ j : Nat, (bs ++ [nb])[j]? = some x → (s.kept ++ [s.work])[j]? = some l → (∃ j : Nat, bs[j]? = some x ∧ s.kept[j]? = some l) ∨ (x = nb ∧ l = s.work) := fun j h1 h2 => by
    rcases Nat.lt_or_ge j bs.length with hj | hj
    · rw [List.getElem?_append_left hj] at h1
      rw [List.getElem?_append_left (by omega)] at h2
      exact .inl ⟨j, h1, h2⟩
    · rw [List.getElem?_append_right hj] at h1
      rw [List.getElem?_append_right (by omega), ← h] at h2
      have e : j - bs.length = 0 := by
        rcases Nat.eq_zero_or_pos (j - bs.length) with e | e
        · exact e
        · rw [List.getElem?_eq_none (by simp; omega)] at h1
          cases h1
      rw [e] at h1 h2
      exact .inr ⟨by simpa using h1.symm, by simpa using h2.symm⟩
  unfold nextB at hx
  unfold commitS at hl
  rw [h] at hx
  split at hx
  · rename_i hc
    rw [if_pos hc] at hl
    simp only [List.getElem?_drop] at hx hl
    exact key _ hx hl
  · rename_i hc
    rw [if_neg hc] at hl
    exact key _ hx hl
set_option maxRecDepth 20000 in
set_option maxHeartbeats 16000000 in
theorem commit7_c (h : ObjK w F m d a b () s) (hD : Disk w Fd d ds) (hdis : ∀ k, F k → ¬ Fd k) (hc : calmD ds) (hb : b ≤ ds.dur.length) (hfit : FitK (cutD ds a b) () s.last s.kept) (hlast : s.last ≤ 1000000) : Calls Tryz.prog 14 #[.pointer (some ⟨m, 0, none⟩)] w fun e w' =>
    ∃ F' Fd' g' ds' s', ObjK w' F' m d a b g' s' ∧ Disk w' Fd' d ds' ∧ (∀ k, F' k → ¬ Fd' k) ∧ (∀ k, F' k ∨ Fd' k → MoreR (fun k => F k ∨ Fd k) w w' k) ∧ Turn (fun k => F k ∨ Fd k) w w' ∧ calmD ds' ∧ SameD a b ds ds' ∧ FitK (cutD ds' a b) g' s'.last s'.kept ∧
      ((s' = commitS s ∧ e = .returned (.tuple #[.int .i64 ((s.last + 1 : Nat) : Int), .int .i64 0])) ∨ (s' = s ∧ (b - a) / 2 < needS s ∧ e = .returned (.tuple #[.int .i64 0, .int .i64 9]))) := by
  have hO := h
  obtain ⟨hab, hb8, g, c, wb, bs, hm⟩ := h
  have hd8 : ds.dur.length ≤ 8192 := by obtain ⟨_, _, _, _, _, _, _, _, _, _, _, _, _, h8⟩ := hD; exact h8
  have hfew := hm.few
  obtain ⟨hst, hkp, hbl, hks, hwk, hFm, hFw, hFg, hgm, hlt, hklen⟩ := hm
  have OB := Lib.hid hO
  have DK := Lib.hid hD
  have DIS := Lib.hid hdis
  have CA := Lib.hid hc
  have FIT := Lib.hid hfit
  have NUM := Lib.hid (show a + 32 ≤ b ∧ b ≤ ds.dur.length ∧ ds.dur.length ≤ 8192 ∧ s.last ≤ 1000000 from ⟨hab, hb, hd8, hlast⟩)
  have FEW := Lib.hid hfew
  have KS := Lib.hid hks
  have KL := Lib.hid (show bs.length = s.kept.length ∧ s.kept.length = min s.last 3 + 1 from ⟨hbl, hklen⟩)
  have FM := Lib.hid (show F m ∧ F wb ∧ F g ∧ g ≠ m from ⟨hFm, hFw, hFg, hgm⟩)
  have FL := Lib.hid hlt
  have WK := Lib.hid hwk
  have EX := Lib.hid (fun y (hB : Below w.heap.size w y) => extended_c (w := y) (last := s.last) (hkp.keepB (hB.block g hkp.1)) (by omega) (by omega) hlast (hwk.keep hB.size (hB.block _ hwk.lt) (fun k hk _ => hB.block k hk) fun k _ h => h))
  unfold hisV at EX
  obtain ⟨nn, hnn⟩ : ∃ nn, b - a = nn := ⟨_, rfl⟩
  obtain ⟨last, hla⟩ : ∃ q, s.last = q := ⟨_, rfl⟩
  obtain ⟨bl, hbl2⟩ : ∃ q, bs.length = q := ⟨_, rfl⟩
  have EQ := Lib.hid (show b - a = nn ∧ s.last = last ∧ bs.length = bl from ⟨hnn, hla, hbl2⟩)
  rw [hnn] at hst
  rw [hla, hbl2] at hst EX
  have ST := Lib.hid hst
  clear hO hD hdis hc hfit hab hb hd8 hlast hfew hks hwk hbl hklen hFm hFw hFg hgm hlt hkp hst hnn hla hbl2 hb8
  go_enter Tryz.func14, Tryz.ntmps14
  go_upto_region 1 with fail
  go_cut [4] from 7 to 15 (fun s4 wx => ExtR w F m wb last s bs wx s4)
  case first =>
    refine hk_begin (S := fun W => StoM W m d a nn last g bl c wb) 11 (by kernel_rfl) (by kernel_rfl) ?_
    obtain ⟨y0, ey⟩ : ∃ y, y = w.drew := ⟨_, rfl⟩
    rw [← ey]
    have B0 : Below w.heap.size w y0 := by rw [ey]; exact (Below.refl _ _).drew
    have X0 := ST.out.keepB (B0.block m ST.out.lt)
    clear ey
    refine hk_take (i := 0) (some 7) (.pointer (some ⟨m, 0, none⟩)) (by kernel_rfl) (by kernel_rfl) (by kernel_rfl) (by kernel_rfl) (by kernel_rfl) (by kernel_rfl) (fun W hS => (by kernel_rfl)) (fun _ _ d _ _ h => by cases d <;> exact h) X0 ?_
    simp only [put_lit, put_non, List.set_cons_zero, List.set_cons_succ]
    refine hk_take (i := 1) (some 8) (.pointer (some ⟨m, 0, none⟩)) (by kernel_rfl) (by kernel_rfl) (by kernel_rfl) (by kernel_rfl) (by kernel_rfl) (by kernel_rfl) (fun W hS => (by kernel_rfl)) (fun _ _ d _ _ h => by cases d <;> exact h) X0 ?_
    simp only [put_lit, put_non, List.set_cons_zero, List.set_cons_succ]
    refine hk_take (i := 2) (some 9) (.pointer (some ⟨m, 3, none⟩)) (by kernel_rfl) (by kernel_rfl) (by kernel_rfl) (by kernel_rfl) (by kernel_rfl) (by kernel_rfl) (fun W hS => (by kernel_rfl)) (fun _ _ d _ _ h => by cases d <;> exact h) X0 ?_
    simp only [put_lit, put_non, List.set_cons_zero, List.set_cons_succ]
    refine hk_take (i := 3) (some 10) (.agg #[.int .i64 (last : Int), .slice (some ⟨g, 0, none⟩) bl c]) (by kernel_rfl) (by kernel_rfl) (by kernel_rfl) (by kernel_rfl) (by kernel_rfl) (by kernel_rfl) (fun W hS => exec_loadC (cs := [.int .i64 (last : Int), .slice (some ⟨g, 0, none⟩) bl c]) 9 Tryz.underlying66 rfl (by kernel_rfl) (range_two hS.cells.2.2.2.1 hS.cells.2.2.2.2.1) (by kernel_rfl) (by kernel_rfl)) (fun _ _ d _ _ h => by cases d <;> exact h) X0 ?_
    simp only [put_lit, put_non, List.set_cons_zero, List.set_cons_succ]
    refine hk_take (i := 4) (some 11) (.pointer (some ⟨m, 0, none⟩)) (by kernel_rfl) (by kernel_rfl) (by kernel_rfl) (by kernel_rfl) (by kernel_rfl) (by kernel_rfl) (fun W hS => (by kernel_rfl)) (fun _ _ d _ _ h => by cases d <;> exact h) X0 ?_
    simp only [put_lit, put_non, List.set_cons_zero, List.set_cons_succ]
    refine hk_take (i := 5) (some 12) (.pointer (some ⟨m, 0, none⟩)) (by kernel_rfl) (by kernel_rfl) (by kernel_rfl) (by kernel_rfl) (by kernel_rfl) (by kernel_rfl) (fun W hS => (by kernel_rfl)) (fun _ _ d _ _ h => by cases d <;> exact h) X0 ?_
    simp only [put_lit, put_non, List.set_cons_zero, List.set_cons_succ]
    refine hk_take (i := 6) (some 13) (.pointer (some ⟨m, 5, none⟩)) (by kernel_rfl) (by kernel_rfl) (by kernel_rfl) (by kernel_rfl) (by kernel_rfl) (by kernel_rfl) (fun W hS => (by kernel_rfl)) (fun _ _ d _ _ h => by cases d <;> exact h) X0 ?_
    simp only [put_lit, put_non, List.set_cons_zero, List.set_cons_succ]
    refine hk_take (i := 7) (some 14) (.map (some wb)) (by kernel_rfl) (by kernel_rfl) (by kernel_rfl) (by kernel_rfl) (by kernel_rfl) (by kernel_rfl) (fun W hS => exec_loadCell 70 (.tmp 13) ⟨m, 5, none⟩ _ _ (by kernel_rfl) (by kernel_rfl) hS.cells.2.2.2.2.2 Tryz.underlying70 rfl) (fun _ _ d _ _ h => by cases d <;> exact h) X0 ?_
    simp only [put_lit, put_non, List.set_cons_zero, List.set_cons_succ]
    refine hk_two (i := 8) (j := 9) (by kernel_rfl) ?_ ?_
    · skip
      refine op_call (some 15) 33 #[.agg #[.int .i64 (last : Int), .slice (some ⟨g, 0, none⟩) bl c], .map (some wb)] (by kernel_rfl) (by kernel_rfl) (by kernel_rfl) (fun w => (by kernel_rfl)) ?_
      refine (EX.out y0 B0).mono ?_
      rintro e y1 ⟨g', c', nb, rfl, hkp, hg1, hnb1, hnb2, hpm, hb⟩
      unfold hisV at *
      have B1 := B0.trans (hb.mono B0.size)
      have X1 := ST.out.keepB (B1.block m ST.out.lt)
      have hg1 := Nat.le_trans B0.size hg1
      have hnb1 := Nat.le_trans B0.size hnb1
      refine ⟨_, rfl, X1, ?_⟩
      simp only [put_lit, put_non, List.set_cons_zero, List.set_cons_succ]
      refine hk_one (i := 9) (by kernel_rfl) ?_
      obtain ⟨y2, ea⟩ : ∃ y, y = y1.alloc (.cells #[.int .i64 0, .slice none 0 0] 66) := ⟨_, rfl⟩
      have ha : y2.heap[y1.heap.size]? = some (.cells #[.int .i64 0, .slice none 0 0] 66 (0, 0)) := by rw [ea]; exact heap_alloc_new _ _
      have hba : Below y1.heap.size y1 y2 := by rw [ea]; exact (Below.refl _ _).alloc (Nat.le_refl _) _
      have B2 := B1.trans (hba.mono B1.size)
      have X2 := ST.out.keepB (B2.block m ST.out.lt)
      refine op_do (some 4) (.pointer (some ⟨y1.heap.size, 0, none⟩)) y2 (by kernel_rfl) (by kernel_rfl) (by kernel_rfl) (by rw [ea]; exact exec_allocC (T := 66) (z := .agg #[.int .i64 0, .slice none 0 0]) (k := 2) (by' := 32) (by kernel_rfl) (by kernel_rfl)) ?_
      refine ⟨X2, ?_⟩
      simp only [put_lit, put_non, List.set_cons_zero, List.set_cons_succ]
      clear ea
      have hgy := hkp.1
      have hkp := hkp.keepB (hba.block _ hkp.1)
      have hpm := hpm.keep hba.size (hba.block _ hnb2) (fun k hk _ => hba.block k hk) fun k _ h => h
      have gn : g' < y1.heap.size ∧ nb < y1.heap.size := ⟨by have := hgy; omega, hnb2⟩
      have hnb2 := Nat.lt_of_lt_of_le hnb2 hba.size
      have hsz := B1.size
      have hbx := ha
      refine hk_one (i := 10) (by kernel_rfl) ?_
      obtain ⟨yz, hr, hrow, hgr⟩ := exec_storeX (cs := [.int .i64 ((last + 1 : Nat) : Int), .slice (some ⟨g', 0, none⟩) (nextB bs nb).length c']) (w := y2) (T := 66) (by kernel_rfl) hbx rfl (by intro u hu; simp only [List.mem_cons, List.not_mem_nil, or_false] at hu; rcases hu with rfl | rfl <;> rfl)
      have BZ := B2.grown hgr B2.size (fun k e => by injection e with e; omega)
      have XZ := ST.out.keepB (BZ.block m ST.out.lt)
      refine op_skip none yz (by kernel_rfl) (by kernel_rfl) (by kernel_rfl) (hr _ _ 4 15 (by kernel_rfl) (by kernel_rfl) (by kernel_rfl)) ?_
      refine ⟨XZ, ?_⟩
      simp only [put_lit, put_non, List.set_cons_zero, List.set_cons_succ]
      have FIN := Lib.hid (show ExtR w F m wb last s bs yz (.pointer (some ⟨y1.heap.size, 0, none⟩)) from ⟨y1.heap.size, g', c', nb, rfl, hrow, hkp.keepB (hgr.block g' hkp.1 (fun e => by injection e with e; omega)), by omega, hg1, hnb1, Nat.lt_of_lt_of_le hnb2 hgr.size, by omega, hpm.keep hgr.size (hgr.block nb hnb2 (fun e => by injection e with e; omega)) (fun k hk hG => hgr.block k hk (fun e => by injection e with e; have := FL.out k hG.1; omega)) fun k _ h => h, BZ⟩)
      clear hr hrow hgr BZ XZ hkp hpm hbx
      refine hk_done (by kernel_rfl) ?_
      go_wp2_with fail
      go_meet
      case rel => exact FIN.out
    · skip
      obtain ⟨y1, ea⟩ : ∃ y, y = y0.alloc (.cells #[.int .i64 0, .slice none 0 0] 66) := ⟨_, rfl⟩
      have ha : y1.heap[y0.heap.size]? = some (.cells #[.int .i64 0, .slice none 0 0] 66 (0, 0)) := by rw [ea]; exact heap_alloc_new _ _
      have hba : Below y0.heap.size y0 y1 := by rw [ea]; exact (Below.refl _ _).alloc (Nat.le_refl _) _
      have B1 := B0.trans (hba.mono B0.size)
      have X1 := ST.out.keepB (B1.block m ST.out.lt)
      refine op_do (some 4) (.pointer (some ⟨y0.heap.size, 0, none⟩)) y1 (by kernel_rfl) (by kernel_rfl) (by kernel_rfl) (by rw [ea]; exact exec_allocC (T := 66) (z := .agg #[.int .i64 0, .slice none 0 0]) (k := 2) (by' := 32) (by kernel_rfl) (by kernel_rfl)) ?_
      refine ⟨X1, ?_⟩
      simp only [put_lit, put_non, List.set_cons_zero, List.set_cons_succ]
      clear ea
      have hsz0 := B0.size
      have hya := lt_of_heap ha
      refine hk_one (i := 8) (by kernel_rfl) ?_
      refine op_call (some 15) 33 #[.agg #[.int .i64 (last : Int), .slice (some ⟨g, 0, none⟩) bl c], .map (some wb)] (by kernel_rfl) (by kernel_rfl) (by kernel_rfl) (fun w => (by kernel_rfl)) ?_
      refine (EX.out y1 B1).mono ?_
      rintro e y2 ⟨g', c', nb, rfl, hkp, hg1, hnb1, hnb2, hpm, hb⟩
      unfold hisV at *
      have B2 := B1.trans (hb.mono B1.size)
      have X2 := ST.out.keepB (B2.block m ST.out.lt)
      have gn : y1.heap.size ≤ g' ∧ y1.heap.size ≤ nb := ⟨hg1, hnb1⟩
      have hg1 := Nat.le_trans B1.size hg1
      have hnb1 := Nat.le_trans B1.size hnb1
      refine ⟨_, rfl, X2, ?_⟩
      simp only [put_lit, put_non, List.set_cons_zero, List.set_cons_succ]
      have hbx := (hb.block _ hya).trans ha
      refine hk_one (i := 10) (by kernel_rfl) ?_
      obtain ⟨yz, hr, hrow, hgr⟩ := exec_storeX (cs := [.int .i64 ((last + 1 : Nat) : Int), .slice (some ⟨g', 0, none⟩) (nextB bs nb).length c']) (w := y2) (T := 66) (by kernel_rfl) hbx rfl (by intro u hu; simp only [List.mem_cons, List.not_mem_nil, or_false] at hu; rcases hu with rfl | rfl <;> rfl)
      have BZ := B2.grown hgr B2.size (fun k e => by injection e with e; omega)
      have XZ := ST.out.keepB (BZ.block m ST.out.lt)
      refine op_skip none yz (by kernel_rfl) (by kernel_rfl) (by kernel_rfl) (hr _ _ 4 15 (by kernel_rfl) (by kernel_rfl) (by kernel_rfl)) ?_
      refine ⟨XZ, ?_⟩
      simp only [put_lit, put_non, List.set_cons_zero, List.set_cons_succ]
      have FIN := Lib.hid (show ExtR w F m wb last s bs yz (.pointer (some ⟨y0.heap.size, 0, none⟩)) from ⟨y0.heap.size, g', c', nb, rfl, hrow, hkp.keepB (hgr.block g' hkp.1 (fun e => by injection e with e; omega)), by omega, hg1, hnb1, Nat.lt_of_lt_of_le hnb2 hgr.size, by omega, hpm.keep hgr.size (hgr.block nb hnb2 (fun e => by injection e with e; omega)) (fun k hk hG => hgr.block k hk (fun e => by injection e with e; have := FL.out k hG.1; omega)) fun k _ h => h, BZ⟩)
      clear hr hrow hgr BZ XZ hkp hpm hbx
      refine hk_done (by kernel_rfl) ?_
      go_wp2_with fail
      go_meet
      case rel => exact FIN.out
  case rest =>
    obtain ⟨gx, g', c', nb, rfl, hrow, hkp, hgx, hg', hnb, hnb2, hne, hpm, hB⟩ := hcut
    have hws := hB.size
    have CUR := Lib.hid (And.intro hkp (And.intro hpm hB))
    have NB := Lib.hid (show w.heap.size ≤ gx ∧ w.heap.size ≤ g' ∧ w.heap.size ≤ nb ∧ nb < wc.heap.size ∧ gx ≠ g' ∧ gx < wc.heap.size ∧ g' < wc.heap.size from ⟨hgx, hg', hnb, hnb2, hne, lt_of_heap hrow, hkp.1⟩)
    have KK := Lib.hid (commit_kept KL.out.2 (fun l hl => ⟨FEW.out.2.2.2 l hl, FEW.out.1.2.2.2.1 l hl⟩) ⟨FEW.out.2.2.1, FEW.out.1.2.2.2.2⟩)
    have NX := Lib.hid (show ∀ (i x : Nat) (l : List Pg), (nextB bs nb)[i]? = some x → (commitS s).kept[i]? = some l → PgM wc (Row7 F m) x l from fun i x l hx hl => by
      rcases next_get KL.out.1 hx hl with ⟨j, h1, h2⟩ | ⟨rfl, rfl⟩
      · exact (KS.out j x l h1 h2).1.below hB
      · exact hpm)
    have hev := encodeVersions_c hkp.cel NX.out (next_length KL.out.1) (by rw [KK.out.1]; omega)
    have BROW := Lib.hid hrow
    have c1 : wc.cell? ⟨gx, 1, none⟩ = some (.slice (some ⟨g', 0, none⟩) (nextB bs nb).length c') := by rw [cell_of_row wc _ _ _ _ (0, 0) hrow]; rfl
    obtain ⟨kl, hkl⟩ : ∃ q, (nextB bs nb).length = q := ⟨_, rfl⟩
    have EKL := Lib.hid hkl
    rw [hkl] at hev c1 BROW
    have EV := Lib.hid hev
    obtain ⟨l2, hl2⟩ : ∃ q, last + 1 = q := ⟨_, rfl⟩
    have EL2 := Lib.hid hl2
    rw [hl2] at BROW
    clear hrow hkp hgx hg' hnb hnb2 hne hpm hev hkl hB hws hl2
    go_wp2_with fail
    refine (EV.out).mono ?_
    rintro e w3 ⟨r, rfl, hO, hB3⟩
    obtain ⟨AV, cV, rfl⟩ := hO.byt.form
    have hB := CUR.out.2.2.trans (hB3.mono CUR.out.2.2.size)
    have B3 := Lib.hid hB3
    have OV := Lib.hid hO
    obtain ⟨m0, m1, m2, -, -, -⟩ := (ST.out.keepB (hB.block m ST.out.lt)).cells
    have BW := Lib.hid hB
    obtain ⟨bn, hbn⟩ : ∃ q, (encK (commitS s).kept).length = q := ⟨_, rfl⟩
    have EBN := Lib.hid hbn
    rw [hbn] at OV ⊢
    obtain ⟨cap, hcp⟩ : ∃ q, halfS nn * 64 = q := ⟨_, rfl⟩
    have CP := Lib.hid (fun y => capacity_c y d a nn (by have := NUM.out; have := EQ.out.1; omega) (by have := NUM.out; have := EQ.out.1; omega))
    unfold regV at CP
    rw [hcp] at CP
    have ECP := Lib.hid hcp
    clear hB hB3 hO hbn hcp c1
    go_wp2_with fail
    refine (CP.out _).mono ?_
    rintro e w4 ⟨rfl, hB4⟩
    have hBt := BW.out.trans (hB4.mono BW.out.size)
    have BT := Lib.hid hBt
    have B4 := Lib.hid (B3.out.trans (hB4.mono B3.out.size))
    have O4 := Lib.hid (OV.out.below hB4 (Nat.le_refl _))
    clear hB4 hBt m0 m1 m2
    by_cases hcase : bn > cap
    · have hci : (bn : Int) > (cap : Int) := by omega
      have HCS := Lib.hid hcase
      clear hcase
      go_wp2_with fail
      go_ret2
      refine ⟨F, Fd, (), ds, s, OB.out.keep BT.out.size (fun k hk => BT.out.block k (FL.out k hk)), DK.out.below BT.out, DIS.out, fun k hk => .inl hk, Turn.of_below _ BT.out, CA.out, ⟨rfl, fun i _ => rfl⟩, FIT.out, .inr ⟨rfl, ?_, rfl⟩⟩
      have h1 := encK_length (commitS s).kept (fun l hl => (KK.out.2 l hl).2) (fun l hl => by have := (KK.out.2 l hl).1.few (KK.out.2 l hl).2; omega)
      have h2 : halfS (b - a) = (b - a - 3) / 2 := rfl
      rw [EBN.out] at h1
      have h3 := HCS.out
      rw [← ECP.out, ← EQ.out.1, h2] at h3
      unfold needS
      omega
    · have hci : ¬ (bn : Int) > (cap : Int) := by omega
      have HCS := Lib.hid (show bn ≤ cap by omega)
      clear hcase
      go_wp2_with fail
      obtain ⟨y0, ey⟩ : ∃ y, y = w4.drew := ⟨_, rfl⟩
      have hBd : Below w4.heap.size w4 y0 := by rw [ey]; exact (Below.refl _ _).drew
      have BY := Lib.hid (BT.out.trans (hBd.mono BT.out.size))
      have BC := Lib.hid (B4.out.trans (hBd.mono B4.out.size))
      have OY := Lib.hid (O4.out.below hBd (Nat.le_refl _))
      have XD := Lib.hid (And.intro (ST.out.keepB (BY.out.block m ST.out.lt)) ((BC.out.block gx NB.out.2.2.2.2.2.1).trans BROW.out))
      have hrc := regcommit_c (DK.out.below BY.out) CA.out a nn l2 (u := .slice AV bn cV) (body := encK (commitS s).kept) OY.out.byt (by rw [EBN.out, ECP.out]; exact HCS.out) (fun _ k hk hf => by
        have := (OY.out.block k hk).1
        have := DK.out.lt hf
        have := CUR.out.2.2.size
        omega) (by have := NUM.out; have := EQ.out.1; omega) (by have := NUM.out; have := EQ.out.1; omega) NUM.out.2.2.1 (by have := NUM.out; have := EQ.out.2.1; have := EL2.out; omega)
      unfold regV at hrc
      have RC := Lib.hid hrc
      have NFM := Lib.hid (show ¬ Fd m ∧ ¬ Fd gx ∧ ¬ Fd g' from ⟨DIS.out m FM.out.1, fun hf => by have := DK.out.lt hf; have := NB.out; omega, fun hf => by have := DK.out.lt hf; have := NB.out; omega⟩)
      have SIX := Lib.hid (show ∀ w6, Turn Fd y0 w6 → StoM w6 m d a nn last g bl c wb ∧ w6.heap[gx]? = some (.cells #[.int .i64 (l2 : Int), .slice (some ⟨g', 0, none⟩) kl c'] 66 (0, 0)) from fun w6 hT => ⟨XD.out.1.keepB (hT.2.2.2.2 m XD.out.1.lt NFM.out.1), (hT.2.2.2.2 gx (lt_of_heap XD.out.2) NFM.out.2.1).trans XD.out.2⟩)
      have eyw : w4.drew = y0 := ey.symm
      have EY := Lib.hid eyw
      clear hrc hBd ey eyw
      refine hk_begin (S := fun W => StoM W m d a nn last g bl c wb ∧ W.heap[gx]? = some (.cells #[.int .i64 (l2 : Int), .slice (some ⟨g', 0, none⟩) kl c'] 66 (0, 0))) 9 (by kernel_rfl) (by kernel_rfl) ?_
      rw [EY.out]
      refine hk_take (i := 0) (some 27) (.pointer (some ⟨m, 0, none⟩)) (by kernel_rfl) (by kernel_rfl) (by kernel_rfl) (by kernel_rfl) (by kernel_rfl) (by kernel_rfl) (fun W hS => (by kernel_rfl)) (fun _ _ d _ _ h => by cases d <;> exact h) XD.out ?_
      simp only [put_lit, put_non, List.set_cons_zero, List.set_cons_succ]
      refine hk_take (i := 1) (some 28) (.pointer (some ⟨m, 0, none⟩)) (by kernel_rfl) (by kernel_rfl) (by kernel_rfl) (by kernel_rfl) (by kernel_rfl) (by kernel_rfl) (fun W hS => (by kernel_rfl)) (fun _ _ d _ _ h => by cases d <;> exact h) XD.out ?_
      simp only [put_lit, put_non, List.set_cons_zero, List.set_cons_succ]
      refine hk_take (i := 2) (some 29) (.pointer (some ⟨m, 0, none⟩)) (by kernel_rfl) (by kernel_rfl) (by kernel_rfl) (by kernel_rfl) (by kernel_rfl) (by kernel_rfl) (fun W hS => (by kernel_rfl)) (fun _ _ d _ _ h => by cases d <;> exact h) XD.out ?_
      simp only [put_lit, put_non, List.set_cons_zero, List.set_cons_succ]
      refine hk_take (i := 3) (some 30) (.agg #[.pointer (some ⟨d, 0, none⟩), .int .i64 (a : Int), .int .i64 (nn : Int)]) (by kernel_rfl) (by kernel_rfl) (by kernel_rfl) (by kernel_rfl) (by kernel_rfl) (by kernel_rfl) (fun W hS => exec_loadC (cs := [.pointer (some ⟨d, 0, none⟩), .int .i64 (a : Int), .int .i64 (nn : Int)]) 29 Tryz.underlying62 rfl (by kernel_rfl) (range_three hS.1.cells.1 hS.1.cells.2.1 hS.1.cells.2.2.1) (by kernel_rfl) (by kernel_rfl)) (fun _ _ d _ _ h => by cases d <;> exact h) XD.out ?_
      simp only [put_lit, put_non, List.set_cons_zero, List.set_cons_succ]
      refine hk_take (i := 4) (some 31) (.pointer (some ⟨gx, 0, none⟩)) (by kernel_rfl) (by kernel_rfl) (by kernel_rfl) (by kernel_rfl) (by kernel_rfl) (by kernel_rfl) (fun W hS => (by kernel_rfl)) (fun _ _ d _ _ h => by cases d <;> exact h) XD.out ?_
      simp only [put_lit, put_non, List.set_cons_zero, List.set_cons_succ]
      refine hk_take (i := 5) (some 32) (.int .i64 (l2 : Int)) (by kernel_rfl) (by kernel_rfl) (by kernel_rfl) (by kernel_rfl) (by kernel_rfl) (by kernel_rfl) (fun W hS => exec_loadCell _ (.tmp 31) ⟨gx, 0, none⟩ _ _ (by kernel_rfl) (by kernel_rfl) (by rw [cell_of_row W _ _ _ _ (0, 0) hS.2]; rfl) Tryz.underlying3 rfl) (fun _ _ d _ _ h => by cases d <;> exact h) XD.out ?_
      simp only [put_lit, put_non, List.set_cons_zero, List.set_cons_succ]
      refine hk_take (i := 6) (some 33) (.slice AV bn cV) (by kernel_rfl) (by kernel_rfl) (by kernel_rfl) (by kernel_rfl) (by kernel_rfl) (by kernel_rfl) (fun W hS => (by kernel_rfl)) (fun _ _ d _ _ h => by cases d <;> exact h) XD.out ?_
      simp only [put_lit, put_non, List.set_cons_zero, List.set_cons_succ]
      refine hk_one (i := 7) (by kernel_rfl) ?_
      refine op_call (some 34) 36 #[.agg #[.pointer (some ⟨d, 0, none⟩), .int .i64 (a : Int), .int .i64 (nn : Int)], .int .i64 (l2 : Int), .slice AV bn cV] (by kernel_rfl) (by kernel_rfl) (by kernel_rfl) (fun w => (by kernel_rfl)) ?_
      refine (RC.out).mono ?_
      rintro e w6 ⟨rfl, Fd6, hD6, hF6, hT6⟩
      have X6 := Lib.hid (SIX.out w6 hT6)
      have D6 := Lib.hid hD6
      have F6 := Lib.hid hF6
      have T6 := Lib.hid hT6
      clear hD6 hF6 hT6
      refine ⟨_, rfl, X6.out, ?_⟩
      simp only [put_lit, put_non, List.set_cons_zero, List.set_cons_succ]
      refine hk_take (i := 8) (some 6) (.int .i64 0) (by kernel_rfl) (by kernel_rfl) (by kernel_rfl) (by kernel_rfl) (by kernel_rfl) (by kernel_rfl) (fun W hS => (by kernel_rfl)) (fun _ _ d _ _ h => by cases d <;> exact h) X6.out ?_
      simp only [put_lit, put_non, List.set_cons_zero, List.set_cons_succ]
      refine hk_done (by kernel_rfl) ?_
      have x0 : w6.cell? ⟨gx, 0, none⟩ = some (.int .i64 (l2 : Int)) := by rw [cell_of_row w6 _ _ _ _ (0, 0) X6.out.2]; rfl
      have x1 : w6.cell? ⟨gx, 1, none⟩ = some (.slice (some ⟨g', 0, none⟩) kl c') := by rw [cell_of_row w6 _ _ _ _ (0, 0) X6.out.2]; rfl
      have HX6 := Lib.hid (show w6.heap[m]? = some (.cells #[.pointer (some ⟨d, 0, none⟩), .int .i64 (a : Int), .int .i64 (nn : Int), .int .i64 (last : Int), .slice (some ⟨g, 0, none⟩) bl c, .map (some wb)] 74 (0, 0)) from X6.out.1)
      have GMX := Lib.hid (show gx ≠ m by have := ST.out.lt; have := NB.out.1; omega)
      obtain ⟨-, -, -, m3, m4, -⟩ := X6.out.1.cells
      have f3 := X6.out.1.thaw 3
      have f4 := X6.out.1.thaw 4
      go_wp2_with fail
      have M7 := stoM_set (l2 := l2) (kl := kl) (g' := g') (c' := c') X6.out.1
      have G7 := grown_set (grown_set (World.grownBy.refl w6 _) 3 (.int .i64 (l2 : Int))) 4 (.slice (some ⟨g', 0, none⟩) kl c') (g := m)
      go_ret2
      generalize ((w6.setCell ⟨m, 3, none⟩ (.int .i64 (l2 : Int))).setCell ⟨m, 4, none⟩ (.slice (some ⟨g', 0, none⟩) kl c')) = w7 at *
      clear f3 f4 m3 m4 x0 x1 hci
      obtain ⟨e1, e2, e3⟩ := EQ.out
      obtain ⟨k1, k2⟩ := KL.out
      obtain ⟨r1, r2, r3, r4⟩ := FM.out
      obtain ⟨n1, n2, n3, n4, n5, n6, n7⟩ := NB.out
      obtain ⟨hKW, hPW, hBW⟩ := CUR.out
      have eL := EL2.out
      have eK := EKL.out
      subst e1 e2 eL eK
      have sBY := BY.out.size
      have sBC := BC.out.size
      have sT := T6.out.2.2.2.1
      have sG := G7.size
      have lm := ST.out.lt
      have SM : ∀ k, k < wc.heap.size → ¬ Fd k → k ≠ m → w7.heap[k]? = wc.heap[k]? := fun k h1 h2 h3 => (G7.block k (by omega) (fun e => by injection e with e; omega)).trans ((T6.out.2.2.2.2 k (by omega) h2).trans (BC.out.block k h1))
      have SW : ∀ k, F k → k ≠ m → w7.heap[k]? = w.heap[k]? := fun k h1 h3 => (SM k (by have := FL.out k h1; have := hBW.size; omega) (DIS.out k h1) h3).trans (hBW.block k (FL.out k h1))
      have NM : ∀ {x : Nat} {G : Nat → Prop} {l : List Pg}, PgM w G x l → x ≠ m := fun h e => by
        obtain ⟨es, cc, hb⟩ := h.block
        have hs := ST.out
        unfold StoM at hs
        rw [e, hs] at hb
        cases hb
      have hfitn := cmt_fit (K' := (commitS s).kept) NUM.out.1 NUM.out.2.1 NUM.out.2.2.1 FIT.out NUM.out.2.2.2 D6.out.1.1 KK.out.1 KK.out.2 (by rw [EBN.out, ECP.out]; exact HCS.out)
      have hD7 : Disk w7 Fd6 d (cmtD ds a (b - a) (s.last + 1) (encK (commitS s).kept)) := D6.out.keep sG fun k hk => G7.block k (D6.out.lt hk) (fun e => by
        injection e with e
        rcases F6.out k hk with h | h
        · exact NFM.out.1 (e ▸ h)
        · omega)
      refine ⟨fun k => F k ∨ (w.heap.size ≤ k ∧ k < y0.heap.size), Fd6, (), _, commitS s, ⟨NUM.out.1, by have := NUM.out; omega, g', c', wb, nextB bs nb, M7, hKW.keepB (SM g' n7 NFM.out.2.2 (by omega)), next_length k1, fun i x l hx hl => ?_, ?_, .inl r1, .inl r2, .inr ⟨n2, by omega⟩, by omega, fun k hk => hk.elim (fun h => by have := FL.out k h; omega) fun h => by omega, KK.out.1⟩, hD7, fun k hk hf => ?_, fun k hk => ?_, ?_, ?_, hfitn.2, hfitn.1, .inl ⟨rfl, rfl⟩⟩
      · rcases next_get k1 hx hl with ⟨j, h1, h2⟩ | ⟨rfl, rfl⟩
        · obtain ⟨q1, q2, q3⟩ := KS.out j x l h1 h2
          exact ⟨q1.keep (by have := hBW.size; omega) (SW x q2 (NM q1)) (fun k _ hk => SW k hk.1 hk.2) fun k _ hk => ⟨.inl hk.1, hk.2⟩, .inl q2, q3⟩
        · refine ⟨hPW.keep (by omega) (SM _ n4 (fun hf => by have := DK.out.lt hf; omega) (by omega)) (fun k hk hG => SM k hk (DIS.out k hG.1) hG.2) fun k _ hk => ⟨.inl hk.1, hk.2⟩, .inr ⟨n3, by omega⟩, fun e => by have := FL.out wb r2; omega⟩
      · exact WK.out.keep (by have := hBW.size; omega) (SW wb r2 (NM WK.out)) (fun k _ hk => SW k hk.1 hk.2) fun k _ hk => ⟨.inl hk.1, hk.2⟩
      · rcases F6.out k hf with h | h
        · rcases hk with hk | hk
          · exact DIS.out k hk h
          · have := DK.out.lt h
            omega
        · rcases hk with hk | hk
          · have := FL.out k hk
            omega
          · omega
      · rcases hk with (hk | hk) | hk
        · exact .inl (.inl hk)
        · exact .inr ⟨hk.1, by omega⟩
        · rcases F6.out k hk with h | h
          · exact .inl (.inr h)
          · exact .inr ⟨by omega, by omega⟩
      · exact ((Turn.of_below _ BY.out).then T6.out fun k _ h => .inr h).then (Turn.of_grown (F := fun k => k = m) G7 fun k e => by injection e with e; exact e.symm) fun k _ h => .inl (by rw [h]; exact r1)
      · exact putsD_calm a _ CA.out
end
end Go.Proofs.YtckomifecmemnaaGreat

/- The landed pagestore: Open. -/
namespace Go.Proofs.YtckomifecmemnaaGreat
set_option linter.unusedSimpArgs false
open Go.RowKit Dig Go.Shelf
set_option linter.unusedVariables false

section
variable {w w' : World} {F Fd : Nat → Prop} {d a b n : Nat} {ds : DS} {K L : List (List Pg)} {bs : List Nat} {kv : Value} {B : Nat}
theorem disk_size (h : Disk w Fd d ds) : Calls Tryz.prog 25 #[.pointer (some ⟨d, 0, none⟩)] w (RVal w (.int .i64 (ds.dur.length : Int))) := by
  obtain ⟨_, bd, bv, ve, t, c, es, ls, hm, _, _, _, _, h8⟩ := h
  exact qsize_c hm h8
theorem disk_pend (h : Disk w Fd d ds) (hp : ds.pend = []) : Calls Tryz.prog 28 #[.pointer (some ⟨d, 0, none⟩)] w (RVal w (.int .i64 0)) := by
  obtain ⟨_, bd, bv, ve, t, c, es, ls, hm, hp2, _⟩ := h
  rw [hp] at hp2
  have e1 : es.length + ls.length = 0 := by
    have := congrArg List.length hp2
    simpa using this
  have hq := qpending_c hm
  rw [e1] at hq
  exact hq
theorem rowM_kp (h : RowM B w kv bs) (h1 : 1 ≤ bs.length) : ∃ g c, kv = .slice (some ⟨g, 0, none⟩) bs.length c ∧ B ≤ g ∧ KpV w g c bs := by
  rcases h with ⟨_, h0⟩ | ⟨g, cap, cur, rfl, hB, hh, hl, hc, hs, ht, _⟩
  · rw [h0] at h1
    simp at h1
  · refine ⟨g, cap, rfl, hB, lt_of_heap hh, hl, hc, fun i x hx => ?_⟩
    have hi := (List.getElem?_eq_some_iff.1 hx).1
    have e : (mpsV bs)[i]? = some (.map (some x)) := by unfold mpsV; rw [List.getElem?_map, hx]; rfl
    rw [cell_of_row w g i _ _ (0, 0) hh, ← e, ← ht, List.getElem?_take, if_pos hi, Array.getElem?_toList]
theorem last_get (h : 1 ≤ K.length) : K[K.length - 1]? = some (K.getLastD []) := by
  cases K with
  | nil => simp at h
  | cons x l => rw [List.getLastD_eq_getLast?, List.getLast?_eq_getElem?, List.getElem?_eq_getElem (by simp)]; rfl
theorem exec_boxS {ev : Operand → Value} {o : Oper} {w : World} {t : Tmp} {cs : Array Value} (ho : o.op = .box 74 (.tmp t)) (hx : ev (.tmp t) = .agg cs) : (execOp ev o).run Tryz.prog w = .ok (.value (.pointer (some ⟨w.heap.size, 0, none⟩))) (w.alloc (.cells cs 74)) := by
  unfold execOp
  simp only [ho, hx]
  go_simp
set_option maxHeartbeats 1000000 in
theorem openBad_c (hD : Disk w Fd d ds) (a b : Int) (ha1 : -9223372036854775808 ≤ a) (ha2 : a ≤ 9223372036854775807) (hb1 : -9223372036854775808 ≤ b) (hb2 : b ≤ 9223372036854775807) (hbad : ¬ (0 ≤ a ∧ a + 32 ≤ b ∧ b ≤ (ds.dur.length : Int))) : Calls Tryz.prog 10 #[.pointer (some ⟨d, 0, none⟩), .int .i64 a, .int .i64 b] w fun e w' =>
    e = .returned (.tuple #[.pointer none, .int .i64 1]) ∧ ∃ Fd', Disk w' Fd' d ds ∧ (∀ k, Fd' k → MoreR Fd w w' k) ∧ Turn Fd w w' := by
  have FIN := Lib.hid (show ∀ w', Below w.heap.size w w' → ∃ Fd', Disk w' Fd' d ds ∧ (∀ k, Fd' k → MoreR Fd w w' k) ∧ Turn Fd w w' from fun w' hB => ⟨Fd, hD.below hB, fun k hk => .inl hk, Turn.of_below _ hB⟩)
  have SZ := Lib.hid (disk_size hD)
  by_cases h1 : a < 0
  · clear hD hbad
    go_enter Tryz.func10, Tryz.ntmps10
    go_wp2_with fail
    go_ret2
    exact ⟨rfl, FIN.out _ (Below.refl _ _)⟩
  · by_cases h2 : a > b
    · clear hD hbad
      go_enter Tryz.func10, Tryz.ntmps10
      go_wp2_with fail
      go_ret2
      exact ⟨rfl, FIN.out _ (Below.refl _ _)⟩
    · by_cases h3 : b > (ds.dur.length : Int)
      · clear hD hbad
        go_enter Tryz.func10, Tryz.ntmps10
        go_wp2_with fail
        refine (SZ.out).mono ?_
        rintro e w1 ⟨rfl, hB1⟩
        have B1 := Lib.hid hB1
        clear hB1
        go_wp2_with fail
        go_ret2
        exact ⟨rfl, FIN.out _ B1.out⟩
      · have h4 : b - a < 32 := by omega
        have h5 : -9223372036854775808 ≤ b - a := by omega
        have h6 : b - a ≤ 9223372036854775807 := by omega
        clear hD hbad
        go_enter Tryz.func10, Tryz.ntmps10
        go_wp2_with fail
        refine (SZ.out).mono ?_
        rintro e w1 ⟨rfl, hB1⟩
        have B1 := Lib.hid hB1
        clear hB1
        go_wp2_with fail
        go_ret2
        exact ⟨rfl, FIN.out _ B1.out⟩
set_option maxRecDepth 20000 in
set_option maxHeartbeats 4000000 in
theorem openOff_c (hD : Disk w Fd d ds) (hab : a + 32 ≤ b) (hb : b ≤ ds.dur.length) (ho : ds.off = true) : Calls Tryz.prog 10 #[.pointer (some ⟨d, 0, none⟩), .int .i64 (a : Int), .int .i64 (b : Int)] w fun e w' =>
    e = .returned (.tuple #[.pointer none, .int .i64 10]) ∧ ∃ Fd', Disk w' Fd' d ds ∧ (∀ k, Fd' k → MoreR Fd w w' k) ∧ Turn Fd w w' := by
  have hd8 : ds.dur.length ≤ 8192 := by obtain ⟨_, _, _, _, _, _, _, _, _, _, _, _, _, h8⟩ := hD; exact h8
  obtain ⟨nn, hnn⟩ : ∃ q, b - a = q := ⟨_, rfl⟩
  have hai : (a : Int) ≤ 8192 := by omega
  have hbi : (b : Int) ≤ 8192 := by omega
  have g1 : ¬ (a : Int) < 0 := by omega
  have g2 : ¬ (a : Int) > (b : Int) := by omega
  have g3 : ¬ (b : Int) > (ds.dur.length : Int) := by omega
  have g5 : (b : Int) - (a : Int) = (nn : Int) := by omega
  have g4 : ¬ (nn : Int) < 32 := by omega
  have SZ := Lib.hid (disk_size hD)
  have DK := Lib.hid hD
  have NUM := Lib.hid (show a + 32 ≤ b ∧ b ≤ ds.dur.length ∧ ds.dur.length ≤ 8192 from ⟨hab, hb, hd8⟩)
  have EN := Lib.hid hnn
  have RO := Lib.hid (fun w3 (hB : Below w.heap.size w w3) => readOff_c (hD.below hB) ho a nn (by omega) (by omega) (by omega))
  unfold regV at RO
  clear hD hab hb ho hd8 hnn
  go_enter Tryz.func10, Tryz.ntmps10
  go_wp2_with fail
  refine (SZ.out).mono ?_
  rintro e w1 ⟨rfl, hB1⟩
  have B1 := Lib.hid hB1
  clear hB1
  go_wp2_with (first | ((with_reducible refine wp_allocC (T := 62) (z := .agg #[.pointer none, .int .i64 0, .int .i64 0]) (k := 3) (by' := 24) (by kernel_rfl) rfl rfl ?_); intro w2 hA hB2; have HA2 := Lib.hid hA; have B2 := Lib.hid hB2; clear hA hB2) | ((with_reducible refine wp_storeC (T := 62) (e := 62) (g := w1.heap.size) (cur := #[.pointer none, .int .i64 0, .int .i64 0]) (cs := [.pointer (some ⟨d, 0, none⟩), .int .i64 (a : Int), .int .i64 (nn : Int)]) ?hi ?hg ?hl ?h1 ?hgd 8 38 ?ho ?hx ?hy ?_); (case hgd => rfl); (case ho => rfl); (case hi => kernel_rfl); (case hg => exact HA2.out); (case hl => rfl); (case h1 => (intro u hu; simp only [List.mem_cons, List.not_mem_nil, or_false] at hu; rcases hu with rfl | rfl | rfl <;> rfl)); (case hx => rfl); (case hy => rfl); intro w3 hC hG3; have b0 : w3.cell? ⟨w1.heap.size, 0, none⟩ = some (.pointer (some ⟨d, 0, none⟩)) := cell_of_row w3 _ 0 _ _ (0, 0) hC; have b1 : w3.cell? ⟨w1.heap.size, 1, none⟩ = some (.int .i64 (a : Int)) := cell_of_row w3 _ 1 _ _ (0, 0) hC; have b2 : w3.cell? ⟨w1.heap.size, 2, none⟩ = some (.int .i64 (nn : Int)) := cell_of_row w3 _ 2 _ _ (0, 0) hC; have HC3 := Lib.hid hC; have B3 := Lib.hid (B2.out.grown hG3 B2.out.size (fun k e => by injection e with e; omega)); clear hC hG3))
  refine (RO.out w3 (below_then B1.out B3.out)).mono ?_
  rintro e w4 ⟨rfl, hB4⟩
  have BT := Lib.hid (below_then (below_then B1.out B3.out) hB4)
  clear hB4
  go_wp2_with fail
  go_ret2
  exact ⟨rfl, Fd, DK.out.below BT.out, fun k hk => .inl hk, Turn.of_below _ BT.out⟩
/-- What Open hands back. -/
theorem open_done {w5 y1 y2 y3 : World} {nn g1 c1 bl xl B4 : Nat} {z : Int} (hab : a + 32 ≤ b) (hb : b ≤ ds.dur.length) (h8 : ds.dur.length ≤ 8192) (hD : Disk w Fd d ds) (hc : calmD ds) (hf : FitK (cutD ds a b) () n L) (hn : b - a = nn) (hs4 : w.heap.size ≤ B4) (hs5 : B4 ≤ w5.heap.size) (hbl : bs.length = bl) (hz : z = (n : Int))
    (hkp : B4 ≤ g1 ∧ KpV w5 g1 c1 bs) (hK : KepM w5 B4 kv bs L) (hx : bs[bs.length - 1]? = some xl) (hB5 : Below w.heap.size w w5) (hB : Below w5.heap.size w5 y2) (hsz : y2.heap.size = y1.heap.size + 1) (hp : PgM y2 (fun k => B4 ≤ k) y1.heap.size (L.getLastD []))
    (hr : y3.heap[y2.heap.size]? = some (.cells #[.pointer (some ⟨d, 0, none⟩), .int .i64 (a : Int), .int .i64 (nn : Int), .int .i64 z, .slice (some ⟨g1, 0, none⟩) bl c1, .map (some y1.heap.size)] 74 (0, 0))) (hba : Below y2.heap.size y2 y3) (h51 : w5.heap.size ≤ y1.heap.size := by omega) :
    ∃ m F' Fd' g' ds', Ending.returned (.tuple #[.pointer (some ⟨y2.heap.size, 0, none⟩), .int .i64 0]) = .returned (.tuple #[.pointer (some ⟨m, 0, none⟩), .int .i64 0]) ∧ ObjK y3 F' m d a b g' ⟨n, L, L.getLastD []⟩ ∧ Disk y3 Fd' d ds' ∧ (∀ k, F' k → ¬ Fd' k) ∧ (∀ k, F' k → w.heap.size ≤ k) ∧ (∀ k, Fd' k → MoreR Fd w y3 k) ∧ Turn Fd w y3 ∧ calmD ds' ∧ SameD a b ds ds' ∧ FitK (cutD ds' a b) g' n L := by
  subst hz hn hbl
  have hBt := below_then (below_then hB5 hB) hba
  have hB53 := below_then hB hba
  have s1 := hB.size
  have s2 := hba.size
  have s3 := lt_of_heap hr
  have s5 := hB5.size
  refine ⟨y2.heap.size, fun k => w.heap.size ≤ k ∧ k < y3.heap.size, Fd, (), ds, rfl, ⟨hab, by omega, g1, c1, y1.heap.size, bs, hr, hkp.2.keepB (hB53.block g1 hkp.2.1), hK.2.1, fun i x l hx hl => ?_, ?_, ⟨by omega, s3⟩, ⟨by omega, by omega⟩, ⟨by omega, by have := hkp.2.1; omega⟩, by have := hkp.2.1; omega, fun k hk => hk.2, hf.2.2.2.2.1⟩, hD.below hBt, fun k hk hfd => ?_, fun k hk => hk.1, fun k hk => .inl hk, Turn.of_below _ hBt, hc, ⟨rfl, fun i _ => rfl⟩, hf⟩
  · obtain ⟨q1, q2⟩ := hK.2.2 i x l hx hl
    have := q1.lt
    exact ⟨q1.keep hB53.size (hB53.block x q1.lt) (fun k hk _ => hB53.block k hk) fun k hk hG => ⟨⟨by omega, by omega⟩, by omega⟩, ⟨by omega, by omega⟩, by omega⟩
  · exact hp.keep hba.size (hba.block _ hp.lt) (fun k hk _ => hba.block k hk) fun k hk hG => ⟨⟨by omega, by omega⟩, by omega⟩
  · have := hD.lt hfd
    have := hk.1
    omega
set_option maxRecDepth 20000 in
set_option maxHeartbeats 16000000 in
theorem open7_zero (hD : Disk w Fd d ds) (hab : a + 32 ≤ b) (hb : b ≤ ds.dur.length) (hc : calmD ds) (hfit : FitK (cutD ds a b) () 0 L) : Calls Tryz.prog 10 #[.pointer (some ⟨d, 0, none⟩), .int .i64 (a : Int), .int .i64 (b : Int)] w fun e w' =>
    ∃ m F' Fd' g' ds', e = .returned (.tuple #[.pointer (some ⟨m, 0, none⟩), .int .i64 0]) ∧ ObjK w' F' m d a b g' ⟨0, L, L.getLastD []⟩ ∧ Disk w' Fd' d ds' ∧ (∀ k, F' k → ¬ Fd' k) ∧ (∀ k, F' k → w.heap.size ≤ k) ∧ (∀ k, Fd' k → MoreR Fd w w' k) ∧ Turn Fd w w' ∧ calmD ds' ∧ SameD a b ds ds' ∧ FitK (cutD ds' a b) g' 0 L := by
  have hd8 : ds.dur.length ≤ 8192 := by obtain ⟨_, _, _, _, _, _, _, _, _, _, _, _, _, h8⟩ := hD; exact h8
  obtain ⟨nn, hnn⟩ : ∃ q, b - a = q := ⟨_, rfl⟩
  have hai : (a : Int) ≤ 8192 := by omega
  have hbi : (b : Int) ≤ 8192 := by omega
  have g1 : ¬ (a : Int) < 0 := by omega
  have g2 : ¬ (a : Int) > (b : Int) := by omega
  have g3 : ¬ (b : Int) > (ds.dur.length : Int) := by omega
  have g5 : (b : Int) - (a : Int) = (nn : Int) := by omega
  have g4 : ¬ (nn : Int) < 32 := by omega
  have SZ := Lib.hid (disk_size hD)
  have DK := Lib.hid hD
  have NUM := Lib.hid (show a + 32 ≤ b ∧ b ≤ ds.dur.length ∧ ds.dur.length ≤ 8192 from ⟨hab, hb, hd8⟩)
  have EN := Lib.hid hnn
  have FIT := Lib.hid hfit
  have CA := Lib.hid hc
  have hL := (cut_get (ds := ds) (a := a) (b := b) hb (by omega)).1
  rw [hnn] at hL
  have hfl := flat_len hfit.1
  rw [hL] at hfl
  have PR := Lib.hid (show ∀ w4 g0 off m c, Byt w4 (.slice (some ⟨g0, off, none⟩) m c) (cutD ds a b).flatten → m = nn * 64 → Calls Tryz.prog 27 #[regV d a nn, .slice (some ⟨g0, off, none⟩) m c] w4 fun e w' => ∃ kv bs, e = .returned (.tuple #[.agg #[.int .i64 0, kv], .bool true]) ∧ KepM w' w4.heap.size kv bs L ∧ Below w4.heap.size w4 w' from fun w4 g0 off m c hby hm => by
    have h := parse_zero hfit hby (by rw [hL]; exact hm) d a
    rw [hL] at h
    exact h)
  have KLEN := Lib.hid (show L.length = min 0 3 + 1 from hfit.2.2.2.2.1)
  have RD := Lib.hid (fun w3 (hB : Below w.heap.size w w3) => read7_c (hD.below hB) hc.1 hc.2.1 a nn (by omega) hd8)
  rw [show a + nn = b by omega] at RD
  have HFL := Lib.hid hfl
  unfold regV at RD PR
  clear hD hab hb hc hfit hd8 hnn hL hfl
  go_enter Tryz.func10, Tryz.ntmps10
  go_wp2_with fail
  refine (SZ.out).mono ?_
  rintro e w1 ⟨rfl, hB1⟩
  have B1 := Lib.hid hB1
  clear hB1
  go_wp2_with (first | ((with_reducible refine wp_allocC (T := 62) (z := .agg #[.pointer none, .int .i64 0, .int .i64 0]) (k := 3) (by' := 24) (by kernel_rfl) rfl rfl ?_); intro w2 hA hB2; have HA2 := Lib.hid hA; have B2 := Lib.hid hB2; clear hA hB2) | ((with_reducible refine wp_storeC (T := 62) (e := 62) (g := w1.heap.size) (cur := #[.pointer none, .int .i64 0, .int .i64 0]) (cs := [.pointer (some ⟨d, 0, none⟩), .int .i64 (a : Int), .int .i64 (nn : Int)]) ?hi ?hg ?hl ?h1 ?hgd 8 38 ?ho ?hx ?hy ?_); (case hgd => rfl); (case ho => rfl); (case hi => kernel_rfl); (case hg => exact HA2.out); (case hl => rfl); (case h1 => (intro u hu; simp only [List.mem_cons, List.not_mem_nil, or_false] at hu; rcases hu with rfl | rfl | rfl <;> rfl)); (case hx => rfl); (case hy => rfl); intro w3 hC hG3; have b0 : w3.cell? ⟨w1.heap.size, 0, none⟩ = some (.pointer (some ⟨d, 0, none⟩)) := cell_of_row w3 _ 0 _ _ (0, 0) hC; have b1 : w3.cell? ⟨w1.heap.size, 1, none⟩ = some (.int .i64 (a : Int)) := cell_of_row w3 _ 1 _ _ (0, 0) hC; have b2 : w3.cell? ⟨w1.heap.size, 2, none⟩ = some (.int .i64 (nn : Int)) := cell_of_row w3 _ 2 _ _ (0, 0) hC; have HC3 := Lib.hid hC; have B3 := Lib.hid (B2.out.grown hG3 B2.out.size (fun k e => by injection e with e; omega)); clear hC hG3))
  refine (RD.out w3 (below_then B1.out B3.out)).mono ?_
  rintro e w4 ⟨r, rfl, hO, hB4⟩
  have BW3 := Lib.hid (below_then B1.out B3.out)
  have B4 := Lib.hid hB4
  obtain ⟨-, hz⟩ | ⟨g0, rest, rfl, hg0, hmx, hrow⟩ := id hO
  · exfalso
    have := HFL.out
    rw [hz] at this
    simp at this
    have := NUM.out; have := EN.out
    omega
  have c0 : w4.cell? ⟨w1.heap.size, 0, none⟩ = some (.pointer (some ⟨d, 0, none⟩)) := by rw [hB4.cell (p := ⟨w1.heap.size, 0, none⟩) (lt_of_heap HC3.out)]; exact b0
  have c1 : w4.cell? ⟨w1.heap.size, 1, none⟩ = some (.int .i64 (a : Int)) := by rw [hB4.cell (p := ⟨w1.heap.size, 1, none⟩) (lt_of_heap HC3.out)]; exact b1
  have c2 : w4.cell? ⟨w1.heap.size, 2, none⟩ = some (.int .i64 (nn : Int)) := by rw [hB4.cell (p := ⟨w1.heap.size, 2, none⟩) (lt_of_heap HC3.out)]; exact b2
  have PC := Lib.hid (PR.out w4 g0 0 _ _ hO.byt HFL.out)
  have XR := Lib.hid ((hB4.block _ (lt_of_heap HC3.out)).trans HC3.out)
  have BW4 := Lib.hid (below_then BW3.out hB4)
  generalize (cutD ds a b).flatten.length + rest.length = cc at PC ⊢
  generalize (cutD ds a b).flatten.length = mm at PC ⊢
  clear hO hB4 hg0 hmx hrow b0 b1 b2
  go_wp2_with fail
  refine (PC.out).mono ?_
  rintro e w5 ⟨kv, bs, rfl, hK5, hB5⟩
  have hbl := hK5.2.1
  obtain ⟨g1, c1', rfl, hg1, hkp⟩ := rowM_kp hK5.1 (by rw [hbl, KLEN.out]; omega)
  obtain ⟨bl, ebl⟩ : ∃ q, bs.length = q := ⟨_, rfl⟩
  have EBL := Lib.hid ebl
  have KP5 := Lib.hid (And.intro (And.intro hg1 hkp) hK5)
  obtain ⟨xl, hxl⟩ : ∃ x, bs[bs.length - 1]? = some x := ⟨bs[bs.length - 1]'(by rw [hbl, KLEN.out]; omega), List.getElem?_eq_getElem _⟩
  have HLX := Lib.hid hxl
  have NW := Lib.hid (fun y (hB : Below w5.heap.size w5 y) => newest_c (w := y) (hkp.keepB (hB.block g1 hkp.1)) 0 (by rw [hbl, KLEN.out]; omega) (by rw [hbl, KLEN.out]; omega) hxl)
  have LL := Lib.hid (last_get (K := L) (by rw [KLEN.out]; omega))
  have MC := Lib.hid (fun y (hB : Below w5.heap.size w5 y) => mclone_c (w := y) ((hK5.2.2 (bs.length - 1) xl _ hxl (by rw [hbl]; exact LL.out)).1.below hB))
  have BW5 := Lib.hid (below_then BW4.out hB5)
  have XR1 := Lib.hid ((hB5.block _ (lt_of_heap XR.out)).trans XR.out)
  have EB := Lib.hid (And.intro EN.out (And.intro BW4.out.size hB5.size))
  unfold hisV at NW
  rw [ebl] at NW
  simp only [ebl]
  clear hK5 hB5 hbl hg1 hkp ebl hxl c0 c1 c2
  generalize c1' = c1 at *
  go_wp2_with (first | ((with_reducible refine wp_allocC (T := 66) (z := .agg #[.int .i64 0, .slice none 0 0]) (k := 2) (by' := 32) (by kernel_rfl) rfl rfl ?_); intro w6 hA hB6; have HA6 := Lib.hid hA; have B6 := Lib.hid hB6; clear hA hB6) | ((with_reducible refine wp_storeC (T := 66) (e := 66) (g := w5.heap.size) (cur := #[.int .i64 0, .slice none 0 0]) (cs := [.int .i64 0, .slice (some ⟨g1, 0, none⟩) bl c1]) ?hi ?hg ?hl ?h1 ?hgd 11 51 ?ho ?hx ?hy ?_); (case hgd => rfl); (case ho => rfl); (case hi => kernel_rfl); (case hg => exact HA6.out); (case hl => rfl); (case h1 => (intro u hu; simp only [List.mem_cons, List.not_mem_nil, or_false] at hu; rcases hu with rfl | rfl <;> rfl)); (case hx => rfl); (case hy => rfl); intro w7 hC hG7; have h0 : w7.cell? ⟨w5.heap.size, 0, none⟩ = some (.int .i64 0) := cell_of_row w7 _ 0 _ _ (0, 0) hC; have HC7 := Lib.hid hC; have B7 := Lib.hid (B6.out.grown hG7 B6.out.size (fun k e => by injection e with e; omega)); clear hC hG7))
  have XR2 := HC7
  have XR1 := Lib.hid ((B7.out.block _ (lt_of_heap XR1.out)).trans XR1.out)
  obtain ⟨y0, ey⟩ : ∃ y, y = w7.drew := ⟨_, rfl⟩
  have BY0 := Lib.hid (show Below w5.heap.size w5 y0 by rw [ey]; exact (B7.out).drew)
  have X0 := Lib.hid (show y0.heap[w1.heap.size]? = some (.cells #[.pointer (some ⟨d, 0, none⟩), .int .i64 (a : Int), .int .i64 (nn : Int)] 62 (0, 0)) ∧ y0.heap[w5.heap.size]? = some (.cells #[.int .i64 0, .slice (some ⟨g1, 0, none⟩) bl c1] 66 (0, 0)) by rw [ey]; exact ⟨XR1.out, XR2.out⟩)
  have eyw := ey.symm
  have EY := Lib.hid eyw
  clear ey eyw
  refine hk_begin (S := fun W => W.heap[w1.heap.size]? = some (.cells #[.pointer (some ⟨d, 0, none⟩), .int .i64 (a : Int), .int .i64 (nn : Int)] 62 (0, 0)) ∧ W.heap[w5.heap.size]? = some (.cells #[.int .i64 0, .slice (some ⟨g1, 0, none⟩) bl c1] 66 (0, 0))) 9 (by kernel_rfl) (by kernel_rfl) ?_
  rw [EY.out]
  refine hk_take (i := 0) (some 68) (.agg #[.pointer (some ⟨d, 0, none⟩), .int .i64 (a : Int), .int .i64 (nn : Int)]) (by kernel_rfl) (by kernel_rfl) (by kernel_rfl) (by kernel_rfl) (by kernel_rfl) (by kernel_rfl) (fun W hS => exec_loadRow 62 (.tmp 8) w1.heap.size #[.pointer (some ⟨d, 0, none⟩), .int .i64 (a : Int), .int .i64 (nn : Int)] _ (by kernel_rfl) (by kernel_rfl) hS.1 Tryz.underlying62 rfl (by kernel_rfl)) (fun _ _ d _ _ h => by cases d <;> exact h) X0.out ?_
  simp only [put_lit, put_non, List.set_cons_zero, List.set_cons_succ]
  refine hk_take (i := 1) (some 69) (.agg #[.int .i64 0, .slice (some ⟨g1, 0, none⟩) bl c1]) (by kernel_rfl) (by kernel_rfl) (by kernel_rfl) (by kernel_rfl) (by kernel_rfl) (by kernel_rfl) (fun W hS => exec_loadRow 66 (.tmp 11) w5.heap.size #[.int .i64 0, .slice (some ⟨g1, 0, none⟩) bl c1] _ (by kernel_rfl) (by kernel_rfl) hS.2 Tryz.underlying66 rfl (by kernel_rfl)) (fun _ _ d _ _ h => by cases d <;> exact h) X0.out ?_
  simp only [put_lit, put_non, List.set_cons_zero, List.set_cons_succ]
  refine hk_take (i := 2) (some 70) (.agg #[.int .i64 0, .slice (some ⟨g1, 0, none⟩) bl c1]) (by kernel_rfl) (by kernel_rfl) (by kernel_rfl) (by kernel_rfl) (by kernel_rfl) (by kernel_rfl) (fun W hS => exec_loadRow 66 (.tmp 11) w5.heap.size #[.int .i64 0, .slice (some ⟨g1, 0, none⟩) bl c1] _ (by kernel_rfl) (by kernel_rfl) hS.2 Tryz.underlying66 rfl (by kernel_rfl)) (fun _ _ d _ _ h => by cases d <;> exact h) X0.out ?_
  simp only [put_lit, put_non, List.set_cons_zero, List.set_cons_succ]
  refine hk_one (i := 3) (by kernel_rfl) ?_
  refine op_call (some 71) 31 #[.agg #[.int .i64 0, .slice (some ⟨g1, 0, none⟩) bl c1]] (by kernel_rfl) (by kernel_rfl) (by kernel_rfl) (fun w => (by kernel_rfl)) ?_
  refine (NW.out y0 BY0.out).mono ?_
  rintro e y1 ⟨rfl, hb1⟩
  have BY1 := Lib.hid (BY0.out.trans (hb1.mono BY0.out.size))
  have X1 := Lib.hid (And.intro ((hb1.block _ (lt_of_heap X0.out.1)).trans X0.out.1) ((hb1.block _ (lt_of_heap X0.out.2)).trans X0.out.2))
  refine ⟨_, rfl, X1.out, ?_⟩
  clear hb1
  simp only [put_lit, put_non, List.set_cons_zero, List.set_cons_succ]
  refine hk_one (i := 4) (by kernel_rfl) ?_
  refine op_call (some 72) 30 #[.map (some xl)] (by kernel_rfl) (by kernel_rfl) (by kernel_rfl) (fun w => (by kernel_rfl)) ?_
  refine (MC.out y1 BY1.out).mono ?_
  rintro e y2 ⟨rfl, hpm, hsz, hb2⟩
  have BY2 := Lib.hid (BY1.out.trans (hb2.mono BY1.out.size))
  have X2 := Lib.hid (And.intro ((hb2.block _ (lt_of_heap X1.out.1)).trans X1.out.1) ((hb2.block _ (lt_of_heap X1.out.2)).trans X1.out.2))
  have PM2 := Lib.hid hpm
  have SZ2 := Lib.hid hsz
  refine ⟨_, rfl, X2.out, ?_⟩
  clear hb2 hpm hsz
  simp only [put_lit, put_non, List.set_cons_zero, List.set_cons_succ]
  refine hk_take (i := 5) (some 73) (.agg #[.pointer (some ⟨d, 0, none⟩), .int .i64 (a : Int), .int .i64 (nn : Int), .int .i64 0, .slice (some ⟨g1, 0, none⟩) bl c1, .map (some y1.heap.size)]) (by kernel_rfl) (by kernel_rfl) (by kernel_rfl) (by kernel_rfl) (by kernel_rfl) (by kernel_rfl) (fun W hS => (by kernel_rfl)) (fun _ _ d _ _ h => by cases d <;> exact h) X2.out ?_
  simp only [put_lit, put_non, List.set_cons_zero, List.set_cons_succ]
  obtain ⟨y3, e3⟩ : ∃ y, y = y2.alloc (.cells #[.pointer (some ⟨d, 0, none⟩), .int .i64 (a : Int), .int .i64 (nn : Int), .int .i64 0, .slice (some ⟨g1, 0, none⟩) bl c1, .map (some y1.heap.size)] 74) := ⟨_, rfl⟩
  have hr3 : y3.heap[y2.heap.size]? = some (.cells #[.pointer (some ⟨d, 0, none⟩), .int .i64 (a : Int), .int .i64 (nn : Int), .int .i64 0, .slice (some ⟨g1, 0, none⟩) bl c1, .map (some y1.heap.size)] 74 (0, 0)) := by rw [e3]; exact heap_alloc_new _ _
  have hba : Below y2.heap.size y2 y3 := by rw [e3]; exact (Below.refl _ _).alloc (Nat.le_refl _) _
  have X3 := Lib.hid (And.intro ((hba.block _ (lt_of_heap X2.out.1)).trans X2.out.1) ((hba.block _ (lt_of_heap X2.out.2)).trans X2.out.2))
  have R3 := Lib.hid hr3
  have BA := Lib.hid hba
  refine hk_one (i := 6) (by kernel_rfl) ?_
  refine op_do (some 74) (.pointer (some ⟨y2.heap.size, 0, none⟩)) y3 (by kernel_rfl) (by kernel_rfl) (by kernel_rfl) (by rw [e3]; exact exec_boxS (t := 73) (by kernel_rfl) (by kernel_rfl)) ?_
  refine ⟨X3.out, ?_⟩
  clear e3 hr3 hba
  simp only [put_lit, put_non, List.set_cons_zero, List.set_cons_succ]
  refine hk_take (i := 7) (some 6) (.pointer (some ⟨y2.heap.size, 0, none⟩)) (by kernel_rfl) (by kernel_rfl) (by kernel_rfl) (by kernel_rfl) (by kernel_rfl) (by kernel_rfl) (fun W hS => (by kernel_rfl)) (fun _ _ d _ _ h => by cases d <;> exact h) X3.out ?_
  simp only [put_lit, put_non, List.set_cons_zero, List.set_cons_succ]
  refine hk_take (i := 8) (some 7) (.int .i64 0) (by kernel_rfl) (by kernel_rfl) (by kernel_rfl) (by kernel_rfl) (by kernel_rfl) (by kernel_rfl) (fun W hS => (by kernel_rfl)) (fun _ _ d _ _ h => by cases d <;> exact h) X3.out ?_
  simp only [put_lit, put_non, List.set_cons_zero, List.set_cons_succ]
  refine hk_done (by kernel_rfl) ?_
  go_wp2_with fail
  go_ret2
  exact open_done NUM.out.1 NUM.out.2.1 NUM.out.2.2 DK.out CA.out FIT.out EB.out.1 EB.out.2.1 EB.out.2.2 EBL.out (rfl) KP5.out.1 KP5.out.2 HLX.out (BW5.out) BY2.out SZ2.out PM2.out R3.out BA.out BY1.out.size
set_option maxRecDepth 20000 in
set_option maxHeartbeats 16000000 in
theorem open7_some (hD : Disk w Fd d ds) (hab : a + 32 ≤ b) (hb : b ≤ ds.dur.length) (hc : calmD ds) (hfit : FitK (cutD ds a b) () n L) (h1 : 1 ≤ n) : Calls Tryz.prog 10 #[.pointer (some ⟨d, 0, none⟩), .int .i64 (a : Int), .int .i64 (b : Int)] w fun e w' =>
    ∃ m F' Fd' g' ds', e = .returned (.tuple #[.pointer (some ⟨m, 0, none⟩), .int .i64 0]) ∧ ObjK w' F' m d a b g' ⟨n, L, L.getLastD []⟩ ∧ Disk w' Fd' d ds' ∧ (∀ k, F' k → ¬ Fd' k) ∧ (∀ k, F' k → w.heap.size ≤ k) ∧ (∀ k, Fd' k → MoreR Fd w w' k) ∧ Turn Fd w w' ∧ calmD ds' ∧ SameD a b ds ds' ∧ FitK (cutD ds' a b) g' n L := by
  have hd8 : ds.dur.length ≤ 8192 := by obtain ⟨_, _, _, _, _, _, _, _, _, _, _, _, _, h8⟩ := hD; exact h8
  obtain ⟨nn, hnn⟩ : ∃ q, b - a = q := ⟨_, rfl⟩
  have hai : (a : Int) ≤ 8192 := by omega
  have hbi : (b : Int) ≤ 8192 := by omega
  have g1 : ¬ (a : Int) < 0 := by omega
  have g2 : ¬ (a : Int) > (b : Int) := by omega
  have g3 : ¬ (b : Int) > (ds.dur.length : Int) := by omega
  have g5 : (b : Int) - (a : Int) = (nn : Int) := by omega
  have g4 : ¬ (nn : Int) < 32 := by omega
  have SZ := Lib.hid (disk_size hD)
  have DK := Lib.hid hD
  have NUM := Lib.hid (show a + 32 ≤ b ∧ b ≤ ds.dur.length ∧ ds.dur.length ≤ 8192 from ⟨hab, hb, hd8⟩)
  have EN := Lib.hid hnn
  have FIT := Lib.hid hfit
  have CA := Lib.hid hc
  have hL := (cut_get (ds := ds) (a := a) (b := b) hb (by omega)).1
  rw [hnn] at hL
  have hfl := flat_len hfit.1
  rw [hL] at hfl
  have PR := Lib.hid (show ∀ w4 g0 off m c, Byt w4 (.slice (some ⟨g0, off, none⟩) m c) (cutD ds a b).flatten → m = nn * 64 → Calls Tryz.prog 27 #[regV d a nn, .slice (some ⟨g0, off, none⟩) m c] w4 fun e w' => ∃ kv bs, e = .returned (.tuple #[.agg #[.int .i64 (n : Int), kv], .bool true]) ∧ KepM w' w4.heap.size kv bs L ∧ Below w4.heap.size w4 w' from fun w4 g0 off m c hby hm => by
    have h := parse_some hfit h1 hby (by rw [hL]; exact hm) (by omega) d a
    rw [hL] at h
    exact h)
  have KLEN := Lib.hid (show L.length = min n 3 + 1 from hfit.2.2.2.2.1)
  have RD := Lib.hid (fun w3 (hB : Below w.heap.size w w3) => read7_c (hD.below hB) hc.1 hc.2.1 a nn (by omega) hd8)
  rw [show a + nn = b by omega] at RD
  have HFL := Lib.hid hfl
  have PD := Lib.hid (fun w3 (hB : Below w.heap.size w w3) => disk_pend (hD.below hB) hc.2.1)
  have hn1 : (n : Int) > 0 := by omega
  unfold regV at RD PR
  clear hD hab hb hc hfit hd8 hnn hL hfl h1
  go_enter Tryz.func10, Tryz.ntmps10
  go_wp2_with fail
  refine (SZ.out).mono ?_
  rintro e w1 ⟨rfl, hB1⟩
  have B1 := Lib.hid hB1
  clear hB1
  go_wp2_with (first | ((with_reducible refine wp_allocC (T := 62) (z := .agg #[.pointer none, .int .i64 0, .int .i64 0]) (k := 3) (by' := 24) (by kernel_rfl) rfl rfl ?_); intro w2 hA hB2; have HA2 := Lib.hid hA; have B2 := Lib.hid hB2; clear hA hB2) | ((with_reducible refine wp_storeC (T := 62) (e := 62) (g := w1.heap.size) (cur := #[.pointer none, .int .i64 0, .int .i64 0]) (cs := [.pointer (some ⟨d, 0, none⟩), .int .i64 (a : Int), .int .i64 (nn : Int)]) ?hi ?hg ?hl ?h1 ?hgd 8 38 ?ho ?hx ?hy ?_); (case hgd => rfl); (case ho => rfl); (case hi => kernel_rfl); (case hg => exact HA2.out); (case hl => rfl); (case h1 => (intro u hu; simp only [List.mem_cons, List.not_mem_nil, or_false] at hu; rcases hu with rfl | rfl | rfl <;> rfl)); (case hx => rfl); (case hy => rfl); intro w3 hC hG3; have b0 : w3.cell? ⟨w1.heap.size, 0, none⟩ = some (.pointer (some ⟨d, 0, none⟩)) := cell_of_row w3 _ 0 _ _ (0, 0) hC; have b1 : w3.cell? ⟨w1.heap.size, 1, none⟩ = some (.int .i64 (a : Int)) := cell_of_row w3 _ 1 _ _ (0, 0) hC; have b2 : w3.cell? ⟨w1.heap.size, 2, none⟩ = some (.int .i64 (nn : Int)) := cell_of_row w3 _ 2 _ _ (0, 0) hC; have HC3 := Lib.hid hC; have B3 := Lib.hid (B2.out.grown hG3 B2.out.size (fun k e => by injection e with e; omega)); clear hC hG3))
  refine (RD.out w3 (below_then B1.out B3.out)).mono ?_
  rintro e w4 ⟨r, rfl, hO, hB4⟩
  have BW3 := Lib.hid (below_then B1.out B3.out)
  have B4 := Lib.hid hB4
  obtain ⟨-, hz⟩ | ⟨g0, rest, rfl, hg0, hmx, hrow⟩ := id hO
  · exfalso
    have := HFL.out
    rw [hz] at this
    simp at this
    have := NUM.out; have := EN.out
    omega
  have c0 : w4.cell? ⟨w1.heap.size, 0, none⟩ = some (.pointer (some ⟨d, 0, none⟩)) := by rw [hB4.cell (p := ⟨w1.heap.size, 0, none⟩) (lt_of_heap HC3.out)]; exact b0
  have c1 : w4.cell? ⟨w1.heap.size, 1, none⟩ = some (.int .i64 (a : Int)) := by rw [hB4.cell (p := ⟨w1.heap.size, 1, none⟩) (lt_of_heap HC3.out)]; exact b1
  have c2 : w4.cell? ⟨w1.heap.size, 2, none⟩ = some (.int .i64 (nn : Int)) := by rw [hB4.cell (p := ⟨w1.heap.size, 2, none⟩) (lt_of_heap HC3.out)]; exact b2
  have PC := Lib.hid (PR.out w4 g0 0 _ _ hO.byt HFL.out)
  have XR := Lib.hid ((hB4.block _ (lt_of_heap HC3.out)).trans HC3.out)
  have BW4 := Lib.hid (below_then BW3.out hB4)
  generalize (cutD ds a b).flatten.length + rest.length = cc at PC ⊢
  generalize (cutD ds a b).flatten.length = mm at PC ⊢
  clear hO hB4 hg0 hmx hrow b0 b1 b2
  go_wp2_with fail
  refine (PC.out).mono ?_
  rintro e w5 ⟨kv, bs, rfl, hK5, hB5⟩
  have hbl := hK5.2.1
  obtain ⟨g1, c1', rfl, hg1, hkp⟩ := rowM_kp hK5.1 (by rw [hbl, KLEN.out]; omega)
  obtain ⟨bl, ebl⟩ : ∃ q, bs.length = q := ⟨_, rfl⟩
  have EBL := Lib.hid ebl
  have KP5 := Lib.hid (And.intro (And.intro hg1 hkp) hK5)
  obtain ⟨xl, hxl⟩ : ∃ x, bs[bs.length - 1]? = some x := ⟨bs[bs.length - 1]'(by rw [hbl, KLEN.out]; omega), List.getElem?_eq_getElem _⟩
  have HLX := Lib.hid hxl
  have NW := Lib.hid (fun y (hB : Below w5.heap.size w5 y) => newest_c (w := y) (hkp.keepB (hB.block g1 hkp.1)) n (by rw [hbl, KLEN.out]; omega) (by rw [hbl, KLEN.out]; omega) hxl)
  have LL := Lib.hid (last_get (K := L) (by rw [KLEN.out]; omega))
  have MC := Lib.hid (fun y (hB : Below w5.heap.size w5 y) => mclone_c (w := y) ((hK5.2.2 (bs.length - 1) xl _ hxl (by rw [hbl]; exact LL.out)).1.below hB))
  have BW5 := Lib.hid (below_then BW4.out hB5)
  have XR1 := Lib.hid ((hB5.block _ (lt_of_heap XR.out)).trans XR.out)
  have EB := Lib.hid (And.intro EN.out (And.intro BW4.out.size hB5.size))
  unfold hisV at NW
  rw [ebl] at NW
  simp only [ebl]
  clear hK5 hB5 hbl hg1 hkp ebl hxl c0 c1 c2
  generalize c1' = c1 at *
  go_wp2_with (first | ((with_reducible refine wp_allocC (T := 66) (z := .agg #[.int .i64 0, .slice none 0 0]) (k := 2) (by' := 32) (by kernel_rfl) rfl rfl ?_); intro w6 hA hB6; have HA6 := Lib.hid hA; have B6 := Lib.hid hB6; clear hA hB6) | ((with_reducible refine wp_storeC (T := 66) (e := 66) (g := w5.heap.size) (cur := #[.int .i64 0, .slice none 0 0]) (cs := [.int .i64 (n : Int), .slice (some ⟨g1, 0, none⟩) bl c1]) ?hi ?hg ?hl ?h1 ?hgd 11 51 ?ho ?hx ?hy ?_); (case hgd => rfl); (case ho => rfl); (case hi => kernel_rfl); (case hg => exact HA6.out); (case hl => rfl); (case h1 => (intro u hu; simp only [List.mem_cons, List.not_mem_nil, or_false] at hu; rcases hu with rfl | rfl <;> rfl)); (case hx => rfl); (case hy => rfl); intro w7 hC hG7; have h0 : w7.cell? ⟨w5.heap.size, 0, none⟩ = some (.int .i64 (n : Int)) := cell_of_row w7 _ 0 _ _ (0, 0) hC; have HC7 := Lib.hid hC; have B7 := Lib.hid (B6.out.grown hG7 B6.out.size (fun k e => by injection e with e; omega)); clear hC hG7))
  refine (PD.out w7 (BW5.out.trans (B7.out.mono BW5.out.size))).mono ?_
  rintro e w8 ⟨rfl, hB8⟩
  have B8 := Lib.hid (B7.out.trans (hB8.mono B7.out.size))
  have XR2 := Lib.hid ((hB8.block _ (lt_of_heap HC7.out)).trans HC7.out)
  have XR1 := Lib.hid ((B8.out.block _ (lt_of_heap XR1.out)).trans XR1.out)
  clear hB8
  go_wp2_with fail
  obtain ⟨y0, ey⟩ : ∃ y, y = w8.drew := ⟨_, rfl⟩
  have BY0 := Lib.hid (show Below w5.heap.size w5 y0 by rw [ey]; exact (B8.out).drew)
  have X0 := Lib.hid (show y0.heap[w1.heap.size]? = some (.cells #[.pointer (some ⟨d, 0, none⟩), .int .i64 (a : Int), .int .i64 (nn : Int)] 62 (0, 0)) ∧ y0.heap[w5.heap.size]? = some (.cells #[.int .i64 (n : Int), .slice (some ⟨g1, 0, none⟩) bl c1] 66 (0, 0)) by rw [ey]; exact ⟨XR1.out, XR2.out⟩)
  have eyw := ey.symm
  have EY := Lib.hid eyw
  clear ey eyw
  refine hk_begin (S := fun W => W.heap[w1.heap.size]? = some (.cells #[.pointer (some ⟨d, 0, none⟩), .int .i64 (a : Int), .int .i64 (nn : Int)] 62 (0, 0)) ∧ W.heap[w5.heap.size]? = some (.cells #[.int .i64 (n : Int), .slice (some ⟨g1, 0, none⟩) bl c1] 66 (0, 0))) 9 (by kernel_rfl) (by kernel_rfl) ?_
  rw [EY.out]
  refine hk_take (i := 0) (some 68) (.agg #[.pointer (some ⟨d, 0, none⟩), .int .i64 (a : Int), .int .i64 (nn : Int)]) (by kernel_rfl) (by kernel_rfl) (by kernel_rfl) (by kernel_rfl) (by kernel_rfl) (by kernel_rfl) (fun W hS => exec_loadRow 62 (.tmp 8) w1.heap.size #[.pointer (some ⟨d, 0, none⟩), .int .i64 (a : Int), .int .i64 (nn : Int)] _ (by kernel_rfl) (by kernel_rfl) hS.1 Tryz.underlying62 rfl (by kernel_rfl)) (fun _ _ d _ _ h => by cases d <;> exact h) X0.out ?_
  simp only [put_lit, put_non, List.set_cons_zero, List.set_cons_succ]
  refine hk_take (i := 1) (some 69) (.agg #[.int .i64 (n : Int), .slice (some ⟨g1, 0, none⟩) bl c1]) (by kernel_rfl) (by kernel_rfl) (by kernel_rfl) (by kernel_rfl) (by kernel_rfl) (by kernel_rfl) (fun W hS => exec_loadRow 66 (.tmp 11) w5.heap.size #[.int .i64 (n : Int), .slice (some ⟨g1, 0, none⟩) bl c1] _ (by kernel_rfl) (by kernel_rfl) hS.2 Tryz.underlying66 rfl (by kernel_rfl)) (fun _ _ d _ _ h => by cases d <;> exact h) X0.out ?_
  simp only [put_lit, put_non, List.set_cons_zero, List.set_cons_succ]
  refine hk_take (i := 2) (some 70) (.agg #[.int .i64 (n : Int), .slice (some ⟨g1, 0, none⟩) bl c1]) (by kernel_rfl) (by kernel_rfl) (by kernel_rfl) (by kernel_rfl) (by kernel_rfl) (by kernel_rfl) (fun W hS => exec_loadRow 66 (.tmp 11) w5.heap.size #[.int .i64 (n : Int), .slice (some ⟨g1, 0, none⟩) bl c1] _ (by kernel_rfl) (by kernel_rfl) hS.2 Tryz.underlying66 rfl (by kernel_rfl)) (fun _ _ d _ _ h => by cases d <;> exact h) X0.out ?_
  simp only [put_lit, put_non, List.set_cons_zero, List.set_cons_succ]
  refine hk_one (i := 3) (by kernel_rfl) ?_
  refine op_call (some 71) 31 #[.agg #[.int .i64 (n : Int), .slice (some ⟨g1, 0, none⟩) bl c1]] (by kernel_rfl) (by kernel_rfl) (by kernel_rfl) (fun w => (by kernel_rfl)) ?_
  refine (NW.out y0 BY0.out).mono ?_
  rintro e y1 ⟨rfl, hb1⟩
  have BY1 := Lib.hid (BY0.out.trans (hb1.mono BY0.out.size))
  have X1 := Lib.hid (And.intro ((hb1.block _ (lt_of_heap X0.out.1)).trans X0.out.1) ((hb1.block _ (lt_of_heap X0.out.2)).trans X0.out.2))
  refine ⟨_, rfl, X1.out, ?_⟩
  clear hb1
  simp only [put_lit, put_non, List.set_cons_zero, List.set_cons_succ]
  refine hk_one (i := 4) (by kernel_rfl) ?_
  refine op_call (some 72) 30 #[.map (some xl)] (by kernel_rfl) (by kernel_rfl) (by kernel_rfl) (fun w => (by kernel_rfl)) ?_
  refine (MC.out y1 BY1.out).mono ?_
  rintro e y2 ⟨rfl, hpm, hsz, hb2⟩
  have BY2 := Lib.hid (BY1.out.trans (hb2.mono BY1.out.size))
  have X2 := Lib.hid (And.intro ((hb2.block _ (lt_of_heap X1.out.1)).trans X1.out.1) ((hb2.block _ (lt_of_heap X1.out.2)).trans X1.out.2))
  have PM2 := Lib.hid hpm
  have SZ2 := Lib.hid hsz
  refine ⟨_, rfl, X2.out, ?_⟩
  clear hb2 hpm hsz
  simp only [put_lit, put_non, List.set_cons_zero, List.set_cons_succ]
  refine hk_take (i := 5) (some 73) (.agg #[.pointer (some ⟨d, 0, none⟩), .int .i64 (a : Int), .int .i64 (nn : Int), .int .i64 (n : Int), .slice (some ⟨g1, 0, none⟩) bl c1, .map (some y1.heap.size)]) (by kernel_rfl) (by kernel_rfl) (by kernel_rfl) (by kernel_rfl) (by kernel_rfl) (by kernel_rfl) (fun W hS => (by kernel_rfl)) (fun _ _ d _ _ h => by cases d <;> exact h) X2.out ?_
  simp only [put_lit, put_non, List.set_cons_zero, List.set_cons_succ]
  obtain ⟨y3, e3⟩ : ∃ y, y = y2.alloc (.cells #[.pointer (some ⟨d, 0, none⟩), .int .i64 (a : Int), .int .i64 (nn : Int), .int .i64 (n : Int), .slice (some ⟨g1, 0, none⟩) bl c1, .map (some y1.heap.size)] 74) := ⟨_, rfl⟩
  have hr3 : y3.heap[y2.heap.size]? = some (.cells #[.pointer (some ⟨d, 0, none⟩), .int .i64 (a : Int), .int .i64 (nn : Int), .int .i64 (n : Int), .slice (some ⟨g1, 0, none⟩) bl c1, .map (some y1.heap.size)] 74 (0, 0)) := by rw [e3]; exact heap_alloc_new _ _
  have hba : Below y2.heap.size y2 y3 := by rw [e3]; exact (Below.refl _ _).alloc (Nat.le_refl _) _
  have X3 := Lib.hid (And.intro ((hba.block _ (lt_of_heap X2.out.1)).trans X2.out.1) ((hba.block _ (lt_of_heap X2.out.2)).trans X2.out.2))
  have R3 := Lib.hid hr3
  have BA := Lib.hid hba
  refine hk_one (i := 6) (by kernel_rfl) ?_
  refine op_do (some 74) (.pointer (some ⟨y2.heap.size, 0, none⟩)) y3 (by kernel_rfl) (by kernel_rfl) (by kernel_rfl) (by rw [e3]; exact exec_boxS (t := 73) (by kernel_rfl) (by kernel_rfl)) ?_
  refine ⟨X3.out, ?_⟩
  clear e3 hr3 hba
  simp only [put_lit, put_non, List.set_cons_zero, List.set_cons_succ]
  refine hk_take (i := 7) (some 6) (.pointer (some ⟨y2.heap.size, 0, none⟩)) (by kernel_rfl) (by kernel_rfl) (by kernel_rfl) (by kernel_rfl) (by kernel_rfl) (by kernel_rfl) (fun W hS => (by kernel_rfl)) (fun _ _ d _ _ h => by cases d <;> exact h) X3.out ?_
  simp only [put_lit, put_non, List.set_cons_zero, List.set_cons_succ]
  refine hk_take (i := 8) (some 7) (.int .i64 0) (by kernel_rfl) (by kernel_rfl) (by kernel_rfl) (by kernel_rfl) (by kernel_rfl) (by kernel_rfl) (fun W hS => (by kernel_rfl)) (fun _ _ d _ _ h => by cases d <;> exact h) X3.out ?_
  simp only [put_lit, put_non, List.set_cons_zero, List.set_cons_succ]
  refine hk_done (by kernel_rfl) ?_
  go_wp2_with fail
  go_ret2
  exact open_done NUM.out.1 NUM.out.2.1 NUM.out.2.2 DK.out CA.out FIT.out EB.out.1 EB.out.2.1 EB.out.2.2 EBL.out (rfl) KP5.out.1 KP5.out.2 HLX.out (BW5.out) BY2.out SZ2.out PM2.out R3.out BA.out BY1.out.size
end
end Go.Proofs.YtckomifecmemnaaGreat

/- The contracts of the landed pagestore. -/
namespace Go.Proofs.YtckomifecmemnaaGreat
open Go.RowKit Dig
set_option linter.unusedVariables false

theorem prog7 : Prog7 ObjK FitK where
  ok := fun {w F m d a b g s} h => by
    cases g
    obtain ⟨-, -, g, c, wb, bs, hm⟩ := h
    exact ⟨hm.few.1, hm.few.2.1⟩
  lt := fun {w F m d a b g s} h => by
    cases g
    exact h.lt
  keep := fun {w w' F m d a b g s} h hs hk => by
    cases g
    exact h.keep hs hk
  zero := fun n h1 h2 => ⟨(), fit_zero h1 h2⟩
  version := fun {w F m d a b g s} h hl => by
    cases g
    exact version7_c h hl
  versions := fun h hl => versions7_c h hl
  pages := fun h hl v v1 v2 => pages7_c h hl v v1 v2
  get := fun h hl v no v1 v2 => get7_c h hl v no v1 v2
  put := fun h no u x hu hx hap => put7_c h no u x hu hx hap
  delete := fun h no => delete7_c h no
  rollback := fun h => rollback7_c h
  commit := fun {w F m d a b g s Fd ds} h hD hdis hc hb hf hl => by
    cases g
    exact commit7_c h hD hdis hc hb hf hl
  open' := fun {w Fd d ds g n L} hD a b hab hb hc hf => by
    cases g
    rcases Nat.eq_zero_or_pos n with rfl | h1
    · exact open7_zero hD hab hb hc hf
    · exact open7_some hD hab hb hc hf h1
  openBad := fun hD a b a1 a2 b1 b2 hbad => openBad_c hD a b a1 a2 b1 b2 hbad
  openOff := fun hD a b hab hb ho => openOff_c hD hab hb ho
end Go.Proofs.YtckomifecmemnaaGreat

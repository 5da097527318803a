/- The reference's page store: Commit. -/
import Derived.Test.YtckomifecmemnaaGreatPsf
namespace Go.Proofs.YtckomifecmemnaaGreat
set_option linter.unusedSimpArgs false
open Go.RowKit Dig
set_option linter.unusedVariables false

theorem zero_kp : (Tryz.prog.info? 76).map (fun i => (i.zero, i.size, i.bytes)) = some (some (.slice none 0 0), 1, 24) := by kernel_rfl
theorem one_kp (A : Option Addr) (n c : Nat) : ∀ u ∈ [Value.slice A n c], u.oneCell' = true := by
  intro u hu
  rw [List.mem_singleton.1 hu]
  rfl
section
variable {ev : Operand → Value} {o : Oper} {w : World}
/-- An empty row. -/
theorem exec_noneC {T e : TypeId} {k : Nat} (hT : Tryz.prog.underlying T = some (.slice e)) (hI : (Tryz.prog.info? e).map (·.size) = some k) (ho : o.op = .buildSlice T 0 #[]) :
    (execOp ev o).run Tryz.prog w = .ok (.value (.slice (some ⟨w.heap.size, 0, none⟩) 0 0)) (w.alloc (.cells #[] e)) := by
  cases hq : Tryz.prog.info? e with
  | none => simp [hq] at hI
  | some i0 =>
    have hr : (Instr.buildSlice T 0 #[]).run Tryz.prog w = .ok (.slice (some ⟨w.heap.size, 0, none⟩) 0 0) (w.alloc (.cells #[] e)) := by
      simp [Instr.buildSlice, run_underlying hT, sizeOf, typeInfo, hq, newRow, Instr.fill]
      rw [show (Array.range 0 : Array Nat) = #[] from Array.eq_empty_of_size_eq_zero (by simp), Array.map_empty]
    unfold execOp
    simp only [ho, Sem.run_bind, Array.map_empty, hr, Result.andThen_ok, Sem.run_pure]
/-- append(s, x...), where s is of the call's own, as one operation. -/
theorem exec_appendC {T e : TypeId} {z : Value} {k by' : Nat} (hT : Tryz.prog.underlying T = some (.slice e)) (hI : (Tryz.prog.info? e).map (fun i => (i.zero, i.size, i.bytes)) = some (some z, k, by')) (hz : z.cells.size = k) (hk : 0 < k)
    (s x : Tmp) (ho : o.op = .call { callee := .builtin .append, args := #[.tmp s, .tmp x], argTypes := #[T, T] })
    (base : Nat) (v : Value) (n : Nat) (vs : List Value) (hs : ev (.tmp s) = v) (hown : w.ownsRow base e k v n vs) (u : Value) (m : Nat) (us : List Value) (hx : ev (.tmp x) = u) (hr : Cel w u k m us) (h1 : ∀ y ∈ us, y.oneCell' = true)
    (h63 : n + m ≤ 1000000) (hby : by' ≤ 1000000) (hbase : base ≤ w.heap.size) :
    ∃ v' w', (execOp ev o).run Tryz.prog w = .ok (.value v') w' ∧ w'.ownsRow base e k v' (n + m) (vs ++ us) ∧ w.grownBy w' v.ownBlock := by
  cases hq : Tryz.prog.info? e with
  | none => simp [hq] at hI
  | some i0 =>
    simp [hq] at hI
    obtain ⟨hz0, hz1, hz2⟩ := hI
    obtain ⟨hl, A, c, e1, ⟨hc, hn⟩, hm, hcell⟩ := hr
    cases A with
    | none =>
      have hc0 := hn rfl
      subst hc0
      obtain rfl : m = 0 := by omega
      have hl : us = [] := List.eq_nil_of_length_eq_zero (by omega)
      subst hl
      subst e1
      have hrun := run_append_owned_none (P := Tryz.prog) (w := w) base T o.type e i0 k hT hq v n vs hown
      refine ⟨v, w, ?_, by simpa using hown, World.grownBy.refl w _⟩
      simp [execOp, ho, resolve, invoke, builtin, hs, hx, hrun, Result.andThen]
    | some ad =>
      subst e1
      have hnews : ∀ j y, us[j]? = some y → w.cell? (ad.add j) = some y := by
        intro j y hj
        have hpos : 0 < m := by
          rcases Nat.eq_zero_or_pos m with h0 | h0
          · subst h0
            have := (List.getElem?_eq_some_iff.1 hj).1
            omega
          · exact h0
        obtain ⟨b, off, e2, _, hr⟩ := hcell hpos
        cases e2
        have : (⟨b, off, none⟩ : Addr).add j = ⟨b, off + j, none⟩ := by unfold Addr.add; split <;> simp_all
        rw [this]
        exact hr j y hj
      have hbytes : (n + m) * by' ≤ 140737488355328 := Nat.le_trans (Nat.mul_le_mul h63 hby) (by omega)
      obtain ⟨v', w', hr, h2, h3, h4⟩ := run_append_own (P := Tryz.prog) w base T o.type e i0 z k by' hT hq hz0 hz1 hz2 hz hk v n vs hown ad m c us hl hnews h1 (by unfold maxLen; omega) hbytes hbase
      refine ⟨v', w', ?_, h2, h3⟩
      unfold execOp
      simp only [ho, resolve, invoke, builtin, Sem.run_bind, Sem.run_pure, Result.andThen_ok, List.map_toArray, List.map_cons, List.map_nil, hs, hx, hr]
/-- A row of one element that is a slice. -/
theorem exec_oneS {T e : TypeId} {z : Value} {by' : Nat} {A : Option Addr} {n c : Nat} (hT : Tryz.prog.underlying T = some (.slice e)) (hI : (Tryz.prog.info? e).map (fun i => (i.zero, i.size, i.bytes)) = some (some z, 1, by'))
    (t : Tmp) (ho : o.op = .buildSlice T 1 #[(0, .tmp t)]) (hx : ev (.tmp t) = .slice A n c) :
    (execOp ev o).run Tryz.prog w = .ok (.value (.slice (some ⟨w.heap.size, 0, none⟩) 1 1)) (w.alloc (.cells #[.slice A n c] e)) := by
  cases hq : Tryz.prog.info? e with
  | none => simp [hq] at hI
  | some i0 =>
    simp [hq] at hI
    obtain ⟨hz, hs, _⟩ := hI
    have hr := run_buildSlice (P := Tryz.prog) w T e 1 #[(0, .slice A n c)] #[.slice A n c] i0 z hT hq hz (by rw [hs]; omega) (by rw [hs]; omega) (by
      have hsz : ((Array.range (1 * i0.size)).map (z.cells[· % z.cells.size]!)).size = 1 := by simp [hs]
      generalize (Array.range (1 * i0.size)).map (z.cells[· % z.cells.size]!) = A0 at hsz ⊢
      unfold Instr.fill
      simp only [Value.cells, Nat.zero_mul]
      rw [if_neg (by simp [hs, hsz])]
      unfold Instr.fill
      refine congrArg some ?_
      apply Array.ext
      · simp [hsz]
      · intro i h1 h2
        have : i = 0 := by simp at h2; omega
        subst this
        simp)
    unfold execOp
    simp only [ho, List.map_toArray, List.map_cons, List.map_nil, hx, Sem.run_bind, hr, Result.andThen_ok, Sem.run_pure]
end
section
variable {ops : Array Oper} {Q : Exit → Act → World → Prop} {w : World}
theorem op_appendC {T e : TypeId} {z : Value} {k by' : Nat} (hT : Tryz.prog.underlying T = some (.slice e)) (hI : (Tryz.prog.info? e).map (fun i => (i.zero, i.size, i.bytes)) = some (some z, k, by')) (hz : z.cells.size = k) (hk : 0 < k) (hby : by' ≤ 1000000)
    {i : Nat} {K : Act → World → Prop} {a : Act} (d : Option Tmp) (s x : Tmp) (hi : (ops[i]?).isSome = true) (hd : (opI ops i).dst = d) (hw : Region.wanted (opI ops i) (yielded ops a.tmps) = true)
    (ho : (opI ops i).op = .call { callee := .builtin .append, args := #[.tmp s, .tmp x], argTypes := #[T, T] })
    (base : Nat) (v : Value) (n : Nat) (vs : List Value) (hs : a.eval (.tmp s) = v) (hown : w.ownsRow base e k v n vs) (u : Value) (m : Nat) (us : List Value) (hx : a.eval (.tmp x) = u) (hr : Cel w u k m us) (h1 : ∀ y ∈ us, y.oneCell' = true)
    (h63 : n + m ≤ 1000000) (hbase : base ≤ w.heap.size) (h : ∀ v' w', w'.ownsRow base e k v' (n + m) (vs ++ us) → w.grownBy w' v.ownBlock → K (a.put d v') w') : wpOp Tryz.prog ops Q i K a w := by
  obtain ⟨v', w', hr, h2, h3⟩ := exec_appendC (ev := a.eval) (o := opI ops i) hT hI hz hk s x ho base v n vs hs hown u m us hx hr h1 h63 hby hbase
  exact op_do d v' w' hi hd hw hr (h v' w' h2 h3)
end
section
variable {w y : World} {R R' : Nat → Prop} {r wv : Value} {L : List (List Pg)} {l : List Pg} {us : List Value} {b c n : Nat} {base : Nat}
/-- The kept versions, opened. -/
theorem KepV.open (h : KepV w R r L) : ∃ us, us.length = L.length ∧ Cel w r 1 L.length us ∧ (0 < L.length → ∀ b, r.ownBlock = some b → R b) ∧ (∀ y ∈ us, y.oneCell' = true) ∧ ∀ i (h1 : i < us.length) (h2 : i < L.length), PgsV w R us[i] L[i] := by
  obtain ⟨ks, rfl, hc, hr, hb⟩ := h
  refine ⟨ks.map (·.2), by simp, by rw [List.length_map]; exact hc, by rw [List.length_map]; exact hr, fun y hy => ?_, fun i h1 h2 => ?_⟩
  · obtain ⟨k, hk, rfl⟩ := List.mem_map.1 hy
    obtain ⟨A, c, e⟩ := (hb k hk).form
    rw [e]
    rfl
  · rw [List.getElem_map, List.getElem_map]
    exact hb _ (List.getElem_mem _)
/-- The kept versions, closed. -/
theorem KepV.mk (hl : us.length = L.length) (hc : Cel w r 1 L.length us) (hr : 0 < L.length → ∀ b, r.ownBlock = some b → R b) (hb : ∀ i (h1 : i < us.length) (h2 : i < L.length), PgsV w R us[i] L[i]) : KepV w R r L := by
  refine ⟨L.zip us, ?_, ?_, ?_, ?_⟩
  · exact List.map_fst_zip (by omega)
  · rw [List.map_snd_zip (by omega), List.length_zip, hl, Nat.min_self]
    exact hc
  · intro h
    rw [List.length_zip] at h
    exact hr (by omega)
  · intro k hk
    obtain ⟨i, hi, rfl⟩ := List.mem_iff_getElem.1 hk
    rw [List.length_zip] at hi
    rw [List.getElem_zip]
    exact hb i (by omega) (by omega)
/-- One version more. -/
theorem KepV.snoc (hl : us.length = L.length) (hb : ∀ i (h1 : i < us.length) (h2 : i < L.length), PgsV w R us[i] L[i]) (hw : PgsV w R wv l) (hB : Below w.heap.size w y) (ho : y.ownsRow base 76 1 r (L.length + 1) (us ++ [wv]))
    (hR : ∀ b, R b → R' b) (hr : ∀ b, r.ownBlock = some b → R' b) : KepV y R' r (L ++ [l]) := by
  refine KepV.mk (us := us ++ [wv]) (by simp [hl]) (by rw [List.length_append]; exact own_cel ho) (fun _ => hr) fun i h1 h2 => ?_
  by_cases h : i < L.length
  · rw [List.getElem_append_left h, List.getElem_append_left (by omega)]
    exact ((hb i _ h).below hB).wide hR
  · have e : i = L.length := by rw [List.length_append, List.length_singleton] at h2; omega
    subst e
    rw [List.getElem_append_right (Nat.le_refl _), List.getElem_append_right (by omega)]
    simp only [hl, Nat.sub_self, List.getElem_cons_zero]
    exact (hw.below hB).wide hR
/-- Without the first version. -/
theorem KepV.tail (h : KepV w R (.slice (some ⟨b, 0, none⟩) (n + 1) c) (l :: L)) (hn : 0 < n) : KepV w R (.slice (some ⟨b, 1, none⟩) n (c - 1)) L := by
  obtain ⟨us, hl, hc, hr, -, hb⟩ := h.open
  have hb1 := hc.bounds
  rw [List.length_cons] at hb1
  obtain ⟨b', off, e, hlt, hrg⟩ := hc.range (by rw [List.length_cons]; omega)
  injection e with e
  injection e with e1 e2
  subst e1 e2
  have hnL : n = L.length := by omega
  subst hnL
  rw [List.length_cons] at hl
  refine KepV.mk (us := us.drop 1) (by rw [List.length_drop]; omega) ?_ (fun _ k hk => hr (by rw [List.length_cons]; omega) k hk) fun i h1 h2 => ?_
  · refine ⟨by rw [List.length_drop]; omega, _, _, rfl, ⟨by omega, fun h => (by cases h)⟩, by omega, fun _ => ⟨b, 1, rfl, hlt, fun j u hj => ?_⟩⟩
    have := hrg (1 + j) u (by rw [← hj, List.getElem?_drop])
    rw [Nat.zero_add] at this
    exact this
  · have := hb (i + 1) (by omega) (by rw [List.length_cons]; omega)
    rw [List.getElem_cons_succ] at this
    rw [List.getElem_drop]
    simp only [Nat.add_comm 1 i]
    exact this
end
/-- A field that is a list of versions is replaced. -/
theorem exec_storeK {ev : Operand → Value} {o : Oper} {w : World} {p : Addr} {A : Option Addr} {n c : Nat} {y : Value} (t s : Tmp) (ho : o.op = .store 75 (.tmp t) (.tmp s)) (hx : ev (.tmp t) = .pointer (some p)) (hy : ev (.tmp s) = .slice A n c)
    (hz : w.frozen? p = false) (hc : w.cell? p = some y) : (execOp ev o).run Tryz.prog w = .ok .skip (w.setCell p (.slice A n c)) := by
  unfold execOp
  simp only [ho, hx, hy]
  go_simp
/-- The store behind a part of Commit. -/
def Cmt (w : World) (R : Nat → Prop) (m n : Nat) (y : World) (r wv : Value) (L : List (List Pg)) (l : List Pg) : Prop :=
  StoC y m n r wv ∧ KepV y (fun b => MoreR R w y b ∧ b ≠ m) r L ∧ PgsV y (fun b => MoreR R w y b ∧ b ≠ m) wv l ∧ w.grownBy y (some m)
section
variable {w w1 yd y : World} {R : Nat → Prop} {r kv wv u : Value} {L : List (List Pg)} {l : List Pg} {us : List Value} {b c n n' m : Nat} {s : SS}
theorem Cmt.first (hc : StoC w m n kv wv) (hK : KepV w (fun b => R b ∧ b ≠ m) kv L) (hW : PgsV w (fun b => R b ∧ b ≠ m) wv l) (hl : us.length = L.length) (hb : ∀ i (h1 : i < us.length) (h2 : i < L.length), PgsV w (fun b => R b ∧ b ≠ m) us[i] L[i])
    (hr2 : ∀ b, R b → b < w.heap.size) (hg : w.grownBy w1 (some m)) (hc1 : StoC w1 m n' kv wv) (hB1 : Below w1.heap.size w1 yd) (hB : Below yd.heap.size yd y) (ho : y.ownsRow yd.heap.size 76 1 r (L.length + 1) (us ++ [wv])) :
    Cmt w R m n' (y.setCell ⟨m, 1, none⟩ r) r wv (L ++ [l]) l := by
  have hBy := below_then hB1 hB
  have hm := hc.lt
  have s1 := hg.size
  have s2 := hB1.size
  have s3 := hB.size
  have hgy := grown_put' y m 1 r
  have hz := size_set y ⟨m, 1, none⟩ r
  have hcy := (hc1.keepB (hBy.block m (by omega))).put1 r
  have kp : ∀ b, b < w.heap.size → b ≠ m → (y.setCell ⟨m, 1, none⟩ r).heap[b]? = w.heap[b]? := fun b hb hx => by
    rw [hgy.block b (by omega) (fun e => hx (by injection e)), hBy.block b (by omega), hg.block b hb (fun e => hx (by injection e))]
  have hos := own_cel ho
  have hrb : ∀ b, r.ownBlock = some b → w.heap.size ≤ b ∧ b < y.heap.size := fun b hb => ⟨by have := (ho.lt b hb).1; omega, (ho.lt b hb).2⟩
  have hcel : Cel (y.setCell ⟨m, 1, none⟩ r) r 1 (L.length + 1) (us ++ [wv]) := hos.keep (by omega) fun b hb hv => hgy.block b hb fun e => by
    injection e with e
    have := (hrb b hv).1
    omega
  have hgf : w.grownBy (y.setCell ⟨m, 1, none⟩ r) (some m) := grown_trans (grown_trans hg ⟨hBy.os, hBy.tape, hBy.output, hBy.size, fun k hk _ => hBy.block k hk⟩) hgy
  generalize y.setCell ⟨m, 1, none⟩ r = yf at *
  have hsz : w.heap.size ≤ yf.heap.size := hgf.size
  have mv : ∀ v l, PgsV w (fun b => R b ∧ b ≠ m) v l → PgsV yf (fun b => MoreR R w yf b ∧ b ≠ m) v l := fun v l h => h.keep hsz (fun b hb hx => kp b hb hx.2) fun b hb => ⟨.inl hb.1, hb.2⟩
  refine ⟨hcy, ?_, mv _ _ hW, hgf⟩
  refine KepV.mk (us := us ++ [wv]) (by simp [hl]) (by rw [List.length_append]; exact hcel) (fun _ b hv => ?_) fun i h1 h2 => ?_
  · have := hrb b hv
    exact ⟨.inr ⟨this.1, by omega⟩, by omega⟩
  · by_cases h : i < L.length
    · rw [List.getElem_append_left h, List.getElem_append_left (by omega)]
      exact mv _ _ (hb i _ h)
    · have e : i = L.length := by rw [List.length_append, List.length_singleton] at h2; omega
      subst e
      rw [List.getElem_append_right (Nat.le_refl _), List.getElem_append_right (by omega)]
      simp only [hl, Nat.sub_self, List.getElem_cons_zero]
      exact mv _ _ hW
theorem Cmt.cut {x : List Pg} (h : Cmt w R m n y (.slice (some ⟨b, 0, none⟩) (n' + 1) c) wv (x :: L) l) (hn : 0 < n') (hm : m < w.heap.size) : Cmt w R m n (y.setCell ⟨m, 1, none⟩ (.slice (some ⟨b, 1, none⟩) n' (c - 1))) (.slice (some ⟨b, 1, none⟩) n' (c - 1)) wv L l := by
  obtain ⟨hc, hK, hW, hg⟩ := h
  have hgy := grown_put' y m 1 (.slice (some ⟨b, 1, none⟩) n' (c - 1))
  have hz := size_set y ⟨m, 1, none⟩ (.slice (some ⟨b, 1, none⟩) n' (c - 1))
  have hc2 := hc.put1 (.slice (some ⟨b, 1, none⟩) n' (c - 1))
  have hK2 := hK.tail hn
  have hgf := grown_trans hg hgy
  generalize y.setCell ⟨m, 1, none⟩ (.slice (some ⟨b, 1, none⟩) n' (c - 1)) = yf at *
  have kp : ∀ b, b < y.heap.size → (MoreR R w y b ∧ b ≠ m) → yf.heap[b]? = y.heap[b]? := fun b hb hx => hgy.block b hb fun e => hx.2 (by injection e)
  have wd : ∀ b, (MoreR R w y b ∧ b ≠ m) → MoreR R w yf b ∧ b ≠ m := fun b hb => ⟨hb.1.imp id fun h => ⟨h.1, by omega⟩, hb.2⟩
  exact ⟨hc2, hK2.keep (by omega) kp wd, hW.keep (by omega) kp wd, hgf⟩
theorem Cmt.done (h : Cmt w R m (s.last + 1) y r wv (commitS s).kept s.work) (hok : okSS s) (hm : R m) (hr2 : ∀ b, R b → b < w.heap.size) (v : Value) : RSd w R m v (commitS s) (.returned v) y := by
  obtain ⟨hc, hK, hW, hg⟩ := h
  refine ⟨rfl, ⟨commit_ok hok, .inl hm, fun b hb => hb.elim (fun h => Nat.lt_of_lt_of_le (hr2 b h) hg.size) (·.2), _, _, hc, hK, hW⟩, Turn.of_grown hg fun k e => ?_⟩
  injection e with e
  exact e.symm
end
set_option maxRecDepth 20000 in
set_option maxHeartbeats 8000000 in
theorem rcommit_c {w : World} {R : Nat → Prop} {m : Nat} {s : SS} (h : RSto w R m s) (hlast : s.last ≤ 1000000) : Calls Tryz.prog 15 #[.pointer (some ⟨m, 0, none⟩)] w (RSd w R m (.int .i64 ((s.last + 1 : Nat) : Int)) (commitS s)) := by
  obtain ⟨h0, h1, h2, kv, wv, hc, hK, hW⟩ := h
  obtain ⟨Ak, ck, rfl⟩ := hK.form
  obtain ⟨Aw, cw, rfl⟩ := hW.form
  obtain ⟨us, hul, hcu, hcr, hone, hub⟩ := hK.open
  obtain ⟨c0, c1, c2⟩ := hc.cells
  have z0 := hc.thaw 0
  have hli : (s.last : Int) ≤ 1000000 := by omega
  have HC := Lib.hid hc
  have HC1 := Lib.hid (hc.put0 (s.last + 1))
  have HK := Lib.hid hK
  have HW := Lib.hid hW
  have HUL := Lib.hid hul
  have HCU := Lib.hid hcu
  have ONE := Lib.hid hone
  have HUB := Lib.hid hub
  have HNM := Lib.hid (show ∀ b, (Value.slice Ak s.kept.length ck).ownBlock = some b → b ≠ m from fun b hb => (hcr (by have := h0.1; omega) b hb).2)
  have H0 := Lib.hid h0
  have H1 := Lib.hid h1
  have H2 := Lib.hid h2
  clear hc hK hW hul hcu hone hub h0 h1 h2 hcr c1 c2 hlast
  go_enter Tryz.func15, Tryz.ntmps15
  go_wp2_with fail
  refine hk_begin (S := fun W => W.cell? ⟨m, 2, none⟩ = some (.slice Aw s.work.length cw)) 16 (by kernel_rfl) (by kernel_rfl) ?_
  have hg1 := grown_put' w m 0 (.int .i64 ((s.last + 1 : Nat) : Int))
  have hcc := HC1.out
  change wpAnyH _ _ _ _ _ _ _ _ (w.setCell ⟨m, 0, none⟩ (.int .i64 ((s.last + 1 : Nat) : Int))).drew
  generalize w.setCell ⟨m, 0, none⟩ (.int .i64 ((s.last + 1 : Nat) : Int)) = w1 at hg1 hcc ⊢
  have hBd : Below w1.heap.size w1 w1.drew := (Below.refl _ _).drew
  have hcd := hcc.keepB (w' := w1.drew) rfl
  generalize w1.drew = yd at hBd hcd ⊢
  have hsz1 := hg1.size
  have hsz2 := hBd.size
  have FIN := Lib.hid (fun (y : World) (r : Value) (hB : Below yd.heap.size yd y) (ho : y.ownsRow yd.heap.size 76 1 r (s.kept.length + 1) (us ++ [.slice Aw s.work.length cw])) =>
    Cmt.first HC.out HK.out HW.out HUL.out HUB.out H2.out hg1 hcc hBd hB ho)
  have CU := Lib.hid ((HCU.out.keep (w' := w1) hsz1 (fun b hb hv => hg1.block b hb fun e => by injection e with e; exact HNM.out b hv e)).below hBd)
  have HP0 := Lib.hid hcd.cells.2.2
  have d1 := Lib.hid hcd.cells.2.1
  have dz := Lib.hid (hcd.thaw 1)
  have hmy := hcd.lt
  have HLS := Lib.hid (show ∀ (n : Nat), n = s.kept.length + 1 → n = 5 → ∃ x L', s.kept ++ [s.work] = x :: L' ∧ (commitS s).kept = L' from fun n e1 e2 => by
    have h4 : 4 < s.kept.length + 1 := by omega
    cases hk : s.kept with
    | nil => rw [hk] at h4; simp at h4
    | cons x L' => exact ⟨x, L' ++ [s.work], rfl, by unfold commitS; rw [if_pos h4, hk]; rfl⟩)
  have HLN := Lib.hid (show ∀ (n : Nat), n = s.kept.length + 1 → n ≠ 5 → (commitS s).kept = s.kept ++ [s.work] from fun n e1 e2 => by
    have := H0.out.2.1
    unfold commitS
    exact if_neg (by omega))
  have HML := Lib.hid (H2.out m H1.out)
  have BK0 := Below.refl yd.heap.size yd
  have hk4 := H0.out.2.1
  obtain ⟨k, ek⟩ : ∃ k, s.kept.length = k := ⟨_, rfl⟩
  obtain ⟨nw, ew⟩ : ∃ k, s.work.length = k := ⟨_, rfl⟩
  have HPM := Lib.hid (show k ≤ 4 by omega)
  rw [ek] at d1 CU FIN HLS HLN
  rw [ew] at FIN HP0
  simp only [ek, ew]
  clear hcd hcc hg1 hBd hsz1 hsz2 ek ew hk4 HC HC1 HK HW HUL HCU HUB
  refine hk_take (i := 0) (some 10) (.pointer (some ⟨m, 0, none⟩)) (by kernel_rfl) (by kernel_rfl) (by kernel_rfl) (by kernel_rfl) (by kernel_rfl) (by kernel_rfl) (fun W hS => by kernel_rfl) (fun _ _ d _ _ h => by cases d <;> exact h) (by rw [BK0.cell (p := ⟨m, 2, none⟩) hmy]; exact HP0.out) ?_
  simp only [put_lit, put_non, List.set_cons_zero, List.set_cons_succ]
  refine hk_take (i := 2) (some 12) (.pointer (some ⟨m, 0, none⟩)) (by kernel_rfl) (by kernel_rfl) (by kernel_rfl) (by kernel_rfl) (by kernel_rfl) (by kernel_rfl) (fun W hS => by kernel_rfl) (fun _ _ d _ _ h => by cases d <;> exact h) (by rw [BK0.cell (p := ⟨m, 2, none⟩) hmy]; exact HP0.out) ?_
  simp only [put_lit, put_non, List.set_cons_zero, List.set_cons_succ]
  refine hk_take (i := 3) (some 13) (.pointer (some ⟨m, 0, none⟩)) (by kernel_rfl) (by kernel_rfl) (by kernel_rfl) (by kernel_rfl) (by kernel_rfl) (by kernel_rfl) (fun W hS => by kernel_rfl) (fun _ _ d _ _ h => by cases d <;> exact h) (by rw [BK0.cell (p := ⟨m, 2, none⟩) hmy]; exact HP0.out) ?_
  simp only [put_lit, put_non, List.set_cons_zero, List.set_cons_succ]
  refine hk_take (i := 4) (some 14) (.pointer (some ⟨m, 1, none⟩)) (by kernel_rfl) (by kernel_rfl) (by kernel_rfl) (by kernel_rfl) (by kernel_rfl) (by kernel_rfl) (fun W hS => by kernel_rfl) (fun _ _ d _ _ h => by cases d <;> exact h) (by rw [BK0.cell (p := ⟨m, 2, none⟩) hmy]; exact HP0.out) ?_
  simp only [put_lit, put_non, List.set_cons_zero, List.set_cons_succ]
  refine hk_take (i := 7) (some 17) (.pointer (some ⟨m, 0, none⟩)) (by kernel_rfl) (by kernel_rfl) (by kernel_rfl) (by kernel_rfl) (by kernel_rfl) (by kernel_rfl) (fun W hS => by kernel_rfl) (fun _ _ d _ _ h => by cases d <;> exact h) (by rw [BK0.cell (p := ⟨m, 2, none⟩) hmy]; exact HP0.out) ?_
  simp only [put_lit, put_non, List.set_cons_zero, List.set_cons_succ]
  refine hk_take (i := 8) (some 18) (.pointer (some ⟨m, 0, none⟩)) (by kernel_rfl) (by kernel_rfl) (by kernel_rfl) (by kernel_rfl) (by kernel_rfl) (by kernel_rfl) (fun W hS => by kernel_rfl) (fun _ _ d _ _ h => by cases d <;> exact h) (by rw [BK0.cell (p := ⟨m, 2, none⟩) hmy]; exact HP0.out) ?_
  simp only [put_lit, put_non, List.set_cons_zero, List.set_cons_succ]
  refine hk_take (i := 9) (some 19) (.pointer (some ⟨m, 2, none⟩)) (by kernel_rfl) (by kernel_rfl) (by kernel_rfl) (by kernel_rfl) (by kernel_rfl) (by kernel_rfl) (fun W hS => by kernel_rfl) (fun _ _ d _ _ h => by cases d <;> exact h) (by rw [BK0.cell (p := ⟨m, 2, none⟩) hmy]; exact HP0.out) ?_
  simp only [put_lit, put_non, List.set_cons_zero, List.set_cons_succ]
  refine hk_take (i := 10) (some 20) (.slice Aw nw cw) (by kernel_rfl) (by kernel_rfl) (by kernel_rfl) (by kernel_rfl) (by kernel_rfl) (by kernel_rfl) (fun W hS => exec_loadCell 76 (.tmp 19) ⟨m, 2, none⟩ _ _ (by kernel_rfl) (by kernel_rfl) hS Tryz.underlying76 rfl) (fun _ _ d _ _ h => by cases d <;> exact h) (by rw [BK0.cell (p := ⟨m, 2, none⟩) hmy]; exact HP0.out) ?_
  simp only [put_lit, put_non, List.set_cons_zero, List.set_cons_succ]
  refine hk_three (i := 1) (j := 5) (k := 11) (by kernel_rfl) ?_ ?_ ?_
  · skip
    obtain ⟨y1, e1⟩ : ∃ y, y = yd.alloc (.cells #[] 76) := ⟨_, rfl⟩
    have hBa : Below yd.heap.size yd y1 := by rw [e1]; exact (Below.refl _ _).alloc (Nat.le_refl _) _
    have hlt1 : yd.heap.size < y1.heap.size := by rw [e1]; show _ < (yd.heap.push _).size; simp
    have BK1 := BK0.trans (hBa.mono BK0.size)
    have o1 : y1.ownsRow yd.heap.size 76 1 (.slice (some ⟨yd.heap.size, 0, none⟩) 0 0) 0 [] := by rw [e1]; exact World.ownsRow_made yd #[] 0 BK0.size (by unfold maxLen; omega) (by simp)
    clear hBa
    refine op_do (some 11) (.slice (some ⟨yd.heap.size, 0, none⟩) 0 0) y1 (by kernel_rfl) (by kernel_rfl) (by kernel_rfl) (by rw [e1]; exact exec_noneC Tryz.underlying75 size_kp (by kernel_rfl)) ?_
    refine ⟨(by rw [BK1.cell (p := ⟨m, 2, none⟩) hmy]; exact HP0.out), ?_⟩
    simp only [put_lit, put_non, List.set_cons_zero, List.set_cons_succ]
    refine hk_two (i := 5) (j := 11) (by kernel_rfl) ?_ ?_
    · skip
      refine op_do (some 15) (.slice Ak k ck) y1 (by kernel_rfl) (by kernel_rfl) (by kernel_rfl) (exec_loadCell 75 (.tmp 14) ⟨m, 1, none⟩ _ _ (by kernel_rfl) (by kernel_rfl) (by rw [BK1.cell (p := ⟨m, 1, none⟩) hmy]; exact d1.out) Tryz.underlying75 rfl) ?_
      refine ⟨(by rw [BK1.cell (p := ⟨m, 2, none⟩) hmy]; exact HP0.out), ?_⟩
      simp only [put_lit, put_non, List.set_cons_zero, List.set_cons_succ]
      refine hk_two (i := 6) (j := 11) (by kernel_rfl) ?_ ?_
      · skip
        refine op_appendC Tryz.underlying75 zero_kp rfl (by omega) (by omega) (some 16) 11 15 (by kernel_rfl) (by kernel_rfl) (by kernel_rfl) (by kernel_rfl) yd.heap.size (.slice (some ⟨yd.heap.size, 0, none⟩) 0 0) 0 [] (by kernel_rfl) o1 (.slice Ak k ck) k us (by kernel_rfl) (CU.out.below BK1) ONE.out (by have := HPM.out; omega) BK1.size ?_
        intro v2 y2 o2 hg
        have BK2 := BK1.grown hg BK1.size (fun k e => (o1.lt k e).1)
        clear hg o1
        refine ⟨(by rw [BK2.cell (p := ⟨m, 2, none⟩) hmy]; exact HP0.out), ?_⟩
        simp only [put_lit, put_non, List.set_cons_zero, List.set_cons_succ]
        refine hk_one (i := 11) (by kernel_rfl) ?_
        obtain ⟨y3, e3⟩ : ∃ y, y = y2.alloc (.cells #[(.slice Aw nw cw)] 76) := ⟨_, rfl⟩
        have hBa : Below y2.heap.size y2 y3 := by rw [e3]; exact (Below.refl _ _).alloc (Nat.le_refl _) _
        have hlt3 : y2.heap.size < y3.heap.size := by rw [e3]; show _ < (y2.heap.push _).size; simp
        have BK3 := BK2.trans (hBa.mono BK2.size)
        have o2 := own_below o2 hBa (Nat.le_refl _)
        have k3 : Cel y3 (.slice (some ⟨y2.heap.size, 0, none⟩) 1 1) 1 1 [(.slice Aw nw cw)] := by rw [e3]; exact cel_one y2 76 rfl
        clear hBa
        refine op_do (some 21) (.slice (some ⟨y2.heap.size, 0, none⟩) 1 1) y3 (by kernel_rfl) (by kernel_rfl) (by kernel_rfl) (by rw [e3]; exact exec_oneS Tryz.underlying75 zero_kp 20 (by kernel_rfl) (by kernel_rfl)) ?_
        refine ⟨(by rw [BK3.cell (p := ⟨m, 2, none⟩) hmy]; exact HP0.out), ?_⟩
        simp only [put_lit, put_non, List.set_cons_zero, List.set_cons_succ]
        refine hk_one (i := 12) (by kernel_rfl) ?_
        refine op_appendC Tryz.underlying75 zero_kp rfl (by omega) (by omega) (some 22) 16 21 (by kernel_rfl) (by kernel_rfl) (by kernel_rfl) (by kernel_rfl) yd.heap.size v2 (0 + k) ([] ++ us) (by kernel_rfl) o2 (.slice (some ⟨y2.heap.size, 0, none⟩) 1 1) 1 [(.slice Aw nw cw)] (by kernel_rfl) k3 (one_kp _ _ _) (by have := HPM.out; omega) BK3.size ?_
        intro v4 y4 o4 hg
        have BK4 := BK3.grown hg BK3.size (fun k e => (o2.lt k e).1)
        clear hg o2
        refine ⟨(by rw [BK4.cell (p := ⟨m, 2, none⟩) hmy]; exact HP0.out), ?_⟩
        simp only [put_lit, put_non, List.set_cons_zero, List.set_cons_succ]
        refine hk_take (i := 13) (some 23) (.pointer (some ⟨m, 0, none⟩)) (by kernel_rfl) (by kernel_rfl) (by kernel_rfl) (by kernel_rfl) (by kernel_rfl) (by kernel_rfl) (fun W hS => by kernel_rfl) (fun _ _ d _ _ h => by cases d <;> exact h) (by rw [BK4.cell (p := ⟨m, 2, none⟩) hmy]; exact HP0.out) ?_
        simp only [put_lit, put_non, List.set_cons_zero, List.set_cons_succ]
        refine hk_take (i := 14) (some 24) (.pointer (some ⟨m, 1, none⟩)) (by kernel_rfl) (by kernel_rfl) (by kernel_rfl) (by kernel_rfl) (by kernel_rfl) (by kernel_rfl) (fun W hS => by kernel_rfl) (fun _ _ d _ _ h => by cases d <;> exact h) (by rw [BK4.cell (p := ⟨m, 2, none⟩) hmy]; exact HP0.out) ?_
        simp only [put_lit, put_non, List.set_cons_zero, List.set_cons_succ]
        obtain ⟨g9, c9, e9⟩ := own_block o4 (by omega)
        subst e9
        have hfin := FIN.out y4 (.slice (some ⟨g9, 0, none⟩) (0 + k + 1) c9) BK4 (by rw [List.nil_append] at o4; rw [show k + 1 = 0 + k + 1 by omega]; exact o4)
        refine hk_one (i := 15) (by kernel_rfl) ?_
        refine op_skip none (y4.setCell ⟨m, 1, none⟩ (.slice (some ⟨g9, 0, none⟩) (0 + k + 1) c9)) (by kernel_rfl) (by kernel_rfl) (by kernel_rfl) (exec_storeK 24 22 (by kernel_rfl) (by kernel_rfl) (by kernel_rfl) (by rw [BK4.frozen (p := ⟨m, 1, none⟩) hmy]; exact dz.out) (by rw [BK4.cell (p := ⟨m, 1, none⟩) hmy]; exact d1.out)) ?_
        refine ⟨hfin.1.cells.2.2, ?_⟩
        simp only [put_lit, put_non, List.set_cons_zero, List.set_cons_succ]
        refine hk_done (by kernel_rfl) ?_
        have hcap := (own_cel o4).bounds.2.1
        have HF := Lib.hid hfin
        clear FIN CU HP0 d1 dz ONE hmy o4 BK4 hlt1 e1 BK1 hlt3 k3 e3 BK2 BK3
        generalize y4.setCell ⟨m, 1, none⟩ (.slice (some ⟨g9, 0, none⟩) (0 + k + 1) c9) = yf at hfin HF ⊢
        have d0 := hfin.1.cells.1
        have d1 := hfin.1.cells.2.1
        have z1 := hfin.1.thaw 1
        clear hfin
        obtain ⟨k1, ek1⟩ : ∃ k1, 0 + k + 1 = k1 := ⟨_, rfl⟩
        have HL5 := Lib.hid (HLS.out k1 (by omega))
        have HN5 := Lib.hid (HLN.out k1 (by omega))
        rw [ek1] at d1 HF hcap
        simp only [ek1]
        have hk5 : k1 ≤ 5 := by have := HPM.out; omega
        clear ek1 HLS HLN HPM
        by_cases h5 : k1 = 5
        · subst h5
          obtain ⟨x, L1, e1, e2⟩ := HL5.out rfl
          have hc91 : ¬ c9 = 1 := by omega
          have hc92 : ¬ c9 - 1 = 0 := by omega
          have hfin := HF.out
          rw [e1] at hfin
          have hc := hfin.cut (n' := 4) (by omega) HML.out
          rw [← e2] at hc
          have HR := Lib.hid (hc.done H0.out H1.out H2.out (.int .i64 ((s.last : Int) + 1)))
          clear hfin hc e1 e2 HF HL5 HN5 hk5
          go_wp2_with fail
          go_ret
          exact HR.out
        · have hk4 : ¬ ((k1 : Int) > 4) := by omega
          have hfin := HF.out
          have e2 := HN5.out h5
          rw [← e2] at hfin
          have HR := Lib.hid (hfin.done H0.out H1.out H2.out (.int .i64 ((s.last : Int) + 1)))
          clear hfin e2 HF HL5 HN5
          go_wp2_with fail
          go_ret
          exact HR.out
      · skip
        obtain ⟨y2, e2⟩ : ∃ y, y = y1.alloc (.cells #[(.slice Aw nw cw)] 76) := ⟨_, rfl⟩
        have hBa : Below y1.heap.size y1 y2 := by rw [e2]; exact (Below.refl _ _).alloc (Nat.le_refl _) _
        have hlt2 : y1.heap.size < y2.heap.size := by rw [e2]; show _ < (y1.heap.push _).size; simp
        have hne18 : (yd.heap.size : Nat) ≠ y1.heap.size := Nat.ne_of_lt (o1.lt _ rfl).2
        have BK2 := BK1.trans (hBa.mono BK1.size)
        have o1 := own_below o1 hBa (Nat.le_refl _)
        have k2 : Cel y2 (.slice (some ⟨y1.heap.size, 0, none⟩) 1 1) 1 1 [(.slice Aw nw cw)] := by rw [e2]; exact cel_one y1 76 rfl
        clear hBa
        refine op_do (some 21) (.slice (some ⟨y1.heap.size, 0, none⟩) 1 1) y2 (by kernel_rfl) (by kernel_rfl) (by kernel_rfl) (by rw [e2]; exact exec_oneS Tryz.underlying75 zero_kp 20 (by kernel_rfl) (by kernel_rfl)) ?_
        refine ⟨(by rw [BK2.cell (p := ⟨m, 2, none⟩) hmy]; exact HP0.out), ?_⟩
        simp only [put_lit, put_non, List.set_cons_zero, List.set_cons_succ]
        refine hk_one (i := 6) (by kernel_rfl) ?_
        refine op_appendC Tryz.underlying75 zero_kp rfl (by omega) (by omega) (some 16) 11 15 (by kernel_rfl) (by kernel_rfl) (by kernel_rfl) (by kernel_rfl) yd.heap.size (.slice (some ⟨yd.heap.size, 0, none⟩) 0 0) 0 [] (by kernel_rfl) o1 (.slice Ak k ck) k us (by kernel_rfl) (CU.out.below BK2) ONE.out (by have := HPM.out; omega) BK2.size ?_
        intro v3 y3 o3 hg
        have BK3 := BK2.grown hg BK2.size (fun k e => (o1.lt k e).1)
        have k2 := k2.grown hg (fun b hb e => hne18 (by simp only [Value.ownBlock, Option.some.injEq] at hb e; omega))
        clear hg o1
        refine ⟨(by rw [BK3.cell (p := ⟨m, 2, none⟩) hmy]; exact HP0.out), ?_⟩
        simp only [put_lit, put_non, List.set_cons_zero, List.set_cons_succ]
        refine hk_one (i := 12) (by kernel_rfl) ?_
        refine op_appendC Tryz.underlying75 zero_kp rfl (by omega) (by omega) (some 22) 16 21 (by kernel_rfl) (by kernel_rfl) (by kernel_rfl) (by kernel_rfl) yd.heap.size v3 (0 + k) ([] ++ us) (by kernel_rfl) o3 (.slice (some ⟨y1.heap.size, 0, none⟩) 1 1) 1 [(.slice Aw nw cw)] (by kernel_rfl) k2 (one_kp _ _ _) (by have := HPM.out; omega) BK3.size ?_
        intro v4 y4 o4 hg
        have BK4 := BK3.grown hg BK3.size (fun k e => (o3.lt k e).1)
        clear hg o3
        refine ⟨(by rw [BK4.cell (p := ⟨m, 2, none⟩) hmy]; exact HP0.out), ?_⟩
        simp only [put_lit, put_non, List.set_cons_zero, List.set_cons_succ]
        refine hk_take (i := 13) (some 23) (.pointer (some ⟨m, 0, none⟩)) (by kernel_rfl) (by kernel_rfl) (by kernel_rfl) (by kernel_rfl) (by kernel_rfl) (by kernel_rfl) (fun W hS => by kernel_rfl) (fun _ _ d _ _ h => by cases d <;> exact h) (by rw [BK4.cell (p := ⟨m, 2, none⟩) hmy]; exact HP0.out) ?_
        simp only [put_lit, put_non, List.set_cons_zero, List.set_cons_succ]
        refine hk_take (i := 14) (some 24) (.pointer (some ⟨m, 1, none⟩)) (by kernel_rfl) (by kernel_rfl) (by kernel_rfl) (by kernel_rfl) (by kernel_rfl) (by kernel_rfl) (fun W hS => by kernel_rfl) (fun _ _ d _ _ h => by cases d <;> exact h) (by rw [BK4.cell (p := ⟨m, 2, none⟩) hmy]; exact HP0.out) ?_
        simp only [put_lit, put_non, List.set_cons_zero, List.set_cons_succ]
        obtain ⟨g9, c9, e9⟩ := own_block o4 (by omega)
        subst e9
        have hfin := FIN.out y4 (.slice (some ⟨g9, 0, none⟩) (0 + k + 1) c9) BK4 (by rw [List.nil_append] at o4; rw [show k + 1 = 0 + k + 1 by omega]; exact o4)
        refine hk_one (i := 15) (by kernel_rfl) ?_
        refine op_skip none (y4.setCell ⟨m, 1, none⟩ (.slice (some ⟨g9, 0, none⟩) (0 + k + 1) c9)) (by kernel_rfl) (by kernel_rfl) (by kernel_rfl) (exec_storeK 24 22 (by kernel_rfl) (by kernel_rfl) (by kernel_rfl) (by rw [BK4.frozen (p := ⟨m, 1, none⟩) hmy]; exact dz.out) (by rw [BK4.cell (p := ⟨m, 1, none⟩) hmy]; exact d1.out)) ?_
        refine ⟨hfin.1.cells.2.2, ?_⟩
        simp only [put_lit, put_non, List.set_cons_zero, List.set_cons_succ]
        refine hk_done (by kernel_rfl) ?_
        have hcap := (own_cel o4).bounds.2.1
        have HF := Lib.hid hfin
        clear FIN CU HP0 d1 dz ONE hmy o4 BK4 hlt1 e1 hlt2 hne18 k2 e2 BK1 BK2 BK3
        generalize y4.setCell ⟨m, 1, none⟩ (.slice (some ⟨g9, 0, none⟩) (0 + k + 1) c9) = yf at hfin HF ⊢
        have d0 := hfin.1.cells.1
        have d1 := hfin.1.cells.2.1
        have z1 := hfin.1.thaw 1
        clear hfin
        obtain ⟨k1, ek1⟩ : ∃ k1, 0 + k + 1 = k1 := ⟨_, rfl⟩
        have HL5 := Lib.hid (HLS.out k1 (by omega))
        have HN5 := Lib.hid (HLN.out k1 (by omega))
        rw [ek1] at d1 HF hcap
        simp only [ek1]
        have hk5 : k1 ≤ 5 := by have := HPM.out; omega
        clear ek1 HLS HLN HPM
        by_cases h5 : k1 = 5
        · subst h5
          obtain ⟨x, L1, e1, e2⟩ := HL5.out rfl
          have hc91 : ¬ c9 = 1 := by omega
          have hc92 : ¬ c9 - 1 = 0 := by omega
          have hfin := HF.out
          rw [e1] at hfin
          have hc := hfin.cut (n' := 4) (by omega) HML.out
          rw [← e2] at hc
          have HR := Lib.hid (hc.done H0.out H1.out H2.out (.int .i64 ((s.last : Int) + 1)))
          clear hfin hc e1 e2 HF HL5 HN5 hk5
          go_wp2_with fail
          go_ret
          exact HR.out
        · have hk4 : ¬ ((k1 : Int) > 4) := by omega
          have hfin := HF.out
          have e2 := HN5.out h5
          rw [← e2] at hfin
          have HR := Lib.hid (hfin.done H0.out H1.out H2.out (.int .i64 ((s.last : Int) + 1)))
          clear hfin e2 HF HL5 HN5
          go_wp2_with fail
          go_ret
          exact HR.out
    · skip
      obtain ⟨y2, e2⟩ : ∃ y, y = y1.alloc (.cells #[(.slice Aw nw cw)] 76) := ⟨_, rfl⟩
      have hBa : Below y1.heap.size y1 y2 := by rw [e2]; exact (Below.refl _ _).alloc (Nat.le_refl _) _
      have hlt2 : y1.heap.size < y2.heap.size := by rw [e2]; show _ < (y1.heap.push _).size; simp
      have hne18 : (yd.heap.size : Nat) ≠ y1.heap.size := Nat.ne_of_lt (o1.lt _ rfl).2
      have BK2 := BK1.trans (hBa.mono BK1.size)
      have o1 := own_below o1 hBa (Nat.le_refl _)
      have k2 : Cel y2 (.slice (some ⟨y1.heap.size, 0, none⟩) 1 1) 1 1 [(.slice Aw nw cw)] := by rw [e2]; exact cel_one y1 76 rfl
      clear hBa
      refine op_do (some 21) (.slice (some ⟨y1.heap.size, 0, none⟩) 1 1) y2 (by kernel_rfl) (by kernel_rfl) (by kernel_rfl) (by rw [e2]; exact exec_oneS Tryz.underlying75 zero_kp 20 (by kernel_rfl) (by kernel_rfl)) ?_
      refine ⟨(by rw [BK2.cell (p := ⟨m, 2, none⟩) hmy]; exact HP0.out), ?_⟩
      simp only [put_lit, put_non, List.set_cons_zero, List.set_cons_succ]
      refine hk_one (i := 5) (by kernel_rfl) ?_
      refine op_do (some 15) (.slice Ak k ck) y2 (by kernel_rfl) (by kernel_rfl) (by kernel_rfl) (exec_loadCell 75 (.tmp 14) ⟨m, 1, none⟩ _ _ (by kernel_rfl) (by kernel_rfl) (by rw [BK2.cell (p := ⟨m, 1, none⟩) hmy]; exact d1.out) Tryz.underlying75 rfl) ?_
      refine ⟨(by rw [BK2.cell (p := ⟨m, 2, none⟩) hmy]; exact HP0.out), ?_⟩
      simp only [put_lit, put_non, List.set_cons_zero, List.set_cons_succ]
      refine hk_one (i := 6) (by kernel_rfl) ?_
      refine op_appendC Tryz.underlying75 zero_kp rfl (by omega) (by omega) (some 16) 11 15 (by kernel_rfl) (by kernel_rfl) (by kernel_rfl) (by kernel_rfl) yd.heap.size (.slice (some ⟨yd.heap.size, 0, none⟩) 0 0) 0 [] (by kernel_rfl) o1 (.slice Ak k ck) k us (by kernel_rfl) (CU.out.below BK2) ONE.out (by have := HPM.out; omega) BK2.size ?_
      intro v3 y3 o3 hg
      have BK3 := BK2.grown hg BK2.size (fun k e => (o1.lt k e).1)
      have k2 := k2.grown hg (fun b hb e => hne18 (by simp only [Value.ownBlock, Option.some.injEq] at hb e; omega))
      clear hg o1
      refine ⟨(by rw [BK3.cell (p := ⟨m, 2, none⟩) hmy]; exact HP0.out), ?_⟩
      simp only [put_lit, put_non, List.set_cons_zero, List.set_cons_succ]
      refine hk_one (i := 12) (by kernel_rfl) ?_
      refine op_appendC Tryz.underlying75 zero_kp rfl (by omega) (by omega) (some 22) 16 21 (by kernel_rfl) (by kernel_rfl) (by kernel_rfl) (by kernel_rfl) yd.heap.size v3 (0 + k) ([] ++ us) (by kernel_rfl) o3 (.slice (some ⟨y1.heap.size, 0, none⟩) 1 1) 1 [(.slice Aw nw cw)] (by kernel_rfl) k2 (one_kp _ _ _) (by have := HPM.out; omega) BK3.size ?_
      intro v4 y4 o4 hg
      have BK4 := BK3.grown hg BK3.size (fun k e => (o3.lt k e).1)
      clear hg o3
      refine ⟨(by rw [BK4.cell (p := ⟨m, 2, none⟩) hmy]; exact HP0.out), ?_⟩
      simp only [put_lit, put_non, List.set_cons_zero, List.set_cons_succ]
      refine hk_take (i := 13) (some 23) (.pointer (some ⟨m, 0, none⟩)) (by kernel_rfl) (by kernel_rfl) (by kernel_rfl) (by kernel_rfl) (by kernel_rfl) (by kernel_rfl) (fun W hS => by kernel_rfl) (fun _ _ d _ _ h => by cases d <;> exact h) (by rw [BK4.cell (p := ⟨m, 2, none⟩) hmy]; exact HP0.out) ?_
      simp only [put_lit, put_non, List.set_cons_zero, List.set_cons_succ]
      refine hk_take (i := 14) (some 24) (.pointer (some ⟨m, 1, none⟩)) (by kernel_rfl) (by kernel_rfl) (by kernel_rfl) (by kernel_rfl) (by kernel_rfl) (by kernel_rfl) (fun W hS => by kernel_rfl) (fun _ _ d _ _ h => by cases d <;> exact h) (by rw [BK4.cell (p := ⟨m, 2, none⟩) hmy]; exact HP0.out) ?_
      simp only [put_lit, put_non, List.set_cons_zero, List.set_cons_succ]
      obtain ⟨g9, c9, e9⟩ := own_block o4 (by omega)
      subst e9
      have hfin := FIN.out y4 (.slice (some ⟨g9, 0, none⟩) (0 + k + 1) c9) BK4 (by rw [List.nil_append] at o4; rw [show k + 1 = 0 + k + 1 by omega]; exact o4)
      refine hk_one (i := 15) (by kernel_rfl) ?_
      refine op_skip none (y4.setCell ⟨m, 1, none⟩ (.slice (some ⟨g9, 0, none⟩) (0 + k + 1) c9)) (by kernel_rfl) (by kernel_rfl) (by kernel_rfl) (exec_storeK 24 22 (by kernel_rfl) (by kernel_rfl) (by kernel_rfl) (by rw [BK4.frozen (p := ⟨m, 1, none⟩) hmy]; exact dz.out) (by rw [BK4.cell (p := ⟨m, 1, none⟩) hmy]; exact d1.out)) ?_
      refine ⟨hfin.1.cells.2.2, ?_⟩
      simp only [put_lit, put_non, List.set_cons_zero, List.set_cons_succ]
      refine hk_done (by kernel_rfl) ?_
      have hcap := (own_cel o4).bounds.2.1
      have HF := Lib.hid hfin
      clear FIN CU HP0 d1 dz ONE hmy o4 BK4 hlt1 e1 hlt2 hne18 k2 e2 BK1 BK2 BK3
      generalize y4.setCell ⟨m, 1, none⟩ (.slice (some ⟨g9, 0, none⟩) (0 + k + 1) c9) = yf at hfin HF ⊢
      have d0 := hfin.1.cells.1
      have d1 := hfin.1.cells.2.1
      have z1 := hfin.1.thaw 1
      clear hfin
      obtain ⟨k1, ek1⟩ : ∃ k1, 0 + k + 1 = k1 := ⟨_, rfl⟩
      have HL5 := Lib.hid (HLS.out k1 (by omega))
      have HN5 := Lib.hid (HLN.out k1 (by omega))
      rw [ek1] at d1 HF hcap
      simp only [ek1]
      have hk5 : k1 ≤ 5 := by have := HPM.out; omega
      clear ek1 HLS HLN HPM
      by_cases h5 : k1 = 5
      · subst h5
        obtain ⟨x, L1, e1, e2⟩ := HL5.out rfl
        have hc91 : ¬ c9 = 1 := by omega
        have hc92 : ¬ c9 - 1 = 0 := by omega
        have hfin := HF.out
        rw [e1] at hfin
        have hc := hfin.cut (n' := 4) (by omega) HML.out
        rw [← e2] at hc
        have HR := Lib.hid (hc.done H0.out H1.out H2.out (.int .i64 ((s.last : Int) + 1)))
        clear hfin hc e1 e2 HF HL5 HN5 hk5
        go_wp2_with fail
        go_ret
        exact HR.out
      · have hk4 : ¬ ((k1 : Int) > 4) := by omega
        have hfin := HF.out
        have e2 := HN5.out h5
        rw [← e2] at hfin
        have HR := Lib.hid (hfin.done H0.out H1.out H2.out (.int .i64 ((s.last : Int) + 1)))
        clear hfin e2 HF HL5 HN5
        go_wp2_with fail
        go_ret
        exact HR.out
  · skip
    refine op_do (some 15) (.slice Ak k ck) yd (by kernel_rfl) (by kernel_rfl) (by kernel_rfl) (exec_loadCell 75 (.tmp 14) ⟨m, 1, none⟩ _ _ (by kernel_rfl) (by kernel_rfl) (by rw [BK0.cell (p := ⟨m, 1, none⟩) hmy]; exact d1.out) Tryz.underlying75 rfl) ?_
    refine ⟨(by rw [BK0.cell (p := ⟨m, 2, none⟩) hmy]; exact HP0.out), ?_⟩
    simp only [put_lit, put_non, List.set_cons_zero, List.set_cons_succ]
    refine hk_two (i := 1) (j := 11) (by kernel_rfl) ?_ ?_
    · skip
      obtain ⟨y1, e1⟩ : ∃ y, y = yd.alloc (.cells #[] 76) := ⟨_, rfl⟩
      have hBa : Below yd.heap.size yd y1 := by rw [e1]; exact (Below.refl _ _).alloc (Nat.le_refl _) _
      have hlt1 : yd.heap.size < y1.heap.size := by rw [e1]; show _ < (yd.heap.push _).size; simp
      have BK1 := BK0.trans (hBa.mono BK0.size)
      have o1 : y1.ownsRow yd.heap.size 76 1 (.slice (some ⟨yd.heap.size, 0, none⟩) 0 0) 0 [] := by rw [e1]; exact World.ownsRow_made yd #[] 0 BK0.size (by unfold maxLen; omega) (by simp)
      clear hBa
      refine op_do (some 11) (.slice (some ⟨yd.heap.size, 0, none⟩) 0 0) y1 (by kernel_rfl) (by kernel_rfl) (by kernel_rfl) (by rw [e1]; exact exec_noneC Tryz.underlying75 size_kp (by kernel_rfl)) ?_
      refine ⟨(by rw [BK1.cell (p := ⟨m, 2, none⟩) hmy]; exact HP0.out), ?_⟩
      simp only [put_lit, put_non, List.set_cons_zero, List.set_cons_succ]
      refine hk_two (i := 6) (j := 11) (by kernel_rfl) ?_ ?_
      · skip
        refine op_appendC Tryz.underlying75 zero_kp rfl (by omega) (by omega) (some 16) 11 15 (by kernel_rfl) (by kernel_rfl) (by kernel_rfl) (by kernel_rfl) yd.heap.size (.slice (some ⟨yd.heap.size, 0, none⟩) 0 0) 0 [] (by kernel_rfl) o1 (.slice Ak k ck) k us (by kernel_rfl) (CU.out.below BK1) ONE.out (by have := HPM.out; omega) BK1.size ?_
        intro v2 y2 o2 hg
        have BK2 := BK1.grown hg BK1.size (fun k e => (o1.lt k e).1)
        clear hg o1
        refine ⟨(by rw [BK2.cell (p := ⟨m, 2, none⟩) hmy]; exact HP0.out), ?_⟩
        simp only [put_lit, put_non, List.set_cons_zero, List.set_cons_succ]
        refine hk_one (i := 11) (by kernel_rfl) ?_
        obtain ⟨y3, e3⟩ : ∃ y, y = y2.alloc (.cells #[(.slice Aw nw cw)] 76) := ⟨_, rfl⟩
        have hBa : Below y2.heap.size y2 y3 := by rw [e3]; exact (Below.refl _ _).alloc (Nat.le_refl _) _
        have hlt3 : y2.heap.size < y3.heap.size := by rw [e3]; show _ < (y2.heap.push _).size; simp
        have BK3 := BK2.trans (hBa.mono BK2.size)
        have o2 := own_below o2 hBa (Nat.le_refl _)
        have k3 : Cel y3 (.slice (some ⟨y2.heap.size, 0, none⟩) 1 1) 1 1 [(.slice Aw nw cw)] := by rw [e3]; exact cel_one y2 76 rfl
        clear hBa
        refine op_do (some 21) (.slice (some ⟨y2.heap.size, 0, none⟩) 1 1) y3 (by kernel_rfl) (by kernel_rfl) (by kernel_rfl) (by rw [e3]; exact exec_oneS Tryz.underlying75 zero_kp 20 (by kernel_rfl) (by kernel_rfl)) ?_
        refine ⟨(by rw [BK3.cell (p := ⟨m, 2, none⟩) hmy]; exact HP0.out), ?_⟩
        simp only [put_lit, put_non, List.set_cons_zero, List.set_cons_succ]
        refine hk_one (i := 12) (by kernel_rfl) ?_
        refine op_appendC Tryz.underlying75 zero_kp rfl (by omega) (by omega) (some 22) 16 21 (by kernel_rfl) (by kernel_rfl) (by kernel_rfl) (by kernel_rfl) yd.heap.size v2 (0 + k) ([] ++ us) (by kernel_rfl) o2 (.slice (some ⟨y2.heap.size, 0, none⟩) 1 1) 1 [(.slice Aw nw cw)] (by kernel_rfl) k3 (one_kp _ _ _) (by have := HPM.out; omega) BK3.size ?_
        intro v4 y4 o4 hg
        have BK4 := BK3.grown hg BK3.size (fun k e => (o2.lt k e).1)
        clear hg o2
        refine ⟨(by rw [BK4.cell (p := ⟨m, 2, none⟩) hmy]; exact HP0.out), ?_⟩
        simp only [put_lit, put_non, List.set_cons_zero, List.set_cons_succ]
        refine hk_take (i := 13) (some 23) (.pointer (some ⟨m, 0, none⟩)) (by kernel_rfl) (by kernel_rfl) (by kernel_rfl) (by kernel_rfl) (by kernel_rfl) (by kernel_rfl) (fun W hS => by kernel_rfl) (fun _ _ d _ _ h => by cases d <;> exact h) (by rw [BK4.cell (p := ⟨m, 2, none⟩) hmy]; exact HP0.out) ?_
        simp only [put_lit, put_non, List.set_cons_zero, List.set_cons_succ]
        refine hk_take (i := 14) (some 24) (.pointer (some ⟨m, 1, none⟩)) (by kernel_rfl) (by kernel_rfl) (by kernel_rfl) (by kernel_rfl) (by kernel_rfl) (by kernel_rfl) (fun W hS => by kernel_rfl) (fun _ _ d _ _ h => by cases d <;> exact h) (by rw [BK4.cell (p := ⟨m, 2, none⟩) hmy]; exact HP0.out) ?_
        simp only [put_lit, put_non, List.set_cons_zero, List.set_cons_succ]
        obtain ⟨g9, c9, e9⟩ := own_block o4 (by omega)
        subst e9
        have hfin := FIN.out y4 (.slice (some ⟨g9, 0, none⟩) (0 + k + 1) c9) BK4 (by rw [List.nil_append] at o4; rw [show k + 1 = 0 + k + 1 by omega]; exact o4)
        refine hk_one (i := 15) (by kernel_rfl) ?_
        refine op_skip none (y4.setCell ⟨m, 1, none⟩ (.slice (some ⟨g9, 0, none⟩) (0 + k + 1) c9)) (by kernel_rfl) (by kernel_rfl) (by kernel_rfl) (exec_storeK 24 22 (by kernel_rfl) (by kernel_rfl) (by kernel_rfl) (by rw [BK4.frozen (p := ⟨m, 1, none⟩) hmy]; exact dz.out) (by rw [BK4.cell (p := ⟨m, 1, none⟩) hmy]; exact d1.out)) ?_
        refine ⟨hfin.1.cells.2.2, ?_⟩
        simp only [put_lit, put_non, List.set_cons_zero, List.set_cons_succ]
        refine hk_done (by kernel_rfl) ?_
        have hcap := (own_cel o4).bounds.2.1
        have HF := Lib.hid hfin
        clear FIN CU HP0 d1 dz ONE hmy o4 BK4 hlt1 e1 BK1 hlt3 k3 e3 BK2 BK3
        generalize y4.setCell ⟨m, 1, none⟩ (.slice (some ⟨g9, 0, none⟩) (0 + k + 1) c9) = yf at hfin HF ⊢
        have d0 := hfin.1.cells.1
        have d1 := hfin.1.cells.2.1
        have z1 := hfin.1.thaw 1
        clear hfin
        obtain ⟨k1, ek1⟩ : ∃ k1, 0 + k + 1 = k1 := ⟨_, rfl⟩
        have HL5 := Lib.hid (HLS.out k1 (by omega))
        have HN5 := Lib.hid (HLN.out k1 (by omega))
        rw [ek1] at d1 HF hcap
        simp only [ek1]
        have hk5 : k1 ≤ 5 := by have := HPM.out; omega
        clear ek1 HLS HLN HPM
        by_cases h5 : k1 = 5
        · subst h5
          obtain ⟨x, L1, e1, e2⟩ := HL5.out rfl
          have hc91 : ¬ c9 = 1 := by omega
          have hc92 : ¬ c9 - 1 = 0 := by omega
          have hfin := HF.out
          rw [e1] at hfin
          have hc := hfin.cut (n' := 4) (by omega) HML.out
          rw [← e2] at hc
          have HR := Lib.hid (hc.done H0.out H1.out H2.out (.int .i64 ((s.last : Int) + 1)))
          clear hfin hc e1 e2 HF HL5 HN5 hk5
          go_wp2_with fail
          go_ret
          exact HR.out
        · have hk4 : ¬ ((k1 : Int) > 4) := by omega
          have hfin := HF.out
          have e2 := HN5.out h5
          rw [← e2] at hfin
          have HR := Lib.hid (hfin.done H0.out H1.out H2.out (.int .i64 ((s.last : Int) + 1)))
          clear hfin e2 HF HL5 HN5
          go_wp2_with fail
          go_ret
          exact HR.out
      · skip
        obtain ⟨y2, e2⟩ : ∃ y, y = y1.alloc (.cells #[(.slice Aw nw cw)] 76) := ⟨_, rfl⟩
        have hBa : Below y1.heap.size y1 y2 := by rw [e2]; exact (Below.refl _ _).alloc (Nat.le_refl _) _
        have hlt2 : y1.heap.size < y2.heap.size := by rw [e2]; show _ < (y1.heap.push _).size; simp
        have hne18 : (yd.heap.size : Nat) ≠ y1.heap.size := Nat.ne_of_lt (o1.lt _ rfl).2
        have BK2 := BK1.trans (hBa.mono BK1.size)
        have o1 := own_below o1 hBa (Nat.le_refl _)
        have k2 : Cel y2 (.slice (some ⟨y1.heap.size, 0, none⟩) 1 1) 1 1 [(.slice Aw nw cw)] := by rw [e2]; exact cel_one y1 76 rfl
        clear hBa
        refine op_do (some 21) (.slice (some ⟨y1.heap.size, 0, none⟩) 1 1) y2 (by kernel_rfl) (by kernel_rfl) (by kernel_rfl) (by rw [e2]; exact exec_oneS Tryz.underlying75 zero_kp 20 (by kernel_rfl) (by kernel_rfl)) ?_
        refine ⟨(by rw [BK2.cell (p := ⟨m, 2, none⟩) hmy]; exact HP0.out), ?_⟩
        simp only [put_lit, put_non, List.set_cons_zero, List.set_cons_succ]
        refine hk_one (i := 6) (by kernel_rfl) ?_
        refine op_appendC Tryz.underlying75 zero_kp rfl (by omega) (by omega) (some 16) 11 15 (by kernel_rfl) (by kernel_rfl) (by kernel_rfl) (by kernel_rfl) yd.heap.size (.slice (some ⟨yd.heap.size, 0, none⟩) 0 0) 0 [] (by kernel_rfl) o1 (.slice Ak k ck) k us (by kernel_rfl) (CU.out.below BK2) ONE.out (by have := HPM.out; omega) BK2.size ?_
        intro v3 y3 o3 hg
        have BK3 := BK2.grown hg BK2.size (fun k e => (o1.lt k e).1)
        have k2 := k2.grown hg (fun b hb e => hne18 (by simp only [Value.ownBlock, Option.some.injEq] at hb e; omega))
        clear hg o1
        refine ⟨(by rw [BK3.cell (p := ⟨m, 2, none⟩) hmy]; exact HP0.out), ?_⟩
        simp only [put_lit, put_non, List.set_cons_zero, List.set_cons_succ]
        refine hk_one (i := 12) (by kernel_rfl) ?_
        refine op_appendC Tryz.underlying75 zero_kp rfl (by omega) (by omega) (some 22) 16 21 (by kernel_rfl) (by kernel_rfl) (by kernel_rfl) (by kernel_rfl) yd.heap.size v3 (0 + k) ([] ++ us) (by kernel_rfl) o3 (.slice (some ⟨y1.heap.size, 0, none⟩) 1 1) 1 [(.slice Aw nw cw)] (by kernel_rfl) k2 (one_kp _ _ _) (by have := HPM.out; omega) BK3.size ?_
        intro v4 y4 o4 hg
        have BK4 := BK3.grown hg BK3.size (fun k e => (o3.lt k e).1)
        clear hg o3
        refine ⟨(by rw [BK4.cell (p := ⟨m, 2, none⟩) hmy]; exact HP0.out), ?_⟩
        simp only [put_lit, put_non, List.set_cons_zero, List.set_cons_succ]
        refine hk_take (i := 13) (some 23) (.pointer (some ⟨m, 0, none⟩)) (by kernel_rfl) (by kernel_rfl) (by kernel_rfl) (by kernel_rfl) (by kernel_rfl) (by kernel_rfl) (fun W hS => by kernel_rfl) (fun _ _ d _ _ h => by cases d <;> exact h) (by rw [BK4.cell (p := ⟨m, 2, none⟩) hmy]; exact HP0.out) ?_
        simp only [put_lit, put_non, List.set_cons_zero, List.set_cons_succ]
        refine hk_take (i := 14) (some 24) (.pointer (some ⟨m, 1, none⟩)) (by kernel_rfl) (by kernel_rfl) (by kernel_rfl) (by kernel_rfl) (by kernel_rfl) (by kernel_rfl) (fun W hS => by kernel_rfl) (fun _ _ d _ _ h => by cases d <;> exact h) (by rw [BK4.cell (p := ⟨m, 2, none⟩) hmy]; exact HP0.out) ?_
        simp only [put_lit, put_non, List.set_cons_zero, List.set_cons_succ]
        obtain ⟨g9, c9, e9⟩ := own_block o4 (by omega)
        subst e9
        have hfin := FIN.out y4 (.slice (some ⟨g9, 0, none⟩) (0 + k + 1) c9) BK4 (by rw [List.nil_append] at o4; rw [show k + 1 = 0 + k + 1 by omega]; exact o4)
        refine hk_one (i := 15) (by kernel_rfl) ?_
        refine op_skip none (y4.setCell ⟨m, 1, none⟩ (.slice (some ⟨g9, 0, none⟩) (0 + k + 1) c9)) (by kernel_rfl) (by kernel_rfl) (by kernel_rfl) (exec_storeK 24 22 (by kernel_rfl) (by kernel_rfl) (by kernel_rfl) (by rw [BK4.frozen (p := ⟨m, 1, none⟩) hmy]; exact dz.out) (by rw [BK4.cell (p := ⟨m, 1, none⟩) hmy]; exact d1.out)) ?_
        refine ⟨hfin.1.cells.2.2, ?_⟩
        simp only [put_lit, put_non, List.set_cons_zero, List.set_cons_succ]
        refine hk_done (by kernel_rfl) ?_
        have hcap := (own_cel o4).bounds.2.1
        have HF := Lib.hid hfin
        clear FIN CU HP0 d1 dz ONE hmy o4 BK4 hlt1 e1 hlt2 hne18 k2 e2 BK1 BK2 BK3
        generalize y4.setCell ⟨m, 1, none⟩ (.slice (some ⟨g9, 0, none⟩) (0 + k + 1) c9) = yf at hfin HF ⊢
        have d0 := hfin.1.cells.1
        have d1 := hfin.1.cells.2.1
        have z1 := hfin.1.thaw 1
        clear hfin
        obtain ⟨k1, ek1⟩ : ∃ k1, 0 + k + 1 = k1 := ⟨_, rfl⟩
        have HL5 := Lib.hid (HLS.out k1 (by omega))
        have HN5 := Lib.hid (HLN.out k1 (by omega))
        rw [ek1] at d1 HF hcap
        simp only [ek1]
        have hk5 : k1 ≤ 5 := by have := HPM.out; omega
        clear ek1 HLS HLN HPM
        by_cases h5 : k1 = 5
        · subst h5
          obtain ⟨x, L1, e1, e2⟩ := HL5.out rfl
          have hc91 : ¬ c9 = 1 := by omega
          have hc92 : ¬ c9 - 1 = 0 := by omega
          have hfin := HF.out
          rw [e1] at hfin
          have hc := hfin.cut (n' := 4) (by omega) HML.out
          rw [← e2] at hc
          have HR := Lib.hid (hc.done H0.out H1.out H2.out (.int .i64 ((s.last : Int) + 1)))
          clear hfin hc e1 e2 HF HL5 HN5 hk5
          go_wp2_with fail
          go_ret
          exact HR.out
        · have hk4 : ¬ ((k1 : Int) > 4) := by omega
          have hfin := HF.out
          have e2 := HN5.out h5
          rw [← e2] at hfin
          have HR := Lib.hid (hfin.done H0.out H1.out H2.out (.int .i64 ((s.last : Int) + 1)))
          clear hfin e2 HF HL5 HN5
          go_wp2_with fail
          go_ret
          exact HR.out
    · skip
      obtain ⟨y1, e1⟩ : ∃ y, y = yd.alloc (.cells #[(.slice Aw nw cw)] 76) := ⟨_, rfl⟩
      have hBa : Below yd.heap.size yd y1 := by rw [e1]; exact (Below.refl _ _).alloc (Nat.le_refl _) _
      have hlt1 : yd.heap.size < y1.heap.size := by rw [e1]; show _ < (yd.heap.push _).size; simp
      have BK1 := BK0.trans (hBa.mono BK0.size)
      have k1 : Cel y1 (.slice (some ⟨yd.heap.size, 0, none⟩) 1 1) 1 1 [(.slice Aw nw cw)] := by rw [e1]; exact cel_one yd 76 rfl
      clear hBa
      refine op_do (some 21) (.slice (some ⟨yd.heap.size, 0, none⟩) 1 1) y1 (by kernel_rfl) (by kernel_rfl) (by kernel_rfl) (by rw [e1]; exact exec_oneS Tryz.underlying75 zero_kp 20 (by kernel_rfl) (by kernel_rfl)) ?_
      refine ⟨(by rw [BK1.cell (p := ⟨m, 2, none⟩) hmy]; exact HP0.out), ?_⟩
      simp only [put_lit, put_non, List.set_cons_zero, List.set_cons_succ]
      refine hk_one (i := 1) (by kernel_rfl) ?_
      obtain ⟨y2, e2⟩ : ∃ y, y = y1.alloc (.cells #[] 76) := ⟨_, rfl⟩
      have hBa : Below y1.heap.size y1 y2 := by rw [e2]; exact (Below.refl _ _).alloc (Nat.le_refl _) _
      have hlt2 : y1.heap.size < y2.heap.size := by rw [e2]; show _ < (y1.heap.push _).size; simp
      have BK2 := BK1.trans (hBa.mono BK1.size)
      have k1 := k1.below hBa
      have o2 : y2.ownsRow yd.heap.size 76 1 (.slice (some ⟨y1.heap.size, 0, none⟩) 0 0) 0 [] := by rw [e2]; exact World.ownsRow_made y1 #[] 0 BK1.size (by unfold maxLen; omega) (by simp)
      have hne18 : (y1.heap.size : Nat) ≠ yd.heap.size := Nat.ne_of_gt (Nat.lt_of_lt_of_le hlt1 (Nat.le_refl _))
      clear hBa
      refine op_do (some 11) (.slice (some ⟨y1.heap.size, 0, none⟩) 0 0) y2 (by kernel_rfl) (by kernel_rfl) (by kernel_rfl) (by rw [e2]; exact exec_noneC Tryz.underlying75 size_kp (by kernel_rfl)) ?_
      refine ⟨(by rw [BK2.cell (p := ⟨m, 2, none⟩) hmy]; exact HP0.out), ?_⟩
      simp only [put_lit, put_non, List.set_cons_zero, List.set_cons_succ]
      refine hk_one (i := 6) (by kernel_rfl) ?_
      refine op_appendC Tryz.underlying75 zero_kp rfl (by omega) (by omega) (some 16) 11 15 (by kernel_rfl) (by kernel_rfl) (by kernel_rfl) (by kernel_rfl) yd.heap.size (.slice (some ⟨y1.heap.size, 0, none⟩) 0 0) 0 [] (by kernel_rfl) o2 (.slice Ak k ck) k us (by kernel_rfl) (CU.out.below BK2) ONE.out (by have := HPM.out; omega) BK2.size ?_
      intro v3 y3 o3 hg
      have BK3 := BK2.grown hg BK2.size (fun k e => (o2.lt k e).1)
      have k1 := k1.grown hg (fun b hb e => hne18 (by simp only [Value.ownBlock, Option.some.injEq] at hb e; omega))
      clear hg o2
      refine ⟨(by rw [BK3.cell (p := ⟨m, 2, none⟩) hmy]; exact HP0.out), ?_⟩
      simp only [put_lit, put_non, List.set_cons_zero, List.set_cons_succ]
      refine hk_one (i := 12) (by kernel_rfl) ?_
      refine op_appendC Tryz.underlying75 zero_kp rfl (by omega) (by omega) (some 22) 16 21 (by kernel_rfl) (by kernel_rfl) (by kernel_rfl) (by kernel_rfl) yd.heap.size v3 (0 + k) ([] ++ us) (by kernel_rfl) o3 (.slice (some ⟨yd.heap.size, 0, none⟩) 1 1) 1 [(.slice Aw nw cw)] (by kernel_rfl) k1 (one_kp _ _ _) (by have := HPM.out; omega) BK3.size ?_
      intro v4 y4 o4 hg
      have BK4 := BK3.grown hg BK3.size (fun k e => (o3.lt k e).1)
      clear hg o3
      refine ⟨(by rw [BK4.cell (p := ⟨m, 2, none⟩) hmy]; exact HP0.out), ?_⟩
      simp only [put_lit, put_non, List.set_cons_zero, List.set_cons_succ]
      refine hk_take (i := 13) (some 23) (.pointer (some ⟨m, 0, none⟩)) (by kernel_rfl) (by kernel_rfl) (by kernel_rfl) (by kernel_rfl) (by kernel_rfl) (by kernel_rfl) (fun W hS => by kernel_rfl) (fun _ _ d _ _ h => by cases d <;> exact h) (by rw [BK4.cell (p := ⟨m, 2, none⟩) hmy]; exact HP0.out) ?_
      simp only [put_lit, put_non, List.set_cons_zero, List.set_cons_succ]
      refine hk_take (i := 14) (some 24) (.pointer (some ⟨m, 1, none⟩)) (by kernel_rfl) (by kernel_rfl) (by kernel_rfl) (by kernel_rfl) (by kernel_rfl) (by kernel_rfl) (fun W hS => by kernel_rfl) (fun _ _ d _ _ h => by cases d <;> exact h) (by rw [BK4.cell (p := ⟨m, 2, none⟩) hmy]; exact HP0.out) ?_
      simp only [put_lit, put_non, List.set_cons_zero, List.set_cons_succ]
      obtain ⟨g9, c9, e9⟩ := own_block o4 (by omega)
      subst e9
      have hfin := FIN.out y4 (.slice (some ⟨g9, 0, none⟩) (0 + k + 1) c9) BK4 (by rw [List.nil_append] at o4; rw [show k + 1 = 0 + k + 1 by omega]; exact o4)
      refine hk_one (i := 15) (by kernel_rfl) ?_
      refine op_skip none (y4.setCell ⟨m, 1, none⟩ (.slice (some ⟨g9, 0, none⟩) (0 + k + 1) c9)) (by kernel_rfl) (by kernel_rfl) (by kernel_rfl) (exec_storeK 24 22 (by kernel_rfl) (by kernel_rfl) (by kernel_rfl) (by rw [BK4.frozen (p := ⟨m, 1, none⟩) hmy]; exact dz.out) (by rw [BK4.cell (p := ⟨m, 1, none⟩) hmy]; exact d1.out)) ?_
      refine ⟨hfin.1.cells.2.2, ?_⟩
      simp only [put_lit, put_non, List.set_cons_zero, List.set_cons_succ]
      refine hk_done (by kernel_rfl) ?_
      have hcap := (own_cel o4).bounds.2.1
      have HF := Lib.hid hfin
      clear FIN CU HP0 d1 dz ONE hmy o4 BK4 hlt1 k1 e1 hlt2 hne18 e2 BK1 BK2 BK3
      generalize y4.setCell ⟨m, 1, none⟩ (.slice (some ⟨g9, 0, none⟩) (0 + k + 1) c9) = yf at hfin HF ⊢
      have d0 := hfin.1.cells.1
      have d1 := hfin.1.cells.2.1
      have z1 := hfin.1.thaw 1
      clear hfin
      obtain ⟨k1, ek1⟩ : ∃ k1, 0 + k + 1 = k1 := ⟨_, rfl⟩
      have HL5 := Lib.hid (HLS.out k1 (by omega))
      have HN5 := Lib.hid (HLN.out k1 (by omega))
      rw [ek1] at d1 HF hcap
      simp only [ek1]
      have hk5 : k1 ≤ 5 := by have := HPM.out; omega
      clear ek1 HLS HLN HPM
      by_cases h5 : k1 = 5
      · subst h5
        obtain ⟨x, L1, e1, e2⟩ := HL5.out rfl
        have hc91 : ¬ c9 = 1 := by omega
        have hc92 : ¬ c9 - 1 = 0 := by omega
        have hfin := HF.out
        rw [e1] at hfin
        have hc := hfin.cut (n' := 4) (by omega) HML.out
        rw [← e2] at hc
        have HR := Lib.hid (hc.done H0.out H1.out H2.out (.int .i64 ((s.last : Int) + 1)))
        clear hfin hc e1 e2 HF HL5 HN5 hk5
        go_wp2_with fail
        go_ret
        exact HR.out
      · have hk4 : ¬ ((k1 : Int) > 4) := by omega
        have hfin := HF.out
        have e2 := HN5.out h5
        rw [← e2] at hfin
        have HR := Lib.hid (hfin.done H0.out H1.out H2.out (.int .i64 ((s.last : Int) + 1)))
        clear hfin e2 HF HL5 HN5
        go_wp2_with fail
        go_ret
        exact HR.out
  · skip
    obtain ⟨y1, e1⟩ : ∃ y, y = yd.alloc (.cells #[(.slice Aw nw cw)] 76) := ⟨_, rfl⟩
    have hBa : Below yd.heap.size yd y1 := by rw [e1]; exact (Below.refl _ _).alloc (Nat.le_refl _) _
    have hlt1 : yd.heap.size < y1.heap.size := by rw [e1]; show _ < (yd.heap.push _).size; simp
    have BK1 := BK0.trans (hBa.mono BK0.size)
    have k1 : Cel y1 (.slice (some ⟨yd.heap.size, 0, none⟩) 1 1) 1 1 [(.slice Aw nw cw)] := by rw [e1]; exact cel_one yd 76 rfl
    clear hBa
    refine op_do (some 21) (.slice (some ⟨yd.heap.size, 0, none⟩) 1 1) y1 (by kernel_rfl) (by kernel_rfl) (by kernel_rfl) (by rw [e1]; exact exec_oneS Tryz.underlying75 zero_kp 20 (by kernel_rfl) (by kernel_rfl)) ?_
    refine ⟨(by rw [BK1.cell (p := ⟨m, 2, none⟩) hmy]; exact HP0.out), ?_⟩
    simp only [put_lit, put_non, List.set_cons_zero, List.set_cons_succ]
    refine hk_two (i := 1) (j := 5) (by kernel_rfl) ?_ ?_
    · skip
      obtain ⟨y2, e2⟩ : ∃ y, y = y1.alloc (.cells #[] 76) := ⟨_, rfl⟩
      have hBa : Below y1.heap.size y1 y2 := by rw [e2]; exact (Below.refl _ _).alloc (Nat.le_refl _) _
      have hlt2 : y1.heap.size < y2.heap.size := by rw [e2]; show _ < (y1.heap.push _).size; simp
      have BK2 := BK1.trans (hBa.mono BK1.size)
      have k1 := k1.below hBa
      have o2 : y2.ownsRow yd.heap.size 76 1 (.slice (some ⟨y1.heap.size, 0, none⟩) 0 0) 0 [] := by rw [e2]; exact World.ownsRow_made y1 #[] 0 BK1.size (by unfold maxLen; omega) (by simp)
      have hne18 : (y1.heap.size : Nat) ≠ yd.heap.size := Nat.ne_of_gt (Nat.lt_of_lt_of_le hlt1 (Nat.le_refl _))
      clear hBa
      refine op_do (some 11) (.slice (some ⟨y1.heap.size, 0, none⟩) 0 0) y2 (by kernel_rfl) (by kernel_rfl) (by kernel_rfl) (by rw [e2]; exact exec_noneC Tryz.underlying75 size_kp (by kernel_rfl)) ?_
      refine ⟨(by rw [BK2.cell (p := ⟨m, 2, none⟩) hmy]; exact HP0.out), ?_⟩
      simp only [put_lit, put_non, List.set_cons_zero, List.set_cons_succ]
      refine hk_one (i := 5) (by kernel_rfl) ?_
      refine op_do (some 15) (.slice Ak k ck) y2 (by kernel_rfl) (by kernel_rfl) (by kernel_rfl) (exec_loadCell 75 (.tmp 14) ⟨m, 1, none⟩ _ _ (by kernel_rfl) (by kernel_rfl) (by rw [BK2.cell (p := ⟨m, 1, none⟩) hmy]; exact d1.out) Tryz.underlying75 rfl) ?_
      refine ⟨(by rw [BK2.cell (p := ⟨m, 2, none⟩) hmy]; exact HP0.out), ?_⟩
      simp only [put_lit, put_non, List.set_cons_zero, List.set_cons_succ]
      refine hk_one (i := 6) (by kernel_rfl) ?_
      refine op_appendC Tryz.underlying75 zero_kp rfl (by omega) (by omega) (some 16) 11 15 (by kernel_rfl) (by kernel_rfl) (by kernel_rfl) (by kernel_rfl) yd.heap.size (.slice (some ⟨y1.heap.size, 0, none⟩) 0 0) 0 [] (by kernel_rfl) o2 (.slice Ak k ck) k us (by kernel_rfl) (CU.out.below BK2) ONE.out (by have := HPM.out; omega) BK2.size ?_
      intro v3 y3 o3 hg
      have BK3 := BK2.grown hg BK2.size (fun k e => (o2.lt k e).1)
      have k1 := k1.grown hg (fun b hb e => hne18 (by simp only [Value.ownBlock, Option.some.injEq] at hb e; omega))
      clear hg o2
      refine ⟨(by rw [BK3.cell (p := ⟨m, 2, none⟩) hmy]; exact HP0.out), ?_⟩
      simp only [put_lit, put_non, List.set_cons_zero, List.set_cons_succ]
      refine hk_one (i := 12) (by kernel_rfl) ?_
      refine op_appendC Tryz.underlying75 zero_kp rfl (by omega) (by omega) (some 22) 16 21 (by kernel_rfl) (by kernel_rfl) (by kernel_rfl) (by kernel_rfl) yd.heap.size v3 (0 + k) ([] ++ us) (by kernel_rfl) o3 (.slice (some ⟨yd.heap.size, 0, none⟩) 1 1) 1 [(.slice Aw nw cw)] (by kernel_rfl) k1 (one_kp _ _ _) (by have := HPM.out; omega) BK3.size ?_
      intro v4 y4 o4 hg
      have BK4 := BK3.grown hg BK3.size (fun k e => (o3.lt k e).1)
      clear hg o3
      refine ⟨(by rw [BK4.cell (p := ⟨m, 2, none⟩) hmy]; exact HP0.out), ?_⟩
      simp only [put_lit, put_non, List.set_cons_zero, List.set_cons_succ]
      refine hk_take (i := 13) (some 23) (.pointer (some ⟨m, 0, none⟩)) (by kernel_rfl) (by kernel_rfl) (by kernel_rfl) (by kernel_rfl) (by kernel_rfl) (by kernel_rfl) (fun W hS => by kernel_rfl) (fun _ _ d _ _ h => by cases d <;> exact h) (by rw [BK4.cell (p := ⟨m, 2, none⟩) hmy]; exact HP0.out) ?_
      simp only [put_lit, put_non, List.set_cons_zero, List.set_cons_succ]
      refine hk_take (i := 14) (some 24) (.pointer (some ⟨m, 1, none⟩)) (by kernel_rfl) (by kernel_rfl) (by kernel_rfl) (by kernel_rfl) (by kernel_rfl) (by kernel_rfl) (fun W hS => by kernel_rfl) (fun _ _ d _ _ h => by cases d <;> exact h) (by rw [BK4.cell (p := ⟨m, 2, none⟩) hmy]; exact HP0.out) ?_
      simp only [put_lit, put_non, List.set_cons_zero, List.set_cons_succ]
      obtain ⟨g9, c9, e9⟩ := own_block o4 (by omega)
      subst e9
      have hfin := FIN.out y4 (.slice (some ⟨g9, 0, none⟩) (0 + k + 1) c9) BK4 (by rw [List.nil_append] at o4; rw [show k + 1 = 0 + k + 1 by omega]; exact o4)
      refine hk_one (i := 15) (by kernel_rfl) ?_
      refine op_skip none (y4.setCell ⟨m, 1, none⟩ (.slice (some ⟨g9, 0, none⟩) (0 + k + 1) c9)) (by kernel_rfl) (by kernel_rfl) (by kernel_rfl) (exec_storeK 24 22 (by kernel_rfl) (by kernel_rfl) (by kernel_rfl) (by rw [BK4.frozen (p := ⟨m, 1, none⟩) hmy]; exact dz.out) (by rw [BK4.cell (p := ⟨m, 1, none⟩) hmy]; exact d1.out)) ?_
      refine ⟨hfin.1.cells.2.2, ?_⟩
      simp only [put_lit, put_non, List.set_cons_zero, List.set_cons_succ]
      refine hk_done (by kernel_rfl) ?_
      have hcap := (own_cel o4).bounds.2.1
      have HF := Lib.hid hfin
      clear FIN CU HP0 d1 dz ONE hmy o4 BK4 hlt1 k1 e1 hlt2 hne18 e2 BK1 BK2 BK3
      generalize y4.setCell ⟨m, 1, none⟩ (.slice (some ⟨g9, 0, none⟩) (0 + k + 1) c9) = yf at hfin HF ⊢
      have d0 := hfin.1.cells.1
      have d1 := hfin.1.cells.2.1
      have z1 := hfin.1.thaw 1
      clear hfin
      obtain ⟨k1, ek1⟩ : ∃ k1, 0 + k + 1 = k1 := ⟨_, rfl⟩
      have HL5 := Lib.hid (HLS.out k1 (by omega))
      have HN5 := Lib.hid (HLN.out k1 (by omega))
      rw [ek1] at d1 HF hcap
      simp only [ek1]
      have hk5 : k1 ≤ 5 := by have := HPM.out; omega
      clear ek1 HLS HLN HPM
      by_cases h5 : k1 = 5
      · subst h5
        obtain ⟨x, L1, e1, e2⟩ := HL5.out rfl
        have hc91 : ¬ c9 = 1 := by omega
        have hc92 : ¬ c9 - 1 = 0 := by omega
        have hfin := HF.out
        rw [e1] at hfin
        have hc := hfin.cut (n' := 4) (by omega) HML.out
        rw [← e2] at hc
        have HR := Lib.hid (hc.done H0.out H1.out H2.out (.int .i64 ((s.last : Int) + 1)))
        clear hfin hc e1 e2 HF HL5 HN5 hk5
        go_wp2_with fail
        go_ret
        exact HR.out
      · have hk4 : ¬ ((k1 : Int) > 4) := by omega
        have hfin := HF.out
        have e2 := HN5.out h5
        rw [← e2] at hfin
        have HR := Lib.hid (hfin.done H0.out H1.out H2.out (.int .i64 ((s.last : Int) + 1)))
        clear hfin e2 HF HL5 HN5
        go_wp2_with fail
        go_ret
        exact HR.out
    · skip
      refine op_do (some 15) (.slice Ak k ck) y1 (by kernel_rfl) (by kernel_rfl) (by kernel_rfl) (exec_loadCell 75 (.tmp 14) ⟨m, 1, none⟩ _ _ (by kernel_rfl) (by kernel_rfl) (by rw [BK1.cell (p := ⟨m, 1, none⟩) hmy]; exact d1.out) Tryz.underlying75 rfl) ?_
      refine ⟨(by rw [BK1.cell (p := ⟨m, 2, none⟩) hmy]; exact HP0.out), ?_⟩
      simp only [put_lit, put_non, List.set_cons_zero, List.set_cons_succ]
      refine hk_one (i := 1) (by kernel_rfl) ?_
      obtain ⟨y2, e2⟩ : ∃ y, y = y1.alloc (.cells #[] 76) := ⟨_, rfl⟩
      have hBa : Below y1.heap.size y1 y2 := by rw [e2]; exact (Below.refl _ _).alloc (Nat.le_refl _) _
      have hlt2 : y1.heap.size < y2.heap.size := by rw [e2]; show _ < (y1.heap.push _).size; simp
      have BK2 := BK1.trans (hBa.mono BK1.size)
      have k1 := k1.below hBa
      have o2 : y2.ownsRow yd.heap.size 76 1 (.slice (some ⟨y1.heap.size, 0, none⟩) 0 0) 0 [] := by rw [e2]; exact World.ownsRow_made y1 #[] 0 BK1.size (by unfold maxLen; omega) (by simp)
      have hne18 : (y1.heap.size : Nat) ≠ yd.heap.size := Nat.ne_of_gt (Nat.lt_of_lt_of_le hlt1 (Nat.le_refl _))
      clear hBa
      refine op_do (some 11) (.slice (some ⟨y1.heap.size, 0, none⟩) 0 0) y2 (by kernel_rfl) (by kernel_rfl) (by kernel_rfl) (by rw [e2]; exact exec_noneC Tryz.underlying75 size_kp (by kernel_rfl)) ?_
      refine ⟨(by rw [BK2.cell (p := ⟨m, 2, none⟩) hmy]; exact HP0.out), ?_⟩
      simp only [put_lit, put_non, List.set_cons_zero, List.set_cons_succ]
      refine hk_one (i := 6) (by kernel_rfl) ?_
      refine op_appendC Tryz.underlying75 zero_kp rfl (by omega) (by omega) (some 16) 11 15 (by kernel_rfl) (by kernel_rfl) (by kernel_rfl) (by kernel_rfl) yd.heap.size (.slice (some ⟨y1.heap.size, 0, none⟩) 0 0) 0 [] (by kernel_rfl) o2 (.slice Ak k ck) k us (by kernel_rfl) (CU.out.below BK2) ONE.out (by have := HPM.out; omega) BK2.size ?_
      intro v3 y3 o3 hg
      have BK3 := BK2.grown hg BK2.size (fun k e => (o2.lt k e).1)
      have k1 := k1.grown hg (fun b hb e => hne18 (by simp only [Value.ownBlock, Option.some.injEq] at hb e; omega))
      clear hg o2
      refine ⟨(by rw [BK3.cell (p := ⟨m, 2, none⟩) hmy]; exact HP0.out), ?_⟩
      simp only [put_lit, put_non, List.set_cons_zero, List.set_cons_succ]
      refine hk_one (i := 12) (by kernel_rfl) ?_
      refine op_appendC Tryz.underlying75 zero_kp rfl (by omega) (by omega) (some 22) 16 21 (by kernel_rfl) (by kernel_rfl) (by kernel_rfl) (by kernel_rfl) yd.heap.size v3 (0 + k) ([] ++ us) (by kernel_rfl) o3 (.slice (some ⟨yd.heap.size, 0, none⟩) 1 1) 1 [(.slice Aw nw cw)] (by kernel_rfl) k1 (one_kp _ _ _) (by have := HPM.out; omega) BK3.size ?_
      intro v4 y4 o4 hg
      have BK4 := BK3.grown hg BK3.size (fun k e => (o3.lt k e).1)
      clear hg o3
      refine ⟨(by rw [BK4.cell (p := ⟨m, 2, none⟩) hmy]; exact HP0.out), ?_⟩
      simp only [put_lit, put_non, List.set_cons_zero, List.set_cons_succ]
      refine hk_take (i := 13) (some 23) (.pointer (some ⟨m, 0, none⟩)) (by kernel_rfl) (by kernel_rfl) (by kernel_rfl) (by kernel_rfl) (by kernel_rfl) (by kernel_rfl) (fun W hS => by kernel_rfl) (fun _ _ d _ _ h => by cases d <;> exact h) (by rw [BK4.cell (p := ⟨m, 2, none⟩) hmy]; exact HP0.out) ?_
      simp only [put_lit, put_non, List.set_cons_zero, List.set_cons_succ]
      refine hk_take (i := 14) (some 24) (.pointer (some ⟨m, 1, none⟩)) (by kernel_rfl) (by kernel_rfl) (by kernel_rfl) (by kernel_rfl) (by kernel_rfl) (by kernel_rfl) (fun W hS => by kernel_rfl) (fun _ _ d _ _ h => by cases d <;> exact h) (by rw [BK4.cell (p := ⟨m, 2, none⟩) hmy]; exact HP0.out) ?_
      simp only [put_lit, put_non, List.set_cons_zero, List.set_cons_succ]
      obtain ⟨g9, c9, e9⟩ := own_block o4 (by omega)
      subst e9
      have hfin := FIN.out y4 (.slice (some ⟨g9, 0, none⟩) (0 + k + 1) c9) BK4 (by rw [List.nil_append] at o4; rw [show k + 1 = 0 + k + 1 by omega]; exact o4)
      refine hk_one (i := 15) (by kernel_rfl) ?_
      refine op_skip none (y4.setCell ⟨m, 1, none⟩ (.slice (some ⟨g9, 0, none⟩) (0 + k + 1) c9)) (by kernel_rfl) (by kernel_rfl) (by kernel_rfl) (exec_storeK 24 22 (by kernel_rfl) (by kernel_rfl) (by kernel_rfl) (by rw [BK4.frozen (p := ⟨m, 1, none⟩) hmy]; exact dz.out) (by rw [BK4.cell (p := ⟨m, 1, none⟩) hmy]; exact d1.out)) ?_
      refine ⟨hfin.1.cells.2.2, ?_⟩
      simp only [put_lit, put_non, List.set_cons_zero, List.set_cons_succ]
      refine hk_done (by kernel_rfl) ?_
      have hcap := (own_cel o4).bounds.2.1
      have HF := Lib.hid hfin
      clear FIN CU HP0 d1 dz ONE hmy o4 BK4 hlt1 k1 e1 hlt2 hne18 e2 BK1 BK2 BK3
      generalize y4.setCell ⟨m, 1, none⟩ (.slice (some ⟨g9, 0, none⟩) (0 + k + 1) c9) = yf at hfin HF ⊢
      have d0 := hfin.1.cells.1
      have d1 := hfin.1.cells.2.1
      have z1 := hfin.1.thaw 1
      clear hfin
      obtain ⟨k1, ek1⟩ : ∃ k1, 0 + k + 1 = k1 := ⟨_, rfl⟩
      have HL5 := Lib.hid (HLS.out k1 (by omega))
      have HN5 := Lib.hid (HLN.out k1 (by omega))
      rw [ek1] at d1 HF hcap
      simp only [ek1]
      have hk5 : k1 ≤ 5 := by have := HPM.out; omega
      clear ek1 HLS HLN HPM
      by_cases h5 : k1 = 5
      · subst h5
        obtain ⟨x, L1, e1, e2⟩ := HL5.out rfl
        have hc91 : ¬ c9 = 1 := by omega
        have hc92 : ¬ c9 - 1 = 0 := by omega
        have hfin := HF.out
        rw [e1] at hfin
        have hc := hfin.cut (n' := 4) (by omega) HML.out
        rw [← e2] at hc
        have HR := Lib.hid (hc.done H0.out H1.out H2.out (.int .i64 ((s.last : Int) + 1)))
        clear hfin hc e1 e2 HF HL5 HN5 hk5
        go_wp2_with fail
        go_ret
        exact HR.out
      · have hk4 : ¬ ((k1 : Int) > 4) := by omega
        have hfin := HF.out
        have e2 := HN5.out h5
        rw [← e2] at hfin
        have HR := Lib.hid (hfin.done H0.out H1.out H2.out (.int .i64 ((s.last : Int) + 1)))
        clear hfin e2 HF HL5 HN5
        go_wp2_with fail
        go_ret
        exact HR.out
end Go.Proofs.YtckomifecmemnaaGreat

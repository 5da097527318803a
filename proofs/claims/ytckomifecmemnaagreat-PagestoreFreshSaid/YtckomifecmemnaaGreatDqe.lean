/- The program's disk: Read; append onto an own row, and where the row then lies. -/
import Derived.Test.YtckomifecmemnaaGreatDqd
namespace Go.Proofs.YtckomifecmemnaaGreat
open Go.RowKit Dig
set_option linter.unusedVariables false

section
variable {w w' : World} {F : Nat → Prop} {g : Nat} {s : DS}
set_option maxHeartbeats 4000000 in
theorem qread_c (h : Disk w F g s) (at' : Int) : Calls Tryz.prog 52 #[.pointer (some ⟨g, 0, none⟩), .int .i64 at'] w fun e w' => ∃ r, e = .returned (.tuple #[r, .int .i64 (readS s at').1]) ∧ OwB w.heap.size w' r (readS s at').2 ∧ Below w.heap.size w w' := by
  obtain ⟨hok, bd, bv, ve, t, c, es, ls, hm, -, -, -, -, hn⟩ := h
  have CK := Lib.hid (qcheck_c hm hn at')
  have HM := Lib.hid hm
  unfold readS
  by_cases hb : badS s at' 0 = 0
  · obtain ⟨-, k, rfl, hk⟩ := bad_zero hb
    rw [if_neg (by simpa using hb)]
    rw [hb] at CK
    have hsk := secs_ok hok
    have hks : k < (secs s).length := by rw [hsk.2]; exact hk
    have hgd : (secs s).getD ((k : Int)).toNat [] = (secs s)[k] := by rw [Int.toNat_natCast]; simp [List.getD_eq_getElem?_getD, hks]
    rw [hgd]
    have h64 := hsk.1 _ (List.getElem_mem hks)
    have SB := Lib.hid (fun (W : World) (hB : Below w.heap.size w W) => (hm.below hB).vis.part hsk.1 hks (c := s.dur.length * 64 - k * 64) (by omega) (by unfold maxLen; omega))
    generalize (secs s)[k] = S at h64 SB ⊢
    have H64 := Lib.hid h64
    have SE := Lib.hid (fun (W : World) => qsector_c W bv (s.dur.length * 64) (s.dur.length * 64) k (by omega) (by omega) (by omega))
    clear hm hsk hks hgd h64 hb hok hk hn
    go_enter Tryz.func52, Tryz.ntmps52
    go_wp2_with fail
    refine (CK.out).mono ?_
    rintro e w1 ⟨rfl, hB1⟩
    have B1 := Lib.hid hB1
    obtain ⟨-, c1, -⟩ := ((HM.out).below hB1).fld.cells
    unfold rowV at c1
    clear hB1 CK
    generalize s.dur.length * 64 = m at *
    go_wp2_with fail
    refine (SE.out w1).mono ?_
    rintro e w2 ⟨rfl, hB2⟩
    have B2 := Lib.hid (below_then B1.out hB2)
    clear hB2 c1 SE
    generalize m - k * 64 = cc at *
    generalize k * 64 = kk at *
    go_wp2_with fail
    refine (qclone_c w2 (SB.out w2 B2.out) H64.out).mono ?_
    rintro e w3 ⟨r, rfl, hO, hB3⟩
    have HO := Lib.hid (hO.mono B2.out.size)
    have B3 := Lib.hid (below_then B2.out hB3)
    clear hO hB3
    go_wp2_with fail
    go_ret2
    exact ⟨_, rfl, HO.out, B3.out⟩
  · rw [if_pos hb]
    generalize badS s at' 0 = q at *
    clear hm hn hok
    go_enter Tryz.func52, Tryz.ntmps52
    go_wp2_with fail
    refine (CK.out).mono ?_
    rintro e w1 ⟨rfl, hB1⟩
    have B1 := Lib.hid hB1
    clear hB1 CK
    go_wp2_with fail
    go_ret2
    exact ⟨_, rfl, OwB.nil _ _, B1.out⟩
end
section
variable {w : World}
/-- append onto an own row: the row lies where it lay, or in a new block. -/
theorem run_appendN (t ty e : TypeId) (i : TypeInfo) (z : Value) (size bytes : Nat) (ht : Tryz.prog.underlying t = some (.slice e)) (hi : Tryz.prog.info? e = some i) (hz : i.zero = some z)
    (hsize : i.size = size) (hby : i.bytes = bytes) (hzs : z.cells.size = size) (hsz : 0 < size)
    (v : Value) (n : Nat) (xs : List Value) (hown : w.ownsRow 0 e size v n xs)
    (a : Addr) (m c : Nat) (news : List Value) (hl : news.length = m * size) (hnews : ∀ j u, news[j]? = some u → w.cell? (a.add j) = some u) (h1 : ∀ u ∈ news, u.oneCell' = true)
    (h63 : n + m ≤ 1000000) (hbytes : (n + m) * bytes ≤ 140737488355328) (hm : 0 < m) :
    ∃ v' w', (Builtin.append_ #[t, t] ty #[v, .slice (some a) m c]).run Tryz.prog w = .ok v' w' ∧ w'.ownsRow 0 e size v' (n + m) (xs ++ news) ∧ w.grownBy w' v.ownBlock ∧
      (v'.ownBlock = v.ownBlock ∨ ∃ b, v'.ownBlock = some b ∧ w.heap.size ≤ b) := by
  obtain ⟨v', w', hr, h2, h3, -⟩ := run_append_own (P := Tryz.prog) w 0 t ty e i z size bytes ht hi hz hsize hby hzs hsz v n xs hown a m c news hl hnews h1 (by unfold maxLen; omega) hbytes (Nat.zero_le _)
  refine ⟨v', w', hr, h2, h3, ?_⟩
  rcases hown.2 with ⟨rfl, rfl⟩ | ⟨g, cap, cur, rfl, hbg, hg, hnc, hcm, hcs, htake⟩
  · obtain rfl : xs = [] := List.eq_nil_of_length_eq_zero (by simpa using hown.1)
    obtain ⟨v2, w2, hr2, h4, -, h5⟩ := run_append_own (P := Tryz.prog) w w.heap.size t ty e i z size bytes ht hi hz hsize hby hzs hsz (.slice none 0 0) 0 [] (World.ownsRow_nil w _ e size) a m c news hl hnews h1 (by unfold maxLen; omega) hbytes (Nat.le_refl _)
    rw [hr] at hr2
    injection hr2 with e1 e2
    subst e1 e2
    rcases h4.2 with ⟨e3, _⟩ | ⟨g, cap, cur, rfl, hbg, _⟩
    · have := (h5.1 e3).2
      omega
    · exact .inr ⟨g, rfl, hbg⟩
  · by_cases hroom : n + m ≤ cap
    · obtain ⟨w2, hr2, -, -⟩ := run_append_fits (P := Tryz.prog) w 0 t ty e i size ht hi hsize g n cap xs hown a m c news hl hnews h1 hroom
      rw [hr] at hr2
      injection hr2 with e1 e2
      subst e1
      exact .inl rfl
    · have holds : ∀ j u, xs[j]? = some u → w.cell? ((⟨g, 0, none⟩ : Addr).add j) = some u := hown.cells (g := g) rfl
      have hr2 := run_append_grow (P := Tryz.prog) w t ty e i z ht hi hz ⟨g, 0, none⟩ n cap xs (by rw [hsize]; exact hown.1) holds a m c news (by rw [hsize]; exact hl) hnews (by omega) (by omega) (growslice_fits (by omega) (by rw [hby]; exact hbytes))
      rw [hr] at hr2
      injection hr2 with e1 e2
      subst e1
      exact .inr ⟨_, rfl, Nat.le_refl _⟩
end
section
variable {ops : Array Oper} {Q : Exit → Act → World → Prop} {w : World}
theorem zero_wr : (Tryz.prog.info? 55).map (fun i => (i.zero, i.size, i.bytes)) = some (some (.agg #[.int .i64 0, .slice none 0 0]), 2, 32) := by kernel_rfl
theorem size_wr : (Tryz.prog.info? 55).map (·.size) = some 2 := by kernel_rfl
/-- append of one pending write, as one operation. -/
theorem exec_appendN {ev : Operand → Value} {o : Oper} (s x : Operand) (ho : o.op = .call { callee := .builtin .append, args := #[s, x], argTypes := #[53, 53] })
    (v : Value) (n : Nat) (vs : List Value) (hs : ev s = v) (hown : w.ownsRow 0 55 2 v n vs) (b : Nat) (us : List Value) (hx : ev x = .slice (some ⟨b, 0, none⟩) 1 1) (hg : w.heap[b]? = some (.cells us.toArray 55 (0, 0))) (hu : us.length = 2) (h1 : ∀ y ∈ us, y.oneCell' = true)
    (hn : n ≤ 1000) :
    ∃ v' w', (execOp ev o).run Tryz.prog w = .ok (.value v') w' ∧ w'.ownsRow 0 55 2 v' (n + 1) (vs ++ us) ∧ w.grownBy w' v.ownBlock ∧ (v'.ownBlock = v.ownBlock ∨ ∃ b, v'.ownBlock = some b ∧ w.heap.size ≤ b) := by
  have hI := zero_wr
  cases hq : Tryz.prog.info? 55 with
  | none => simp [hq] at hI
  | some i0 =>
    simp only [hq, Option.map_some, Option.some.injEq, Prod.mk.injEq] at hI
    obtain ⟨hz0, hz1, hz2⟩ := hI
    have hnews : ∀ j y, us[j]? = some y → w.cell? ((⟨b, 0, none⟩ : Addr).add j) = some y := by
      intro j y hj
      have : (⟨b, 0, none⟩ : Addr).add j = ⟨b, j, none⟩ := by unfold Addr.add; split <;> simp_all
      rw [this, cell_of_row w b _ _ _ (0, 0) hg, List.getElem?_toArray]
      exact hj
    obtain ⟨v', w', hr, h2, h3, h4⟩ := run_appendN (w := w) 53 o.type 55 i0 _ 2 32 Tryz.underlying53 hq hz0 hz1 hz2 rfl (by omega) v n vs hown ⟨b, 0, none⟩ 1 1 us (by omega) hnews h1 (by omega) (by omega) (by omega)
    refine ⟨v', w', ?_, h2, h3, h4⟩
    unfold execOp
    simp only [ho, resolve, invoke, builtin, Sem.run_bind, Sem.run_pure, Result.andThen_ok, List.map_toArray, List.map_cons, List.map_nil, hs, hx, hr]
theorem op_appendN {i : Nat} {K : Act → World → Prop} {a : Act} (d : Option Tmp) (s x : Operand) (hi : (ops[i]?).isSome = true) (hd : (opI ops i).dst = d) (hw : Region.wanted (opI ops i) (yielded ops a.tmps) = true)
    (ho : (opI ops i).op = .call { callee := .builtin .append, args := #[s, x], argTypes := #[53, 53] })
    (v : Value) (n : Nat) (vs : List Value) (hs : a.eval s = v) (hown : w.ownsRow 0 55 2 v n vs) (b : Nat) (us : List Value) (hx : a.eval x = .slice (some ⟨b, 0, none⟩) 1 1) (hg : w.heap[b]? = some (.cells us.toArray 55 (0, 0))) (hu : us.length = 2) (h1 : ∀ y ∈ us, y.oneCell' = true)
    (hn : n ≤ 1000) (h : ∀ v' w', w'.ownsRow 0 55 2 v' (n + 1) (vs ++ us) → w.grownBy w' v.ownBlock → (v'.ownBlock = v.ownBlock ∨ ∃ b, v'.ownBlock = some b ∧ w.heap.size ≤ b) → K (a.put d v') w') : wpOp Tryz.prog ops Q i K a w := by
  obtain ⟨v', w', hr, h2, h3, h4⟩ := exec_appendN (ev := a.eval) (o := opI ops i) s x ho v n vs hs hown b us hx hg hu h1 hn
  exact op_do d v' w' hi hd hw hr (h v' w' h2 h3 h4)
theorem wp_appendN {rest : List Oper} {o : Oper} {a : Act} {ops : Array Oper} (hgd : o.guard = none) (s x : Operand) (ho : o.op = .call { callee := .builtin .append, args := #[s, x], argTypes := #[53, 53] })
    (v : Value) (n : Nat) (vs : List Value) (hs : a.eval s = v) (hown : w.ownsRow 0 55 2 v n vs) (b : Nat) (us : List Value) (hx : a.eval x = .slice (some ⟨b, 0, none⟩) 1 1) (hg : w.heap[b]? = some (.cells us.toArray 55 (0, 0))) (hu : us.length = 2) (h1 : ∀ y ∈ us, y.oneCell' = true)
    (hn : n ≤ 1000) (h : ∀ v' w', w'.ownsRow 0 55 2 v' (n + 1) (vs ++ us) → w.grownBy w' v.ownBlock → (v'.ownBlock = v.ownBlock ∨ ∃ b, v'.ownBlock = some b ∧ w.heap.size ≤ b) → wpList Tryz.prog ops Q rest (a.put o.dst v') w') :
    wpList Tryz.prog ops Q (o :: rest) a w := by
  refine wpList_plain hgd fun K hK => ?_
  obtain ⟨v', w', hr, h2, h3, h4⟩ := exec_appendN (ev := a.eval) (o := o) s x ho v n vs hs hown b us hx hg hu h1 hn
  unfold Oper.wp
  rw [hr]
  exact hK _ _ (h v' w' h2 h3 h4)
end
end Go.Proofs.YtckomifecmemnaaGreat

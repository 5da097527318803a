/- The reference's lists of pages: With, Without. -/
import Derived.Test.YtckomifecmemnaaGreatPsb
import Derived.Test.YtckomifecmemnaaGreatApg
namespace Go.Proofs.YtckomifecmemnaaGreat
open Go.RowKit Dig
set_option linter.unusedVariables false
set_option linter.unusedSimpArgs false

theorem zero_pg : (Tryz.prog.info? 80).map (fun i => (i.zero, i.size, i.bytes)) = some (some (.agg #[.int .i64 0, .slice none 0 0]), 2, 32) := by kernel_rfl
theorem size_pg : (Tryz.prog.info? 80).map (·.size) = some 2 := by kernel_rfl
theorem one_pg (z : Int) (A : Option Addr) (n c : Nat) : ∀ u ∈ [Value.int .i64 z, .slice A n c], u.oneCell' = true := by
  intro u hu
  simp only [List.mem_cons, List.not_mem_nil, or_false] at hu
  rcases hu with rfl | rfl <;> rfl
section
variable {w : World} {ops : Array Oper} {rest : List Oper} {o : Oper} {a : Act} {Q : Exit → Act → World → Prop}
/-- The load of a whole page. -/
theorem wp_loadPg (hgd : o.guard = none) (t : Tmp) (ho : o.op = .load 80 (.tmp t)) (b off : Nat) (cs : List Value) (hx : a.eval (.tmp t) = .pointer (some ⟨b, off, none⟩)) (hr : w.rangeAt b off cs) (hl : cs.length = 2)
    (h : wpList Tryz.prog ops Q rest (a.put o.dst (.agg cs.toArray)) w) : wpList Tryz.prog ops Q (o :: rest) a w := by
  refine wpList_plain hgd fun K hK => ?_
  have hrun := exec_loadC (w := w) (ev := a.eval) (o := o) t Tryz.underlying80 rfl (cs := cs) (by rw [hl]; exact size_pg) hr ho hx
  unfold Oper.wp
  rw [hrun]
  exact hK _ _ h
end
/-- What a loop has laid out: these pages, in a row of its own. -/
def PoE (w : World) (R : Nat → Prop) (wr : World) (out : Value) (es : List PgE) : Prop :=
  wr.ownsRow w.heap.size 80 2 out es.length (pgC es) ∧ (∀ e ∈ es, BytR wr (fun x => MoreR R w wr x ∧ out.ownBlock ≠ some x) e.2 e.1.2) ∧ Below w.heap.size w wr
def POut (w : World) (R : Nat → Prop) (wr : World) (out : Value) (l : List Pg) : Prop := ∃ es : List PgE, es.map (·.1) = l ∧ PoE w R wr out es
section
variable {w wr w5 w6 : World} {R : Nat → Prop} {out v6 v vb : Value} {es : List PgE} {e : PgE} {l : List Pg} {b : List UInt8}
theorem POut.start (w : World) (R : Nat → Prop) : POut w R w (.slice none 0 0) [] := ⟨[], rfl, World.ownsRow_nil w _ _ 2, fun e he => (List.not_mem_nil he).elim, Below.refl _ _⟩
theorem PoE.push (h : PoE w R wr out es) (hB : Below wr.heap.size wr w5)
    (hb : BytR w5 (fun x => MoreR R w w5 x ∧ out.ownBlock ≠ some x) e.2 e.1.2) (ho : w6.ownsRow w.heap.size 80 2 v6 (es.length + 1) (pgC es ++ [Value.int .i64 (e.1.1 : Int), e.2])) (hg : w5.grownBy w6 out.ownBlock)
    (hn : v6.ownBlock = out.ownBlock ∨ ∃ b, v6.ownBlock = some b ∧ w5.heap.size ≤ b) (hR : ∀ b, R b → b < w.heap.size) : PoE w R w6 v6 (es ++ [e]) := by
  obtain ⟨hes, hby, hBw⟩ := h
  have s0 := hBw.size
  have s1 := hB.size
  have s2 := hg.size
  have conv : ∀ x, (MoreR R w w5 x ∧ out.ownBlock ≠ some x) → MoreR R w w6 x ∧ v6.ownBlock ≠ some x := fun x hx => by
    have hlt : x < w5.heap.size := by
      rcases hx.1 with h | h
      · have := hR x h
        omega
      · exact h.2
    refine ⟨hx.1.imp id fun h => ⟨h.1, by omega⟩, fun e => ?_⟩
    rcases hn with h | ⟨k, h, hk⟩
    · exact hx.2 (h.symm.trans e)
    · rw [h] at e
      injection e with e
      omega
  have mv : ∀ e : PgE, BytR w5 (fun x => MoreR R w w5 x ∧ out.ownBlock ≠ some x) e.2 e.1.2 → BytR w6 (fun x => MoreR R w w6 x ∧ v6.ownBlock ≠ some x) e.2 e.1.2 := fun e h =>
    h.keep s2 (fun b hb hx => hg.block b hb fun e => hx.2 e.symm) conv
  refine ⟨?_, fun x hx => ?_, ?_⟩
  · rw [List.length_append, pgC_snoc]
    exact ho
  · rcases List.mem_append.1 hx with hx | hx
    · exact mv x ((hby x hx).keep s1 (fun b hb _ => hB.block b hb) fun y hy => ⟨hy.1.imp id fun h => ⟨h.1, by omega⟩, hy.2⟩)
    · rw [List.mem_singleton.1 hx]
      exact mv e hb
  · have hB5 := below_then hBw hB
    exact hB5.grown hg hB5.size fun k hk => (hes.lt k hk).1
theorem PoE.done (h : PoE w R wr out es) : PgsV wr (MoreR R w wr) out (es.map (·.1)) := by
  obtain ⟨ho, hb, hB⟩ := h
  exact ⟨es, rfl, own_cel ho, fun _ b hv => .inr ⟨(ho.lt b hv).1, (ho.lt b hv).2⟩, fun e he => (hb e he).keep (Nat.le_refl _) (fun _ _ _ => rfl) fun _ h => h.1⟩
/-- New bytes of a call's own, behind the making of one element. -/
theorem PoE.fresh {v5 : Value} (h : PoE w R wr out es) (h5 : OwB wr.heap.size w5 v5 b) (o : Obj) : BytR (w5.alloc o) (fun x => MoreR R w (w5.alloc o) x ∧ out.ownBlock ≠ some x) v5 b := by
  refine ⟨h5.byt.alloc o, fun _ k hk => ?_⟩
  obtain ⟨h1, h2⟩ := h5.block k hk
  have h3 := h.2.2.size
  have h4 := (World.grownBy_alloc w5 o none).size
  exact ⟨.inr ⟨by omega, by omega⟩, fun e => by have := (h.1.lt k e).2; omega⟩
/-- Bytes that were there. -/
theorem PoE.old (h : PoE w R wr out es) (hb : BytR w R vb b) (hR : ∀ b, R b → b < w.heap.size) (o : Obj) : BytR (wr.alloc o) (fun x => MoreR R w (wr.alloc o) x ∧ out.ownBlock ≠ some x) vb b := by
  have hB := h.2.2.alloc h.2.2.size o
  exact hb.keep hB.size (fun k hk _ => hB.block k hk) fun x hx => ⟨.inl hx, fun e => by have := (h.1.lt x e).1; have := hR x hx; omega⟩
set_option maxRecDepth 20000 in
set_option maxHeartbeats 8000000 in
theorem with_c (hl : PgsV w R v l) (hR : ∀ b, R b → b < w.heap.size) (hlen : l.length ≤ 1000) (hb : Byt w vb b) (hbl : b.length ≤ 100000) (no : Nat) (hno : no ≤ 1000000) :
    Calls Tryz.prog 48 #[v, .int .i64 (no : Int), vb] w fun e w' => ∃ r, e = .returned r ∧ PgsV w' (MoreR R w w') r (withS l no b) ∧ Below w.heap.size w w' := by
  have HL := Lib.hid hl
  have HR := Lib.hid hR
  have HVB := Lib.hid hb
  have HBL := Lib.hid hbl
  obtain ⟨A, c, rfl⟩ := hl.form
  obtain ⟨Ab, cb, rfl⟩ := hb.form
  have hli : (l.length : Int) ≤ 1000 := by omega
  have HLE := Lib.hid hlen
  have HWL := Lib.hid (fun j => withP_length no b (l.take j) ([], false))
  clear hl hR hb hbl hlen
  go_enter Tryz.func48, Tryz.ntmps48
  go_wp2_with fail
  go_loopw [7, 8, 9] (fun out dn i wr => ∃ j : Nat, j ≤ l.length ∧ i = .int .i64 j ∧ dn = .bool (withP no b (l.take j)).2 ∧ POut w R wr out (withP no b (l.take j)).1) (fun _ _ i _ => l.length - (intOf i).toNat)
  case atStart => exact ⟨0, Nat.zero_le _, rfl, rfl, POut.start w R⟩
  case round =>
    obtain ⟨j, hj, rfl, rfl, es, hes, hP⟩ := hrel
    have hwl := HWL.out j
    have hesl : es.length ≤ 2000 := by
      have h1 := congrArg List.length hes
      rw [List.length_map] at h1
      unfold withP at h1
      rw [h1]
      have h2 : (l.take j).length ≤ 1000 := by rw [List.length_take]; have := HLE.out; omega
      simp only [List.length_nil] at hwl
      omega
    have LEN := Lib.hid hesl
    have PE := Lib.hid hP
    have BPE := Lib.hid hP.2.2
    have hS2 : withS l no b = if (withP no b l).2 = true then (withP no b l).1 else (withP no b l).1 ++ [(no, b)] := rfl
    clear hwl hesl hP
    by_cases hjm : j < l.length
    · have HJ : (j : Int) < l.length := by omega
      have hT := withP_take no b l hjm
      obtain ⟨b2, ob, vp, rfl, hb2, hrp, hpb⟩ := HL.out.at' hjm
      obtain ⟨p1, e1⟩ : ∃ p, l[j].1 = p := ⟨_, rfl⟩
      obtain ⟨p2, e2⟩ : ∃ p, l[j].2 = p := ⟨_, rfl⟩
      have ep : l[j] = (p1, p2) := by rw [← e1, ← e2]
      rw [e1] at hrp
      rw [e2] at hpb
      rw [ep] at hT
      obtain ⟨Ap, cp, rfl⟩ := hpb.1.form
      have hk0 : w.cell? ⟨b2, ob + j * 2, none⟩ = some (.int .i64 (p1 : Int)) := hrp 0 _ rfl
      have K0 := Lib.hid hk0
      have HB2 := Lib.hid hb2
      have HRP := Lib.hid hrp
      have HPB := Lib.hid hpb
      have kr : wr.cell? ⟨b2, ob + j * 2, none⟩ = some (.int .i64 (p1 : Int)) := by rw [PE.out.2.2.cell (p := ⟨b2, ob + j * 2, none⟩) hb2]; exact hk0
      have HT := Lib.hid hT
      have HES := Lib.hid hes
      clear hT hk0 hb2 hrp hpb ep e1 e2 hS2 hes
      generalize withP no b (l.take j) = S at *
      obtain ⟨S1, S2⟩ := S
      have HES : Hid (es.map (·.1) = S1) := HES
      cases S2 with
      | true =>
        by_cases he : p1 = no
        · have hei : (p1 : Int) = (no : Int) := by omega
          go_wp2_with fail
          go_roundw
          case rel =>
            refine ⟨j + 1, by omega, by go_num, ?_, es, ?_, PE.out⟩
            · rw [HT.out]
              simp [with1, he]
            · rw [HT.out]
              simp [with1, HES.out, he]
          case measure => simp [intOf]; omega
        · have hei : ¬ (p1 : Int) = (no : Int) := by omega
          go_wp2_with (first | ((with_reducible refine wp_loadPg rfl 45 rfl b2 (ob + j * 2) [Value.int .i64 (p1 : Int), .slice Ap p2.length cp] ?hx (range_below HRP.out HB2.out BPE.out) rfl ?_); (case hx => rfl)) | (at_builtin; refine wp_appendG Tryz.underlying76 zero_pg rfl (by omega) rfl _ _ rfl w.heap.size _ _ _ rfl (PE.out.1.alloc _) _ 1 [Value.int .i64 (p1 : Int), .slice Ap p2.length cp] rfl (cel_one _ 80 rfl) (one_pg _ _ _ _) (by have := LEN.out; simp; omega) (by omega) (by omega) (Nat.le_trans PE.out.2.2.size (World.grownBy_alloc _ _ none).size) ?_; intro v7 w7 hv hg hn; have P7 := Lib.hid (PE.out.push (e := ((p1, p2), .slice Ap p2.length cp)) ((Below.refl _ _).alloc (Nat.le_refl _) _) (PE.out.old HPB.out HR.out _) hv hg hn HR.out); clear hv hg hn))
          go_roundw
          case rel =>
            refine ⟨j + 1, by omega, by go_num, ?_, es ++ [((p1, p2), .slice Ap p2.length cp)], ?_, P7.out⟩
            · rw [HT.out]
              simp [with1, he]
            · rw [HT.out]
              simp [with1, HES.out, he]
          case measure => simp [intOf]; omega
      | false =>
        by_cases hge : no ≤ p1
        · have hgi : (p1 : Int) ≥ (no : Int) := by omega
          by_cases he : p1 = no
          · have hei : (p1 : Int) = (no : Int) := by omega
            go_wp2_with (first | ((with_reducible refine wp_noneB rfl rfl ?_); intro w4 hS4 hB4; have o4 := Lib.hid hS4; have B4 := Lib.hid hB4; clear hS4 hB4) | (at_builtin; refine wp_appendB rfl _ _ rfl wr.heap.size _ [] rfl o4.out _ b rfl (HVB.out.below (below_then PE.out.2.2 B4.out)) (by have := HBL.out; simp; omega) B4.out.size ?_; intro v5 w5 hv5 hg5; have hB5 := below_ownB B4.out hg5 o4.out (Nat.le_refl _); have hv5 : OwB wr.heap.size w5 v5 b := hv5; obtain ⟨A5, c5, rfl⟩ := hv5.byt.form; have O5 := Lib.hid hv5; have B5 := Lib.hid hB5; clear hv5 hg5 hB5) | (at_builtin; refine wp_appendG Tryz.underlying76 zero_pg rfl (by omega) rfl _ _ rfl w.heap.size _ _ _ rfl ((own_below PE.out.1 B5.out (Nat.le_refl _)).alloc _) _ 1 [Value.int .i64 (no : Int), .slice A5 b.length c5] rfl (cel_one _ 80 rfl) (one_pg _ _ _ _) (by have := LEN.out; simp; omega) (by omega) (by omega) (Nat.le_trans (below_then PE.out.2.2 B5.out).size (World.grownBy_alloc _ _ none).size) ?_; intro v6 w6 hv hg hn; have P6 := Lib.hid (PE.out.push (e := ((no, b), .slice A5 b.length c5)) (B5.out.alloc B5.out.size _) (PE.out.fresh O5.out _) hv hg hn HR.out); have BP6 := Lib.hid P6.out.2.2; have k6 : w6.cell? ⟨b2, ob + j * 2, none⟩ = some (.int .i64 (p1 : Int)) := (by rw [(P6.out.2.2).cell (p := ⟨b2, ob + j * 2, none⟩) HB2.out]; exact K0.out); clear hv hg hn))
            go_roundw
            case rel =>
              refine ⟨j + 1, by omega, by go_num, ?_, es ++ [((no, b), .slice A5 b.length c5)], ?_, P6.out⟩
              · rw [HT.out]
                simp [with1, he, hge]
              · rw [HT.out]
                simp [with1, HES.out, he, hge]
            case measure => simp [intOf]; omega
          · have hei : ¬ (p1 : Int) = (no : Int) := by omega
            go_wp2_with (first | ((with_reducible refine wp_noneB rfl rfl ?_); intro w4 hS4 hB4; have o4 := Lib.hid hS4; have B4 := Lib.hid hB4; clear hS4 hB4) | (at_builtin; refine wp_appendB rfl _ _ rfl wr.heap.size _ [] rfl o4.out _ b rfl (HVB.out.below (below_then PE.out.2.2 B4.out)) (by have := HBL.out; simp; omega) B4.out.size ?_; intro v5 w5 hv5 hg5; have hB5 := below_ownB B4.out hg5 o4.out (Nat.le_refl _); have hv5 : OwB wr.heap.size w5 v5 b := hv5; obtain ⟨A5, c5, rfl⟩ := hv5.byt.form; have O5 := Lib.hid hv5; have B5 := Lib.hid hB5; clear hv5 hg5 hB5) | (at_builtin; refine wp_appendG Tryz.underlying76 zero_pg rfl (by omega) rfl _ _ rfl w.heap.size _ _ _ rfl ((own_below PE.out.1 B5.out (Nat.le_refl _)).alloc _) _ 1 [Value.int .i64 (no : Int), .slice A5 b.length c5] rfl (cel_one _ 80 rfl) (one_pg _ _ _ _) (by have := LEN.out; simp; omega) (by omega) (by omega) (Nat.le_trans (below_then PE.out.2.2 B5.out).size (World.grownBy_alloc _ _ none).size) ?_; intro v6 w6 hv hg hn; have P6 := Lib.hid (PE.out.push (e := ((no, b), .slice A5 b.length c5)) (B5.out.alloc B5.out.size _) (PE.out.fresh O5.out _) hv hg hn HR.out); have BP6 := Lib.hid P6.out.2.2; have k6 : w6.cell? ⟨b2, ob + j * 2, none⟩ = some (.int .i64 (p1 : Int)) := (by rw [(P6.out.2.2).cell (p := ⟨b2, ob + j * 2, none⟩) HB2.out]; exact K0.out); clear hv hg hn) | ((with_reducible refine wp_loadPg rfl 45 rfl b2 (ob + j * 2) [Value.int .i64 (p1 : Int), .slice Ap p2.length cp] ?hx (range_below HRP.out HB2.out BP6.out) rfl ?_); (case hx => rfl)) | (at_builtin; refine wp_appendG Tryz.underlying76 zero_pg rfl (by omega) rfl _ _ rfl w.heap.size _ _ _ rfl (P6.out.1.alloc _) _ 1 [Value.int .i64 (p1 : Int), .slice Ap p2.length cp] rfl (cel_one _ 80 rfl) (one_pg _ _ _ _) (by have := LEN.out; simp; omega) (by omega) (by omega) (Nat.le_trans P6.out.2.2.size (World.grownBy_alloc _ _ none).size) ?_; intro v7 w7 hv hg hn; have P7 := Lib.hid (P6.out.push (e := ((p1, p2), .slice Ap p2.length cp)) ((Below.refl _ _).alloc (Nat.le_refl _) _) (P6.out.old HPB.out HR.out _) hv hg hn HR.out); clear hv hg hn))
            go_roundw
            case rel =>
              refine ⟨j + 1, by omega, by go_num, ?_, es ++ [((no, b), .slice A5 b.length c5)] ++ [((p1, p2), .slice Ap p2.length cp)], ?_, P7.out⟩
              · rw [HT.out]
                simp [with1, he, hge]
              · rw [HT.out]
                simp [with1, HES.out, he, hge]
            case measure => simp [intOf]; omega
        · have hgi : ¬ (p1 : Int) ≥ (no : Int) := by omega
          by_cases he : p1 = no
          · have hei : (p1 : Int) = (no : Int) := by omega
            exfalso
            omega
          · have hei : ¬ (p1 : Int) = (no : Int) := by omega
            go_wp2_with (first | ((with_reducible refine wp_loadPg rfl 45 rfl b2 (ob + j * 2) [Value.int .i64 (p1 : Int), .slice Ap p2.length cp] ?hx (range_below HRP.out HB2.out BPE.out) rfl ?_); (case hx => rfl)) | (at_builtin; refine wp_appendG Tryz.underlying76 zero_pg rfl (by omega) rfl _ _ rfl w.heap.size _ _ _ rfl (PE.out.1.alloc _) _ 1 [Value.int .i64 (p1 : Int), .slice Ap p2.length cp] rfl (cel_one _ 80 rfl) (one_pg _ _ _ _) (by have := LEN.out; simp; omega) (by omega) (by omega) (Nat.le_trans PE.out.2.2.size (World.grownBy_alloc _ _ none).size) ?_; intro v7 w7 hv hg hn; have P7 := Lib.hid (PE.out.push (e := ((p1, p2), .slice Ap p2.length cp)) ((Below.refl _ _).alloc (Nat.le_refl _) _) (PE.out.old HPB.out HR.out _) hv hg hn HR.out); clear hv hg hn))
            go_roundw
            case rel =>
              refine ⟨j + 1, by omega, by go_num, ?_, es ++ [((p1, p2), .slice Ap p2.length cp)], ?_, P7.out⟩
              · rw [HT.out]
                simp [with1, he, hge]
              · rw [HT.out]
                simp [with1, HES.out, he, hge]
            case measure => simp [intOf]; omega
    · have HJ : ¬ (j : Int) < l.length := by omega
      have e : j = l.length := by omega
      rw [e, List.take_length] at hes ⊢
      have HS2 := Lib.hid hS2
      have HES := Lib.hid hes
      clear e hS2 hes
      generalize withP no b l = S at *
      obtain ⟨S1, S2⟩ := S
      have HES : Hid (es.map (·.1) = S1) := HES
      cases S2 with
      | true =>
        go_wp2_with fail
        go_ret
        refine ⟨_, rfl, ?_, PE.out.2.2⟩
        have hd := PE.out.done
        rw [HES.out] at hd
        rw [HS2.out]
        exact hd
      | false =>
        go_wp2_with (first | ((with_reducible refine wp_noneB rfl rfl ?_); intro w4 hS4 hB4; have o4 := Lib.hid hS4; have B4 := Lib.hid hB4; clear hS4 hB4) | (at_builtin; refine wp_appendB rfl _ _ rfl wr.heap.size _ [] rfl o4.out _ b rfl (HVB.out.below (below_then PE.out.2.2 B4.out)) (by have := HBL.out; simp; omega) B4.out.size ?_; intro v5 w5 hv5 hg5; have hB5 := below_ownB B4.out hg5 o4.out (Nat.le_refl _); have hv5 : OwB wr.heap.size w5 v5 b := hv5; obtain ⟨A5, c5, rfl⟩ := hv5.byt.form; have O5 := Lib.hid hv5; have B5 := Lib.hid hB5; clear hv5 hg5 hB5) | (at_builtin; refine wp_appendG Tryz.underlying76 zero_pg rfl (by omega) rfl _ _ rfl w.heap.size _ _ _ rfl ((own_below PE.out.1 B5.out (Nat.le_refl _)).alloc _) _ 1 [Value.int .i64 (no : Int), .slice A5 b.length c5] rfl (cel_one _ 80 rfl) (one_pg _ _ _ _) (by have := LEN.out; simp; omega) (by omega) (by omega) (Nat.le_trans (below_then PE.out.2.2 B5.out).size (World.grownBy_alloc _ _ none).size) ?_; intro v6 w6 hv hg hn; have P6 := Lib.hid (PE.out.push (e := ((no, b), .slice A5 b.length c5)) (B5.out.alloc B5.out.size _) (PE.out.fresh O5.out _) hv hg hn HR.out); have BP6 := Lib.hid P6.out.2.2; clear hv hg hn))
        go_ret
        refine ⟨_, rfl, ?_, P6.out.2.2⟩
        have hd := P6.out.done
        rw [List.map_append, HES.out] at hd
        rw [HS2.out]
        exact hd

set_option maxRecDepth 20000 in
set_option maxHeartbeats 8000000 in
theorem without_c (hl : PgsV w R v l) (hR : ∀ b, R b → b < w.heap.size) (hlen : l.length ≤ 1000) (no : Nat) (hno : no ≤ 1000000) :
    Calls Tryz.prog 71 #[v, .int .i64 (no : Int)] w fun e w' => ∃ r, e = .returned (.tuple #[r, .bool (decide ((withoutS l no).length < l.length))]) ∧ PgsV w' (MoreR R w w') r (withoutS l no) ∧ Below w.heap.size w w' := by
  have HL := Lib.hid hl
  have HR := Lib.hid hR
  obtain ⟨A, c, rfl⟩ := hl.form
  have hli : (l.length : Int) ≤ 1000 := by omega
  have HLE := Lib.hid hlen
  clear hl hR hlen
  go_enter Tryz.func71, Tryz.ntmps71
  go_wp2_with fail
  go_loopw [6, 7] (fun out i wr => ∃ j : Nat, j ≤ l.length ∧ i = .int .i64 j ∧ POut w R wr out (withoutS (l.take j) no)) (fun _ i _ => l.length - (intOf i).toNat)
  case atStart => exact ⟨0, Nat.zero_le _, rfl, POut.start w R⟩
  case round =>
    obtain ⟨j, hj, rfl, es, hes, hP⟩ := hrel
    have hesl : es.length ≤ 2000 := by
      have h1 := congrArg List.length hes
      rw [List.length_map] at h1
      have h2 := List.length_filter_le (fun p : Pg => decide (p.1 ≠ no)) (l.take j)
      have h3 : (l.take j).length ≤ 1000 := by rw [List.length_take]; have := HLE.out; omega
      unfold withoutS at h1
      omega
    have LEN := Lib.hid hesl
    have PE := Lib.hid hP
    have BPE := Lib.hid hP.2.2
    clear hesl hP
    by_cases hjm : j < l.length
    · have HJ : (j : Int) < l.length := by omega
      have hT : withoutS (l.take (j + 1)) no = withoutS (l.take j) no ++ (if l[j].1 ≠ no then [l[j]] else []) := by
        unfold withoutS
        rw [List.take_add_one, List.getElem?_eq_getElem hjm, List.filter_append]
        congr 1
        by_cases h : l[j].1 = no <;> simp [h]
      obtain ⟨b2, ob, vp, rfl, hb2, hrp, hpb⟩ := HL.out.at' hjm
      obtain ⟨p1, e1⟩ : ∃ p, l[j].1 = p := ⟨_, rfl⟩
      obtain ⟨p2, e2⟩ : ∃ p, l[j].2 = p := ⟨_, rfl⟩
      have ep : l[j] = (p1, p2) := by rw [← e1, ← e2]
      rw [e1] at hrp
      rw [e2] at hpb
      rw [ep] at hT
      obtain ⟨Ap, cp, rfl⟩ := hpb.1.form
      have HB2 := Lib.hid hb2
      have HRP := Lib.hid hrp
      have HPB := Lib.hid hpb
      have kr : wr.cell? ⟨b2, ob + j * 2, none⟩ = some (.int .i64 (p1 : Int)) := by rw [PE.out.2.2.cell (p := ⟨b2, ob + j * 2, none⟩) hb2]; exact hrp 0 _ rfl
      have HT := Lib.hid hT
      have HES := Lib.hid hes
      clear hT hb2 hrp hpb ep e1 e2 hes
      by_cases he : p1 = no
      · have hei : (p1 : Int) = (no : Int) := by omega
        go_wp2_with fail
        go_roundw
        case rel => exact ⟨j + 1, by omega, by go_num, es, by rw [HT.out, HES.out]; simp [he], PE.out⟩
        case measure => simp [intOf]; omega
      · have hei : ¬ (p1 : Int) = (no : Int) := by omega
        go_wp2_with (first | ((with_reducible refine wp_loadPg rfl 24 rfl b2 (ob + j * 2) [Value.int .i64 (p1 : Int), .slice Ap p2.length cp] ?hx (range_below HRP.out HB2.out BPE.out) rfl ?_); (case hx => rfl)) | (at_builtin; refine wp_appendG Tryz.underlying76 zero_pg rfl (by omega) rfl _ _ rfl w.heap.size _ _ _ rfl (PE.out.1.alloc _) _ 1 [Value.int .i64 (p1 : Int), .slice Ap p2.length cp] rfl (cel_one _ 80 rfl) (one_pg _ _ _ _) (by have := LEN.out; simp; omega) (by omega) (by omega) (Nat.le_trans PE.out.2.2.size (World.grownBy_alloc _ _ none).size) ?_; intro v7 w7 hv hg hn; have P7 := Lib.hid (PE.out.push (e := ((p1, p2), .slice Ap p2.length cp)) ((Below.refl _ _).alloc (Nat.le_refl _) _) (PE.out.old HPB.out HR.out _) hv hg hn HR.out); clear hv hg hn))
        go_roundw
        case rel => exact ⟨j + 1, by omega, by go_num, es ++ [((p1, p2), .slice Ap p2.length cp)], by rw [HT.out]; simp [he, HES.out], P7.out⟩
        case measure => simp [intOf]; omega
    · have HJ : ¬ (j : Int) < l.length := by omega
      have e : j = l.length := by omega
      rw [e, List.take_length] at hes
      have HES := Lib.hid hes
      have hel : (es.length : Int) = ((withoutS l no).length : Int) := by rw [← hes, List.length_map]
      have ho := PE.out.1
      obtain ⟨Ao, co, eo⟩ := (own_cel ho).form
      subst eo
      have HDC := Lib.hid (show decide ((withoutS l no).length < l.length) = decide (es.length < l.length) by rw [← hes, List.length_map])
      have hs2000 : (es.length : Int) ≤ 2000 := by have := LEN.out; omega
      clear e hes hel ho
      go_wp2_with fail
      go_ret2
      refine ⟨.slice Ao es.length co, ?_, ?_, PE.out.2.2⟩
      · rw [HDC.out]
        rfl
      · have hd := PE.out.done
        rw [HES.out] at hd
        exact hd
end
end Go.Proofs.YtckomifecmemnaaGreat

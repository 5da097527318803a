/- The reference's EncodeKey. -/
import Derived.Deep.DeepCutAuto
import Derived.Test.YtpbkmkcfhkdjjaaDoorVvh
import Derived.Test.YtpbkmkcfhkdjjaaDoorHkm
namespace Go.Proofs.YtpbkmkcfhkdjjaaDoor
set_option linter.unusedSimpArgs false
open Go.RowKit Dig
set_option linter.unusedVariables false

theorem rangeAt_below {w w' : World} {b o : Nat} {cs : List Value} (h : w.rangeAt b o cs) (hb : b < w.heap.size) (hB : Below w.heap.size w w') : w'.rangeAt b o cs := fun j v hj => (hB.cell (p := ⟨b, o + j, none⟩) hb).trans (h j v hj)
/-- A literal of one byte beside a row of the call's own. -/
def LitB (w : World) (g : Nat) (c : UInt8) (v : Value) : Prop := w.heap[g]? = some (.cells #[.int .u8 (c.toNat : Int)] 5 (0, 0)) ∧ some g ≠ v.ownBlock
section
variable {w w' : World} {base g : Nat} {c : UInt8} {v v' : Value} {ts us : List UInt8}
theorem LitB.lt (h : LitB w g c v) : g < w.heap.size := lt_of_heap h.1
theorem LitB.make (ho : OwB base w v ts) : LitB (w.alloc (.cells #[.int .u8 (c.toNat : Int)] 5)) w.heap.size c v := ⟨heap_alloc_new w _, fun e => by have := (ho.block _ e.symm).2; omega⟩
theorem LitB.alloc (h : LitB w g c v) (o : Obj) : LitB (w.alloc o) g c v := ⟨(heap_alloc_old w _ h.lt).trans h.1, h.2⟩
theorem LitB.byt (h : LitB w g c v) : Byt w (.slice (some ⟨g, 0, none⟩) 1 1) [c] :=
  OwB.byt (base := g) (.inr ⟨g, [], rfl, Nat.le_refl _, show 1 + 0 ≤ maxLen by decide, h.1⟩)
theorem LitB.grown (h : LitB w g c v) (hg : w.grownBy w' v.ownBlock) (ho : OwB base w' v' us) (h1 : us ≠ []) (h2 : us ≠ [c]) : LitB w' g c v' := by
  have hw := (hg.block g h.lt h.2).trans h.1
  refine ⟨hw, fun e => ?_⟩
  rcases ho with ⟨rfl, _⟩ | ⟨g', rest, rfl, _, _, hh⟩
  · simp [Value.ownBlock] at e
  · simp only [Value.ownBlock, Option.some.injEq] at e
    subst e
    rw [hw] at hh
    have h3 := Option.some.inj hh
    injection h3 with h4
    have h5 := congrArg Array.toList h4
    simp only at h5
    have h6 := congrArg List.length h5
    rw [List.length_append, Y_length] at h6
    have h7 : 0 < us.length := List.length_pos_iff.2 h1
    have h8 : us.length = 1 ∧ rest = [] := by
      rw [List.length_singleton] at h6
      exact ⟨by omega, List.eq_nil_of_length_eq_zero (by omega)⟩
    obtain ⟨d, rfl⟩ := List.length_eq_one_iff.1 h8.1
    rw [h8.2] at h5
    refine h2 ?_
    have h9 : (c.toNat : Int) = (d.toNat : Int) := by simpa [Y] using h5
    rw [UInt8.toNat_inj.1 (show d.toNat = c.toNat by omega)]
end
section
variable {ops : Array Oper} {Q : Exit → Act → World → Prop}
theorem op_appendB {i : Nat} {K : Act → World → Prop} {a : Act} {w : World} (d : Option Tmp) (s x : Tmp) (hi : (ops[i]?).isSome = true) (hd : (opI ops i).dst = d)
    (hw : Region.wanted (opI ops i) (yielded ops a.tmps) = true) (ho : (opI ops i).op = .call { callee := .builtin .append, args := #[.tmp s, .tmp x], argTypes := #[33, 33] })
    (base : Nat) (v : Value) (ts : List UInt8) (hs : a.eval (.tmp s) = v) (hown : OwB base w v ts) (u : Value) (us : List UInt8) (hx : a.eval (.tmp x) = u) (hr : Byt w u us) (hb : ts.length + us.length ≤ 1000000) (hbase : base ≤ w.heap.size)
    (h : ∀ v' w', OwB base w' v' (ts ++ us) → w.grownBy w' v.ownBlock → K (a.put d v') w') : wpOp Tryd.prog ops Q i K a w := by
  obtain ⟨v', w', h1, h2, h3⟩ := exec_appendC (w := w) (ev := a.eval) (o := opI ops i) Tryd.underlying33 info_byte rfl (by decide) s x ho base v ts.length (Y ts) hs hown.ownsRow u us.length (Y us) hx hr.cel1 (Y_oneCell us) hb (by decide) hbase
  exact op_do d v' w' hi hd hw h1 (h v' w' (OwB.of_ownsRow (by rw [Y_append, List.length_append]; exact h2)) h3)
theorem op_appendS {i : Nat} {K : Act → World → Prop} {a : Act} {w : World} (d : Option Tmp) (s x : Tmp) (hi : (ops[i]?).isSome = true) (hd : (opI ops i).dst = d)
    (hw : Region.wanted (opI ops i) (yielded ops a.tmps) = true) (ho : (opI ops i).op = .call { callee := .builtin .append, args := #[.tmp s, .tmp x], argTypes := #[33, 9] })
    (base : Nat) (v : Value) (ts : List UInt8) (hs : a.eval (.tmp s) = v) (hown : OwB base w v ts) (us : List UInt8) (hx : a.eval (.tmp x) = .string ⟨us.toArray⟩) (hb : ts.length + us.length ≤ 1000000) (hbase : base ≤ w.heap.size)
    (h : ∀ v' w', OwB base w' v' (ts ++ us) → w.grownBy w' v.ownBlock → K (a.put d v') w') : wpOp Tryd.prog ops Q i K a w := by
  obtain ⟨i0, hq, hz0, hz1, hz2⟩ := info_parts info_byte
  have hsz : (⟨us.toArray⟩ : ByteArray).size = us.length := rfl
  obtain ⟨v', w', h1, h2, h3, _⟩ := Lib.run_append_own_string (P := Tryd.prog) w base 33 9 (opI ops i).type 5 i0 Tryd.underlying33 Tryd.underlying9 hq hz0 hz1 hz2 v ts.length (Y ts) hown.ownsRow ⟨us.toArray⟩ (by rw [hsz]; unfold maxLen; omega) (by rw [hsz]; omega) hbase
  refine op_do d v' w' hi hd hw ?_ (h v' w' (OwB.of_ownsRow (by rw [Y_append, List.length_append]; exact h2)) h3)
  unfold execOp
  simp only [ho, resolve, invoke, builtin, Sem.run_bind, Sem.run_pure, Result.andThen_ok, List.map_toArray, List.map_cons, List.map_nil, hs, hx, h1]
end
theorem ne_zero {us : List UInt8} (h : 2 ∈ us) : us ≠ [0] := fun e => by
  rw [e] at h
  exact absurd (List.mem_singleton.1 h) (by decide)
set_option maxRecDepth 20000 in
set_option maxHeartbeats 8000000 in
theorem rencode_c {w : World} {a : Value} {l : List Vl} (ha : Vls w a l) (hf : Few l) :
    Calls Tryd.prog 24 #[a] w fun e w' => ∃ u, e = .returned u ∧ OwB w.heap.size w' u (encL l) ∧ Below w.heap.size w w' := by
  obtain ⟨A, c, rfl⟩ := ha.form
  have HA := Lib.hid ha
  have HF := Lib.hid hf
  obtain ⟨R, hR⟩ : ∃ r, encL l = r := ⟨_, rfl⟩
  have HR := Lib.hid hR
  rw [hR]
  obtain ⟨n, hn⟩ : ∃ q, l.length = q := ⟨_, rfl⟩
  have HN := Lib.hid hn
  have hli : (n : Int) ≤ 1000 := by have := hf.1; omega
  have HL := Lib.hid (show n ≤ 1000 by omega)
  rw [hn]
  have FV := fun w x h => rvalid_c w x h
  clear ha hf hR hn
  go_enter Tryd.func24, Tryd.ntmps24
  go_wp2_with fail
  go_loopw [3, 4] (fun ov iv wr => ∃ j : Nat, j ≤ n ∧ iv = .int .i64 (j : Int) ∧ OwB w.heap.size wr ov (keyL (l.take j)) ∧ (∀ y ∈ l.take j, vldB y = true) ∧ Below w.heap.size w wr) (fun _ iv _ => n - (intOf iv).toNat)
  case atStart => exact ⟨0, Nat.zero_le _, rfl, OwB.nil _ _, fun y hy => (List.not_mem_nil hy).elim, Below.refl _ _⟩
  case round =>
    obtain ⟨j, hjn, rfl, hO, hV, hB⟩ := hrel
    have BW := Lib.hid hB
    have OW := Lib.hid hO
    have AV := Lib.hid hV
    have NK := Lib.hid hjn
    have LK : Hid ((keyL (l.take j)).length ≤ 70000) := Lib.hid (by
      have h1 := keyL_length (l := l.take j) fun x hx => okV_of (hV x hx) (HF.out.2 x (List.mem_of_mem_take hx)).1
      have h2 : (l.take j).length ≤ j := List.length_take_le _ _
      have := HL.out
      omega)
    clear hB hO hV
    by_cases hj : j < n
    · have HJ : (j : Int) < (n : Int) := by omega
      have HJN := Lib.hid hj
      obtain ⟨x, hx⟩ : ∃ x, l[j]? = some x := ⟨l[j]'(by rw [HN.out]; exact hj), List.getElem?_eq_getElem _⟩
      have HX := Lib.hid hx
      have FX := Lib.hid (HF.out.2 x (List.mem_of_getElem? hx))
      obtain ⟨b1, o1, eA, hb1, hr1⟩ := HA.out.at (j := j) (by rw [HN.out]; exact hj)
      rw [(List.getElem?_eq_some_iff.1 hx).2] at hr1
      subst eA
      have R1 := Lib.hid hr1
      have BB1 := Lib.hid hb1
      have RA := Lib.hid (rangeAt_below hr1 hb1 BW.out)
      clear hr1 hb1 hx
      go_wp2_with (((with_reducible refine wp_loadV rfl 15 rfl b1 (o1 + j * 3) x ?hx RA.out ?_); (case hx => rfl)))
      refine (FV _ x (by have := FX.out.2; omega)).mono ?_
      rintro e w4 ⟨rfl, hB4⟩
      have B4 := Lib.hid (below_then BW.out hB4)
      have O4 := Lib.hid (OW.out.below hB4 (Nat.le_refl _))
      clear hB4
      cases hv : vldB x with
      | false =>
        have E := Lib.hid (show R = [] by
          rw [← HR.out]
          unfold encL
          rw [if_neg]
          intro h
          have := List.all_eq_true.1 h x (List.mem_of_getElem? HX.out)
          rw [hv] at this
          cases this)
        clear hv
        go_wp2_with fail
        go_ret
        exact ⟨_, rfl, by rw [E.out]; exact OwB.nil _ _, B4.out⟩
      | true =>
        have KX := Lib.hid (okV_of hv FX.out.1)
        have HV := Lib.hid hv
        clear hv
        obtain ⟨RR, hRR⟩ : ∃ q, keyL (l.take (j + 1)) = q := ⟨_, rfl⟩
        have HRR := Lib.hid hRR
        have HVV : Hid (∀ y ∈ l.take (j + 1), vldB y = true) := Lib.hid (fun y hy => by
          rw [List.take_add_one, HX.out] at hy
          rcases List.mem_append.1 hy with h | h
          · exact AV.out y h
          · rw [show y = x by simpa using h]
            exact HV.out)
        have KT := Lib.hid (keyL_take HX.out)
        have LT := Lib.hid LK.out
        generalize keyL (l.take j) = ts at *
        clear hRR
        obtain ⟨t, k, s⟩ := x
        have hkx := KX.out
        obtain ⟨hv, h1, h2⟩ := hkx
        dsimp only at h1 h2
        rcases hv with ⟨e1, e2⟩ | ⟨e1, e2, e3, e4⟩
        · obtain rfl : t = 1 := e1
          obtain rfl : s = [] := e2
          have hx := up_bits k h1 h2
          obtain ⟨N, eN⟩ : ∃ N, upI k = N := ⟨_, rfl⟩
          have hN : N < 18446744073709551616 := by
            have := upI_lt h1 h2
            omega
          have BN := Lib.hid (show N < 256 ^ 8 by omega)
          have KE : Hid (ts ++ [1] ++ beW 8 N = RR) := Lib.hid (by
            rw [← HRR.out, KT.out, ← eN, List.append_assoc]
            rfl)
          rw [eN] at hx
          have hNi : (N : Int) < 18446744073709551616 := by omega
          have c0 : w4.cell? ⟨b1, o1 + j * 3, none⟩ = some (.int .i64 1) := (range_cells (rangeAt_below R1.out BB1.out B4.out)).1
          clear h1 h2 eN hN
          go_wp2_with (at_builtin; refine wp_appendB rfl _ _ rfl w.heap.size _ _ rfl (O4.out.alloc _) _ [1] rfl (Byt.one _ _ 1 rfl) (by have := LT.out; simp only [List.length_singleton]; omega) (Nat.le_trans B4.out.size (World.grownBy_alloc _ _ none).size) ?_; intro v5 w5 hv5 hg5; have O5 := Lib.hid hv5; have B5 := Lib.hid ((B4.out.alloc B4.out.size _).grown hg5 (Nat.le_trans B4.out.size (World.grownBy_alloc _ _ none).size) (fun k hk => (O4.out.block k hk).1)); have c1 : w5.cell? ⟨b1, o1 + j * 3 + 1, none⟩ = some (.int .i64 k) := (range_cells (rangeAt_below R1.out BB1.out B5.out)).2.1; clear hv5 hg5)
          clear hx c0 c1
          generalize wr = wr0 at *
          go_loopw [3, 6] (fun ow kv wx => ∃ (m : Nat) (kk : Int), m ≤ 8 ∧ kk = 56 - 8 * (m : Int) ∧ kv = .int .i64 kk ∧ OwB w.heap.size wx ow (ts ++ [1] ++ (beW 8 N).take m) ∧ Below w.heap.size w wx) (fun _ kv _ => (intOf kv + 8).toNat)
          case atStart => exact ⟨0, 56, by omega, by omega, rfl, by rw [List.take_zero, List.append_nil]; exact O5.out, B5.out⟩
          case round =>
            obtain ⟨m, kk, hm, hk, rfl, hOJ, hBJ⟩ := hrel
            have OJ := Lib.hid hOJ
            have BJ := Lib.hid hBJ
            have hlen : (ts ++ [1] ++ (beW 8 N).take m).length ≤ 100000 := by
              have h3 : ((beW 8 N).take m).length ≤ m := List.length_take_le _ _
              have := LT.out
              rw [List.length_append, List.length_append, List.length_singleton]
              omega
            have LJ := Lib.hid hlen
            clear hOJ hBJ hlen
            rcases (by omega : m = 8 ∨ m = 0 ∨ m = 1 ∨ m = 2 ∨ m = 3 ∨ m = 4 ∨ m = 5 ∨ m = 6 ∨ m = 7) with rfl | rfl | rfl | rfl | rfl | rfl | rfl | rfl | rfl
            · obtain rfl : kk = -8 := by omega
              clear hm hk
              go_wp2_with fail
              go_roundw
              case rel =>
                refine ⟨j + 1, by omega, by go_num, ?_, HVV.out, BJ.out⟩
                have h8 := OJ.out
                rw [show (beW 8 N).take 8 = beW 8 N from List.take_of_length_le (by rw [beW_length]; exact Nat.le_refl _), KE.out, ← HRR.out] at h8
                exact h8
              case measure => simp [intOf]; omega
            · obtain rfl : kk = 56 := by omega
              clear hm hk
              have TK := Lib.hid (beW_take 8 N 0 (by omega) BN.out)
              go_wp2_with (at_builtin; refine wp_appendB rfl _ _ rfl w.heap.size _ _ rfl (OJ.out.alloc _) _ [oct (N / 256 ^ (8 - 1 - 0) % 256)] rfl (Byt.one _ _ _ (by rw [oct_toNat (Nat.mod_lt _ (by omega))]; simp only [Nat.reducePow, Nat.reduceSub]; omega)) (by have := LJ.out; simp only [List.length_append, List.length_singleton] at this ⊢; omega) (Nat.le_trans BJ.out.size (World.grownBy_alloc _ _ none).size) ?_; intro v5 w5 hv5 hg5; have O5 := Lib.hid hv5; have B5 := Lib.hid ((BJ.out.alloc BJ.out.size _).grown hg5 (Nat.le_trans BJ.out.size (World.grownBy_alloc _ _ none).size) (fun k hk => (OJ.out.block k hk).1)); clear hv5 hg5)
              go_roundw
              case rel =>
                refine ⟨1, 48, by omega, by omega, by go_num, ?_, B5.out⟩
                have h5 := O5.out
                rw [List.append_assoc, ← TK.out] at h5
                exact h5
              case measure => simp [intOf]
            · obtain rfl : kk = 48 := by omega
              clear hm hk
              have TK := Lib.hid (beW_take 8 N 1 (by omega) BN.out)
              go_wp2_with (at_builtin; refine wp_appendB rfl _ _ rfl w.heap.size _ _ rfl (OJ.out.alloc _) _ [oct (N / 256 ^ (8 - 1 - 1) % 256)] rfl (Byt.one _ _ _ (by rw [oct_toNat (Nat.mod_lt _ (by omega))]; simp only [Nat.reducePow, Nat.reduceSub]; omega)) (by have := LJ.out; simp only [List.length_append, List.length_singleton] at this ⊢; omega) (Nat.le_trans BJ.out.size (World.grownBy_alloc _ _ none).size) ?_; intro v5 w5 hv5 hg5; have O5 := Lib.hid hv5; have B5 := Lib.hid ((BJ.out.alloc BJ.out.size _).grown hg5 (Nat.le_trans BJ.out.size (World.grownBy_alloc _ _ none).size) (fun k hk => (OJ.out.block k hk).1)); clear hv5 hg5)
              go_roundw
              case rel =>
                refine ⟨2, 40, by omega, by omega, by go_num, ?_, B5.out⟩
                have h5 := O5.out
                rw [List.append_assoc, ← TK.out] at h5
                exact h5
              case measure => simp [intOf]
            · obtain rfl : kk = 40 := by omega
              clear hm hk
              have TK := Lib.hid (beW_take 8 N 2 (by omega) BN.out)
              go_wp2_with (at_builtin; refine wp_appendB rfl _ _ rfl w.heap.size _ _ rfl (OJ.out.alloc _) _ [oct (N / 256 ^ (8 - 1 - 2) % 256)] rfl (Byt.one _ _ _ (by rw [oct_toNat (Nat.mod_lt _ (by omega))]; simp only [Nat.reducePow, Nat.reduceSub]; omega)) (by have := LJ.out; simp only [List.length_append, List.length_singleton] at this ⊢; omega) (Nat.le_trans BJ.out.size (World.grownBy_alloc _ _ none).size) ?_; intro v5 w5 hv5 hg5; have O5 := Lib.hid hv5; have B5 := Lib.hid ((BJ.out.alloc BJ.out.size _).grown hg5 (Nat.le_trans BJ.out.size (World.grownBy_alloc _ _ none).size) (fun k hk => (OJ.out.block k hk).1)); clear hv5 hg5)
              go_roundw
              case rel =>
                refine ⟨3, 32, by omega, by omega, by go_num, ?_, B5.out⟩
                have h5 := O5.out
                rw [List.append_assoc, ← TK.out] at h5
                exact h5
              case measure => simp [intOf]
            · obtain rfl : kk = 32 := by omega
              clear hm hk
              have TK := Lib.hid (beW_take 8 N 3 (by omega) BN.out)
              go_wp2_with (at_builtin; refine wp_appendB rfl _ _ rfl w.heap.size _ _ rfl (OJ.out.alloc _) _ [oct (N / 256 ^ (8 - 1 - 3) % 256)] rfl (Byt.one _ _ _ (by rw [oct_toNat (Nat.mod_lt _ (by omega))]; simp only [Nat.reducePow, Nat.reduceSub]; omega)) (by have := LJ.out; simp only [List.length_append, List.length_singleton] at this ⊢; omega) (Nat.le_trans BJ.out.size (World.grownBy_alloc _ _ none).size) ?_; intro v5 w5 hv5 hg5; have O5 := Lib.hid hv5; have B5 := Lib.hid ((BJ.out.alloc BJ.out.size _).grown hg5 (Nat.le_trans BJ.out.size (World.grownBy_alloc _ _ none).size) (fun k hk => (OJ.out.block k hk).1)); clear hv5 hg5)
              go_roundw
              case rel =>
                refine ⟨4, 24, by omega, by omega, by go_num, ?_, B5.out⟩
                have h5 := O5.out
                rw [List.append_assoc, ← TK.out] at h5
                exact h5
              case measure => simp [intOf]
            · obtain rfl : kk = 24 := by omega
              clear hm hk
              have TK := Lib.hid (beW_take 8 N 4 (by omega) BN.out)
              go_wp2_with (at_builtin; refine wp_appendB rfl _ _ rfl w.heap.size _ _ rfl (OJ.out.alloc _) _ [oct (N / 256 ^ (8 - 1 - 4) % 256)] rfl (Byt.one _ _ _ (by rw [oct_toNat (Nat.mod_lt _ (by omega))]; simp only [Nat.reducePow, Nat.reduceSub]; omega)) (by have := LJ.out; simp only [List.length_append, List.length_singleton] at this ⊢; omega) (Nat.le_trans BJ.out.size (World.grownBy_alloc _ _ none).size) ?_; intro v5 w5 hv5 hg5; have O5 := Lib.hid hv5; have B5 := Lib.hid ((BJ.out.alloc BJ.out.size _).grown hg5 (Nat.le_trans BJ.out.size (World.grownBy_alloc _ _ none).size) (fun k hk => (OJ.out.block k hk).1)); clear hv5 hg5)
              go_roundw
              case rel =>
                refine ⟨5, 16, by omega, by omega, by go_num, ?_, B5.out⟩
                have h5 := O5.out
                rw [List.append_assoc, ← TK.out] at h5
                exact h5
              case measure => simp [intOf]
            · obtain rfl : kk = 16 := by omega
              clear hm hk
              have TK := Lib.hid (beW_take 8 N 5 (by omega) BN.out)
              go_wp2_with (at_builtin; refine wp_appendB rfl _ _ rfl w.heap.size _ _ rfl (OJ.out.alloc _) _ [oct (N / 256 ^ (8 - 1 - 5) % 256)] rfl (Byt.one _ _ _ (by rw [oct_toNat (Nat.mod_lt _ (by omega))]; simp only [Nat.reducePow, Nat.reduceSub]; omega)) (by have := LJ.out; simp only [List.length_append, List.length_singleton] at this ⊢; omega) (Nat.le_trans BJ.out.size (World.grownBy_alloc _ _ none).size) ?_; intro v5 w5 hv5 hg5; have O5 := Lib.hid hv5; have B5 := Lib.hid ((BJ.out.alloc BJ.out.size _).grown hg5 (Nat.le_trans BJ.out.size (World.grownBy_alloc _ _ none).size) (fun k hk => (OJ.out.block k hk).1)); clear hv5 hg5)
              go_roundw
              case rel =>
                refine ⟨6, 8, by omega, by omega, by go_num, ?_, B5.out⟩
                have h5 := O5.out
                rw [List.append_assoc, ← TK.out] at h5
                exact h5
              case measure => simp [intOf]
            · obtain rfl : kk = 8 := by omega
              clear hm hk
              have TK := Lib.hid (beW_take 8 N 6 (by omega) BN.out)
              go_wp2_with (at_builtin; refine wp_appendB rfl _ _ rfl w.heap.size _ _ rfl (OJ.out.alloc _) _ [oct (N / 256 ^ (8 - 1 - 6) % 256)] rfl (Byt.one _ _ _ (by rw [oct_toNat (Nat.mod_lt _ (by omega))]; simp only [Nat.reducePow, Nat.reduceSub]; omega)) (by have := LJ.out; simp only [List.length_append, List.length_singleton] at this ⊢; omega) (Nat.le_trans BJ.out.size (World.grownBy_alloc _ _ none).size) ?_; intro v5 w5 hv5 hg5; have O5 := Lib.hid hv5; have B5 := Lib.hid ((BJ.out.alloc BJ.out.size _).grown hg5 (Nat.le_trans BJ.out.size (World.grownBy_alloc _ _ none).size) (fun k hk => (OJ.out.block k hk).1)); clear hv5 hg5)
              go_roundw
              case rel =>
                refine ⟨7, 0, by omega, by omega, by go_num, ?_, B5.out⟩
                have h5 := O5.out
                rw [List.append_assoc, ← TK.out] at h5
                exact h5
              case measure => simp [intOf]
            · obtain rfl : kk = 0 := by omega
              clear hm hk
              have TK := Lib.hid (beW_take 8 N 7 (by omega) BN.out)
              go_wp2_with (at_builtin; refine wp_appendB rfl _ _ rfl w.heap.size _ _ rfl (OJ.out.alloc _) _ [oct (N / 256 ^ (8 - 1 - 7) % 256)] rfl (Byt.one _ _ _ (by rw [oct_toNat (Nat.mod_lt _ (by omega))]; simp only [Nat.reducePow, Nat.reduceSub]; omega)) (by have := LJ.out; simp only [List.length_append, List.length_singleton] at this ⊢; omega) (Nat.le_trans BJ.out.size (World.grownBy_alloc _ _ none).size) ?_; intro v5 w5 hv5 hg5; have O5 := Lib.hid hv5; have B5 := Lib.hid ((BJ.out.alloc BJ.out.size _).grown hg5 (Nat.le_trans BJ.out.size (World.grownBy_alloc _ _ none).size) (fun k hk => (OJ.out.block k hk).1)); clear hv5 hg5)
              go_roundw
              case rel =>
                refine ⟨8, -8, by omega, by omega, by go_num, ?_, B5.out⟩
                have h5 := O5.out
                rw [List.append_assoc, ← TK.out] at h5
                exact h5
              case measure => simp [intOf]
        · obtain rfl : t = 2 := e1
          obtain rfl : k = 0 := e2
          have LS := Lib.hid (show s.length ≤ 64 from e3)
          have KE : Hid (ts ++ [2] ++ s ++ [0] = RR) := Lib.hid (by
            rw [← HRR.out, KT.out, List.append_assoc, List.append_assoc]
            rfl)
          have c0 : w4.cell? ⟨b1, o1 + j * 3, none⟩ = some (.int .i64 2) := (range_cells (rangeAt_below R1.out BB1.out B4.out)).1
          clear h1 h2 e3 e4
          go_upto_region 14 with fail
          clear c0
          refine hk_begin (S := fun W => Below w.heap.size w W) 12 (by kernel_rfl) (by kernel_rfl) ?_
          have O0 : Hid (OwB w.heap.size w4.drew u3 ts) := Lib.hid O4.out
          have B0 : Hid (Below w.heap.size w w4.drew) := Lib.hid B4.out.drew
          generalize w4.drew = wd at *
          clear O4 B4
          refine hk_take (i := 0) (some 47) (u3) (by kernel_rfl) (by kernel_rfl) (by kernel_rfl) (by kernel_rfl) (by kernel_rfl) (by kernel_rfl) (fun W hS => by kernel_rfl) (fun _ _ d _ _ h => by cases d <;> exact h) B0.out ?_
          simp only [put_lit, put_non, List.set_cons_zero, List.set_cons_succ]
          refine hk_take (i := 3) (some 50) (.slice (some ⟨b1, o1, none⟩) n c) (by kernel_rfl) (by kernel_rfl) (by kernel_rfl) (by kernel_rfl) (by kernel_rfl) (by kernel_rfl) (fun W hS => by kernel_rfl) (fun _ _ d _ _ h => by cases d <;> exact h) B0.out ?_
          simp only [put_lit, put_non, List.set_cons_zero, List.set_cons_succ]
          refine hk_take (i := 4) (some 51) (.int .i64 (j : Int)) (by kernel_rfl) (by kernel_rfl) (by kernel_rfl) (by kernel_rfl) (by kernel_rfl) (by kernel_rfl) (fun W hS => by kernel_rfl) (fun _ _ d _ _ h => by cases d <;> exact h) B0.out ?_
          simp only [put_lit, put_non, List.set_cons_zero, List.set_cons_succ]
          refine hk_take (i := 5) (some 52) (.pointer (some ⟨b1, o1 + j * 3, none⟩)) (by kernel_rfl) (by kernel_rfl) (by kernel_rfl) (by kernel_rfl) (by kernel_rfl) (by kernel_rfl) (fun W hS => exec_indexV (b := b1) (off := o1) (n := n) (c := c) (j := j) 50 51 (by kernel_rfl) (by kernel_rfl) (by kernel_rfl) HJN.out) (fun _ _ d _ _ h => by cases d <;> exact h) B0.out ?_
          simp only [put_lit, put_non, List.set_cons_zero, List.set_cons_succ]
          refine hk_take (i := 6) (some 53) (.pointer (some ⟨b1, o1 + j * 3 + 2, none⟩)) (by kernel_rfl) (by kernel_rfl) (by kernel_rfl) (by kernel_rfl) (by kernel_rfl) (by kernel_rfl) (fun W hS => by kernel_rfl) (fun _ _ d _ _ h => by cases d <;> exact h) B0.out ?_
          simp only [put_lit, put_non, List.set_cons_zero, List.set_cons_succ]
          refine hk_take (i := 7) (some 54) (.string ⟨s.toArray⟩) (by kernel_rfl) (by kernel_rfl) (by kernel_rfl) (by kernel_rfl) (by kernel_rfl) (by kernel_rfl) (fun W hS => exec_loadCell 9 (.tmp 53) ⟨b1, o1 + j * 3 + 2, none⟩ _ _ (by kernel_rfl) (by kernel_rfl) (range_cells (rangeAt_below R1.out BB1.out hS)).2.2 Tryd.underlying9 rfl) (fun _ _ d _ _ h => by cases d <;> exact h) B0.out ?_
          simp only [put_lit, put_non, List.set_cons_zero, List.set_cons_succ]
          refine hk_two (i := 1) (j := 9) (by kernel_rfl) ?_ ?_
          · skip
            refine op_do (some 48) (.slice (some ⟨wd.heap.size, 0, none⟩) 1 1) (wd.alloc (.cells #[.int .u8 2] 5)) (by kernel_rfl) (by kernel_rfl) (by kernel_rfl) (exec_litB (.const (.int .u8 2)) 2 2 rfl (by kernel_rfl) (by kernel_rfl)) ?_
            have A1 := Lib.hid (show LitB (wd.alloc (.cells #[.int .u8 2] 5)) wd.heap.size 2 u3 from LitB.make (c := 2) O0.out)
            have O1 := Lib.hid (O0.out.alloc (.cells #[.int .u8 2] 5))
            have B1 := Lib.hid (B0.out.alloc B0.out.size (.cells #[.int .u8 2] 5))
            have g1_e : Hid (∃ q, wd.heap.size = q) := Lib.hid ⟨_, rfl⟩
            generalize wd.alloc (.cells #[.int .u8 2] 5) = w1 at *
            generalize wd.heap.size = g1 at *
            refine ⟨B1.out, ?_⟩
            simp only [put_lit, put_non, List.set_cons_zero, List.set_cons_succ]
            refine hk_two (i := 2) (j := 9) (by kernel_rfl) ?_ ?_
            · skip
              refine op_appendB (some 49) 47 48 (by kernel_rfl) (by kernel_rfl) (by kernel_rfl) (by kernel_rfl) w.heap.size u3 (ts) (by kernel_rfl) O1.out _ [2] (by kernel_rfl) A1.out.byt (by have := LT.out; simp only [List.length_singleton]; omega) B1.out.size fun v2 w2 hv hg => ?_
              have O2 := Lib.hid hv
              have B2 := Lib.hid (B1.out.grown hg B1.out.size (fun k hk => (O1.out.block k hk).1))
              clear hv hg
              refine ⟨B2.out, ?_⟩
              simp only [put_lit, put_non, List.set_cons_zero, List.set_cons_succ]
              refine hk_two (i := 8) (j := 9) (by kernel_rfl) ?_ ?_
              · skip
                refine op_appendS (some 55) 49 54 (by kernel_rfl) (by kernel_rfl) (by kernel_rfl) (by kernel_rfl) w.heap.size v2 (ts ++ [2]) (by kernel_rfl) O2.out s (by kernel_rfl) (by have := LT.out; have := LS.out; simp only [List.length_append, List.length_singleton]; omega) B2.out.size fun v3 w3 hv hg => ?_
                have O3 := Lib.hid hv
                have B3 := Lib.hid (B2.out.grown hg B2.out.size (fun k hk => (O2.out.block k hk).1))
                clear hv hg
                refine ⟨B3.out, ?_⟩
                simp only [put_lit, put_non, List.set_cons_zero, List.set_cons_succ]
                refine hk_one (i := 9) (by kernel_rfl) ?_
                refine op_do (some 56) (.slice (some ⟨w3.heap.size, 0, none⟩) 1 1) (w3.alloc (.cells #[.int .u8 0] 5)) (by kernel_rfl) (by kernel_rfl) (by kernel_rfl) (exec_litB (.const (.int .u8 0)) 0 0 rfl (by kernel_rfl) (by kernel_rfl)) ?_
                have A4 := Lib.hid (show LitB (w3.alloc (.cells #[.int .u8 0] 5)) w3.heap.size 0 v3 from LitB.make (c := 0) O3.out)
                have O4 := Lib.hid (O3.out.alloc (.cells #[.int .u8 0] 5))
                have B4 := Lib.hid (B3.out.alloc B3.out.size (.cells #[.int .u8 0] 5))
                have g4_e : Hid (∃ q, w3.heap.size = q) := Lib.hid ⟨_, rfl⟩
                generalize w3.alloc (.cells #[.int .u8 0] 5) = w4 at *
                generalize w3.heap.size = g4 at *
                refine ⟨B4.out, ?_⟩
                simp only [put_lit, put_non, List.set_cons_zero, List.set_cons_succ]
                refine hk_one (i := 10) (by kernel_rfl) ?_
                refine op_appendB (some 57) 55 56 (by kernel_rfl) (by kernel_rfl) (by kernel_rfl) (by kernel_rfl) w.heap.size v3 (ts ++ [2] ++ s) (by kernel_rfl) O4.out _ [0] (by kernel_rfl) A4.out.byt (by have := LT.out; have := LS.out; simp only [List.length_append, List.length_singleton]; omega) B4.out.size fun v5 w5 hv hg => ?_
                have O5 := Lib.hid hv
                have B5 := Lib.hid (B4.out.grown hg B4.out.size (fun k hk => (O4.out.block k hk).1))
                clear hv hg
                refine ⟨B5.out, ?_⟩
                simp only [put_lit, put_non, List.set_cons_zero, List.set_cons_succ]
                have OE := Lib.hid O5.out
                have BE := Lib.hid B5.out
                refine hk_take (i := 11) (some 3) v5 (by kernel_rfl) (by kernel_rfl) (by kernel_rfl) (by kernel_rfl) (by kernel_rfl) (by kernel_rfl) (fun W hS => by kernel_rfl) (fun _ _ d _ _ h => by cases d <;> exact h) BE.out ?_
                simp only [put_lit, put_non, List.set_cons_zero, List.set_cons_succ]
                refine hk_done (by kernel_rfl) ?_
                go_wp2_with fail
                go_roundw
                case rel =>
                  refine ⟨j + 1, by omega, by go_num, ?_, HVV.out, BE.out⟩
                  have h8 := OE.out
                  rw [KE.out, ← HRR.out] at h8
                  exact h8
                case measure => simp [intOf]; omega
              · skip
                refine op_do (some 56) (.slice (some ⟨w2.heap.size, 0, none⟩) 1 1) (w2.alloc (.cells #[.int .u8 0] 5)) (by kernel_rfl) (by kernel_rfl) (by kernel_rfl) (exec_litB (.const (.int .u8 0)) 0 0 rfl (by kernel_rfl) (by kernel_rfl)) ?_
                have A6 := Lib.hid (show LitB (w2.alloc (.cells #[.int .u8 0] 5)) w2.heap.size 0 v2 from LitB.make (c := 0) O2.out)
                have O6 := Lib.hid (O2.out.alloc (.cells #[.int .u8 0] 5))
                have B6 := Lib.hid (B2.out.alloc B2.out.size (.cells #[.int .u8 0] 5))
                have g6_e : Hid (∃ q, w2.heap.size = q) := Lib.hid ⟨_, rfl⟩
                generalize w2.alloc (.cells #[.int .u8 0] 5) = w6 at *
                generalize w2.heap.size = g6 at *
                refine ⟨B6.out, ?_⟩
                simp only [put_lit, put_non, List.set_cons_zero, List.set_cons_succ]
                refine hk_one (i := 8) (by kernel_rfl) ?_
                refine op_appendS (some 55) 49 54 (by kernel_rfl) (by kernel_rfl) (by kernel_rfl) (by kernel_rfl) w.heap.size v2 (ts ++ [2]) (by kernel_rfl) O6.out s (by kernel_rfl) (by have := LT.out; have := LS.out; simp only [List.length_append, List.length_singleton]; omega) B6.out.size fun v7 w7 hv hg => ?_
                have O7 := Lib.hid hv
                have B7 := Lib.hid (B6.out.grown hg B6.out.size (fun k hk => (O6.out.block k hk).1))
                have A6_7 := Lib.hid (A6.out.grown hg hv (by simp) (ne_zero (by simp)))
                clear hv hg
                refine ⟨B7.out, ?_⟩
                simp only [put_lit, put_non, List.set_cons_zero, List.set_cons_succ]
                refine hk_one (i := 10) (by kernel_rfl) ?_
                refine op_appendB (some 57) 55 56 (by kernel_rfl) (by kernel_rfl) (by kernel_rfl) (by kernel_rfl) w.heap.size v7 (ts ++ [2] ++ s) (by kernel_rfl) O7.out _ [0] (by kernel_rfl) A6_7.out.byt (by have := LT.out; have := LS.out; simp only [List.length_append, List.length_singleton]; omega) B7.out.size fun v8 w8 hv hg => ?_
                have O8 := Lib.hid hv
                have B8 := Lib.hid (B7.out.grown hg B7.out.size (fun k hk => (O7.out.block k hk).1))
                clear hv hg
                refine ⟨B8.out, ?_⟩
                simp only [put_lit, put_non, List.set_cons_zero, List.set_cons_succ]
                have OE := Lib.hid O8.out
                have BE := Lib.hid B8.out
                refine hk_take (i := 11) (some 3) v8 (by kernel_rfl) (by kernel_rfl) (by kernel_rfl) (by kernel_rfl) (by kernel_rfl) (by kernel_rfl) (fun W hS => by kernel_rfl) (fun _ _ d _ _ h => by cases d <;> exact h) BE.out ?_
                simp only [put_lit, put_non, List.set_cons_zero, List.set_cons_succ]
                refine hk_done (by kernel_rfl) ?_
                go_wp2_with fail
                go_roundw
                case rel =>
                  refine ⟨j + 1, by omega, by go_num, ?_, HVV.out, BE.out⟩
                  have h8 := OE.out
                  rw [KE.out, ← HRR.out] at h8
                  exact h8
                case measure => simp [intOf]; omega
            · skip
              refine op_do (some 56) (.slice (some ⟨w1.heap.size, 0, none⟩) 1 1) (w1.alloc (.cells #[.int .u8 0] 5)) (by kernel_rfl) (by kernel_rfl) (by kernel_rfl) (exec_litB (.const (.int .u8 0)) 0 0 rfl (by kernel_rfl) (by kernel_rfl)) ?_
              have A9 := Lib.hid (show LitB (w1.alloc (.cells #[.int .u8 0] 5)) w1.heap.size 0 u3 from LitB.make (c := 0) O1.out)
              have O9 := Lib.hid (O1.out.alloc (.cells #[.int .u8 0] 5))
              have B9 := Lib.hid (B1.out.alloc B1.out.size (.cells #[.int .u8 0] 5))
              have A1_9 := Lib.hid (A1.out.alloc (.cells #[.int .u8 0] 5))
              have g9_e : Hid (∃ q, w1.heap.size = q) := Lib.hid ⟨_, rfl⟩
              generalize w1.alloc (.cells #[.int .u8 0] 5) = w9 at *
              generalize w1.heap.size = g9 at *
              refine ⟨B9.out, ?_⟩
              simp only [put_lit, put_non, List.set_cons_zero, List.set_cons_succ]
              refine hk_one (i := 2) (by kernel_rfl) ?_
              refine op_appendB (some 49) 47 48 (by kernel_rfl) (by kernel_rfl) (by kernel_rfl) (by kernel_rfl) w.heap.size u3 (ts) (by kernel_rfl) O9.out _ [2] (by kernel_rfl) A1_9.out.byt (by have := LT.out; simp only [List.length_singleton]; omega) B9.out.size fun v10 w10 hv hg => ?_
              have O10 := Lib.hid hv
              have B10 := Lib.hid (B9.out.grown hg B9.out.size (fun k hk => (O9.out.block k hk).1))
              have A9_10 := Lib.hid (A9.out.grown hg hv (by simp) (ne_zero (by simp)))
              clear hv hg
              refine ⟨B10.out, ?_⟩
              simp only [put_lit, put_non, List.set_cons_zero, List.set_cons_succ]
              refine hk_one (i := 8) (by kernel_rfl) ?_
              refine op_appendS (some 55) 49 54 (by kernel_rfl) (by kernel_rfl) (by kernel_rfl) (by kernel_rfl) w.heap.size v10 (ts ++ [2]) (by kernel_rfl) O10.out s (by kernel_rfl) (by have := LT.out; have := LS.out; simp only [List.length_append, List.length_singleton]; omega) B10.out.size fun v11 w11 hv hg => ?_
              have O11 := Lib.hid hv
              have B11 := Lib.hid (B10.out.grown hg B10.out.size (fun k hk => (O10.out.block k hk).1))
              have A9_10_11 := Lib.hid (A9_10.out.grown hg hv (by simp) (ne_zero (by simp)))
              clear hv hg
              refine ⟨B11.out, ?_⟩
              simp only [put_lit, put_non, List.set_cons_zero, List.set_cons_succ]
              refine hk_one (i := 10) (by kernel_rfl) ?_
              refine op_appendB (some 57) 55 56 (by kernel_rfl) (by kernel_rfl) (by kernel_rfl) (by kernel_rfl) w.heap.size v11 (ts ++ [2] ++ s) (by kernel_rfl) O11.out _ [0] (by kernel_rfl) A9_10_11.out.byt (by have := LT.out; have := LS.out; simp only [List.length_append, List.length_singleton]; omega) B11.out.size fun v12 w12 hv hg => ?_
              have O12 := Lib.hid hv
              have B12 := Lib.hid (B11.out.grown hg B11.out.size (fun k hk => (O11.out.block k hk).1))
              clear hv hg
              refine ⟨B12.out, ?_⟩
              simp only [put_lit, put_non, List.set_cons_zero, List.set_cons_succ]
              have OE := Lib.hid O12.out
              have BE := Lib.hid B12.out
              refine hk_take (i := 11) (some 3) v12 (by kernel_rfl) (by kernel_rfl) (by kernel_rfl) (by kernel_rfl) (by kernel_rfl) (by kernel_rfl) (fun W hS => by kernel_rfl) (fun _ _ d _ _ h => by cases d <;> exact h) BE.out ?_
              simp only [put_lit, put_non, List.set_cons_zero, List.set_cons_succ]
              refine hk_done (by kernel_rfl) ?_
              go_wp2_with fail
              go_roundw
              case rel =>
                refine ⟨j + 1, by omega, by go_num, ?_, HVV.out, BE.out⟩
                have h8 := OE.out
                rw [KE.out, ← HRR.out] at h8
                exact h8
              case measure => simp [intOf]; omega
          · skip
            refine op_do (some 56) (.slice (some ⟨wd.heap.size, 0, none⟩) 1 1) (wd.alloc (.cells #[.int .u8 0] 5)) (by kernel_rfl) (by kernel_rfl) (by kernel_rfl) (exec_litB (.const (.int .u8 0)) 0 0 rfl (by kernel_rfl) (by kernel_rfl)) ?_
            have A13 := Lib.hid (show LitB (wd.alloc (.cells #[.int .u8 0] 5)) wd.heap.size 0 u3 from LitB.make (c := 0) O0.out)
            have O13 := Lib.hid (O0.out.alloc (.cells #[.int .u8 0] 5))
            have B13 := Lib.hid (B0.out.alloc B0.out.size (.cells #[.int .u8 0] 5))
            have g13_e : Hid (∃ q, wd.heap.size = q) := Lib.hid ⟨_, rfl⟩
            generalize wd.alloc (.cells #[.int .u8 0] 5) = w13 at *
            generalize wd.heap.size = g13 at *
            refine ⟨B13.out, ?_⟩
            simp only [put_lit, put_non, List.set_cons_zero, List.set_cons_succ]
            refine hk_one (i := 1) (by kernel_rfl) ?_
            refine op_do (some 48) (.slice (some ⟨w13.heap.size, 0, none⟩) 1 1) (w13.alloc (.cells #[.int .u8 2] 5)) (by kernel_rfl) (by kernel_rfl) (by kernel_rfl) (exec_litB (.const (.int .u8 2)) 2 2 rfl (by kernel_rfl) (by kernel_rfl)) ?_
            have A14 := Lib.hid (show LitB (w13.alloc (.cells #[.int .u8 2] 5)) w13.heap.size 2 u3 from LitB.make (c := 2) O13.out)
            have O14 := Lib.hid (O13.out.alloc (.cells #[.int .u8 2] 5))
            have B14 := Lib.hid (B13.out.alloc B13.out.size (.cells #[.int .u8 2] 5))
            have A13_14 := Lib.hid (A13.out.alloc (.cells #[.int .u8 2] 5))
            have g14_e : Hid (∃ q, w13.heap.size = q) := Lib.hid ⟨_, rfl⟩
            generalize w13.alloc (.cells #[.int .u8 2] 5) = w14 at *
            generalize w13.heap.size = g14 at *
            refine ⟨B14.out, ?_⟩
            simp only [put_lit, put_non, List.set_cons_zero, List.set_cons_succ]
            refine hk_one (i := 2) (by kernel_rfl) ?_
            refine op_appendB (some 49) 47 48 (by kernel_rfl) (by kernel_rfl) (by kernel_rfl) (by kernel_rfl) w.heap.size u3 (ts) (by kernel_rfl) O14.out _ [2] (by kernel_rfl) A14.out.byt (by have := LT.out; simp only [List.length_singleton]; omega) B14.out.size fun v15 w15 hv hg => ?_
            have O15 := Lib.hid hv
            have B15 := Lib.hid (B14.out.grown hg B14.out.size (fun k hk => (O14.out.block k hk).1))
            have A13_14_15 := Lib.hid (A13_14.out.grown hg hv (by simp) (ne_zero (by simp)))
            clear hv hg
            refine ⟨B15.out, ?_⟩
            simp only [put_lit, put_non, List.set_cons_zero, List.set_cons_succ]
            refine hk_one (i := 8) (by kernel_rfl) ?_
            refine op_appendS (some 55) 49 54 (by kernel_rfl) (by kernel_rfl) (by kernel_rfl) (by kernel_rfl) w.heap.size v15 (ts ++ [2]) (by kernel_rfl) O15.out s (by kernel_rfl) (by have := LT.out; have := LS.out; simp only [List.length_append, List.length_singleton]; omega) B15.out.size fun v16 w16 hv hg => ?_
            have O16 := Lib.hid hv
            have B16 := Lib.hid (B15.out.grown hg B15.out.size (fun k hk => (O15.out.block k hk).1))
            have A13_14_15_16 := Lib.hid (A13_14_15.out.grown hg hv (by simp) (ne_zero (by simp)))
            clear hv hg
            refine ⟨B16.out, ?_⟩
            simp only [put_lit, put_non, List.set_cons_zero, List.set_cons_succ]
            refine hk_one (i := 10) (by kernel_rfl) ?_
            refine op_appendB (some 57) 55 56 (by kernel_rfl) (by kernel_rfl) (by kernel_rfl) (by kernel_rfl) w.heap.size v16 (ts ++ [2] ++ s) (by kernel_rfl) O16.out _ [0] (by kernel_rfl) A13_14_15_16.out.byt (by have := LT.out; have := LS.out; simp only [List.length_append, List.length_singleton]; omega) B16.out.size fun v17 w17 hv hg => ?_
            have O17 := Lib.hid hv
            have B17 := Lib.hid (B16.out.grown hg B16.out.size (fun k hk => (O16.out.block k hk).1))
            clear hv hg
            refine ⟨B17.out, ?_⟩
            simp only [put_lit, put_non, List.set_cons_zero, List.set_cons_succ]
            have OE := Lib.hid O17.out
            have BE := Lib.hid B17.out
            refine hk_take (i := 11) (some 3) v17 (by kernel_rfl) (by kernel_rfl) (by kernel_rfl) (by kernel_rfl) (by kernel_rfl) (by kernel_rfl) (fun W hS => by kernel_rfl) (fun _ _ d _ _ h => by cases d <;> exact h) BE.out ?_
            simp only [put_lit, put_non, List.set_cons_zero, List.set_cons_succ]
            refine hk_done (by kernel_rfl) ?_
            go_wp2_with fail
            go_roundw
            case rel =>
              refine ⟨j + 1, by omega, by go_num, ?_, HVV.out, BE.out⟩
              have h8 := OE.out
              rw [KE.out, ← HRR.out] at h8
              exact h8
            case measure => simp [intOf]; omega
    · have HJ : ¬ (j : Int) < (n : Int) := by omega
      have E := Lib.hid (show R = keyL (l.take j) by
        rw [← HR.out]
        unfold encL
        have e : l.take j = l := List.take_of_length_le (by rw [HN.out]; omega)
        have hv := AV.out
        rw [e] at hv ⊢
        rw [if_pos (List.all_eq_true.2 hv)])
      go_wp2_with fail
      go_ret
      exact ⟨_, rfl, by rw [E.out]; exact OW.out, BW.out⟩
end Go.Proofs.YtpbkmkcfhkdjjaaDoor

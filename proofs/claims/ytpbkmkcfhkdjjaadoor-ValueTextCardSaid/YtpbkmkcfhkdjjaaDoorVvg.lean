/- Package value as landed: EncodeKey. -/
import Derived.Laws.BitsAllLaws
import Derived.Lib.AppendStr
import Derived.Test.YtpbkmkcfhkdjjaaDoorVvf
import Derived.Test.YtpbkmkcfhkdjjaaDoorVlb
namespace Go.Proofs.YtpbkmkcfhkdjjaaDoor
set_option linter.unusedSimpArgs false
open Go.RowKit Dig
set_option linter.unusedVariables false

theorem beW_get : ∀ (k n j : Nat), j < k → n < 256 ^ k → (beW k n)[j]? = some (oct (n / 256 ^ (k - 1 - j) % 256))
  | 0, _, _, hj, _ => absurd hj (by omega)
  | k + 1, n, 0, _, hn => by
    have hp : 0 < 256 ^ k := Nat.pow_pos (by omega)
    rw [Nat.pow_succ] at hn
    have h2 : n / 256 ^ k < 256 := (Nat.div_lt_iff_lt_mul hp).2 (by rw [Nat.mul_comm]; exact hn)
    show some (UInt8.ofNat (n / 256 ^ k)) = _
    rw [show k + 1 - 1 - 0 = k by omega, Nat.mod_eq_of_lt h2]
    rfl
  | k + 1, n, j + 1, hj, hn => by
    have hp : 0 < 256 ^ k := Nat.pow_pos (by omega)
    show (beW k (n % 256 ^ k))[j]? = _
    rw [beW_get k (n % 256 ^ k) j (by omega) (Nat.mod_lt _ hp), show k + 1 - 1 - (j + 1) = k - 1 - j by omega]
    have e : 256 ^ k = 256 ^ (k - 1 - j) * 256 ^ (j + 1) := by rw [← Nat.pow_add, show k - 1 - j + (j + 1) = k by omega]
    rw [e, Nat.mod_mul_right_div_self, Nat.mod_mod_of_dvd _ (by rw [Nat.pow_succ]; exact Nat.dvd_mul_left _ _)]
theorem beW_take (k n j : Nat) (hj : j < k) (hn : n < 256 ^ k) : (beW k n).take (j + 1) = (beW k n).take j ++ [oct (n / 256 ^ (k - 1 - j) % 256)] := by
  rw [List.take_add_one, beW_get k n j hj hn]
  rfl
section
variable {ev : Operand → Value} {o : Oper} {w : World}
/-- append(s, x...), where s is of the call's own, as one operation. -/
theorem exec_appendC {T e : TypeId} {z : Value} {k by' : Nat} (hT : Tryd.prog.underlying T = some (.slice e)) (hI : (Tryd.prog.info? e).map (fun i => (i.zero, i.size, i.bytes)) = some (some z, k, by')) (hz : z.cells.size = k) (hk : 0 < k)
    (s x : Tmp) (ho : o.op = .call { callee := .builtin .append, args := #[.tmp s, .tmp x], argTypes := #[T, T] })
    (base : Nat) (v : Value) (n : Nat) (vs : List Value) (hs : ev (.tmp s) = v) (hown : w.ownsRow base e k v n vs) (u : Value) (m : Nat) (us : List Value) (hx : ev (.tmp x) = u) (hr : Cel w u k m us) (h1 : ∀ y ∈ us, y.oneCell' = true)
    (h63 : n + m ≤ 1000000) (hby : by' ≤ 1000000) (hbase : base ≤ w.heap.size) :
    ∃ v' w', (execOp ev o).run Tryd.prog w = .ok (.value v') w' ∧ w'.ownsRow base e k v' (n + m) (vs ++ us) ∧ w.grownBy w' v.ownBlock := by
  cases hq : Tryd.prog.info? e with
  | none => simp [hq] at hI
  | some i0 =>
    simp [hq] at hI
    obtain ⟨hz0, hz1, hz2⟩ := hI
    obtain ⟨hl, A, c, e1, ⟨hc, hn⟩, hm, hcell⟩ := hr
    cases A with
    | none =>
      have hc0 := hn rfl
      subst hc0
      obtain rfl : m = 0 := by omega
      have hl : us = [] := List.eq_nil_of_length_eq_zero (by omega)
      subst hl
      subst e1
      have hrun := run_append_owned_none (P := Tryd.prog) (w := w) base T o.type e i0 k hT hq v n vs hown
      refine ⟨v, w, ?_, by simpa using hown, World.grownBy.refl w _⟩
      simp [execOp, ho, resolve, invoke, builtin, hs, hx, hrun, Result.andThen]
    | some ad =>
      subst e1
      have hnews : ∀ j y, us[j]? = some y → w.cell? (ad.add j) = some y := by
        intro j y hj
        have hpos : 0 < m := by
          rcases Nat.eq_zero_or_pos m with h0 | h0
          · subst h0
            have := (List.getElem?_eq_some_iff.1 hj).1
            omega
          · exact h0
        obtain ⟨b, off, e2, _, hr⟩ := hcell hpos
        cases e2
        have : (⟨b, off, none⟩ : Addr).add j = ⟨b, off + j, none⟩ := by unfold Addr.add; split <;> simp_all
        rw [this]
        exact hr j y hj
      have hbytes : (n + m) * by' ≤ 140737488355328 := Nat.le_trans (Nat.mul_le_mul h63 hby) (by omega)
      obtain ⟨v', w', hr, h2, h3, h4⟩ := run_append_own (P := Tryd.prog) w base T o.type e i0 z k by' hT hq hz0 hz1 hz2 hz hk v n vs hown ad m c us hl hnews h1 (by unfold maxLen; omega) hbytes hbase
      refine ⟨v', w', ?_, h2, h3⟩
      unfold execOp
      simp only [ho, resolve, invoke, builtin, Sem.run_bind, Sem.run_pure, Result.andThen_ok, List.map_toArray, List.map_cons, List.map_nil, hs, hx, hr]
end
theorem Byt.cel1 {w : World} {v : Value} {ts : List UInt8} (h : Byt w v ts) : Cel w v 1 ts.length (Y ts) := by
  obtain ⟨A, c, e, h1, h2, h3⟩ := h
  refine ⟨by rw [Y_length, Nat.mul_one], A, c, e, h1, h2, fun hp => ?_⟩
  obtain ⟨b, off, e2, hb, hc⟩ := h3 hp
  refine ⟨b, off, e2, hb, fun j u hj => ?_⟩
  have hlt := (List.getElem?_eq_some_iff.1 hj).1
  rw [Y_length] at hlt
  rw [Y_get ts j hlt] at hj
  rw [hc j hlt]
  exact hj
section
variable {ev : Operand → Value} {o : Oper} {w : World}
theorem exec_litB (x : Operand) (c : UInt8) (z : Int) (hz : z = (c.toNat : Int)) (ho : o.op = .buildSlice 33 1 #[(0, x)]) (hx : ev x = .int .u8 z) :
    (execOp ev o).run Tryd.prog w = .ok (.value (.slice (some ⟨w.heap.size, 0, none⟩) 1 1)) (w.alloc (.cells #[.int .u8 z] 5)) := by
  subst hz
  obtain ⟨i0, hi, hz0, hz1, hz2⟩ := info_parts info_byte
  have hr : (Instr.buildSlice 33 1 #[(0, Value.int .u8 (c.toNat : Int))]).run Tryd.prog w = .ok (.slice (some ⟨w.heap.size, 0, none⟩) 1 1) (w.alloc (.cells #[.int .u8 (c.toNat : Int)] 5)) := by
    simp [Instr.buildSlice, run_underlying Tryd.underlying33, sizeOf, typeInfo, hi, newRow, Instr.fill, hz1]
    rw [show (Value.int .u8 (c.toNat : Int)).cells = #[Value.int .u8 (c.toNat : Int)] from rfl, show (Array.range 1) = #[0] from rfl]
    simp
  unfold execOp
  simp only [ho, Sem.run_bind, List.map_toArray, List.map_cons, List.map_nil, hx, hr, Result.andThen_ok, Sem.run_pure]
variable {ops : Array Oper} {rest : List Oper} {a : Act} {Q : Exit → Act → World → Prop} {S : World → Prop}
theorem wkS_appendB {i : Nat} {r : List (Nat × Bool)} (d : Option Tmp) (s x : Tmp) (hi : (ops[i]?).isSome = true) (hd : (opI ops i).dst = d)
    (hw : Region.wanted (opI ops i) (yielded ops a.tmps) = true) (ho : (opI ops i).op = .call { callee := .builtin .append, args := #[.tmp s, .tmp x], argTypes := #[33, 33] })
    (base : Nat) (v : Value) (ts : List UInt8) (hs : a.eval (.tmp s) = v) (hown : OwB base w v ts) (u : Value) (us : List UInt8) (hx : a.eval (.tmp x) = u) (hr : Byt w u us) (hb : ts.length + us.length ≤ 1000000) (hbase : base ≤ w.heap.size)
    (h : ∀ v' w', OwB base w' v' (ts ++ us) → w.grownBy w' v.ownBlock → S w' ∧ wkS Tryd.prog ops Q S r (a.put d v') w') : wkS Tryd.prog ops Q S ((i, false) :: r) a w := by
  obtain ⟨v', w', h1, h2, h3⟩ := exec_appendC (w := w) (ev := a.eval) (o := opI ops i) Tryd.underlying33 info_byte rfl (by decide) s x ho base v ts.length (Y ts) hs hown.ownsRow u us.length (Y us) hx hr.cel1 (Y_oneCell us) hb (by decide) hbase
  have h4 := h v' w' (OwB.of_ownsRow (by rw [Y_append, List.length_append]; exact h2)) h3
  exact wkS_doW d v' hi hd hw h1 h4.1 h4.2
/-- append(s, t...) where t is a string. -/
theorem wp_appendS (hgd : o.guard = none) (s x : Operand) (ho : o.op = .call { callee := .builtin .append, args := #[s, x], argTypes := #[33, 9] })
    (base : Nat) (v : Value) (ts : List UInt8) (hs : a.eval s = v) (hown : OwB base w v ts) (us : List UInt8) (hx : a.eval x = .string ⟨us.toArray⟩) (hb : ts.length + us.length ≤ 70368744177664) (hbase : base ≤ w.heap.size)
    (h : ∀ v' w', OwB base w' v' (ts ++ us) → w.grownBy w' v.ownBlock → wpList Tryd.prog ops Q rest (a.put o.dst v') w') : wpList Tryd.prog ops Q (o :: rest) a w := by
  obtain ⟨i0, hi, hz0, hz1, hz2⟩ := info_parts info_byte
  have hsz : (⟨us.toArray⟩ : ByteArray).size = us.length := rfl
  refine Lib.wpList_append_own_string w hgd s x 33 9 ho base 5 i0 Tryd.underlying33 Tryd.underlying9 hi hz0 hz1 hz2 v ts.length (Y ts) hs hown.ownsRow ⟨us.toArray⟩ hx (by rw [hsz]; unfold maxLen; omega) (by rw [hsz]; omega) hbase fun v' w' h1 h2 _ => h v' w' (OwB.of_ownsRow ?_) h2
  rw [Y_append, List.length_append]
  exact h1
end
/-- Every variable that holds a value goes on to hold it. -/
def KeepV (w w' : World) : Prop := ∀ g x, VarV w g x → VarV w' g x
section
variable {w w1 w2 : World} {base : Nat} {v : Value} {ts : List UInt8}
theorem KeepV.refl (w : World) : KeepV w w := fun _ _ h => h
theorem KeepV.trans (h : KeepV w w1) (h2 : KeepV w1 w2) : KeepV w w2 := fun g x hv => h2 g x (h g x hv)
theorem KeepV.below (h : Below w.heap.size w w1) : KeepV w w1 := fun g x hv => hv.below h
theorem KeepV.alloc (w : World) (o : Obj) : KeepV w (w.alloc o) := KeepV.below (one_below w o)
theorem KeepV.grown (ho : OwB base w v ts) (h : w.grownBy w1 v.ownBlock) : KeepV w w1 := fun g x hv => by
  refine hv.keepB (h.block g hv.lt fun e => ?_)
  unfold VarV at hv
  rcases ho with ⟨rfl, _⟩ | ⟨g', rest, rfl, _, _, hh⟩
  · simp [Value.ownBlock] at e
  · simp only [Value.ownBlock, Option.some.injEq] at e
    subst e
    rw [hv] at hh
    have h2 := Option.some.inj hh
    injection h2 with _ h3
    revert h3
    decide
end
theorem xor63 (X : Nat) (h : X < 18446744073709551616) : X ^^^ 9223372036854775808 = if X < 9223372036854775808 then X + 9223372036854775808 else X - 9223372036854775808 := by
  have e1 : (X ^^^ 9223372036854775808) % 2 ^ 63 = X % 2 ^ 63 := by
    rw [Nat.xor_mod_two_pow]
    simp
  have e2 : (X ^^^ 9223372036854775808) / 2 ^ 63 = X / 2 ^ 63 ^^^ 1 := by
    rw [← Nat.shiftRight_eq_div_pow, ← Nat.shiftRight_eq_div_pow, Nat.shiftRight_xor_distrib]
    rfl
  have h3 := Nat.div_add_mod (X ^^^ 9223372036854775808) (2 ^ 63)
  rw [e1, e2] at h3
  have h4 := Nat.div_add_mod X (2 ^ 63)
  by_cases hx : X < 9223372036854775808
  · have h0 : X / 2 ^ 63 = 0 := by omega
    rw [h0] at h3
    rw [if_pos hx, ← h3, show (0 ^^^ 1 : Nat) = 1 from rfl]
    omega
  · have h0 : X / 2 ^ 63 = 1 := by omega
    rw [h0] at h3
    rw [if_neg hx, ← h3, show (1 ^^^ 1 : Nat) = 0 from rfl]
    omega
theorem wrap_u64 (n : Int) : IntKind.u64.wrap n = n % 18446744073709551616 := by
  unfold IntKind.wrap
  rfl
theorem up_bits (n : Int) (h1 : -9223372036854775808 ≤ n) (h2 : n ≤ 9223372036854775807) : bits .xor .u64 (IntKind.u64.wrap n) 9223372036854775808 = (upI n : Int) := by
  rw [wrap_u64]
  obtain ⟨X, hX⟩ : ∃ X : Nat, n % 18446744073709551616 = (X : Int) := ⟨(n % 18446744073709551616).toNat, by omega⟩
  rw [hX]
  have hx : X < 18446744073709551616 := by omega
  have := u64_xor_nat X 9223372036854775808 hx (by omega)
  refine this.trans ?_
  rw [xor63 X hx]
  unfold upI
  split <;> omega
set_option maxRecDepth 20000 in
set_option maxHeartbeats 8000000 in
theorem appendInt_c {w : World} {base : Nat} {v : Value} {ts : List UInt8} (ho : OwB base w v ts) (hl : ts.length ≤ 1000000) (hbase : base ≤ w.heap.size) (n : Int) (h1 : -9223372036854775808 ≤ n) (h2 : n ≤ 9223372036854775807) :
    Calls Tryd.prog 48 #[v, .int .i64 n] w fun e w' => ∃ u, e = .returned u ∧ OwB base w' u (ts ++ beW 8 (upI n)) ∧ Below base w w' ∧ KeepV w w' := by
  have HO := Lib.hid ho
  have HL := Lib.hid hl
  have HB := Lib.hid hbase
  have hx := up_bits n h1 h2
  obtain ⟨N, eN⟩ : ∃ N, upI n = N := ⟨_, rfl⟩
  have hN : N < 18446744073709551616 := by
    have := upI_lt h1 h2
    omega
  have BN := Lib.hid (show N < 256 ^ 8 by omega)
  have EN := Lib.hid eN
  rw [eN] at hx
  rw [eN]
  have hNi : (N : Int) < 18446744073709551616 := by omega
  clear ho hl hbase h1 h2 eN hN
  go_enter Tryd.func48, Tryd.ntmps48
  go_wp2_with fail
  clear hx
  go_loopw [0, 10] (fun ov jv wr => ∃ j : Nat, j ≤ 8 ∧ jv = .int .i64 (j : Int) ∧ OwB base wr ov (ts ++ (beW 8 N).take j) ∧ Below base w wr ∧ KeepV w wr) (fun _ jv _ => 8 - (intOf jv).toNat)
  case atStart => exact ⟨0, Nat.zero_le _, rfl, by rw [List.take_zero, List.append_nil]; exact HO.out, Below.refl _ _, KeepV.refl _⟩
  case round =>
    obtain ⟨j, hj, rfl, hO, hBr, hKr⟩ := hrel
    have KJ := Lib.hid hKr
    have OJ := Lib.hid hO
    have BJ := Lib.hid hBr
    have ZJ := Lib.hid (Nat.le_trans HB.out hBr.size)
    have hlen : (ts ++ (beW 8 N).take j).length ≤ 1000100 := by
      have h3 : ((beW 8 N).take j).length ≤ j := List.length_take_le _ _
      have := HL.out
      rw [List.length_append]
      omega
    have LJ := Lib.hid hlen
    clear hO hBr hlen hKr
    rcases (by omega : j = 8 ∨ j = 0 ∨ j = 1 ∨ j = 2 ∨ j = 3 ∨ j = 4 ∨ j = 5 ∨ j = 6 ∨ j = 7) with rfl | rfl | rfl | rfl | rfl | rfl | rfl | rfl | rfl
    · clear hj
      go_wp2_with fail
      go_ret
      refine ⟨_, rfl, ?_, BJ.out, KJ.out⟩
      have h8 := OJ.out
      rw [show (beW 8 N).take 8 = beW 8 N from List.take_of_length_le (by rw [beW_length]; exact Nat.le_refl _)] at h8
      exact h8
    · clear hj
      have TK := Lib.hid (beW_take 8 N 0 (by omega) BN.out)
      go_wp2_with (at_builtin; refine wp_appendB rfl _ _ rfl base _ _ rfl (OJ.out.alloc _) _ [oct (N / 256 ^ (8 - 1 - 0) % 256)] rfl (Byt.one _ _ _ (by rw [oct_toNat (Nat.mod_lt _ (by omega))]; simp only [Nat.reducePow, Nat.reduceSub]; omega)) (by have := LJ.out; simp only [List.length_append, List.length_singleton] at this ⊢; omega) (Nat.le_trans ZJ.out (World.grownBy_alloc _ _ none).size) ?_; intro v5 w5 hv5 hg5; have O5 := Lib.hid hv5; have B5 := Lib.hid ((BJ.out.alloc ZJ.out _).grown hg5 (Nat.le_trans ZJ.out (World.grownBy_alloc _ _ none).size) (fun k hk => (OJ.out.block k hk).1)); have K5 := Lib.hid ((KJ.out.trans (KeepV.alloc _ _)).trans (KeepV.grown (OJ.out.alloc _) hg5)); clear hv5 hg5)
      go_roundw
      case rel =>
        refine ⟨1, by omega, by go_num, ?_, B5.out, K5.out⟩
        have h5 := O5.out
        rw [List.append_assoc, ← TK.out] at h5
        exact h5
      case measure => simp [intOf]
    · clear hj
      have TK := Lib.hid (beW_take 8 N 1 (by omega) BN.out)
      go_wp2_with (at_builtin; refine wp_appendB rfl _ _ rfl base _ _ rfl (OJ.out.alloc _) _ [oct (N / 256 ^ (8 - 1 - 1) % 256)] rfl (Byt.one _ _ _ (by rw [oct_toNat (Nat.mod_lt _ (by omega))]; simp only [Nat.reducePow, Nat.reduceSub]; omega)) (by have := LJ.out; simp only [List.length_append, List.length_singleton] at this ⊢; omega) (Nat.le_trans ZJ.out (World.grownBy_alloc _ _ none).size) ?_; intro v5 w5 hv5 hg5; have O5 := Lib.hid hv5; have B5 := Lib.hid ((BJ.out.alloc ZJ.out _).grown hg5 (Nat.le_trans ZJ.out (World.grownBy_alloc _ _ none).size) (fun k hk => (OJ.out.block k hk).1)); have K5 := Lib.hid ((KJ.out.trans (KeepV.alloc _ _)).trans (KeepV.grown (OJ.out.alloc _) hg5)); clear hv5 hg5)
      go_roundw
      case rel =>
        refine ⟨2, by omega, by go_num, ?_, B5.out, K5.out⟩
        have h5 := O5.out
        rw [List.append_assoc, ← TK.out] at h5
        exact h5
      case measure => simp [intOf]
    · clear hj
      have TK := Lib.hid (beW_take 8 N 2 (by omega) BN.out)
      go_wp2_with (at_builtin; refine wp_appendB rfl _ _ rfl base _ _ rfl (OJ.out.alloc _) _ [oct (N / 256 ^ (8 - 1 - 2) % 256)] rfl (Byt.one _ _ _ (by rw [oct_toNat (Nat.mod_lt _ (by omega))]; simp only [Nat.reducePow, Nat.reduceSub]; omega)) (by have := LJ.out; simp only [List.length_append, List.length_singleton] at this ⊢; omega) (Nat.le_trans ZJ.out (World.grownBy_alloc _ _ none).size) ?_; intro v5 w5 hv5 hg5; have O5 := Lib.hid hv5; have B5 := Lib.hid ((BJ.out.alloc ZJ.out _).grown hg5 (Nat.le_trans ZJ.out (World.grownBy_alloc _ _ none).size) (fun k hk => (OJ.out.block k hk).1)); have K5 := Lib.hid ((KJ.out.trans (KeepV.alloc _ _)).trans (KeepV.grown (OJ.out.alloc _) hg5)); clear hv5 hg5)
      go_roundw
      case rel =>
        refine ⟨3, by omega, by go_num, ?_, B5.out, K5.out⟩
        have h5 := O5.out
        rw [List.append_assoc, ← TK.out] at h5
        exact h5
      case measure => simp [intOf]
    · clear hj
      have TK := Lib.hid (beW_take 8 N 3 (by omega) BN.out)
      go_wp2_with (at_builtin; refine wp_appendB rfl _ _ rfl base _ _ rfl (OJ.out.alloc _) _ [oct (N / 256 ^ (8 - 1 - 3) % 256)] rfl (Byt.one _ _ _ (by rw [oct_toNat (Nat.mod_lt _ (by omega))]; simp only [Nat.reducePow, Nat.reduceSub]; omega)) (by have := LJ.out; simp only [List.length_append, List.length_singleton] at this ⊢; omega) (Nat.le_trans ZJ.out (World.grownBy_alloc _ _ none).size) ?_; intro v5 w5 hv5 hg5; have O5 := Lib.hid hv5; have B5 := Lib.hid ((BJ.out.alloc ZJ.out _).grown hg5 (Nat.le_trans ZJ.out (World.grownBy_alloc _ _ none).size) (fun k hk => (OJ.out.block k hk).1)); have K5 := Lib.hid ((KJ.out.trans (KeepV.alloc _ _)).trans (KeepV.grown (OJ.out.alloc _) hg5)); clear hv5 hg5)
      go_roundw
      case rel =>
        refine ⟨4, by omega, by go_num, ?_, B5.out, K5.out⟩
        have h5 := O5.out
        rw [List.append_assoc, ← TK.out] at h5
        exact h5
      case measure => simp [intOf]
    · clear hj
      have TK := Lib.hid (beW_take 8 N 4 (by omega) BN.out)
      go_wp2_with (at_builtin; refine wp_appendB rfl _ _ rfl base _ _ rfl (OJ.out.alloc _) _ [oct (N / 256 ^ (8 - 1 - 4) % 256)] rfl (Byt.one _ _ _ (by rw [oct_toNat (Nat.mod_lt _ (by omega))]; simp only [Nat.reducePow, Nat.reduceSub]; omega)) (by have := LJ.out; simp only [List.length_append, List.length_singleton] at this ⊢; omega) (Nat.le_trans ZJ.out (World.grownBy_alloc _ _ none).size) ?_; intro v5 w5 hv5 hg5; have O5 := Lib.hid hv5; have B5 := Lib.hid ((BJ.out.alloc ZJ.out _).grown hg5 (Nat.le_trans ZJ.out (World.grownBy_alloc _ _ none).size) (fun k hk => (OJ.out.block k hk).1)); have K5 := Lib.hid ((KJ.out.trans (KeepV.alloc _ _)).trans (KeepV.grown (OJ.out.alloc _) hg5)); clear hv5 hg5)
      go_roundw
      case rel =>
        refine ⟨5, by omega, by go_num, ?_, B5.out, K5.out⟩
        have h5 := O5.out
        rw [List.append_assoc, ← TK.out] at h5
        exact h5
      case measure => simp [intOf]
    · clear hj
      have TK := Lib.hid (beW_take 8 N 5 (by omega) BN.out)
      go_wp2_with (at_builtin; refine wp_appendB rfl _ _ rfl base _ _ rfl (OJ.out.alloc _) _ [oct (N / 256 ^ (8 - 1 - 5) % 256)] rfl (Byt.one _ _ _ (by rw [oct_toNat (Nat.mod_lt _ (by omega))]; simp only [Nat.reducePow, Nat.reduceSub]; omega)) (by have := LJ.out; simp only [List.length_append, List.length_singleton] at this ⊢; omega) (Nat.le_trans ZJ.out (World.grownBy_alloc _ _ none).size) ?_; intro v5 w5 hv5 hg5; have O5 := Lib.hid hv5; have B5 := Lib.hid ((BJ.out.alloc ZJ.out _).grown hg5 (Nat.le_trans ZJ.out (World.grownBy_alloc _ _ none).size) (fun k hk => (OJ.out.block k hk).1)); have K5 := Lib.hid ((KJ.out.trans (KeepV.alloc _ _)).trans (KeepV.grown (OJ.out.alloc _) hg5)); clear hv5 hg5)
      go_roundw
      case rel =>
        refine ⟨6, by omega, by go_num, ?_, B5.out, K5.out⟩
        have h5 := O5.out
        rw [List.append_assoc, ← TK.out] at h5
        exact h5
      case measure => simp [intOf]
    · clear hj
      have TK := Lib.hid (beW_take 8 N 6 (by omega) BN.out)
      go_wp2_with (at_builtin; refine wp_appendB rfl _ _ rfl base _ _ rfl (OJ.out.alloc _) _ [oct (N / 256 ^ (8 - 1 - 6) % 256)] rfl (Byt.one _ _ _ (by rw [oct_toNat (Nat.mod_lt _ (by omega))]; simp only [Nat.reducePow, Nat.reduceSub]; omega)) (by have := LJ.out; simp only [List.length_append, List.length_singleton] at this ⊢; omega) (Nat.le_trans ZJ.out (World.grownBy_alloc _ _ none).size) ?_; intro v5 w5 hv5 hg5; have O5 := Lib.hid hv5; have B5 := Lib.hid ((BJ.out.alloc ZJ.out _).grown hg5 (Nat.le_trans ZJ.out (World.grownBy_alloc _ _ none).size) (fun k hk => (OJ.out.block k hk).1)); have K5 := Lib.hid ((KJ.out.trans (KeepV.alloc _ _)).trans (KeepV.grown (OJ.out.alloc _) hg5)); clear hv5 hg5)
      go_roundw
      case rel =>
        refine ⟨7, by omega, by go_num, ?_, B5.out, K5.out⟩
        have h5 := O5.out
        rw [List.append_assoc, ← TK.out] at h5
        exact h5
      case measure => simp [intOf]
    · clear hj
      have TK := Lib.hid (beW_take 8 N 7 (by omega) BN.out)
      go_wp2_with (at_builtin; refine wp_appendB rfl _ _ rfl base _ _ rfl (OJ.out.alloc _) _ [oct (N / 256 ^ (8 - 1 - 7) % 256)] rfl (Byt.one _ _ _ (by rw [oct_toNat (Nat.mod_lt _ (by omega))]; simp only [Nat.reducePow, Nat.reduceSub]; omega)) (by have := LJ.out; simp only [List.length_append, List.length_singleton] at this ⊢; omega) (Nat.le_trans ZJ.out (World.grownBy_alloc _ _ none).size) ?_; intro v5 w5 hv5 hg5; have O5 := Lib.hid hv5; have B5 := Lib.hid ((BJ.out.alloc ZJ.out _).grown hg5 (Nat.le_trans ZJ.out (World.grownBy_alloc _ _ none).size) (fun k hk => (OJ.out.block k hk).1)); have K5 := Lib.hid ((KJ.out.trans (KeepV.alloc _ _)).trans (KeepV.grown (OJ.out.alloc _) hg5)); clear hv5 hg5)
      go_roundw
      case rel =>
        refine ⟨8, by omega, by go_num, ?_, B5.out, K5.out⟩
        have h5 := O5.out
        rw [List.append_assoc, ← TK.out] at h5
        exact h5
      case measure => simp [intOf]
set_option maxRecDepth 20000 in
set_option maxHeartbeats 4000000 in
theorem appendValue_c {w : World} {base : Nat} {v : Value} {ts : List UInt8} (ho : OwB base w v ts) (hl : ts.length ≤ 900000) (hbase : base ≤ w.heap.size) {x : Vl} (hx : okV x) :
    Calls Tryd.prog 38 #[v, vV x] w fun e w' => ∃ u, e = .returned u ∧ OwB base w' u (ts ++ keyV x) ∧ Below base w w' := by
  have HL := Lib.hid hl
  obtain ⟨t, n, s⟩ := x
  obtain ⟨hv, h1, h2⟩ := hx
  dsimp only at h1 h2
  rcases hv with ⟨e1, e2⟩ | ⟨e1, e2, e3, e4⟩
  · obtain rfl : t = 1 := e1
    obtain rfl : s = [] := e2
    have AI := fun w v ts (h : OwB base w v ts) h2 h3 => appendInt_c (w := w) (v := v) (ts := ts) h h2 h3 n (by assumption) (by assumption)
    show Calls Tryd.prog 38 #[v, vV (1, n, [])] w fun e w' => ∃ u, e = .returned u ∧ OwB base w' u (ts ++ 1 :: beW 8 (upI n)) ∧ Below base w w'
    have HO := Lib.hid ho
    have HB := Lib.hid hbase
    clear ho hl hbase h1 h2
    go_enter Tryd.func38, Tryd.ntmps38
    go_wp2_with (((with_reducible refine wp_boxV 3 rfl rfl 1 rfl (1, n, []) ?hx ?_); (case hx => rfl); intro w1 hv hb; have V3 := Lib.hid hv; have B3 := Lib.hid hb; clear hv hb; have c0 : w1.cell? ⟨w.heap.size, 0, none⟩ = some (.int .i64 1) := V3.out.cells.1))
    clear c0
    have O1 := Lib.hid (HO.out.below B3.out (Nat.le_refl _))
    have Z1 := Lib.hid (Nat.le_trans HB.out B3.out.size)
    have BB1 := Lib.hid (B3.out.mono HB.out)
    refine wp_region_plan (S := fun W => VarV W w.heap.size (1, n, [])) [(0, true), (3, true), (4, true), (1, false), (2, false), (5, false), (6, true)] (by kernel_rfl) (by kernel_rfl) (by kernel_rfl) (by kernel_rfl) (fun _ _ d _ _ h => by cases d <;> exact h) V3.out ?_
    have Vd : Hid (VarV w1.drew w.heap.size (1, n, [])) := Lib.hid V3.out
    have Od : Hid (OwB base w1.drew v ts) := Lib.hid O1.out
    have Zd : Hid (base ≤ w1.drew.heap.size) := Lib.hid Z1.out
    have Bd : Hid (Below base w w1.drew) := Lib.hid BB1.out.drew
    clear V3 B3 O1 Z1 BB1
    generalize w1.drew = wd at *
    refine wkS_take (some 8) v (by kernel_rfl) (by kernel_rfl) (by kernel_rfl) (fun W hS => by kernel_rfl) ?_
    simp only [put_lit, put_non, List.set_cons_zero, List.set_cons_succ]
    refine wkS_take (some 11) (.pointer (some ⟨w.heap.size, 1, none⟩)) (by kernel_rfl) (by kernel_rfl) (by kernel_rfl) (fun W hS => by kernel_rfl) ?_
    simp only [put_lit, put_non, List.set_cons_zero, List.set_cons_succ]
    refine wkS_take (some 12) (.int .i64 n) (by kernel_rfl) (by kernel_rfl) (by kernel_rfl) (fun W hS => exec_loadCell 2 (.tmp 11) ⟨w.heap.size, 1, none⟩ _ _ (by kernel_rfl) (by kernel_rfl) hS.cells.2.1 Tryd.underlying2 rfl) ?_
    simp only [put_lit, put_non, List.set_cons_zero, List.set_cons_succ]
    refine wkS_doW (some 9) (.slice (some ⟨wd.heap.size, 0, none⟩) 1 1) (by kernel_rfl) (by kernel_rfl) (by kernel_rfl) (exec_litB (.const (.int .u8 1)) 1 1 rfl (by kernel_rfl) (by kernel_rfl)) (Vd.out.below (one_below wd _)) ?_
    simp only [put_lit, put_non, List.set_cons_zero, List.set_cons_succ]
    refine wkS_appendB (some 10) 8 9 (by kernel_rfl) (by kernel_rfl) (by kernel_rfl) (by kernel_rfl) base v ts (by kernel_rfl) (Od.out.alloc _) _ [1] (by kernel_rfl) (Byt.one _ _ 1 rfl) (by have := HL.out; simp only [List.length_singleton]; omega) (Nat.le_trans Zd.out (one_below wd _).size) fun v5 w5 hO5 hG5 => ?_
    have V5 := Lib.hid (KeepV.grown (Od.out.alloc _) hG5 _ _ (Vd.out.below (one_below wd (.cells #[.int .u8 1] 5))))
    have BB5 := Lib.hid (Bd.out.trans (((one_below wd (.cells #[.int .u8 1] 5)).mono Zd.out).grown hG5 (Nat.le_trans Zd.out (one_below wd _).size) (fun k hk => (Od.out.block k hk).1)))
    have O5 := Lib.hid hO5
    refine ⟨V5.out, ?_⟩
    simp only [put_lit, put_non, List.set_cons_zero, List.set_cons_succ]
    refine wkS_call (some 13) 48 #[v5, .int .i64 n] (by kernel_rfl) (by kernel_rfl) (by kernel_rfl) (fun w => (by kernel_rfl)) ?_
    refine (AI _ _ _ O5.out (by have := HL.out; simp only [List.length_append, List.length_singleton]; omega) (Nat.le_trans HB.out BB5.out.size)).mono ?_
    rintro e w6 ⟨u6, rfl, hO6, hB6, hK6⟩
    refine ⟨_, rfl, hK6 _ _ V5.out, ?_⟩
    have O6 := Lib.hid hO6
    have BB6 := Lib.hid (BB5.out.trans hB6)
    clear hO6 hB6 hK6 hO5 hG5 AI
    simp only [put_lit, put_non, List.set_cons_zero, List.set_cons_succ]
    refine wkS_take (some 4) u6 (by kernel_rfl) (by kernel_rfl) (by kernel_rfl) (fun W hS => by kernel_rfl) ?_
    simp only [put_lit, put_non, List.set_cons_zero, List.set_cons_succ]
    refine wkS_done ?_
    go_wp2_with fail
    go_ret
    refine ⟨_, rfl, ?_, BB6.out⟩
    have := O6.out
    rw [List.append_assoc] at this
    exact this
  · obtain rfl : t = 2 := e1
    obtain rfl : n = 0 := e2
    have L3 := Lib.hid (show s.length ≤ 64 from e3)
    show Calls Tryd.prog 38 #[v, vV (2, 0, s)] w fun e w' => ∃ u, e = .returned u ∧ OwB base w' u (ts ++ 2 :: (s ++ [0])) ∧ Below base w w'
    have HO := Lib.hid ho
    have HB := Lib.hid hbase
    clear ho hl hbase h1 h2 e3 e4
    go_enter Tryd.func38, Tryd.ntmps38
    go_wp2_with (first | ((with_reducible refine wp_boxV 3 rfl rfl 1 rfl (2, 0, s) ?hx ?_); (case hx => rfl); intro w1 hv hb; have V3 := Lib.hid hv; have B3 := Lib.hid hb; clear hv hb; have c0 : w1.cell? ⟨w.heap.size, 0, none⟩ = some (.int .i64 2) := V3.out.cells.1; have O1 := Lib.hid (HO.out.below B3.out (Nat.le_refl _)); have Z1 := Lib.hid (Nat.le_trans HB.out B3.out.size); have BB1 := Lib.hid (B3.out.mono HB.out)) | (at_builtin; refine wp_appendB rfl (.tmp 14) (.tmp 15) rfl base _ ts rfl (O1.out.alloc _) _ [2] rfl (Byt.one _ _ 2 rfl) (by have := HL.out; simp only [List.length_singleton]; omega) (Nat.le_trans Z1.out (one_below w1 _).size) ?_; intro v5 w5 hO5 hG5; have V5 := Lib.hid (KeepV.grown (O1.out.alloc _) hG5 _ _ (V3.out.below (one_below w1 (.cells #[.int .u8 2] 5)))); have BB5 := Lib.hid (BB1.out.trans (((one_below w1 (.cells #[.int .u8 2] 5)).mono Z1.out).grown hG5 (Nat.le_trans Z1.out (one_below w1 _).size) (fun k hk => (O1.out.block k hk).1))); have O5 := Lib.hid hO5; have c2 : w5.cell? ⟨w.heap.size, 2, none⟩ = some (.string ⟨s.toArray⟩) := V5.out.cells.2.2; clear hO5 hG5) | (at_builtin; refine wp_appendS rfl (.tmp 17) (.tmp 19) rfl base _ (ts ++ [2]) rfl O5.out s rfl (by have := HL.out; have := L3.out; simp only [List.length_append, List.length_singleton]; omega) (Nat.le_trans HB.out BB5.out.size) ?_; intro v6 w6 hO6 hG6; have O6 := Lib.hid hO6; have BB6 := Lib.hid (BB5.out.trans (((Below.refl base w5)).grown hG6 (Nat.le_trans HB.out BB5.out.size) (fun k hk => (O5.out.block k hk).1))); clear hO6 hG6 c2) | (at_builtin; refine wp_appendB rfl (.tmp 21) (.tmp 22) rfl base _ (ts ++ [2] ++ s) rfl (O6.out.alloc _) _ [0] rfl (Byt.one _ _ 0 rfl) (by have := HL.out; have := L3.out; simp only [List.length_append, List.length_singleton]; omega) (Nat.le_trans (Nat.le_trans HB.out BB6.out.size) (one_below w6 _).size) ?_; intro v7 w7 hO7 hG7; have O7 := Lib.hid hO7; have BB7 := Lib.hid (BB6.out.trans (((one_below w6 (.cells #[.int .u8 0] 5)).mono (Nat.le_trans HB.out BB6.out.size)).grown hG7 (Nat.le_trans (Nat.le_trans HB.out BB6.out.size) (one_below w6 _).size) (fun k hk => (O6.out.block k hk).1))); clear hO7 hG7))
    go_ret
    refine ⟨_, rfl, ?_, BB7.out⟩
    have := O7.out
    rw [List.append_assoc, List.append_assoc] at this
    exact this
end Go.Proofs.YtpbkmkcfhkdjjaaDoor

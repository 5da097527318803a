/- The contract of appendGroup: nine decimal digits more. -/
import Derived.WalkSpells
import Derived.Test.YtkdnmmbnljaahaaMuls
import Derived.Test.YtkdnmmbnljaahaaAdds
namespace Go.Proofs.Ytkdnmmbnljaahaa
open Go.RowKit Dig
set_option linter.unusedVariables false

namespace Dig
def GroupRel (xs zs : List Nat) (p k c : Nat) : Prop :=
  zs.length = xs.length ∧ Small zs ∧ (∀ j, k ≤ j → zs.getD j 0 = xs.getD j 0) ∧ val (zs.take k) + 4294967296 ^ k * c = val (xs.take k) * 1000000000 + p ∧ c < 1000000000
theorem GroupRel.start (xs : List Nat) (p : Nat) (hs : Small xs) (hp : p < 1000000000) : GroupRel xs xs p 0 p := ⟨rfl, hs, fun _ _ => rfl, by simp [val], hp⟩
theorem GroupRel.step {xs zs : List Nat} {p k c x : Nat} (h : GroupRel xs zs p k c) (hk : k < xs.length) (hx : zs.getD k 0 = x) (hxb : x < 4294967296) :
    GroupRel xs (zs.set k ((c + x * 1000000000) % 4294967296)) p (k + 1) ((c + x * 1000000000) / 4294967296) := by
  obtain ⟨hl, hs, ha, hv, hc⟩ := h
  refine ⟨by simpa using hl, hs.set _ _ (Nat.mod_lt _ (by omega)), fun j hj => ?_, ?_, by omega⟩
  · rw [getD_set_ne _ _ _ _ (by omega)]
    exact ha j (by omega)
  · rw [take_set_succ _ _ _ (by omega), val_take_succ xs k hk, ← ha k (Nat.le_refl _), hx, Nat.pow_succ, Nat.mul_assoc, Nat.add_assoc, ← Nat.mul_add, Nat.mod_add_div, Nat.mul_add, Nat.add_mul, Nat.mul_assoc]
    omega
theorem GroupRel.done {xs zs : List Nat} {p c : Nat} (h : GroupRel xs zs p xs.length c) : val zs + 4294967296 ^ xs.length * c = val xs * 1000000000 + p ∧ zs.length = xs.length ∧ Small zs ∧ c < 1000000000 := by
  obtain ⟨hl, hs, ha, hv, hc⟩ := h
  rw [List.take_of_length_le (by omega), List.take_of_length_le (Nat.le_refl _)] at hv
  exact ⟨hv, hl, hs, hc⟩
end Dig

theorem Num.one (w : World) (a : Nat) (x : Int) (ha : a < 4294967296) (hx : x = (a : Int)) : Num (w.alloc (.cells #[.int .u32 x] 61)) (.slice (some ⟨w.heap.size, 0, none⟩) 1 1) [a] := by
  subst hx
  have : Own w.heap.size (w.alloc (.cells #[.int .u32 (a : Int)] 61)) (.slice (some ⟨w.heap.size, 0, none⟩) 1 1) [a] := by
    refine ⟨fun d hd => ?_, .inr ⟨w.heap.size, [], rfl, Nat.le_refl _, by unfold maxLen; simp, ?_⟩⟩
    · simp at hd; omega
    · unfold Seg
      rw [heap_alloc_new]
      simp [U]
  exact this.num
theorem Own.alloc {base : Nat} {w : World} {v : Value} {xs : List Nat} (h : Own base w v xs) (o : Obj) : Own base (w.alloc o) v xs := h.below ((Below.refl w.heap.size _).alloc (Nat.le_refl _) o) (Nat.le_refl _)
theorem grown_after_alloc {w w' : World} {o : Obj} {row : Option Nat} (h : (w.alloc o).grownBy w' row) : w.grownBy w' row :=
  ⟨h.os, h.tape, h.output, Nat.le_trans (by simp) h.size, fun k hk hne => (h.block k (by simp; omega) hne).trans (Below.heap_alloc w o k hk)⟩
theorem grown_trans {a b c : World} {row : Option Nat} (h : a.grownBy b row) (k : b.grownBy c row) : a.grownBy c row :=
  ⟨k.os.trans h.os, k.tape.trans h.tape, k.output.trans h.output, Nat.le_trans h.size k.size, fun i hi hne => (k.block i (Nat.lt_of_lt_of_le hi h.size) hne).trans (h.block i hi hne)⟩

/-- What appendGroup leaves. -/
def Grouped (w : World) (base : Nat) (v : Value) (n len : Nat) (e : Ending) (w' : World) : Prop :=
  ∃ r zs, e = .returned r ∧ Own base w' r zs ∧ val zs = n ∧ zs.length ≤ len + 1 ∧ w.grownBy w' v.ownBlock



end Go.Proofs.Ytkdnmmbnljaahaa

/- The contract of Parse. -/
namespace Go.Proofs.Ytkdnmmbnljaahaa
open Go.RowKit Dig
set_option linter.unusedVariables false

theorem wp_make0 {w : World} {ops : Array Oper} {rest : List Oper} {o : Oper} {a : Act} {Q : Exit → Act → World → Prop} (hg : o.guard = none) (l c : Operand) (hop : o.op = Op.makeSlice 25 l c) (C : Int) (n : Nat)
    (hl : a.eval l = .int .i64 0) (hc : a.eval c = .int .i64 C) (hC : C = (n : Int)) (hn : n ≤ 35184372088832)
    (hK : ∀ w' v, Own w.heap.size w' v [] → Below w.heap.size w w' → wpList Try.prog ops Q rest (a.put o.dst v) w') :
    wpList Try.prog ops Q (o :: rest) a w := by
  obtain ⟨i0, hi, hz0, hz1, hz2⟩ := info_parts info_digit
  refine wpList_make_own w hg l c 25 hop w.heap.size 61 i0 (.int .u32 0) 1 Try.underlying25 hi hz0 hz1 .i64 .i64 C n hl hc hC (by rw [hz2]; omega) (by unfold maxLen; omega) (Nat.le_refl _) ?_
  intro w' h1 h2
  exact hK w' _ (Own.of_ownsRow h1 Small.nil) ((Below.refl _ _).grown h2 (Nat.le_refl _) (fun k e => by cases e))

theorem chars_extract (s : ByteArray) (a b : Nat) : chars (s.extract a b) = ((chars s).drop a).take (b - a) := by
  unfold chars
  simp [ByteArray.data_extract]



/-- Parse hands back a number of its own. -/
def RParse (w : World) (n : Nat) (e : Ending) (w' : World) : Prop := ∃ r, e = .returned (.tuple #[r, .int .i64 0]) ∧ Own w.heap.size w' r (dg n) ∧ Below w.heap.size w w'

end Go.Proofs.Ytkdnmmbnljaahaa

/- The contract of Format. -/
namespace Go.Proofs.Ytkdnmmbnljaahaa
open Go.RowKit Dig
set_option linter.unusedVariables false

/-- Letters as values. -/
def V (ts : List UInt8) : List Value := ts.map fun (c : UInt8) => Value.int .u8 (c.toNat : Int)
theorem V_length (ts : List UInt8) : (V ts).length = ts.length := by simp [V]
theorem V_get (ts : List UInt8) (j : Nat) (h : j < ts.length) : (V ts)[j]? = some (.int .u8 ((ts.getD j 0).toNat : Int)) := by
  simp [V, List.getD_eq_getElem?_getD, List.getElem?_eq_getElem h]

/-- Block g holds just these letters. -/
def Let (w : World) (g : Nat) (ts : List UInt8) : Prop := w.heap[g]? = some (.cells (V ts).toArray 5 (0, 0))
section
variable {w w' : World} {g : Nat} {ts : List UInt8}
theorem Let.lt (h : Let w g ts) : g < w.heap.size := by
  rcases Nat.lt_or_ge g w.heap.size with hlt | hge
  · exact hlt
  · unfold Let at h; rw [Array.getElem?_eq_none hge] at h; cases h
theorem Let.frozen (h : Let w g ts) (i : Nat) : w.frozen? ⟨g, i, none⟩ = false := by
  unfold Let at h
  simp [World.frozen?, h]
theorem Let.cell (h : Let w g ts) {j : Nat} (hj : j < ts.length) : w.cell? ⟨g, j, none⟩ = some (.int .u8 ((ts.getD j 0).toNat : Int)) := by
  rw [cell_of_row w g _ _ _ (0, 0) h, List.getElem?_toArray]
  exact V_get ts j hj
theorem Let.put (h : Let w g ts) (j : Nat) (c : UInt8) (q : Int) (hq : q = (c.toNat : Int)) : Let (w.setCell ⟨g, j, none⟩ (.int .u8 q)) g (ts.set j c) := by
  subst hq
  unfold Let at h ⊢
  simp only [World.setCell, Array.getElem?_modify, h]
  simp [V, List.map_set]
theorem Let.of_block (h : Let w g ts) (e : w'.heap[g]? = w.heap[g]?) : Let w' g ts := by
  unfold Let at h ⊢
  rw [e]
  exact h
theorem Let.grown {row : Option Nat} (h : Let w g ts) (hb : w.grownBy w' row) (hg : some g ≠ row) : Let w' g ts := h.of_block (hb.block g h.lt hg)
theorem Own.ne_let {base : Nat} {v : Value} {xs : List Nat} (h : Own base w v xs) (k : Let w g ts) : some g ≠ v.ownBlock := by
  obtain ⟨_, h⟩ := h
  rcases h with ⟨rfl, _⟩ | ⟨g', rest, rfl, _, _, hseg⟩
  · simp [Value.ownBlock]
  · intro e
    simp [Value.ownBlock] at e
    subst e
    unfold Let at k
    unfold Seg at hseg
    rw [k] at hseg
    injection hseg with e1
    injection e1 with _ e2
    cases e2
theorem Own.setFar {base : Nat} {v : Value} {xs : List Nat} (h : Own base w v xs) (hne : some g ≠ v.ownBlock) (i : Nat) (u : Value) : Own base (w.setCell ⟨g, i, none⟩ u) v xs := by
  obtain ⟨hs, h⟩ := h
  refine ⟨hs, ?_⟩
  rcases h with h | ⟨g', rest, e, hg, hm, hseg⟩
  · exact .inl h
  · refine .inr ⟨g', rest, e, hg, hm, hseg.far (p := ⟨g, i, none⟩) (fun e' => hne ?_) u⟩
    subst e
    simp [Value.ownBlock, e']
end

theorem info_letter : (Try.prog.info? 5).map (fun i => (i.zero, i.size, i.bytes)) = some (some (.int .u8 0), 1, 1) := by kernel_rfl

theorem wp_makeb {w : World} {ops : Array Oper} {rest : List Oper} {o : Oper} {a : Act} {Q : Exit → Act → World → Prop} (hg : o.guard = none) (l c : Operand) (hop : o.op = Op.makeSlice 23 l c) (L C : Int) (n : Nat)
    (hl : a.eval l = .int .i64 L) (hc : a.eval c = .int .i64 C) (hL : L = (n : Int)) (hC : C = (n : Int)) (hn : n ≤ 140737488355328)
    (hK : ∀ w', Let w' w.heap.size (List.replicate n 0) → Below w.heap.size w w' → w.grownBy w' none → wpList Try.prog ops Q rest (a.put o.dst (.slice (some ⟨w.heap.size, 0, none⟩) n n)) w') :
    wpList Try.prog ops Q (o :: rest) a w := by
  obtain ⟨i0, hi, hz0, hz1, hz2⟩ := info_parts info_letter
  refine wpList_make_full w hg l c 23 hop w.heap.size 5 i0 (.int .u8 0) 1 Try.underlying23 hi hz0 hz1 .i64 .i64 L C n hl hc hL hC (by rw [hz2]; omega) (by unfold maxLen; omega) (Nat.le_refl _) ?_
  intro w' h1 h2
  refine hK w' ?_ ((Below.refl _ _).grown h2 (Nat.le_refl _) (fun k e => by cases e)) h2
  rcases h1.2 with ⟨e, _⟩ | ⟨g, cap, cur, e, _, hh, _, _, hz, ht⟩
  · simp at e
  · simp only [Value.slice.injEq, Option.some.injEq, Addr.mk.injEq, and_true, true_and] at e
    obtain ⟨rfl, rfl⟩ := e
    unfold Let
    rw [hh]
    have e1 : (madeCells (Value.int IntKind.u8 0).cells (n * 1)).toList = List.replicate n (.int .u8 0) := by
      rw [Nat.mul_one]; exact toList_madeCells_one _ _
    rw [e1, List.take_of_length_le (by simp; omega)] at ht
    have : cur = (List.replicate n (Value.int .u8 0)).toArray := by rw [← ht]
    rw [this]
    simp [V]

theorem divd_own (w : World) (base d : Nat) (r : Value) (xs : List Nat) (ho : Own base w r xs) (hne : xs ≠ []) (hd0 : 0 < d) (hd : d < 4294967296) :
    Calls Try.prog 70 #[r, .int .u32 (d : Int)] w fun e w' => e = .returned (.int .u32 ((val xs % d : Nat) : Int)) ∧ ∃ zs, val zs = val xs / d ∧ Own base w' r zs ∧ w.grownBy w' r.ownBlock ∧ zs.length = xs.length := by
  obtain ⟨hs, h⟩ := ho
  rcases h with ⟨_, h⟩ | ⟨g, rest, rfl, hg, hm, hseg⟩
  · exact absurd h hne
  · refine (divd_c w g xs.length rest xs (xs.length + rest.length) d hseg rfl hs ⟨by omega, by unfold maxLen at hm; omega⟩ hd0 hd).mono ?_
    rintro e w' ⟨a, zs, z1, z2, z3, z4, z5, z6⟩
    exact ⟨a, zs, z3, Own.of_seg z4 z2 z1 hg rfl (by unfold maxLen at hm; omega), z5, z1⟩

namespace Dig
/-- The letters from place st on are those of low, 9 a round. -/
def TextRel (ts : List UInt8) (st : Nat) (low : Nat) : Prop := (∀ c ∈ ts.drop st, isDig c = true) ∧ dec (ts.drop st) = low
theorem TextRel.step {ts : List UInt8} {st low m : Nat} (h : TextRel ts st low) (h0 : 0 < st) (hl : st ≤ ts.length) (hm : m < 10) : TextRel (ts.set (st - 1) (UInt8.ofNat (48 + m))) (st - 1) (m * 10 ^ (ts.length - st) + low) := by
  obtain ⟨h1, h2⟩ := h
  have e : (ts.set (st - 1) (UInt8.ofNat (48 + m))).drop (st - 1) = UInt8.ofNat (48 + m) :: ts.drop st := by
    rw [List.drop_eq_getElem_cons (by rw [List.length_set]; omega), List.getElem_set_self, show st - 1 + 1 = st by omega, List.drop_set_of_lt (by omega)]
  refine ⟨fun c hc => ?_, ?_⟩
  · rw [e] at hc
    rcases List.mem_cons.1 hc with hc | hc
    · rw [hc]; exact isDig_digit m hm
    · exact h1 c hc
  · rw [e, dec_cons, h2, ofNat_digit m hm, List.length_drop, Nat.add_sub_cancel_left]
theorem pow32_10 (n : Nat) : 4294967296 ^ n ≤ 10 ^ (10 * n) := by
  rw [Nat.pow_mul]
  exact Nat.pow_le_pow_left (by omega) n
theorem TextRel.skip {ts : List UInt8} {st n : Nat} (h : TextRel ts st n) (hl : st < ts.length) (hc : (ts.getD st 0).toNat = 48) : TextRel ts (st + 1) n := by
  obtain ⟨h1, h2⟩ := h
  have e : ts.drop st = ts[st] :: ts.drop (st + 1) := List.drop_eq_getElem_cons hl
  rw [e] at h1 h2
  have hc' : (ts[st]).toNat = 48 := by simpa [List.getD_eq_getElem?_getD, List.getElem?_eq_getElem hl] using hc
  refine ⟨fun c hc => h1 c (List.mem_cons_of_mem _ hc), ?_⟩
  rw [dec_cons, hc'] at h2
  omega
theorem TextRel.lt {ts : List UInt8} {st n : Nat} (h : TextRel ts st n) (hl : st ≤ ts.length) (hn : 0 < n) : st < ts.length := by
  rcases Nat.lt_or_ge st ts.length with h1 | h1
  · exact h1
  · have := h.2
    rw [List.drop_of_length_le h1, dec_nil] at this
    omega
theorem TextRel.fin {ts : List UInt8} {st n : Nat} (h : TextRel ts st n) (hl : st < ts.length) (hc : (ts.getD st 0).toNat ≠ 48) : ts.drop st = dtext n := by
  obtain ⟨h1, h2⟩ := h
  refine DecOf.eq ⟨h1, h2, ?_⟩
  have e : ts.drop st = ts[st] :: ts.drop (st + 1) := List.drop_eq_getElem_cons hl
  have hc' : (ts[st]).toNat ≠ 48 := by simpa [List.getD_eq_getElem?_getD, List.getElem?_eq_getElem hl] using hc
  have h48 : ts[st] ≠ 48 := fun e => hc' (by rw [e]; rfl)
  rw [e]
  generalize ts[st] = c at h48
  generalize ts.drop (st + 1) = l
  simp [lead, h48]
/-- There is room for nine letters more as long as something is left. -/
theorem text_room {n m D st low : Nat} (hn : n < 4294967296 ^ D) (he : n = m * 10 ^ (10 * D + 9 - st) + low) (hm : 0 < m) (hst : st ≤ 10 * D + 9) : 10 ≤ st := by
  have h1 : 10 ^ (10 * D + 9 - st) < 10 ^ (10 * D) := by
    have h2 := pow32_10 D
    have h3 := Nat.mul_le_mul_right (10 ^ (10 * D + 9 - st)) (show 1 ≤ m from hm)
    omega
  have := (Nat.pow_lt_pow_iff_right (by omega : 1 < 10)).1 h1
  omega
theorem text_round {n m e low : Nat} (he : n = m * 10 ^ e + low) : n = m / 1000000000 * 10 ^ (e + 9) + (m % 1000000000 * 10 ^ e + low) := by
  have h := Nat.div_add_mod m 1000000000
  have h2 : m * 10 ^ e = (1000000000 * (m / 1000000000) + m % 1000000000) * 10 ^ e := by rw [h]
  rw [Nat.add_mul] at h2
  rw [Nat.pow_add, he, h2]
  have : m / 1000000000 * (10 ^ e * 10 ^ 9) = 1000000000 * (m / 1000000000) * 10 ^ e := by
    rw [show (10 : Nat) ^ 9 = 1000000000 from rfl, Nat.mul_comm (10 ^ e), ← Nat.mul_assoc, Nat.mul_comm (m / 1000000000)]
  omega
theorem text_digit (G j e f low : Nat) (hf : f = e + j) : G / 10 ^ j % 10 * 10 ^ f + (G % 10 ^ j * 10 ^ e + low) = G % 10 ^ (j + 1) * 10 ^ e + low := by
  rw [hf, Nat.pow_succ 10 j, Nat.mod_mul, Nat.add_mul, Nat.pow_add]
  have : G / 10 ^ j % 10 * (10 ^ e * 10 ^ j) = 10 ^ j * (G / 10 ^ j % 10) * 10 ^ e := by
    rw [Nat.mul_comm (10 ^ e), ← Nat.mul_assoc, Nat.mul_comm (10 ^ j)]
  omega
end Dig

theorem wp_string {w : World} {ops : Array Oper} {rest : List Oper} {o : Oper} {a : Act} {Q : Exit → Act → World → Prop} (hgd : o.guard = none) (x : Operand) (hop : o.op = .convert 23 9 x)
    (g off n c : Nat) (hx : a.eval x = .slice (some ⟨g, off, none⟩) n c) (ts : List UInt8) (ht : Let w g ts) (hn : off + n = ts.length)
    (h : wpList Try.prog ops Q rest (a.put o.dst (.string ⟨(ts.drop off).toArray⟩)) w) :
    wpList Try.prog ops Q (o :: rest) a w := by
  refine wpList_plain hgd fun K hK => ?_
  have hl : (ts.drop off).length = n := by rw [List.length_drop]; omega
  have hrun := run_convert_bytes_back (P := Try.prog) w 23 9 5 ⟨g, off, none⟩ c (ts.drop off) Try.underlying23 Try.underlying5 Try.underlying9 (fun j hj => by
    have e : (⟨g, off, none⟩ : Addr).add j = ⟨g, off + j, none⟩ := by unfold Addr.add; split <;> simp_all
    rw [e, ht.cell (by omega)]
    have hj2 : off + j < ts.length := by omega
    simp [List.getD_eq_getElem?_getD, List.getElem?_eq_getElem hj2])
  rw [hl] at hrun
  unfold Oper.wp
  simp only [execOp, hop, hx, hrun, Result.andThen, Sem.run_bind, Sem.run_pure]
  exact hK _ _ h

/-- A call that hands back the decimal letters of a number. -/
def RText (w : World) (n : Nat) (e : Ending) (w' : World) : Prop := e = .returned (.string ⟨(dtext n).toArray⟩) ∧ Below w.heap.size w w'


end Go.Proofs.Ytkdnmmbnljaahaa

/- The contract of DivMod: where the divisor is 0, where both numbers have at most two digits, where the dividend is less, where the divisor has one digit. -/
namespace Go.Proofs.Ytkdnmmbnljaahaa
open Go.RowKit Dig
set_option linter.unusedVariables false

/-- DivMod hands back a quotient and a remainder of its own. -/
def RDiv (w : World) (a b : Nat) (e : Ending) (w' : World) : Prop :=
  ∃ q r, e = .returned (.tuple #[q, r, .bool true]) ∧ Own w.heap.size w' q (dg (a / b)) ∧ Own w.heap.size w' r (dg (a % b)) ∧ Below w.heap.size w w'

set_option maxHeartbeats 400000 in
theorem div_zero (w : World) (va vb : Value) (xs ys : List Nat) (ha : Num w va xs) (hb : Num w vb ys) (h0 : val ys = 0) :
    Calls Try.prog 60 #[va, vb] w fun e w' => e = .returned (.tuple #[.slice none 0 0, .slice none 0 0, .bool false]) ∧ w = w' := by
  have Ta := Lib.hid (trim_n w va xs ha)
  have Tb := Lib.hid (trim_n w vb ys hb)
  rw [h0] at Tb
  go_enter Try.func60, Try.ntmps60
  go_wp2_with fail
  refine (Ta.out).mono ?_
  rintro e w' ⟨A, c, rfl, hA, rfl⟩
  go_wp2_with fail
  refine (Tb.out).mono ?_
  rintro e w' ⟨A', c', rfl, hB, rfl⟩
  rw [show (dg 0).length = 0 from rfl]
  go_wp2_with fail
  go_ret3
  exact ⟨rfl, rfl⟩

set_option maxHeartbeats 1000000 in
theorem div_one (w : World) (va vb : Value) (xs ys : List Nat) (ha : Num w va xs) (hb : Num w vb ys) (hza : xs.length ≤ 8796093022208) (hla : 2 < (dg (val xs)).length) (hlb : (dg (val ys)).length = 1) :
    Calls Try.prog 60 #[va, vb] w (RDiv w (val xs) (val ys)) := by
  have Ta := Lib.hid (trim_n w va xs ha)
  have Tb := Lib.hid (trim_n w vb ys hb)
  have hll := dg_length_val xs ha.small
  have hb0 : 0 < val ys := by
    rcases Nat.eq_zero_or_pos (val ys) with h | h
    · rw [h] at hlb; cases hlb
    · exact h
  have hle : val ys ≤ val xs := by
    have := lt_of_dg_length (show (dg (val ys)).length < (dg (val xs)).length by omega)
    omega
  have hd1 := dg_len1 hlb
  have hgt : cmpI (val (dg (val xs))) (val (dg (val ys))) = 1 := by
    rw [val_dg, val_dg]
    exact cmpI_gt (lt_of_dg_length (by omega))
  rw [hlb] at Tb
  have hai : (2 : Int) < (dg (val xs)).length := by omega
  have HLB := Lib.hid hlb
  have HD1 := Lib.hid hd1
  have HGT := Lib.hid hgt
  clear hlb hd1 hgt
  go_enter Try.func60, Try.ntmps60
  go_wp2_with fail
  refine (Ta.out).mono ?_
  rintro e w' ⟨A, c, rfl, hA, rfl⟩
  go_wp2_with fail
  refine (Tb.out).mono ?_
  rintro e w' ⟨A', c', rfl, hB, rfl⟩
  have C := cmp_c w _ _ _ _ hA hB
  rw [HGT.out] at C
  have CC := Lib.hid C
  clear C
  go_wp2_with fail
  refine (CC.out).mono ?_
  rintro e w' ⟨rfl, N, rfl⟩
  have NN := Lib.hid (normalize_c (w.drewN N) _ _ (hA.drewN N) (by omega))
  go_wp2_with fail
  refine (NN.out).mono ?_
  rintro e w1 ⟨q, rfl, hq, hB1⟩
  have hB2 : Below w.heap.size w w1 := (below_drewN (Below.refl _ _) N).trans hB1
  have hq1 : Own w.heap.size w1 q (dg (val (dg (val xs)))) := hq
  obtain ⟨b, off, rfl, hbb, hcell⟩ := (hB.below hB2).cells (by omega)
  have hc0 : w1.cell? ⟨b, off, none⟩ = some (.int .u32 (((dg (val ys)).getD 0 0 : Nat) : Int)) := hcell 0 (by omega)
  rw [← HD1.out] at hc0
  have hdb : val ys < 4294967296 := by rw [HD1.out]; exact (small_dg (val ys)).get 0
  have hne : dg (val (dg (val xs))) ≠ [] := by
    rw [val_dg]
    intro e
    rw [e] at hla
    simp at hla
  have DV := Lib.hid (divd_own w1 w.heap.size (val ys) q _ hq1 hne hb0 hdb)
  rw [val_dg, val_dg] at DV
  clear hcell hq hB1 hA hB NN
  go_wp2_with fail
  refine (DV.out).mono ?_
  rintro e w2 ⟨rfl, zs, z1, z2, z3, z4⟩
  have hB3 := below_own hB2 z3 hq1 (Nat.le_refl _)
  have hm : val xs % val ys < 4294967296 := Nat.lt_trans (Nat.mod_lt _ hb0) hdb
  have FC := Lib.hid (from_c w2 (val xs % val ys) (by omega))
  have Z1 := Lib.hid z1
  have hmi : ((val xs % val ys : Nat) : Int) < 4294967296 := by omega
  have hmi0 : 0 ≤ ((val xs % val ys : Nat) : Int) := Int.natCast_nonneg _
  generalize hmd : val xs % val ys = md at *
  have HMD := Lib.hid hmd
  clear hmd
  clear z1 z3 z4 DV
  go_wp2_with fail
  refine (FC.out).mono ?_
  rintro e w3 ⟨r, rfl, hr, hB4⟩
  have z5 := z2.below hB4 (Nat.le_refl _)
  have T := trim_own_any w3 _ _ zs z5
  rw [Z1.out] at T
  have TT := Lib.hid T
  have hB5 := hB3.trans (hB4.mono hB3.size)
  clear T z2 z5
  go_wp2_with fail
  refine (TT.out).mono ?_
  rintro e w4 ⟨q2, rfl, hq2, rfl⟩
  go_wp2_with fail
  go_ret3
  exact ⟨_, _, rfl, hq2, by rw [HMD.out]; exact hr.mono hB3.size, hB5⟩
end Go.Proofs.Ytkdnmmbnljaahaa

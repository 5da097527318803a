/- The contract of appendGroup: nine decimal digits more. -/
import Derived.WalkSpells
import Derived.Test.YtgjhgpfjeoeojaaDoorMuls
import Derived.Test.YtgjhgpfjeoeojaaDoorAdds
namespace Go.Proofs.YtgjhgpfjeoeojaaDoor
open Go.RowKit Dig
set_option linter.unusedVariables false

namespace Dig
def GroupRel (xs zs : List Nat) (p k c : Nat) : Prop :=
  zs.length = xs.length ∧ Small zs ∧ (∀ j, k ≤ j → zs.getD j 0 = xs.getD j 0) ∧ val (zs.take k) + 4294967296 ^ k * c = val (xs.take k) * 1000000000 + p ∧ c < 1000000000
theorem GroupRel.start (xs : List Nat) (p : Nat) (hs : Small xs) (hp : p < 1000000000) : GroupRel xs xs p 0 p := ⟨rfl, hs, fun _ _ => rfl, by simp [val], hp⟩
theorem GroupRel.step {xs zs : List Nat} {p k c x : Nat} (h : GroupRel xs zs p k c) (hk : k < xs.length) (hx : zs.getD k 0 = x) (hxb : x < 4294967296) :
    GroupRel xs (zs.set k ((c + x * 1000000000) % 4294967296)) p (k + 1) ((c + x * 1000000000) / 4294967296) := by
  obtain ⟨hl, hs, ha, hv, hc⟩ := h
  refine ⟨by simpa using hl, hs.set _ _ (Nat.mod_lt _ (by omega)), fun j hj => ?_, ?_, by omega⟩
  · rw [getD_set_ne _ _ _ _ (by omega)]
    exact ha j (by omega)
  · rw [take_set_succ _ _ _ (by omega), val_take_succ xs k hk, ← ha k (Nat.le_refl _), hx, Nat.pow_succ, Nat.mul_assoc, Nat.add_assoc, ← Nat.mul_add, Nat.mod_add_div, Nat.mul_add, Nat.add_mul, Nat.mul_assoc]
    omega
theorem GroupRel.done {xs zs : List Nat} {p c : Nat} (h : GroupRel xs zs p xs.length c) : val zs + 4294967296 ^ xs.length * c = val xs * 1000000000 + p ∧ zs.length = xs.length ∧ Small zs ∧ c < 1000000000 := by
  obtain ⟨hl, hs, ha, hv, hc⟩ := h
  rw [List.take_of_length_le (by omega), List.take_of_length_le (Nat.le_refl _)] at hv
  exact ⟨hv, hl, hs, hc⟩
end Dig

theorem Num.one (w : World) (a : Nat) (x : Int) (ha : a < 4294967296) (hx : x = (a : Int)) : Num (w.alloc (.cells #[.int .u32 x] 32)) (.slice (some ⟨w.heap.size, 0, none⟩) 1 1) [a] := by
  subst hx
  have : Own w.heap.size (w.alloc (.cells #[.int .u32 (a : Int)] 32)) (.slice (some ⟨w.heap.size, 0, none⟩) 1 1) [a] := by
    refine ⟨fun d hd => ?_, .inr ⟨w.heap.size, [], rfl, Nat.le_refl _, by unfold maxLen; simp, ?_⟩⟩
    · simp at hd; omega
    · unfold Seg
      rw [heap_alloc_new]
      simp [U]
  exact this.num
theorem Own.alloc {base : Nat} {w : World} {v : Value} {xs : List Nat} (h : Own base w v xs) (o : Obj) : Own base (w.alloc o) v xs := h.below ((Below.refl w.heap.size _).alloc (Nat.le_refl _) o) (Nat.le_refl _)
theorem grown_after_alloc {w w' : World} {o : Obj} {row : Option Nat} (h : (w.alloc o).grownBy w' row) : w.grownBy w' row :=
  ⟨h.os, h.tape, h.output, Nat.le_trans (by simp) h.size, fun k hk hne => (h.block k (by simp; omega) hne).trans (Below.heap_alloc w o k hk)⟩
theorem grown_trans {a b c : World} {row : Option Nat} (h : a.grownBy b row) (k : b.grownBy c row) : a.grownBy c row :=
  ⟨k.os.trans h.os, k.tape.trans h.tape, k.output.trans h.output, Nat.le_trans h.size k.size, fun i hi hne => (k.block i (Nat.lt_of_lt_of_le hi h.size) hne).trans (h.block i hi hne)⟩

/-- What appendGroup leaves. -/
def Grouped (w : World) (base : Nat) (v : Value) (n len : Nat) (e : Ending) (w' : World) : Prop :=
  ∃ r zs, e = .returned r ∧ Own base w' r zs ∧ val zs = n ∧ zs.length ≤ len + 1 ∧ w.grownBy w' v.ownBlock

set_option maxHeartbeats 1000000 in
theorem group_nil (w : World) (base p : Nat) (hp : p < 1000000000) (hb : base ≤ w.heap.size) :
    Calls Tryd.prog 92 #[.slice none 0 0, .int .u64 (p : Int)] w (Grouped w base (.slice none 0 0) p 0) := by
  go_enter Tryd.func92, Tryd.ntmps92
  go_wp2_with fail
  go_loop [5, 11] (fun cy i => i = .int .i64 0 ∧ cy = .int .u64 p) (fun _ _ => 0)
  case atStart => exact ⟨rfl, rfl⟩
  case round =>
    obtain ⟨rfl, rfl⟩ := hrel
    by_cases h0 : p = 0
    · subst h0
      go_wp2_with fail
      go_ret
      exact ⟨_, [], rfl, Own.nil _ _, rfl, by simp, World.grownBy.refl w _⟩
    · have hpi : (p : Int) < 4294967296 := by omega
      have hpn : ((p : Int) != 0) = true := by rw [bne_iff_ne]; omega
      have HN := Lib.hid (Num.one w p (p : Int) (by omega) rfl)
      go_wp2_with (at_builtin; refine wp_append rfl _ _ rfl base (.slice none 0 0) [] rfl (Own.nil _ _) (.slice (some ⟨w.heap.size, 0, none⟩) 1 1) [p] rfl HN.out (by simp) (by simp; omega) ?_; intro v' w' hv' hg' _)
      go_ret
      exact ⟨_, _, rfl, hv', by simp [val], by simp, grown_after_alloc hg'⟩

set_option maxHeartbeats 1000000 in
theorem group_some (w : World) (base g p : Nat) (xs : List Nat) (rest : List Value) (hs : Small xs) (hp : p < 1000000000) (hb : base ≤ g) (hm : xs.length + rest.length ≤ maxLen) (hz : xs.length ≤ 8796093022208) (h : Seg w g [] xs rest) :
    Calls Tryd.prog 92 #[.slice (some ⟨g, 0, none⟩) xs.length (xs.length + rest.length), .int .u64 (p : Int)] w (Grouped w base (.slice (some ⟨g, 0, none⟩) xs.length (xs.length + rest.length)) (val xs * 1000000000 + p) xs.length) := by
  have HM := Lib.hid hm
  unfold maxLen at hm
  go_enter Tryd.func92, Tryd.ntmps92
  go_wp2_with fail
  go_loopw [5, 11] (fun cy i wr => ∃ (k q : Nat) (zs : List Nat), k ≤ xs.length ∧ i = .int .i64 k ∧ cy = .int .u64 q ∧ GroupRel xs zs p k q ∧ Seg wr g [] zs rest ∧ w.grownBy wr (some g)) (fun _ i _ => xs.length - (intOf i).toNat)
  case atStart => exact ⟨0, p, xs, Nat.zero_le _, rfl, rfl, GroupRel.start xs p hs hp, h, World.grownBy.refl w _⟩
  case round =>
    obtain ⟨k, q, zs, hk, rfl, rfl, hr, hseg, hgr⟩ := hrel
    have hq := hr.2.2.2.2
    by_cases hlt : k < xs.length
    · have hl := hr.1
      have hcx := hseg.cell0 (j := k) (by omega)
      have hfx := hseg.frozen k
      have bx := hr.2.1.get k
      generalize hxx : zs.getD k 0 = x at hcx bx
      have HR := Lib.hid (hr.step hlt hxx bx)
      have HS := Lib.hid (hseg.put0 k ((q + x * 1000000000) % 4294967296) (((q : Int) + (x : Int) * 1000000000) % 4294967296) (by omega) (by omega))
      have HG := Lib.hid (grown_set hgr k (.int .u32 (((q : Int) + (x : Int) * 1000000000) % 4294967296)))
      have hki : (k : Int) < xs.length := by omega
      clear hr hseg hgr hxx hl
      go_wp2_with fail
      go_roundw
      case rel => exact ⟨k + 1, (q + x * 1000000000) / 4294967296, _, by omega, by go_num, by go_num, HR.out, HS.out, HG.out⟩
      case measure => simp [intOf]; omega
    · have : k = xs.length := by omega
      subst this
      obtain ⟨e1, e2, e3, e4⟩ := hr.done
      have E1 := Lib.hid e1
      have E2 := Lib.hid e2
      clear e1 hr
      by_cases h0 : q = 0
      · subst h0
        clear e2
        go_wp2_with fail
        go_ret
        refine ⟨_, zs, rfl, ⟨e3, .inr ⟨g, rest, ?_, hb, by rw [E2.out]; exact HM.out, hseg⟩⟩, by have := E1.out; omega, by rw [E2.out]; omega, hgr⟩
        rw [E2.out]; rfl
      · have hqn : ((q : Int) != 0) = true := by rw [bne_iff_ne]; omega
        have HN := Lib.hid (Num.one wr q (q : Int) (by omega) rfl)
        have ho : Own base wr (.slice (some ⟨g, 0, none⟩) xs.length (xs.length + rest.length)) zs := ⟨e3, .inr ⟨g, rest, by rw [E2.out], hb, by rw [E2.out]; exact HM.out, hseg⟩⟩
        have HO := Lib.hid (ho.alloc (.cells #[.int .u32 (q : Int)] 32))
        have hgs := hseg.lt
        have hqi : (q : Int) < 4294967296 := by omega
        clear e2 ho
        go_wp2_with (at_builtin; refine wp_append rfl _ _ rfl base (.slice (some ⟨g, 0, none⟩) xs.length (xs.length + rest.length)) zs rfl HO.out (.slice (some ⟨wr.heap.size, 0, none⟩) 1 1) [q] rfl HN.out (by simp only [E2.out, List.length_singleton]; omega) (by simp; omega) ?_; intro v' w' hv' hg' _)
        go_ret
        refine ⟨_, _, rfl, hv', ?_, by rw [List.length_append, E2.out]; simp, ?_⟩
        · rw [val_append, E2.out, ← E1.out]; simp [val]
        · exact grown_trans hgr (grown_after_alloc hg')

theorem group_c (w : World) (base p : Nat) (v : Value) (xs : List Nat) (ho : Own base w v xs) (hp : p < 1000000000) (hb : base ≤ w.heap.size) (hz : xs.length ≤ 8796093022208) :
    Calls Tryd.prog 92 #[v, .int .u64 (p : Int)] w (Grouped w base v (val xs * 1000000000 + p) xs.length) := by
  obtain ⟨hs, h⟩ := ho
  rcases h with ⟨rfl, rfl⟩ | ⟨g, rest, rfl, hg, hm, hseg⟩
  · have := group_nil w base p hp hb
    simpa [val] using this
  · exact group_some w base g p xs rest hs hp hg hm hz hseg
end Go.Proofs.YtgjhgpfjeoeojaaDoor

/- The contract of Parse. -/
namespace Go.Proofs.YtgjhgpfjeoeojaaDoor
open Go.RowKit Dig
set_option linter.unusedVariables false

theorem wp_make0 {w : World} {ops : Array Oper} {rest : List Oper} {o : Oper} {a : Act} {Q : Exit → Act → World → Prop} (hg : o.guard = none) (l c : Operand) (hop : o.op = Op.makeSlice 23 l c) (C : Int) (n : Nat)
    (hl : a.eval l = .int .i64 0) (hc : a.eval c = .int .i64 C) (hC : C = (n : Int)) (hn : n ≤ 35184372088832)
    (hK : ∀ w' v, Own w.heap.size w' v [] → Below w.heap.size w w' → wpList Tryd.prog ops Q rest (a.put o.dst v) w') :
    wpList Tryd.prog ops Q (o :: rest) a w := by
  obtain ⟨i0, hi, hz0, hz1, hz2⟩ := info_parts info_digit
  refine wpList_make_own w hg l c 23 hop w.heap.size 32 i0 (.int .u32 0) 1 Tryd.underlying23 hi hz0 hz1 .i64 .i64 C n hl hc hC (by rw [hz2]; omega) (by unfold maxLen; omega) (Nat.le_refl _) ?_
  intro w' h1 h2
  exact hK w' _ (Own.of_ownsRow h1 Small.nil) ((Below.refl _ _).grown h2 (Nat.le_refl _) (fun k e => by cases e))

theorem chars_extract (s : ByteArray) (a b : Nat) : chars (s.extract a b) = ((chars s).drop a).take (b - a) := by
  unfold chars
  simp [ByteArray.data_extract]

set_option maxHeartbeats 400000 in
theorem parse_long (w : World) (s : ByteArray) (h : 4000 < s.size) (hm : s.size ≤ 9223372036854775807) :
    Calls Tryd.prog 75 #[.string s] w fun e w' => e = .returned (.tuple #[.slice none 0 0, .int .i64 4]) ∧ w = w' := by
  go_enter Tryd.func75, Tryd.ntmps75
  go_wp2_with fail
  go_ret2
  exact ⟨rfl, rfl⟩

set_option maxHeartbeats 400000 in
theorem parse_not (w : World) (s : ByteArray) (h : s.size ≤ 4000) (hD : Calls Tryd.prog 91 #[.string s] w fun e w' => e = .returned (.bool false) ∧ Below w.heap.size w w') :
    Calls Tryd.prog 75 #[.string s] w fun e w' => e = .returned (.tuple #[.slice none 0 0, .int .i64 2]) ∧ Below w.heap.size w w' := by
  have HD := Lib.hid hD
  clear hD
  go_enter Tryd.func75, Tryd.ntmps75
  go_wp2_with fail
  refine (HD.out).mono ?_
  rintro e w' ⟨rfl, hB⟩
  go_wp2_with fail
  go_ret2
  exact ⟨rfl, hB⟩

/-- Parse hands back a number of its own. -/
def RParse (w : World) (n : Nat) (e : Ending) (w' : World) : Prop := ∃ r, e = .returned (.tuple #[r, .int .i64 0]) ∧ Own w.heap.size w' r (dg n) ∧ Below w.heap.size w w'

set_option maxHeartbeats 2000000 in
theorem parse_yes (w : World) (s : ByteArray) (h : s.size ≤ 4000) (hp : 0 < s.size) (hall : ∀ c ∈ chars s, isDig c = true) (hD : Calls Tryd.prog 91 #[.string s] w fun e w' => e = .returned (.bool true) ∧ Below w.heap.size w w') :
    Calls Tryd.prog 75 #[.string s] w (RParse w (dec (chars s))) := by
  have HD := Lib.hid hD
  have HA := Lib.hid hall
  have HL := Lib.hid (chars_length s)
  clear hD hall
  go_enter Tryd.func75, Tryd.ntmps75
  go_wp2_with fail
  refine (HD.out).mono ?_
  rintro e w1 ⟨rfl, hB1⟩
  go_wp2_with (at_make; refine wp_make0 rfl _ _ rfl _ (s.size / 9 + 1) rfl rfl (by omega) (by omega) ?_; intro w2 v hv hB2)
  have hv1 := hv.mono hB1.size
  have hB12 := hB1.trans (hB2.mono hB1.size)
  clear hv hB2
  go_loopw [4, 5] (fun out en wr => ∃ (e : Nat) (zs : List Nat), 1 ≤ e ∧ e ≤ s.size + 9 ∧ (s.size + 9 - e) % 9 = 0 ∧ en = .int .i64 e ∧ Own w.heap.size wr out zs ∧ val zs = dec ((chars s).take (e - 9)) ∧ zs.length ≤ e ∧ Below w.heap.size w wr) (fun _ en _ => s.size + 10 - (intOf en).toNat)
  case atStart =>
    refine ⟨(s.size - 1) % 9 + 1, [], by omega, by omega, by omega, by go_num, hv1, ?_, by simp, hB12⟩
    rw [show (s.size - 1) % 9 + 1 - 9 = 0 by omega]
    rfl
  case round =>
    clear hv1 hB12 hB1
    obtain ⟨e, zs, he1, he2, hm9, rfl, hO, hval, hzl, hB⟩ := hrel
    have HM := Lib.hid hm9
    clear hm9
    by_cases hle : e ≤ s.size
    · have HV := Lib.hid hval
      clear hval
      have hei : (e : Int) ≤ s.size := by omega
      have ex : chars (s.extract (max 0 ((e : Int) - 9)).toNat e) = ((chars s).drop (e - 9)).take (e - (e - 9)) := by
        rw [chars_extract, show (max 0 ((e : Int) - 9)).toNat = e - 9 by omega]
      have EX := Lib.hid ex
      clear ex
      go_wp2_with (with_reducible refine wp_bytes rfl (.tmp 36) rfl (s.extract (max 0 ((e : Int) - 9)).toNat e) rfl ?_; intro w3 cp hC hB3 hcp; generalize s.extract (max 0 ((e : Int) - 9)).toNat e = t at *)
      have hB4 := hB.trans (hB3.mono hB.size)
      have hO4 := hO.below hB3 (Nat.le_refl _)
      have htl : (chars t).length = e - (e - 9) := by rw [EX.out, List.length_take, List.length_drop, HL.out]; omega
      have hts : t.size ≤ 9 := by rw [← chars_length, htl]; omega
      have hA2 : ∀ c ∈ chars t, isDig c = true := by
        intro c hc
        rw [EX.out] at hc
        exact HA.out c (List.mem_of_mem_drop (List.mem_of_mem_take hc))
      have HC := Lib.hid hC
      have HA2 := Lib.hid hA2
      have HTL := Lib.hid (chars_length t)
      clear hC hA2 htl hB hB3 hO
      go_loop [6, 39] (fun gr i => ∃ j : Nat, j ≤ t.size ∧ i = .int .i64 j ∧ gr = .int .u64 (dec ((chars t).take j) : Nat)) (fun _ i => t.size - (intOf i).toNat)
      case atStart => exact ⟨0, Nat.zero_le _, rfl, rfl⟩
      case round =>
        obtain ⟨j, hj, rfl, rfl⟩ := hrel
        by_cases hlt : j < t.size
        · have hcc := HC.out j (by rw [HTL.out]; exact hlt)
          have hd : isDig ((chars t).getD j 0) = true := by
            refine HA2.out _ ?_
            have hjl : j < (chars t).length := by rw [HTL.out]; exact hlt
            rw [List.getD_eq_getElem?_getD, List.getElem?_eq_getElem hjl]
            exact List.getElem_mem hjl
          have hs1 := dec_take_succ (chars t) j (by rw [HTL.out]; exact hlt)
          have hb1 := dec_take_lt (chars t) j 8 HA2.out (by omega)
          simp only [isDig, Bool.and_eq_true, decide_eq_true_eq] at hd
          generalize ((chars t).getD j 0).toNat = c at hcc hd hs1
          generalize dec ((chars t).take j) = q at *
          obtain ⟨d1, d2⟩ := hd
          have HS := Lib.hid hs1
          have hq : (q : Int) ≤ 99999999 := by omega
          have hji : (j : Int) < t.size := by omega
          clear hs1
          go_wp2_with fail
          go_round
          case rel => exact ⟨j + 1, by omega, by go_num, by rw [HS.out]; go_num⟩
          case measure => simp [intOf]; omega
        · have : j = t.size := by omega
          subst this
          have hb1 := dec_take_lt (chars t) t.size 9 HA2.out hts
          have hall2 : (chars t).take t.size = chars t := List.take_of_length_le (by rw [HTL.out]; exact Nat.le_refl _)
          rw [hall2] at hb1 ⊢
          have hgr := dec_group (chars s) e (by rw [HL.out]; exact hle)
          rw [← EX.out, ← HV.out] at hgr
          have HG := Lib.hid hgr
          generalize dec (chars t) = p at *
          clear hgr hall2
          go_wp2_with fail
          refine (group_c w3 w.heap.size p _ zs hO4 hb1 (by have := hB4.size; omega) (by omega)).mono ?_
          rintro e' w4 ⟨r, zs', rfl, hr, hv', hl', hg'⟩
          have hB5 := below_own hB4 hg' hO4 (Nat.le_refl _)
          have HV2 := Lib.hid hv'
          clear hv'
          go_wp2_with fail
          go_roundw
          case rel => exact ⟨e + 9, zs', by omega, by omega, by have := HM.out; omega, by go_num, hr, by rw [HV2.out, Nat.add_sub_cancel, HG.out], by omega, hB5⟩
          case measure => simp [intOf]; omega
    · have he : e = s.size + 9 := by have := HM.out; omega
      have hfin : val zs = dec (chars s) := by
        rw [hval, he, Nat.add_sub_cancel, List.take_of_length_le (by rw [HL.out]; exact Nat.le_refl _)]
      have T := trim_own_any wr _ _ zs hO
      rw [hfin] at T
      have TT := Lib.hid T
      clear T hfin hval
      subst he
      go_wp2_with fail
      refine (TT.out).mono ?_
      rintro e' w4 ⟨r, rfl, hr, rfl⟩
      go_wp2_with fail
      go_ret2
      exact ⟨_, rfl, hr, hB⟩
end Go.Proofs.YtgjhgpfjeoeojaaDoor

/- The contract of Format. -/
namespace Go.Proofs.YtgjhgpfjeoeojaaDoor
open Go.RowKit Dig
set_option linter.unusedVariables false

/-- Letters as values. -/
def V (ts : List UInt8) : List Value := ts.map fun (c : UInt8) => Value.int .u8 (c.toNat : Int)
theorem V_length (ts : List UInt8) : (V ts).length = ts.length := by simp [V]
theorem V_get (ts : List UInt8) (j : Nat) (h : j < ts.length) : (V ts)[j]? = some (.int .u8 ((ts.getD j 0).toNat : Int)) := by
  simp [V, List.getD_eq_getElem?_getD, List.getElem?_eq_getElem h]

/-- Block g holds just these letters. -/
def Let (w : World) (g : Nat) (ts : List UInt8) : Prop := w.heap[g]? = some (.cells (V ts).toArray 5 (0, 0))
section
variable {w w' : World} {g : Nat} {ts : List UInt8}
theorem Let.lt (h : Let w g ts) : g < w.heap.size := by
  rcases Nat.lt_or_ge g w.heap.size with hlt | hge
  · exact hlt
  · unfold Let at h; rw [Array.getElem?_eq_none hge] at h; cases h
theorem Let.frozen (h : Let w g ts) (i : Nat) : w.frozen? ⟨g, i, none⟩ = false := by
  unfold Let at h
  simp [World.frozen?, h]
theorem Let.cell (h : Let w g ts) {j : Nat} (hj : j < ts.length) : w.cell? ⟨g, j, none⟩ = some (.int .u8 ((ts.getD j 0).toNat : Int)) := by
  rw [cell_of_row w g _ _ _ (0, 0) h, List.getElem?_toArray]
  exact V_get ts j hj
theorem Let.put (h : Let w g ts) (j : Nat) (c : UInt8) (q : Int) (hq : q = (c.toNat : Int)) : Let (w.setCell ⟨g, j, none⟩ (.int .u8 q)) g (ts.set j c) := by
  subst hq
  unfold Let at h ⊢
  simp only [World.setCell, Array.getElem?_modify, h]
  simp [V, List.map_set]
theorem Let.of_block (h : Let w g ts) (e : w'.heap[g]? = w.heap[g]?) : Let w' g ts := by
  unfold Let at h ⊢
  rw [e]
  exact h
theorem Let.grown {row : Option Nat} (h : Let w g ts) (hb : w.grownBy w' row) (hg : some g ≠ row) : Let w' g ts := h.of_block (hb.block g h.lt hg)
theorem Own.ne_let {base : Nat} {v : Value} {xs : List Nat} (h : Own base w v xs) (k : Let w g ts) : some g ≠ v.ownBlock := by
  obtain ⟨_, h⟩ := h
  rcases h with ⟨rfl, _⟩ | ⟨g', rest, rfl, _, _, hseg⟩
  · simp [Value.ownBlock]
  · intro e
    simp [Value.ownBlock] at e
    subst e
    unfold Let at k
    unfold Seg at hseg
    rw [k] at hseg
    injection hseg with e1
    injection e1 with _ e2
    cases e2
theorem Own.setFar {base : Nat} {v : Value} {xs : List Nat} (h : Own base w v xs) (hne : some g ≠ v.ownBlock) (i : Nat) (u : Value) : Own base (w.setCell ⟨g, i, none⟩ u) v xs := by
  obtain ⟨hs, h⟩ := h
  refine ⟨hs, ?_⟩
  rcases h with h | ⟨g', rest, e, hg, hm, hseg⟩
  · exact .inl h
  · refine .inr ⟨g', rest, e, hg, hm, hseg.far (p := ⟨g, i, none⟩) (fun e' => hne ?_) u⟩
    subst e
    simp [Value.ownBlock, e']
end

theorem info_letter : (Tryd.prog.info? 5).map (fun i => (i.zero, i.size, i.bytes)) = some (some (.int .u8 0), 1, 1) := by kernel_rfl

theorem wp_makeb {w : World} {ops : Array Oper} {rest : List Oper} {o : Oper} {a : Act} {Q : Exit → Act → World → Prop} (hg : o.guard = none) (l c : Operand) (hop : o.op = Op.makeSlice 50 l c) (L C : Int) (n : Nat)
    (hl : a.eval l = .int .i64 L) (hc : a.eval c = .int .i64 C) (hL : L = (n : Int)) (hC : C = (n : Int)) (hn : n ≤ 140737488355328)
    (hK : ∀ w', Let w' w.heap.size (List.replicate n 0) → Below w.heap.size w w' → w.grownBy w' none → wpList Tryd.prog ops Q rest (a.put o.dst (.slice (some ⟨w.heap.size, 0, none⟩) n n)) w') :
    wpList Tryd.prog ops Q (o :: rest) a w := by
  obtain ⟨i0, hi, hz0, hz1, hz2⟩ := info_parts info_letter
  refine wpList_make_full w hg l c 50 hop w.heap.size 5 i0 (.int .u8 0) 1 Tryd.underlying50 hi hz0 hz1 .i64 .i64 L C n hl hc hL hC (by rw [hz2]; omega) (by unfold maxLen; omega) (Nat.le_refl _) ?_
  intro w' h1 h2
  refine hK w' ?_ ((Below.refl _ _).grown h2 (Nat.le_refl _) (fun k e => by cases e)) h2
  rcases h1.2 with ⟨e, _⟩ | ⟨g, cap, cur, e, _, hh, _, _, hz, ht⟩
  · simp at e
  · simp only [Value.slice.injEq, Option.some.injEq, Addr.mk.injEq, and_true, true_and] at e
    obtain ⟨rfl, rfl⟩ := e
    unfold Let
    rw [hh]
    have e1 : (madeCells (Value.int IntKind.u8 0).cells (n * 1)).toList = List.replicate n (.int .u8 0) := by
      rw [Nat.mul_one]; exact toList_madeCells_one _ _
    rw [e1, List.take_of_length_le (by simp; omega)] at ht
    have : cur = (List.replicate n (Value.int .u8 0)).toArray := by rw [← ht]
    rw [this]
    simp [V]

theorem divd_own (w : World) (base d : Nat) (r : Value) (xs : List Nat) (ho : Own base w r xs) (hne : xs ≠ []) (hd0 : 0 < d) (hd : d < 4294967296) :
    Calls Tryd.prog 30 #[r, .int .u32 (d : Int)] w fun e w' => e = .returned (.int .u32 ((val xs % d : Nat) : Int)) ∧ ∃ zs, val zs = val xs / d ∧ Own base w' r zs ∧ w.grownBy w' r.ownBlock ∧ zs.length = xs.length := by
  obtain ⟨hs, h⟩ := ho
  rcases h with ⟨_, h⟩ | ⟨g, rest, rfl, hg, hm, hseg⟩
  · exact absurd h hne
  · refine (divd_c w g xs.length rest xs (xs.length + rest.length) d hseg rfl hs ⟨by omega, by unfold maxLen at hm; omega⟩ hd0 hd).mono ?_
    rintro e w' ⟨a, zs, z1, z2, z3, z4, z5, z6⟩
    exact ⟨a, zs, z3, Own.of_seg z4 z2 z1 hg rfl (by unfold maxLen at hm; omega), z5, z1⟩

namespace Dig
/-- The letters from place st on are those of low, 9 a round. -/
def TextRel (ts : List UInt8) (st : Nat) (low : Nat) : Prop := (∀ c ∈ ts.drop st, isDig c = true) ∧ dec (ts.drop st) = low
theorem TextRel.step {ts : List UInt8} {st low m : Nat} (h : TextRel ts st low) (h0 : 0 < st) (hl : st ≤ ts.length) (hm : m < 10) : TextRel (ts.set (st - 1) (UInt8.ofNat (48 + m))) (st - 1) (m * 10 ^ (ts.length - st) + low) := by
  obtain ⟨h1, h2⟩ := h
  have e : (ts.set (st - 1) (UInt8.ofNat (48 + m))).drop (st - 1) = UInt8.ofNat (48 + m) :: ts.drop st := by
    rw [List.drop_eq_getElem_cons (by rw [List.length_set]; omega), List.getElem_set_self, show st - 1 + 1 = st by omega, List.drop_set_of_lt (by omega)]
  refine ⟨fun c hc => ?_, ?_⟩
  · rw [e] at hc
    rcases List.mem_cons.1 hc with hc | hc
    · rw [hc]; exact isDig_digit m hm
    · exact h1 c hc
  · rw [e, dec_cons, h2, ofNat_digit m hm, List.length_drop, Nat.add_sub_cancel_left]
theorem pow32_10 (n : Nat) : 4294967296 ^ n ≤ 10 ^ (10 * n) := by
  rw [Nat.pow_mul]
  exact Nat.pow_le_pow_left (by omega) n
theorem TextRel.skip {ts : List UInt8} {st n : Nat} (h : TextRel ts st n) (hl : st < ts.length) (hc : (ts.getD st 0).toNat = 48) : TextRel ts (st + 1) n := by
  obtain ⟨h1, h2⟩ := h
  have e : ts.drop st = ts[st] :: ts.drop (st + 1) := List.drop_eq_getElem_cons hl
  rw [e] at h1 h2
  have hc' : (ts[st]).toNat = 48 := by simpa [List.getD_eq_getElem?_getD, List.getElem?_eq_getElem hl] using hc
  refine ⟨fun c hc => h1 c (List.mem_cons_of_mem _ hc), ?_⟩
  rw [dec_cons, hc'] at h2
  omega
theorem TextRel.lt {ts : List UInt8} {st n : Nat} (h : TextRel ts st n) (hl : st ≤ ts.length) (hn : 0 < n) : st < ts.length := by
  rcases Nat.lt_or_ge st ts.length with h1 | h1
  · exact h1
  · have := h.2
    rw [List.drop_of_length_le h1, dec_nil] at this
    omega
theorem TextRel.fin {ts : List UInt8} {st n : Nat} (h : TextRel ts st n) (hl : st < ts.length) (hc : (ts.getD st 0).toNat ≠ 48) : ts.drop st = dtext n := by
  obtain ⟨h1, h2⟩ := h
  refine DecOf.eq ⟨h1, h2, ?_⟩
  have e : ts.drop st = ts[st] :: ts.drop (st + 1) := List.drop_eq_getElem_cons hl
  have hc' : (ts[st]).toNat ≠ 48 := by simpa [List.getD_eq_getElem?_getD, List.getElem?_eq_getElem hl] using hc
  have h48 : ts[st] ≠ 48 := fun e => hc' (by rw [e]; rfl)
  rw [e]
  generalize ts[st] = c at h48
  generalize ts.drop (st + 1) = l
  simp [lead, h48]
/-- There is room for nine letters more as long as something is left. -/
theorem text_room {n m D st low : Nat} (hn : n < 4294967296 ^ D) (he : n = m * 10 ^ (10 * D + 9 - st) + low) (hm : 0 < m) (hst : st ≤ 10 * D + 9) : 10 ≤ st := by
  have h1 : 10 ^ (10 * D + 9 - st) < 10 ^ (10 * D) := by
    have h2 := pow32_10 D
    have h3 := Nat.mul_le_mul_right (10 ^ (10 * D + 9 - st)) (show 1 ≤ m from hm)
    omega
  have := (Nat.pow_lt_pow_iff_right (by omega : 1 < 10)).1 h1
  omega
theorem text_round {n m e low : Nat} (he : n = m * 10 ^ e + low) : n = m / 1000000000 * 10 ^ (e + 9) + (m % 1000000000 * 10 ^ e + low) := by
  have h := Nat.div_add_mod m 1000000000
  have h2 : m * 10 ^ e = (1000000000 * (m / 1000000000) + m % 1000000000) * 10 ^ e := by rw [h]
  rw [Nat.add_mul] at h2
  rw [Nat.pow_add, he, h2]
  have : m / 1000000000 * (10 ^ e * 10 ^ 9) = 1000000000 * (m / 1000000000) * 10 ^ e := by
    rw [show (10 : Nat) ^ 9 = 1000000000 from rfl, Nat.mul_comm (10 ^ e), ← Nat.mul_assoc, Nat.mul_comm (m / 1000000000)]
  omega
theorem text_digit (G j e f low : Nat) (hf : f = e + j) : G / 10 ^ j % 10 * 10 ^ f + (G % 10 ^ j * 10 ^ e + low) = G % 10 ^ (j + 1) * 10 ^ e + low := by
  rw [hf, Nat.pow_succ 10 j, Nat.mod_mul, Nat.add_mul, Nat.pow_add]
  have : G / 10 ^ j % 10 * (10 ^ e * 10 ^ j) = 10 ^ j * (G / 10 ^ j % 10) * 10 ^ e := by
    rw [Nat.mul_comm (10 ^ e), ← Nat.mul_assoc, Nat.mul_comm (10 ^ j)]
  omega
end Dig

theorem wp_string {w : World} {ops : Array Oper} {rest : List Oper} {o : Oper} {a : Act} {Q : Exit → Act → World → Prop} (hgd : o.guard = none) (x : Operand) (hop : o.op = .convert 50 9 x)
    (g off n c : Nat) (hx : a.eval x = .slice (some ⟨g, off, none⟩) n c) (ts : List UInt8) (ht : Let w g ts) (hn : off + n = ts.length)
    (h : wpList Tryd.prog ops Q rest (a.put o.dst (.string ⟨(ts.drop off).toArray⟩)) w) :
    wpList Tryd.prog ops Q (o :: rest) a w := by
  refine wpList_plain hgd fun K hK => ?_
  have hl : (ts.drop off).length = n := by rw [List.length_drop]; omega
  have hrun := run_convert_bytes_back (P := Tryd.prog) w 50 9 5 ⟨g, off, none⟩ c (ts.drop off) Tryd.underlying50 Tryd.underlying5 Tryd.underlying9 (fun j hj => by
    have e : (⟨g, off, none⟩ : Addr).add j = ⟨g, off + j, none⟩ := by unfold Addr.add; split <;> simp_all
    rw [e, ht.cell (by omega)]
    have hj2 : off + j < ts.length := by omega
    simp [List.getD_eq_getElem?_getD, List.getElem?_eq_getElem hj2])
  rw [hl] at hrun
  unfold Oper.wp
  simp only [execOp, hop, hx, hrun, Result.andThen, Sem.run_bind, Sem.run_pure]
  exact hK _ _ h

/-- A call that hands back the decimal letters of a number. -/
def RText (w : World) (n : Nat) (e : Ending) (w' : World) : Prop := e = .returned (.string ⟨(dtext n).toArray⟩) ∧ Below w.heap.size w w'

set_option maxHeartbeats 400000 in
theorem format_zero (w : World) (v : Value) (xs : List Nat) (h : Num w v xs) (hz : xs.length ≤ 8796093022208) (h0 : val xs = 0) :
    Calls Tryd.prog 10 #[v] w (RText w 0) := by
  have N := Lib.hid (normalize_c w v xs h hz)
  rw [h0] at N
  go_enter Tryd.func10, Tryd.ntmps10
  go_wp2_with fail
  refine (N.out).mono ?_
  rintro e w1 ⟨r, rfl, hr, hB⟩
  obtain ⟨A, c, rfl⟩ := hr.num.form
  go_wp2_with fail
  go_ret
  exact ⟨rfl, hB⟩

set_option maxHeartbeats 2000000 in
theorem format_pos (w : World) (v : Value) (xs : List Nat) (h : Num w v xs) (hz : xs.length ≤ 8796093022208) (h0 : 0 < val xs) :
    Calls Tryd.prog 10 #[v] w (RText w (val xs)) := by
  have N := Lib.hid (normalize_c w v xs h hz)
  have hlv := dg_length_val xs h.small
  obtain ⟨n, hn⟩ : ∃ n, val xs = n := ⟨_, rfl⟩
  rw [hn] at N hlv h0 ⊢
  clear hn
  obtain ⟨D, hD⟩ : ∃ D, (dg n).length = D := ⟨_, rfl⟩
  have hnl := dg_lt n
  rw [hD] at hnl hlv
  have hD1 : 1 ≤ D := by
    rcases Nat.eq_zero_or_pos D with e | e
    · subst e; simp at hnl; omega
    · exact e
  have HNL := Lib.hid hnl
  have HD := Lib.hid hD
  clear hnl hD
  go_enter Tryd.func10, Tryd.ntmps10
  go_wp2_with fail
  refine (N.out).mono ?_
  rintro e w1 ⟨r, rfl, hr, hB1⟩
  obtain ⟨A, c, rfl⟩ := hr.num.form
  rw [HD.out] at hr ⊢
  have hDz : ((D : Int) == 0) = false := by rw [beq_eq_false_iff_ne]; omega
  go_wp2_with (at_make; refine wp_makeb rfl _ _ rfl _ _ (10 * D + 9) rfl rfl (by omega) (by omega) (by omega) ?_; intro w2 hL hB2 hG2)
  have hr2 := hr.below hB2 (Nat.le_refl _)
  have hB3 := hB1.trans (hB2.mono hB1.size)
  have hgw := hB1.size
  generalize hgg : w1.heap.size = g at *
  clear hr hB1 hB2 hG2 hgg
  go_loopw [3, 5, 6, 26] (fun rest st _ _ wr => ∃ (m k : Nat) (low : Nat) (ts : List UInt8), st = .int .i64 k ∧ k ≤ 10 * D + 9 ∧ Own w.heap.size wr rest (dg m) ∧ Let wr g ts ∧ ts.length = 10 * D + 9 ∧ TextRel ts k low ∧ n = m * 10 ^ (10 * D + 9 - k) + low ∧ Below w.heap.size w wr) (fun _ st _ _ _ => (intOf st).toNat)
  case atStart =>
    refine ⟨n, 10 * D + 9, 0, _, by go_num, Nat.le_refl _, hr2, hL, by simp, ?_, by simp, hB3⟩
    refine ⟨fun c hc => ?_, ?_⟩
    · rw [List.drop_of_length_le (by simp)] at hc; cases hc
    · rw [List.drop_of_length_le (by simp)]; rfl
  case round =>
    clear hr2 hL hB3
    obtain ⟨m, k, low, ts, rfl, hk, hO, hLe, htl, hT, hnm, hB⟩ := hrel
    have HNM := Lib.hid hnm
    have HT := Lib.hid hT
    have HTL := Lib.hid htl
    obtain ⟨A2, c2, rfl⟩ := hO.num.form
    clear hnm hT htl
    rcases Nat.eq_zero_or_pos m with hm0 | hm0
    · subst hm0
      have hlow : low = n := by rw [HNM.out]; omega
      have e0 : (dg 0).length = 0 := rfl
      rw [e0] at hO ⊢
      subst hlow
      clear HNM
      go_wp2_with fail
      go_loop [5] (fun st => ∃ k2 : Nat, k2 < 10 * D + 9 ∧ st = .int .i64 k2 ∧ TextRel ts k2 low) (fun st => 10 * D + 9 - (intOf st).toNat)
      case atStart => exact ⟨k, by have := HT.out.lt (by rw [HTL.out]; exact hk) h0; rw [HTL.out] at this; exact this, rfl, HT.out⟩
      case round =>
        obtain ⟨k2, hk2, rfl, hT2⟩ := hrel
        have HT2 := Lib.hid hT2
        clear hT2
        have hcell := hLe.cell (j := k2) (by rw [HTL.out]; exact hk2)
        have hki : (k2 : Int) < 10 * (D : Int) + 9 := by omega
        by_cases h48 : (ts.getD k2 0).toNat = 48
        · have hsk := HT2.out.skip (by rw [HTL.out]; exact hk2) h48
          have hlt2 := hsk.lt (by rw [HTL.out]; omega) h0
          rw [HTL.out] at hlt2
          have HSK := Lib.hid hsk
          rw [h48] at hcell
          clear hsk
          go_wp2_with fail
          go_round
          case rel => exact ⟨k2 + 1, hlt2, by go_num, HSK.out⟩
          case measure => simp [intOf]; omega
        · have hfin := HT2.out.fin (by rw [HTL.out]; exact hk2) h48
          have HF := Lib.hid hfin
          generalize (ts.getD k2 0).toNat = cc at hcell h48
          have hnb : ((cc : Int) == 48) = false := by rw [beq_eq_false_iff_ne]; omega
          clear hfin
          go_wp2_with (with_reducible refine wp_string rfl (.tmp 49) rfl g k2 (10 * D + 9 - k2) (10 * D + 9 - k2) rfl ts hLe (by rw [HTL.out]; omega) ?_)
          go_ret
          exact ⟨ret_eq (by rw [← HF.out]; rfl), hB⟩
    · have hne : dg m ≠ [] := fun e => by rw [dg_nil_iff] at e; omega
      have hroom := text_room HNL.out HNM.out hm0 hk
      have hpos : (0 : Int) < (dg m).length := by have := List.length_pos_iff.2 hne; omega
      have DV := Lib.hid (divd_own wr w.heap.size 1000000000 _ _ hO hne (by omega) (by omega))
      rw [val_dg] at DV
      go_wp2_with fail
      refine (DV.out).mono ?_
      rintro e w4 ⟨rfl, zs, z1, z2, z3, z4⟩
      have hB4 := below_own hB z3 hO (Nat.le_refl _)
      have hL4 := hLe.grown z3 (hO.ne_let hLe)
      have T := trim_own_any w4 _ _ zs z2
      rw [z1] at T
      have TT := Lib.hid T
      clear T z1 z2 z3 z4 hLe hB hO DV
      obtain ⟨G, hG⟩ : ∃ G, m % 1000000000 = G := ⟨_, rfl⟩
      have hGb : G < 1000000000 := by rw [← hG]; exact Nat.mod_lt _ (by omega)
      rw [hG]
      have HG := Lib.hid hG
      clear hG
      go_wp2_with fail
      refine (TT.out).mono ?_
      rintro e w5 ⟨r5, rfl, hO5, rfl⟩
      go_wp2_with fail
      go_loopw [5, 6, 26] (fun st gr i wi => ∃ (j q : Nat) (ts2 : List UInt8), j ≤ 9 ∧ i = .int .i64 j ∧ st = .int .i64 ((k : Int) - (j : Int)) ∧ gr = .int .u32 q ∧ q = G / 10 ^ j ∧ Let wi g ts2 ∧ ts2.length = 10 * D + 9 ∧ TextRel ts2 (k - j) (G % 10 ^ j * 10 ^ (10 * D + 9 - k) + low) ∧ Own w.heap.size wi r5 (dg (m / 1000000000)) ∧ Below w.heap.size w wi) (fun _ _ i _ => 9 - (intOf i).toNat)
      case atStart =>
        refine ⟨0, G, ts, by omega, rfl, by go_num, rfl, by simp, hL4, HTL.out, ?_, hO5, hB4⟩
        rw [Nat.sub_zero, Nat.pow_zero, Nat.mod_one, Nat.zero_mul, Nat.zero_add]
        exact HT.out
      case round =>
        clear hL4 hO5 hB4
        obtain ⟨j, q, ts2, hj, rfl, rfl, rfl, hq, hL5, hl5, hT5, hO6, hB6⟩ := hrel
        have hqb : q < 1000000000 := by rw [hq]; exact Nat.lt_of_le_of_lt (Nat.div_le_self _ _) hGb
        have HQ := Lib.hid hq
        have HT5 := Lib.hid hT5
        have HL5 := Lib.hid hl5
        have hgl := hL5.lt
        clear hq hT5 hl5
        by_cases hlt : j < 9
        · have hcell := hL5.cell (j := k - j - 1) (by rw [HL5.out]; omega)
          have hfr := hL5.frozen (k - j - 1)
          have hqm : q % 10 < 10 := Nat.mod_lt _ (by omega)
          have HP := Lib.hid (hL5.put (k - j - 1) (UInt8.ofNat (48 + q % 10)) (48 + (q : Int) % 10) (by rw [ofNat_digit _ hqm]; omega))
          have hne := hO6.ne_let hL5
          have HO := Lib.hid (hO6.setFar hne (k - j - 1) (.int .u8 (48 + (q : Int) % 10)))
          have hstep := HT5.out.step (m := q % 10) (by omega) (by rw [HL5.out]; omega) hqm
          rw [HL5.out, HQ.out, text_digit G j (10 * D + 9 - k) (10 * D + 9 - (k - j)) low (by omega), ← HQ.out] at hstep
          have HS := Lib.hid hstep
          have HB := Lib.hid (hB6.setCell (p := ⟨g, k - j - 1, none⟩) hgw (.int .u8 (48 + (q : Int) % 10)))
          generalize hv : ((ts2.getD (k - j - 1) 0).toNat : Int) = vv at hcell
          have hji : (j : Int) < 9 := by omega
          have hkj : (0 : Int) ≤ (k : Int) - (j : Int) - 1 := by omega
          have hkb : (k : Int) ≤ 10 * (D : Int) + 9 := by omega
          have hidx : ((k : Int) - (j : Int) - 1).toNat = k - j - 1 := by omega
          have HI := Lib.hid hidx
          clear hstep hO6 hB6 hne hv hidx hL5
          go_wp2_with fail
          go_roundw
          case rel => exact ⟨j + 1, q / 10, _, by omega, by go_num, by go_num, by go_num, by rw [HQ.out, Nat.div_div_eq_div_mul, Nat.pow_succ], HP.out, by rw [List.length_set]; exact HL5.out, HS.out, HO.out, HB.out⟩
          case measure => simp [intOf]; omega
        · have : j = 9 := by omega
          subst this
          have e9 := HT5.out
          rw [Nat.mod_eq_of_lt (show G < 10 ^ 9 by omega)] at e9
          have hr2 := text_round HNM.out
          rw [HG.out] at hr2
          have HR := Lib.hid hr2
          have HE := Lib.hid e9
          have hk9 : (10 : Int) ≤ k := by omega
          clear e9 hr2
          go_wp2_with fail
          go_roundw
          case rel => exact ⟨m / 1000000000, k - 9, G * 10 ^ (10 * D + 9 - k) + low, ts2, by go_num, by omega, hO6, hL5, HL5.out, HE.out, by rw [show 10 * D + 9 - (k - 9) = 10 * D + 9 - k + 9 by omega]; exact HR.out, hB6⟩
          case measure => simp [intOf]; omega
end Go.Proofs.YtgjhgpfjeoeojaaDoor

/- The contract of DivMod: where the divisor is 0, where both numbers have at most two digits, where the dividend is less, where the divisor has one digit. -/
namespace Go.Proofs.YtgjhgpfjeoeojaaDoor
open Go.RowKit Dig
set_option linter.unusedVariables false

/-- DivMod hands back a quotient and a remainder of its own. -/
def RDiv (w : World) (a b : Nat) (e : Ending) (w' : World) : Prop :=
  ∃ q r, e = .returned (.tuple #[q, r, .bool true]) ∧ Own w.heap.size w' q (dg (a / b)) ∧ Own w.heap.size w' r (dg (a % b)) ∧ Below w.heap.size w w'

set_option maxHeartbeats 400000 in
theorem div_zero (w : World) (va vb : Value) (xs ys : List Nat) (ha : Num w va xs) (hb : Num w vb ys) (h0 : val ys = 0) :
    Calls Tryd.prog 46 #[va, vb] w fun e w' => e = .returned (.tuple #[.slice none 0 0, .slice none 0 0, .bool false]) ∧ w = w' := by
  have Ta := Lib.hid (trim_n w va xs ha)
  have Tb := Lib.hid (trim_n w vb ys hb)
  rw [h0] at Tb
  go_enter Tryd.func46, Tryd.ntmps46
  go_wp2_with fail
  refine (Ta.out).mono ?_
  rintro e w' ⟨A, c, rfl, hA, rfl⟩
  go_wp2_with fail
  refine (Tb.out).mono ?_
  rintro e w' ⟨A', c', rfl, hB, rfl⟩
  rw [show (dg 0).length = 0 from rfl]
  go_wp2_with fail
  go_ret3
  exact ⟨rfl, rfl⟩

set_option maxHeartbeats 1000000 in
theorem div_one (w : World) (va vb : Value) (xs ys : List Nat) (ha : Num w va xs) (hb : Num w vb ys) (hza : xs.length ≤ 8796093022208) (hla : 2 < (dg (val xs)).length) (hlb : (dg (val ys)).length = 1) :
    Calls Tryd.prog 46 #[va, vb] w (RDiv w (val xs) (val ys)) := by
  have Ta := Lib.hid (trim_n w va xs ha)
  have Tb := Lib.hid (trim_n w vb ys hb)
  have hll := dg_length_val xs ha.small
  have hb0 : 0 < val ys := by
    rcases Nat.eq_zero_or_pos (val ys) with h | h
    · rw [h] at hlb; cases hlb
    · exact h
  have hle : val ys ≤ val xs := by
    have := lt_of_dg_length (show (dg (val ys)).length < (dg (val xs)).length by omega)
    omega
  have hd1 := dg_len1 hlb
  have hgt : cmpI (val (dg (val xs))) (val (dg (val ys))) = 1 := by
    rw [val_dg, val_dg]
    exact cmpI_gt (lt_of_dg_length (by omega))
  rw [hlb] at Tb
  have hai : (2 : Int) < (dg (val xs)).length := by omega
  have HLB := Lib.hid hlb
  have HD1 := Lib.hid hd1
  have HGT := Lib.hid hgt
  clear hlb hd1 hgt
  go_enter Tryd.func46, Tryd.ntmps46
  go_wp2_with fail
  refine (Ta.out).mono ?_
  rintro e w' ⟨A, c, rfl, hA, rfl⟩
  go_wp2_with fail
  refine (Tb.out).mono ?_
  rintro e w' ⟨A', c', rfl, hB, rfl⟩
  have C := cmp_c w _ _ _ _ hA hB
  rw [HGT.out] at C
  have CC := Lib.hid C
  clear C
  go_wp2_with fail
  refine (CC.out).mono ?_
  rintro e w' ⟨rfl, N, rfl⟩
  have NN := Lib.hid (normalize_c (w.drewN N) _ _ (hA.drewN N) (by omega))
  go_wp2_with fail
  refine (NN.out).mono ?_
  rintro e w1 ⟨q, rfl, hq, hB1⟩
  have hB2 : Below w.heap.size w w1 := (below_drewN (Below.refl _ _) N).trans hB1
  have hq1 : Own w.heap.size w1 q (dg (val (dg (val xs)))) := hq
  obtain ⟨b, off, rfl, hbb, hcell⟩ := (hB.below hB2).cells (by omega)
  have hc0 : w1.cell? ⟨b, off, none⟩ = some (.int .u32 (((dg (val ys)).getD 0 0 : Nat) : Int)) := hcell 0 (by omega)
  rw [← HD1.out] at hc0
  have hdb : val ys < 4294967296 := by rw [HD1.out]; exact (small_dg (val ys)).get 0
  have hne : dg (val (dg (val xs))) ≠ [] := by
    rw [val_dg]
    intro e
    rw [e] at hla
    simp at hla
  have DV := Lib.hid (divd_own w1 w.heap.size (val ys) q _ hq1 hne hb0 hdb)
  rw [val_dg, val_dg] at DV
  clear hcell hq hB1 hA hB NN
  go_wp2_with fail
  refine (DV.out).mono ?_
  rintro e w2 ⟨rfl, zs, z1, z2, z3, z4⟩
  have hB3 := below_own hB2 z3 hq1 (Nat.le_refl _)
  have hm : val xs % val ys < 4294967296 := Nat.lt_trans (Nat.mod_lt _ hb0) hdb
  have FC := Lib.hid (from_c w2 (val xs % val ys) (by omega))
  have Z1 := Lib.hid z1
  have hmi : ((val xs % val ys : Nat) : Int) < 4294967296 := by omega
  have hmi0 : 0 ≤ ((val xs % val ys : Nat) : Int) := Int.natCast_nonneg _
  generalize hmd : val xs % val ys = md at *
  have HMD := Lib.hid hmd
  clear hmd
  clear z1 z3 z4 DV
  go_wp2_with fail
  refine (FC.out).mono ?_
  rintro e w3 ⟨r, rfl, hr, hB4⟩
  have z5 := z2.below hB4 (Nat.le_refl _)
  have T := trim_own_any w3 _ _ zs z5
  rw [Z1.out] at T
  have TT := Lib.hid T
  have hB5 := hB3.trans (hB4.mono hB3.size)
  clear T z2 z5
  go_wp2_with fail
  refine (TT.out).mono ?_
  rintro e w4 ⟨q2, rfl, hq2, rfl⟩
  go_wp2_with fail
  go_ret3
  exact ⟨_, _, rfl, hq2, by rw [HMD.out]; exact hr.mono hB3.size, hB5⟩
end Go.Proofs.YtgjhgpfjeoeojaaDoor

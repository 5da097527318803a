/- Package value as landed: decodeValue. -/
import Derived.Lib.IndexLaws
import Derived.Test.YtpbkmkcfhkdjjaaDoorVvg
import Derived.Test.YtpbkmkcfhkdjjaaDoorVvj
import Derived.Test.YtpbkmkcfhkdjjaaDoorVls
namespace Go.Proofs.YtpbkmkcfhkdjjaaDoor
set_option linter.unusedSimpArgs false
open Go.RowKit Dig
set_option linter.unusedVariables false

theorem vW_snoc : ∀ (ts : List UInt8) (c : UInt8), vW (ts ++ [c]) = vW ts * 256 + c.toNat
  | [], c => by simp [vW]
  | x :: ts, c => by
    show x.toNat * 256 ^ (ts ++ [c]).length + vW (ts ++ [c]) = (x.toNat * 256 ^ ts.length + vW ts) * 256 + c.toNat
    rw [vW_snoc ts c, List.length_append, List.length_singleton, Nat.pow_succ, Nat.add_mul, Nat.mul_assoc]
    omega
theorem low_bits (N : Nat) (h : N < 18446744073709551616) : ∃ X : Nat, bits .xor .u64 (N : Int) 9223372036854775808 = (X : Int) ∧ IntKind.i64.wrap (X : Int) = dnI N := by
  refine ⟨N ^^^ 9223372036854775808, u64_xor_nat N 9223372036854775808 h (by omega), ?_⟩
  rw [xor63 N h, IntKind.wrap_i64]
  unfold dnI
  split <;> omega
section
variable {w : World} {v : Value} {ts : List UInt8}
set_option maxRecDepth 20000 in
set_option maxHeartbeats 4000000 in
theorem decodeInt_c (h : Byt w v ts) (hl : ts.length = 8) : Calls Tryd.prog 49 #[v] w fun e w' => e = .returned (.int .i64 (dnI (vW ts))) ∧ w = w' := by
  obtain ⟨A, c, rfl⟩ := h.form
  rw [hl] at h ⊢
  obtain ⟨b, off, rfl, hb, hc⟩ := h.cells (by omega)
  have HC := Lib.hid hc
  have HL := Lib.hid hl
  have hlt : vW ts < 18446744073709551616 := by have := vW_lt ts; rw [hl] at this; omega
  obtain ⟨X, hx, hw⟩ := low_bits (vW ts) hlt
  obtain ⟨D, hD⟩ : ∃ D, dnI (vW ts) = D := ⟨_, rfl⟩
  rw [hD] at hw ⊢
  obtain ⟨N, hN⟩ : ∃ N, vW ts = N := ⟨_, rfl⟩
  rw [hN] at hx hlt
  have HX := Lib.hid hx
  have HW := Lib.hid hw
  have HN := Lib.hid hN
  clear h hb hc hl hD hN hx hw
  go_enter Tryd.func49, Tryd.ntmps49
  go_wp2_with fail
  go_loopw [3, 8] (fun nv jv w4 => ∃ j : Nat, j ≤ 8 ∧ jv = .int .i64 (j : Int) ∧ nv = .int .u64 (vW (ts.take j) : Int) ∧ w4 = w) (fun _ jv _ => 8 - (intOf jv).toNat)
  case atStart => exact ⟨0, Nat.zero_le _, rfl, rfl, rfl⟩
  case round =>
    obtain ⟨j, hj, rfl, rfl, rfl⟩ := hrel
    by_cases hj8 : j < 8
    · have HJ : (j : Int) < 8 := by omega
      have hcj := HC.out j (by rw [HL.out]; exact hj8)
      have hsn : ts.take (j + 1) = ts.take j ++ [ts.getD j 0] := by
        rw [List.take_add_one, List.getD_eq_getElem?_getD, List.getElem?_eq_getElem (by rw [HL.out]; exact hj8)]
        rfl
      have hbv := vW_snoc (ts.take j) (ts.getD j 0)
      rw [← hsn] at hbv
      have BV := Lib.hid hbv
      have hlt1 := vW_lt (ts.take j)
      have hle : (ts.take j).length ≤ 7 := Nat.le_trans (List.length_take_le _ _) (by omega)
      have hlt2 : vW (ts.take j) < 256 ^ 7 := Nat.lt_of_lt_of_le hlt1 (Nat.pow_le_pow_right (by omega) hle)
      have hx := (ts.getD j 0).toNat_lt
      generalize (ts.getD j 0).toNat = x at *
      generalize vW (ts.take j) = a at *
      have ha : a ≤ 72057594037927935 := by have : (256 : Nat) ^ 7 = 72057594037927936 := by decide
                                            omega
      have hai : (a : Int) * 256 ≤ 18446744073709551360 := by omega
      have hxi : (x : Int) ≤ 255 := by omega
      have hor : bits .or .u64 ((a : Int) * 256) (x : Int) = ((a * 256 + x : Nat) : Int) := by
        have h1 := u64_or_nat (a * 256) x (by omega) (by omega)
        rw [show ((a * 256 : Nat) : Int) = (a : Int) * 256 by omega] at h1
        rw [h1]
        congr 1
        have h2 := Nat.shiftLeft_add_eq_or_of_lt (i := 8) (b := x) (by omega) a
        rw [Nat.shiftLeft_eq] at h2
        rw [← h2]
      clear hlt hlt1 hle hlt2 hsn hbv hx ha hj8
      go_wp2_with fail
      go_roundw
      case rel => exact ⟨j + 1, by omega, by go_num, by rw [BV.out, Int.natCast_add, Int.natCast_mul]; rfl, by trivial⟩
      case measure => simp [intOf]; omega
    · have HJ : ¬ (j : Int) < 8 := by omega
      have hj2 : j = 8 := by omega
      subst hj2
      have e : vW (ts.take 8) = N := by rw [List.take_of_length_le (by rw [HL.out]; exact Nat.le_refl _)]; exact HN.out
      have hx := HX.out
      have hw := HW.out
      rw [e]
      clear hj hj8 e
      go_wp2_with fail
      go_ret
      exact ⟨rfl, rfl⟩
section
variable {ev : Operand → Value} {o : Oper} {A : Option Addr} {n c k : Nat}
theorem exec_addI {T T' : TypeId} (t s : Tmp) (x y z : Int) (ho : o.op = .binOp .add T (.tmp t) (.tmp s) T') (hx : ev (.tmp t) = .int .i64 x) (hy : ev (.tmp s) = .int .i64 y) (hz : IntKind.i64.wrap (x + y) = z) : (execOp ev o).run Tryd.prog w = .ok (.value (.int .i64 z)) w := by
  subst hz
  unfold execOp
  simp only [ho, hx, hy]
  go_simp
theorem exec_fromB (t x : Tmp) (ho : o.op = .slice 33 (.tmp t) (some (.tmp x)) none none) (hx : ev (.tmp t) = .slice A n c) (hh : ev (.tmp x) = .int .i64 (k : Int)) (hk : k ≤ n) (hn : n ≤ c) :
    (execOp ev o).run Tryd.prog w = .ok (.value (.slice (tailB A c k) (n - k) (c - k))) w := by
  have hpi : (k : Int) ≤ (n : Int) := by omega
  unfold execOp
  simp only [ho, hx, hh, Option.map]
  go_simp
  rfl
theorem exec_fromC (t : Tmp) (x : Operand) (ho : o.op = .slice 33 (.tmp t) (some x) none none) (hx : ev (.tmp t) = .slice A n c) (hh : ev x = .int .i64 (k : Int)) (hk : k ≤ n) (hn : n ≤ c) :
    (execOp ev o).run Tryd.prog w = .ok (.value (.slice (tailB A c k) (n - k) (c - k))) w := by
  have hpi : (k : Int) ≤ (n : Int) := by omega
  unfold execOp
  simp only [ho, hx, hh, Option.map]
  go_simp
  rfl
theorem exec_midC (t : Tmp) (x y : Operand) {m : Nat} (ho : o.op = .slice 33 (.tmp t) (some x) (some y) none) (hx : ev (.tmp t) = .slice A n c) (hh : ev x = .int .i64 (k : Int)) (hy : ev y = .int .i64 (m : Int)) (hk : k ≤ m) (hm : m ≤ n) (hn : n ≤ c) :
    (execOp ev o).run Tryd.prog w = .ok (.value (.slice (tailB A c k) (m - k) (c - k))) w := by
  have hpi : (k : Int) ≤ (m : Int) := by omega
  have hpj : (m : Int) ≤ (c : Int) := by omega
  unfold execOp
  simp only [ho, hx, hh, hy, Option.map]
  go_simp
  rfl
end
section
variable {ops : Array Oper} {rest : List Oper} {o : Oper} {a : Act} {Q : Exit → Act → World → Prop} {A : Option Addr} {n c k : Nat}
theorem wp_fromC (hgd : o.guard = none) (t : Tmp) (x : Operand) (ho : o.op = .slice 33 (.tmp t) (some x) none none) (hx : a.eval (.tmp t) = .slice A n c) (hh : a.eval x = .int .i64 (k : Int)) (hk : k ≤ n) (hn : n ≤ c)
    (h : wpList Tryd.prog ops Q rest (a.put o.dst (.slice (tailB A c k) (n - k) (c - k))) w) : wpList Tryd.prog ops Q (o :: rest) a w := by
  refine wpList_plain hgd fun K hK => ?_
  unfold Oper.wp
  rw [exec_fromC (w := w) t x ho hx hh hk hn]
  exact hK _ _ h
theorem wp_midC (hgd : o.guard = none) (t : Tmp) (x y : Operand) {m : Nat} (ho : o.op = .slice 33 (.tmp t) (some x) (some y) none) (hx : a.eval (.tmp t) = .slice A n c) (hh : a.eval x = .int .i64 (k : Int)) (hy : a.eval y = .int .i64 (m : Int)) (hk : k ≤ m) (hm : m ≤ n) (hn : n ≤ c)
    (h : wpList Tryd.prog ops Q rest (a.put o.dst (.slice (tailB A c k) (m - k) (c - k))) w) : wpList Tryd.prog ops Q (o :: rest) a w := by
  refine wpList_plain hgd fun K hK => ?_
  unfold Oper.wp
  rw [exec_midC (w := w) t x y ho hx hh hy hk hm hn]
  exact hK _ _ h
end
theorem tailB_some {b off c k : Nat} : ∃ o', tailB (some ⟨b, off, none⟩) c k = some ⟨b, o', none⟩ := by
  unfold tailB
  split
  · exact ⟨_, rfl⟩
  · exact ⟨off + k, by simp [Addr.add]⟩
theorem index0_c {b off n c g d : Nat} (h : Byt w (.slice (some ⟨b, off, none⟩) n c) ts) (hs : w.cell? ⟨g, 0, none⟩ = some (.int .u8 0)) : Calls Tryd.prog 62 #[.slice (some ⟨b, off, none⟩) n c, .slice (some ⟨g, 0, none⟩) 1 d] w fun e w' => e = .returned (.int .i64 (Lib.indexByte ts 0)) ∧ w' = w := by
  have hb := h.bounds
  have he : Lib.bytesOf (ts.map fun c => (c.toNat : Int)) = ts := by
    unfold Lib.bytesOf
    rw [List.map_map]
    exact (List.map_congr_left fun x _ => by simp).trans (List.map_id ts)
  have := Tryd.bytes_Index_one_at ⟨b, off, none⟩ n c g 0 d (ts.map fun c => (c.toNat : Int)) 0 w (by rw [List.length_map, hb.1]) (fun i hi => by
    obtain ⟨b', off', e, _, hc⟩ := h.cells (by omega)
    cases e
    have e2 : (⟨b, off, none⟩ : Addr).add i = ⟨b, off + i, none⟩ := by unfold Addr.add; split <;> simp_all
    rw [e2, hc i (by omega)]
    simp [List.getD_eq_getElem?_getD, List.getElem?_eq_getElem (show i < ts.length by omega)]) hs
  rw [he] at this
  exact this
/-- What bytes.Cut finds at one zero. -/
def CutR (w : World) (ts : List UInt8) (e : Ending) : Prop :=
  (∃ k u r, k < ts.length ∧ ts[k]? = some 0 ∧ (∀ i, i < k → ts[i]? ≠ some 0) ∧ e = .returned (.tuple #[u, r, .bool true]) ∧ Byt w u (ts.take k)) ∨ ((∀ i, i < ts.length → ts[i]? ≠ some 0) ∧ ∃ u r, e = .returned (.tuple #[u, r, .bool false]))
set_option maxRecDepth 20000 in
set_option maxHeartbeats 4000000 in
theorem cut0_c {b off n c g d : Nat} (h : Byt w (.slice (some ⟨b, off, none⟩) n c) ts) (hl : ts.length ≤ 1000000) (hs : w.cell? ⟨g, 0, none⟩ = some (.int .u8 0)) : Calls Tryd.prog 50 #[.slice (some ⟨b, off, none⟩) n c, .slice (some ⟨g, 0, none⟩) 1 d] w fun e w' => CutR w ts e ∧ Below w.heap.size w w' := by
  have hb := h.bounds
  have IX := index0_c (d := d) h hs
  have H := Lib.hid h
  have hge := Lib.indexByte_ge ts 0
  by_cases hm : Lib.indexByte ts 0 = -1
  · have NO := Lib.hid (Lib.indexByte_none hm)
    rw [hm] at IX
    clear h hs hl hge hm hb
    go_enter Tryd.func50, Tryd.ntmps50
    go_wp2_with fail
    refine IX.mono ?_
    rintro e w1 ⟨rfl, rfl⟩
    go_wp2_with fail
    go_ret3
    exact ⟨.inr ⟨fun i _ => NO.out i, _, _, rfl⟩, Below.refl _ _⟩
  · obtain ⟨k, hk⟩ : ∃ k : Nat, Lib.indexByte ts 0 = k := ⟨(Lib.indexByte ts 0).toNat, by omega⟩
    obtain ⟨h1, h2⟩ := Lib.indexByte_some hk
    have hkl := (List.getElem?_eq_some_iff.1 h1).1
    have A1 := Lib.hid h1
    have A2 := Lib.hid h2
    have KL := Lib.hid hkl
    have HN := Lib.hid hb
    have hk0 : (0 : Int) ≤ (k : Int) := by omega
    have HKN := Lib.hid (show k + 1 ≤ n ∧ n ≤ c ∧ k + 1 ≤ 1000000 by omega)
    rw [hk] at IX
    clear h hs hl hge hm hb hk h1 h2 hkl
    go_enter Tryd.func50, Tryd.ntmps50
    go_wp2_with fail
    refine IX.mono ?_
    rintro e w1 ⟨rfl, rfl⟩
    go_wp2_with fail
    refine wp_region_plan (S := fun W => Below w1.heap.size w1 W) [(0, true), (1, true), (2, true), (3, true), (4, true), (5, true), (6, true), (7, true), (8, true), (9, true), (10, true), (11, true)] (by kernel_rfl) (by kernel_rfl) (by kernel_rfl) (by kernel_rfl) (fun _ _ d _ _ h => by cases d <;> exact h) (Below.refl _ _).drew ?_
    refine wkS_take (some 13) (.slice (some ⟨b, off, none⟩) n c) (by kernel_rfl) (by kernel_rfl) (by kernel_rfl) (fun W hS => by kernel_rfl) ?_
    simp only [put_lit, put_non, List.set_cons_zero, List.set_cons_succ]
    refine wkS_take (some 14) (.int .i64 (k : Int)) (by kernel_rfl) (by kernel_rfl) (by kernel_rfl) (fun W hS => by kernel_rfl) ?_
    simp only [put_lit, put_non, List.set_cons_zero, List.set_cons_succ]
    refine wkS_take (some 15) (.slice (some ⟨b, off, none⟩) k c) (by kernel_rfl) (by kernel_rfl) (by kernel_rfl) (fun W hS => exec_cutB 13 14 (n := n) (c := c) (k := k) (by kernel_rfl) (by kernel_rfl) (by kernel_rfl) (by have := HKN.out; omega) HKN.out.2.1) ?_
    simp only [put_lit, put_non, List.set_cons_zero, List.set_cons_succ]
    refine wkS_take (some 16) (.slice (some ⟨b, off, none⟩) n c) (by kernel_rfl) (by kernel_rfl) (by kernel_rfl) (fun W hS => by kernel_rfl) ?_
    simp only [put_lit, put_non, List.set_cons_zero, List.set_cons_succ]
    refine wkS_take (some 17) (.int .i64 (k : Int)) (by kernel_rfl) (by kernel_rfl) (by kernel_rfl) (fun W hS => by kernel_rfl) ?_
    simp only [put_lit, put_non, List.set_cons_zero, List.set_cons_succ]
    refine wkS_take (some 18) (.slice (some ⟨g, 0, none⟩) 1 d) (by kernel_rfl) (by kernel_rfl) (by kernel_rfl) (fun W hS => by kernel_rfl) ?_
    simp only [put_lit, put_non, List.set_cons_zero, List.set_cons_succ]
    refine wkS_take (some 19) (.int .i64 1) (by kernel_rfl) (by kernel_rfl) (by kernel_rfl) (fun W hS => by kernel_rfl) ?_
    simp only [put_lit, put_non, List.set_cons_zero, List.set_cons_succ]
    refine wkS_take (some 20) (.int .i64 ((k + 1 : Nat) : Int)) (by kernel_rfl) (by kernel_rfl) (by kernel_rfl) (fun W hS => exec_addI (T := 3) (T' := 3) 17 19 (k : Int) 1 _ (by kernel_rfl) (by kernel_rfl) (by kernel_rfl) (by rw [IntKind.wrap_i64]; have := HKN.out; omega)) ?_
    simp only [put_lit, put_non, List.set_cons_zero, List.set_cons_succ]
    refine wkS_take (some 21) (.slice (tailB (some ⟨b, off, none⟩) c (k + 1)) (n - (k + 1)) (c - (k + 1))) (by kernel_rfl) (by kernel_rfl) (by kernel_rfl) (fun W hS => exec_fromB 16 20 (A := some ⟨b, off, none⟩) (n := n) (c := c) (k := k + 1) (by kernel_rfl) (by kernel_rfl) (by kernel_rfl) HKN.out.1 HKN.out.2.1) ?_
    simp only [put_lit, put_non, List.set_cons_zero, List.set_cons_succ]
    refine wkS_take (some 4) (.slice (some ⟨b, off, none⟩) k c) (by kernel_rfl) (by kernel_rfl) (by kernel_rfl) (fun W hS => by kernel_rfl) ?_
    simp only [put_lit, put_non, List.set_cons_zero, List.set_cons_succ]
    refine wkS_take (some 5) (.slice (tailB (some ⟨b, off, none⟩) c (k + 1)) (n - (k + 1)) (c - (k + 1))) (by kernel_rfl) (by kernel_rfl) (by kernel_rfl) (fun W hS => by kernel_rfl) ?_
    simp only [put_lit, put_non, List.set_cons_zero, List.set_cons_succ]
    refine wkS_take (some 6) (.bool true) (by kernel_rfl) (by kernel_rfl) (by kernel_rfl) (fun W hS => by kernel_rfl) ?_
    simp only [put_lit, put_non, List.set_cons_zero, List.set_cons_succ]
    refine wkS_done ?_
    go_wp2_with fail
    go_ret3
    exact ⟨.inl ⟨k, _, _, KL.out, A1.out, A2.out, rfl, H.out.cut (by have := HKN.out; omega)⟩, (Below.refl _ _).drew⟩
end
end Go.Proofs.YtpbkmkcfhkdjjaaDoor

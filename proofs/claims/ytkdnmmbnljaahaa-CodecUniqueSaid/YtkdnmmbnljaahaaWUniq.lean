/- The walk of CodecUnique. -/
import Derived.Test.YtkdnmmbnljaahaaLw4
namespace Go.Proofs.Ytkdnmmbnljaahaa
set_option linter.unusedSimpArgs false
open Go.RowKit Dig
set_option linter.unusedVariables false

namespace Dig
/-- What was read without an error, encoded anew, is what was consumed. -/
theorem again_take {ts e r : List UInt8} (h : ts = e ++ r) : ts.length - r.length ≤ ts.length ∧ e = ts.take (ts.length - r.length) := by
  subst h
  refine ⟨by omega, ?_⟩
  rw [List.length_append, Nat.add_sub_cancel, List.take_left]
end Dig
theorem canon_num {neg : Bool} {n d : Nat} (h : canonN neg n d = true) : decide ((fr neg n d).num < 0) = neg ∧ (fr neg n d).num.natAbs = n ∧ (fr neg n d).den = d := by
  unfold canonN canon at h
  rw [val_dg, val_dg, decide_eq_true_eq] at h
  obtain ⟨h1, h2, h3⟩ := h
  have e2 := congrArg val h2
  have e3 := congrArg val h3
  rw [val_dg, val_dg] at e2 e3
  exact ⟨h1.symm, e2.symm, e3.symm⟩
theorem and3 (c : Nat) (hc : c < 256) : bits .and .u8 (c : Int) 3 = ((c % 4 : Nat) : Int) := by
  have h := u8_and_nat c 3 hc (by omega)
  rw [show ((3 : Nat) : Int) = 3 from rfl] at h
  rw [h]
  congr 1
  exact Nat.and_two_pow_sub_one_eq_mod c 2

section
variable {ev : Operand → Value} {o : Oper} {w : World}
theorem exec_geq0 (t : Tmp) (m : Nat) (ho : o.op = .binOp .geq 3 (.tmp t) (.const (.int .i64 0)) 3) (hx : ev (.tmp t) = .int .i64 (m : Int)) (hy : ev (.const (.int .i64 0)) = .int .i64 0) :
    (execOp ev o).run Try.prog w = .ok (.value (.bool true)) w := by
  have h : (0 : Int) ≤ m := by omega
  unfold execOp
  simp only [ho, hx, hy]
  go_simp
theorem exec_leq (t s : Tmp) (m n : Nat) (h : m ≤ n) (ho : o.op = .binOp .leq 3 (.tmp t) (.tmp s) 3) (hx : ev (.tmp t) = .int .i64 (m : Int)) (hy : ev (.tmp s) = .int .i64 (n : Int)) :
    (execOp ev o).run Try.prog w = .ok (.value (.bool true)) w := by
  have h : (m : Int) ≤ n := by omega
  unfold execOp
  simp only [ho, hx, hy]
  go_simp
theorem exec_toB (t x : Tmp) {A : Option Addr} {n c k : Nat} (hk : k ≤ n) (hn : n ≤ c) (ho : o.op = .slice 23 (.tmp t) none (some (.tmp x)) none) (hx : ev (.tmp t) = .slice A n c) (hh : ev (.tmp x) = .int .i64 (k : Int)) :
    (execOp ev o).run Try.prog w = .ok (.value (.slice A k c)) w := by
  have hpi : (k : Int) ≤ (c : Int) := by omega
  unfold execOp
  simp only [ho, hx, hh, Option.map]
  go_simp
end
theorem fxo_frac {w : World} {r : Value} {ts : List UInt8} (h : FxO w r (fracS canonN (ts, 0)).1) : ∃ q : Rat, FracV w r q 2048 ∧ ∀ b n d, (fracS canonN (ts, 0)).1 = some (b, n, d) → q = fr b n d := by
  have hbnd : ∀ b n d, (fracS canonN (ts, 0)).1 = some (b, n, d) → (dg n).length ≤ 2048 ∧ (dg d).length ≤ 2048 := by
    intro b n d e
    unfold fracS at e
    split at e
    · cases e
    · split at e
      · cases e
      · unfold restS at e
        split at e
        · split at e
          · simp only [Option.some.injEq, Prod.mk.injEq] at e
            obtain ⟨_, e2, e3⟩ := e
            rw [← e2, ← e3]
            exact ⟨dg_length_le _ 2048 (natS_lt _ 2048 (by omega)), dg_length_le _ 2048 (natS_lt _ 2048 (by omega))⟩
          · cases e
        · cases e
  cases hq : (fracS canonN (ts, 0)).1 with
  | none =>
    rw [hq] at h
    obtain ⟨vn, vd, rfl, h1, h2⟩ := h
    exact ⟨_, FracV.of ⟨_, h1, rfl, by simp⟩ ⟨_, h2, rfl, by simp⟩, fun b n d e => by cases e⟩
  | some p =>
    obtain ⟨b, n, d⟩ := p
    obtain ⟨l1, l2⟩ := hbnd b n d hq
    rw [hq] at h
    obtain ⟨vn, vd, rfl, h1, h2⟩ := h
    refine ⟨fr b n d, FracV.of ⟨_, h1, val_dg n, l1⟩ ⟨_, h2, val_dg d, l2⟩, fun b' n' d' e => ?_⟩
    cases e
    rfl
section
variable {w : World} {vb : Value} {ts : List UInt8}
theorem uniq_big (z : Int) (hb : Byt w vb ts) (h : 100 < ts.length) :
    Calls Try.prog 7 #[vb, .int .u8 z] w (RVal w (.bool true)) := by
  obtain ⟨B, bc, rfl⟩ := hb.form
  generalize ts.length = l0 at *
  clear hb
  have h0i : (100 : Int) < l0 := by omega
  clear h
  go_enter Try.func7, Try.ntmps7
  go_wp2_with fail
  go_ret
  exact ⟨rfl, Below.refl _ _⟩
set_option maxRecDepth 20000 in
set_option maxHeartbeats 32000000 in
theorem uniq_small (k : Nat) (hk : k < 256) (hb : Byt w vb ts) (h0 : ts.length ≤ 100) :
    Calls Try.prog 7 #[vb, .int .u8 (k : Int)] w (RVal w (.bool true)) := by
  have NR := Lib.hid (newReader_c hb (by omega))
  have hand := and3 k hk
  have hk4 : k % 4 = 0 ∨ k % 4 = 1 ∨ k % 4 = 2 ∨ k % 4 = 3 := by omega
  have HBY := Lib.hid hb
  have HT := Lib.hid h0
  obtain ⟨B, bc, rfl⟩ := hb.form
  have hbc := hb.bounds.2.1
  have h0i : ¬ (100 : Int) < ts.length := by omega
  have h0j : (ts.length : Int) ≤ 100 := by omega
  clear hb h0
  rcases hk4 with h4 | h4 | h4 | h4 <;> rw [h4] at hand
  all_goals clear h4 hk
  · go_enter Try.func7, Try.ntmps7
    go_wp2_with fail
    refine (NR.out).mono ?_
    rintro e w1 ⟨g, rfl, hg, hR1, hB1⟩
    have hs : ((ts, (0 : Int)) : RS).1.length ≤ 100 := HT.out
    have UN := Lib.hid (fun n r => uintS_uniq (max := 18446744073709551615) (n := n) (ts := ts) (r := r))
    have UL := uintS_le 18446744073709551615 (ts, 0)
    have UC := Lib.hid (show Calls Try.prog 24 #[.pointer (some ⟨g, 0, none⟩), .int .u64 18446744073709551615] w1 (fun e w' => e = .returned (.int .u64 ((uintS 18446744073709551615 (ts, 0)).1 : Nat)) ∧ Rdr 66 w' g (uintS 18446744073709551615 (ts, 0)).2 ∧ w1.grownBy w' (some g)) from uint_c hR1 (by omega) 18446744073709551615 (by omega))
    have UO := uintS_ok 18446744073709551615 (okR_start ts)
    have UQ := Lib.hid (show (uintS 18446744073709551615 (ts, 0)).2.2 = 0 → ts = encU (uintS 18446744073709551615 (ts, 0)).1 ++ (uintS 18446744073709551615 (ts, 0)).2.1 from fun h => UN.out _ _ (pair_eta h))
    generalize (uintS 18446744073709551615 (ts, 0)).1 = n at *
    generalize (uintS 18446744073709551615 (ts, 0)).2 = s' at *
    have EE := Lib.hid (fun w2 => encUint_c w2 n (by omega))
    clear UL UN hR1 hs
    go_wp2_with fail
    refine (UC.out).mono ?_
    rintro e w2 ⟨rfl, hR2, hG2⟩
    go_wp2_with fail
    refine (EE.out _).mono ?_
    rintro e wr ⟨v, rfl, hv, hBr⟩
    have FA0 := hv.byt
    have hgw : w.heap.size ≤ g := hg
    have B2 := below_of_grown hB1 hG2 hB1.size hgw
    have BR := Lib.hid (below_then B2 hBr)
    have hRr := hR2.below hBr
    have RE := Lib.hid (err_c hRr)
    have RM := Lib.hid (remaining_c hRr)
    clear hR2 hG2 hBr hRr hv B2 hg hB1
    by_cases hs0 : s'.2 = 0
    · have hnz : (s'.2 != 0) = false := by rw [hs0]; rfl
      obtain ⟨hml, he⟩ := again_take (UQ.out hs0)
      obtain ⟨m, hm⟩ : ∃ m, ts.length - s'.1.length = m := ⟨_, rfl⟩
      rw [hm] at hml he
      have hsl : s'.1.length ≤ ts.length := by have := congrArg List.length (UQ.out hs0); rw [List.length_append] at this; omega
      have hmi : (ts.length : Int) - (s'.1.length : Int) = (m : Int) := by omega
      rw [he] at FA0
      have FA := FA0
      have FB := (HBY.out.below BR.out).cut hml
      have HML := Lib.hid hml
      have HLC := Lib.hid hbc
      clear hs0 he hml hm FA0 UO
      generalize hbl : ts.length = bl at *
      go_wp2_with fail
      refine (RE.out).mono ?_
      rintro e w' ⟨rfl, rfl⟩
      go_wp2_with fail
      refine (RM.out).mono ?_
      rintro e w' ⟨rfl, rfl⟩
      go_wp2_with fail
      refine hk_begin (S := fun w' => Below wr.drew.heap.size wr.drew w') 21 (by kernel_rfl) (by kernel_rfl) ?_
      have KB : Below wr.heap.size wr wr.drew := (Below.refl _ _).drew
      have FA := FA.below (Below.refl _ _).drew
      have FB := FB.below (Below.refl _ _).drew
      refine hk_take (i := 0) (some 49) (.int .i64 (m : Int)) (by kernel_rfl) (by kernel_rfl) (by kernel_rfl) (by kernel_rfl) (by kernel_rfl) (by kernel_rfl) (fun w hS => by kernel_rfl) (fun _ _ d _ _ h => by cases d <;> exact h) (Below.refl _ _) ?_
      simp only [put_lit, put_non, List.set_cons_zero, List.set_cons_succ]
      refine hk_take (i := 1) (some 50) (.bool true) (by kernel_rfl) (by kernel_rfl) (by kernel_rfl) (by kernel_rfl) (by kernel_rfl) (by kernel_rfl) (fun w hS => exec_geq0 49 m (by kernel_rfl) (by kernel_rfl) (by kernel_rfl)) (fun _ _ d _ _ h => by cases d <;> exact h) (Below.refl _ _) ?_
      simp only [put_lit, put_non, List.set_cons_zero, List.set_cons_succ]
      refine hk_take (i := 2) (some 51) (.bool true) (by kernel_rfl) (by kernel_rfl) (by kernel_rfl) (by kernel_rfl) (by kernel_rfl) (by kernel_rfl) (fun w hS => by kernel_rfl) (fun _ _ d _ _ h => by cases d <;> exact h) (Below.refl _ _) ?_
      simp only [put_lit, put_non, List.set_cons_zero, List.set_cons_succ]
      refine hk_take (i := 3) (some 52) (.int .i64 (m : Int)) (by kernel_rfl) (by kernel_rfl) (by kernel_rfl) (by kernel_rfl) (by kernel_rfl) (by kernel_rfl) (fun w hS => by kernel_rfl) (fun _ _ d _ _ h => by cases d <;> exact h) (Below.refl _ _) ?_
      simp only [put_lit, put_non, List.set_cons_zero, List.set_cons_succ]
      refine hk_take (i := 4) (some 53) (.slice B bl bc) (by kernel_rfl) (by kernel_rfl) (by kernel_rfl) (by kernel_rfl) (by kernel_rfl) (by kernel_rfl) (fun w hS => by kernel_rfl) (fun _ _ d _ _ h => by cases d <;> exact h) (Below.refl _ _) ?_
      simp only [put_lit, put_non, List.set_cons_zero, List.set_cons_succ]
      refine hk_take (i := 5) (some 54) (.int .i64 (bl : Int)) (by kernel_rfl) (by kernel_rfl) (by kernel_rfl) (by kernel_rfl) (by kernel_rfl) (by kernel_rfl) (fun w hS => by kernel_rfl) (fun _ _ d _ _ h => by cases d <;> exact h) (Below.refl _ _) ?_
      simp only [put_lit, put_non, List.set_cons_zero, List.set_cons_succ]
      refine hk_take (i := 6) (some 55) (.bool true) (by kernel_rfl) (by kernel_rfl) (by kernel_rfl) (by kernel_rfl) (by kernel_rfl) (by kernel_rfl) (fun w hS => exec_leq 52 54 m bl HML.out (by kernel_rfl) (by kernel_rfl) (by kernel_rfl)) (fun _ _ d _ _ h => by cases d <;> exact h) (Below.refl _ _) ?_
      simp only [put_lit, put_non, List.set_cons_zero, List.set_cons_succ]
      refine hk_take (i := 7) (some 56) (.bool true) (by kernel_rfl) (by kernel_rfl) (by kernel_rfl) (by kernel_rfl) (by kernel_rfl) (by kernel_rfl) (fun w hS => by kernel_rfl) (fun _ _ d _ _ h => by cases d <;> exact h) (Below.refl _ _) ?_
      simp only [put_lit, put_non, List.set_cons_zero, List.set_cons_succ]
      refine hk_take (i := 8) (some 57) (.bool true) (by kernel_rfl) (by kernel_rfl) (by kernel_rfl) (by kernel_rfl) (by kernel_rfl) (by kernel_rfl) (fun w hS => by kernel_rfl) (fun _ _ d _ _ h => by cases d <;> exact h) (Below.refl _ _) ?_
      simp only [put_lit, put_non, List.set_cons_zero, List.set_cons_succ]
      refine hk_take (i := 9) (some 58) (v) (by kernel_rfl) (by kernel_rfl) (by kernel_rfl) (by kernel_rfl) (by kernel_rfl) (by kernel_rfl) (fun w hS => by kernel_rfl) (fun _ _ d _ _ h => by cases d <;> exact h) (Below.refl _ _) ?_
      simp only [put_lit, put_non, List.set_cons_zero, List.set_cons_succ]
      refine hk_take (i := 10) (some 59) (.string ⟨(ts.take m).toArray⟩) (by kernel_rfl) (by kernel_rfl) (by kernel_rfl) (by kernel_rfl) (by kernel_rfl) (by kernel_rfl) (fun w hS => exec_strB 58 (FA.below hS) (by kernel_rfl) (by kernel_rfl)) (fun _ _ d _ _ h => by cases d <;> exact h) (Below.refl _ _) ?_
      simp only [put_lit, put_non, List.set_cons_zero, List.set_cons_succ]
      refine hk_take (i := 11) (some 60) (.slice B bl bc) (by kernel_rfl) (by kernel_rfl) (by kernel_rfl) (by kernel_rfl) (by kernel_rfl) (by kernel_rfl) (fun w hS => by kernel_rfl) (fun _ _ d _ _ h => by cases d <;> exact h) (Below.refl _ _) ?_
      simp only [put_lit, put_non, List.set_cons_zero, List.set_cons_succ]
      refine hk_take (i := 12) (some 61) (.int .i64 (m : Int)) (by kernel_rfl) (by kernel_rfl) (by kernel_rfl) (by kernel_rfl) (by kernel_rfl) (by kernel_rfl) (fun w hS => by kernel_rfl) (fun _ _ d _ _ h => by cases d <;> exact h) (Below.refl _ _) ?_
      simp only [put_lit, put_non, List.set_cons_zero, List.set_cons_succ]
      refine hk_take (i := 13) (some 62) (.slice B m bc) (by kernel_rfl) (by kernel_rfl) (by kernel_rfl) (by kernel_rfl) (by kernel_rfl) (by kernel_rfl) (fun w hS => exec_toB 60 61 HML.out HLC.out (by kernel_rfl) (by kernel_rfl) (by kernel_rfl)) (fun _ _ d _ _ h => by cases d <;> exact h) (Below.refl _ _) ?_
      simp only [put_lit, put_non, List.set_cons_zero, List.set_cons_succ]
      refine hk_take (i := 14) (some 63) (.string ⟨(ts.take m).toArray⟩) (by kernel_rfl) (by kernel_rfl) (by kernel_rfl) (by kernel_rfl) (by kernel_rfl) (by kernel_rfl) (fun w hS => exec_strB 62 (FB.below hS) (by kernel_rfl) (by kernel_rfl)) (fun _ _ d _ _ h => by cases d <;> exact h) (Below.refl _ _) ?_
      simp only [put_lit, put_non, List.set_cons_zero, List.set_cons_succ]
      refine hk_take (i := 15) (some 64) (.bool true) (by kernel_rfl) (by kernel_rfl) (by kernel_rfl) (by kernel_rfl) (by kernel_rfl) (by kernel_rfl) (fun w hS => exec_eqStr 59 63 ⟨(ts.take m).toArray⟩ (by kernel_rfl) (by kernel_rfl) (by kernel_rfl)) (fun _ _ d _ _ h => by cases d <;> exact h) (Below.refl _ _) ?_
      simp only [put_lit, put_non, List.set_cons_zero, List.set_cons_succ]
      refine hk_take (i := 16) (some 65) (.bool true) (by kernel_rfl) (by kernel_rfl) (by kernel_rfl) (by kernel_rfl) (by kernel_rfl) (by kernel_rfl) (fun w hS => by kernel_rfl) (fun _ _ d _ _ h => by cases d <;> exact h) (Below.refl _ _) ?_
      simp only [put_lit, put_non, List.set_cons_zero, List.set_cons_succ]
      refine hk_take (i := 17) (some 66) (.bool true) (by kernel_rfl) (by kernel_rfl) (by kernel_rfl) (by kernel_rfl) (by kernel_rfl) (by kernel_rfl) (fun w hS => by kernel_rfl) (fun _ _ d _ _ h => by cases d <;> exact h) (Below.refl _ _) ?_
      simp only [put_lit, put_non, List.set_cons_zero, List.set_cons_succ]
      refine hk_one (i := 18) (by kernel_rfl) ?_
      refine op_call (some 67) 19 #[] (by kernel_rfl) (by kernel_rfl) (by kernel_rfl) (fun w => by kernel_rfl) ?_
      refine (known4_c _).mono ?_
      rintro e y1 ⟨rfl, hB⟩
      refine ⟨_, rfl, hB, ?_⟩
      refine hk_more (S2 := fun w' => Below y1.heap.size y1 w') (fun w' h => below_then hB h) _ _ _ _ ?_
      have KB := below_then KB hB
      have FA := FA.below hB
      have FB := FB.below hB
      clear hB
      simp only [put_lit, put_non, List.set_cons_zero, List.set_cons_succ]
      refine hk_take (i := 19) (some 68) (.bool true) (by kernel_rfl) (by kernel_rfl) (by kernel_rfl) (by kernel_rfl) (by kernel_rfl) (by kernel_rfl) (fun w hS => by kernel_rfl) (fun _ _ d _ _ h => by cases d <;> exact h) (Below.refl _ _) ?_
      simp only [put_lit, put_non, List.set_cons_zero, List.set_cons_succ]
      refine hk_take (i := 20) (some 4) (.bool true) (by kernel_rfl) (by kernel_rfl) (by kernel_rfl) (by kernel_rfl) (by kernel_rfl) (by kernel_rfl) (fun w hS => by kernel_rfl) (fun _ _ d _ _ h => by cases d <;> exact h) (Below.refl _ _) ?_
      simp only [put_lit, put_non, List.set_cons_zero, List.set_cons_succ]
      refine hk_done (by kernel_rfl) ?_
      go_wp2_with fail
      go_ret
      exact ⟨rfl, below_then BR.out KB⟩
    · have hnz : (s'.2 != 0) = true := by rw [bne_iff_ne]; exact hs0
      have hl0 : s'.1.length = 0 := by rw [UO.stop hs0]; rfl
      rw [hl0] at RM
      clear hs0 hl0 UO FA0
      go_wp2_with fail
      refine (RE.out).mono ?_
      rintro e w' ⟨rfl, rfl⟩
      go_wp2_with fail
      refine (RM.out).mono ?_
      rintro e w' ⟨rfl, rfl⟩
      go_wp2_with fail
      refine (known4_c _).mono ?_
      rintro e w5 ⟨rfl, hB5⟩
      go_wp2_with fail
      go_ret
      exact ⟨rfl, below_then BR.out hB5⟩
  · go_enter Try.func7, Try.ntmps7
    go_wp2_with fail
    refine (NR.out).mono ?_
    rintro e w1 ⟨g, rfl, hg, hR1, hB1⟩
    have hs : ((ts, (0 : Int)) : RS).1.length ≤ 100 := HT.out
    have BC := bytes_c hR1 (by omega) 1048576 (by omega) (by omega)
    rw [show (1048576 : Int).toNat = 1048576 from rfl] at BC
    unfold RRB at BC
    have BC := Lib.hid BC
    have UO := bytesS_ok 1048576 (okR_start ts)
    have hlb := (bytesS_len 1048576 (ts, 0)).2
    have UQ := Lib.hid (show (bytesS 1048576 (ts, 0)).2.2 = 0 → ts = encB (bytesS 1048576 (ts, 0)).1 ++ (bytesS 1048576 (ts, 0)).2.1 from fun h => bytesS_uniq (pair_eta h))
    generalize (bytesS 1048576 (ts, 0)).1 = n at *
    generalize (bytesS 1048576 (ts, 0)).2 = s' at *
    clear hR1
    go_wp2_with fail
    refine (BC.out).mono ?_
    rintro e w2 ⟨r2, rfl, hr2, hR2, hG2⟩
    have EE := Lib.hid (encBytes_c hr2 (by omega))
    clear hlb hs hr2
    go_wp2_with fail
    refine (EE.out).mono ?_
    rintro e wr ⟨v, rfl, hv, hBr⟩
    have FA0 := hv.byt
    have hgw : w.heap.size ≤ g := hg
    have B2 := below_of_grown hB1 hG2 hB1.size hgw
    have BR := Lib.hid (below_then B2 hBr)
    have hRr := hR2.below hBr
    have RE := Lib.hid (err_c hRr)
    have RM := Lib.hid (remaining_c hRr)
    clear hR2 hG2 hBr hRr hv B2 hg hB1
    by_cases hs0 : s'.2 = 0
    · have hnz : (s'.2 != 0) = false := by rw [hs0]; rfl
      obtain ⟨hml, he⟩ := again_take (UQ.out hs0)
      obtain ⟨m, hm⟩ : ∃ m, ts.length - s'.1.length = m := ⟨_, rfl⟩
      rw [hm] at hml he
      have hsl : s'.1.length ≤ ts.length := by have := congrArg List.length (UQ.out hs0); rw [List.length_append] at this; omega
      have hmi : (ts.length : Int) - (s'.1.length : Int) = (m : Int) := by omega
      rw [he] at FA0
      have FA := FA0
      have FB := (HBY.out.below BR.out).cut hml
      have HML := Lib.hid hml
      have HLC := Lib.hid hbc
      clear hs0 he hml hm FA0 UO
      generalize hbl : ts.length = bl at *
      go_wp2_with fail
      refine (RE.out).mono ?_
      rintro e w' ⟨rfl, rfl⟩
      go_wp2_with fail
      refine (RM.out).mono ?_
      rintro e w' ⟨rfl, rfl⟩
      go_wp2_with fail
      refine hk_begin (S := fun w' => Below wr.drew.heap.size wr.drew w') 21 (by kernel_rfl) (by kernel_rfl) ?_
      have KB : Below wr.heap.size wr wr.drew := (Below.refl _ _).drew
      have FA := FA.below (Below.refl _ _).drew
      have FB := FB.below (Below.refl _ _).drew
      refine hk_take (i := 0) (some 49) (.int .i64 (m : Int)) (by kernel_rfl) (by kernel_rfl) (by kernel_rfl) (by kernel_rfl) (by kernel_rfl) (by kernel_rfl) (fun w hS => by kernel_rfl) (fun _ _ d _ _ h => by cases d <;> exact h) (Below.refl _ _) ?_
      simp only [put_lit, put_non, List.set_cons_zero, List.set_cons_succ]
      refine hk_take (i := 1) (some 50) (.bool true) (by kernel_rfl) (by kernel_rfl) (by kernel_rfl) (by kernel_rfl) (by kernel_rfl) (by kernel_rfl) (fun w hS => exec_geq0 49 m (by kernel_rfl) (by kernel_rfl) (by kernel_rfl)) (fun _ _ d _ _ h => by cases d <;> exact h) (Below.refl _ _) ?_
      simp only [put_lit, put_non, List.set_cons_zero, List.set_cons_succ]
      refine hk_take (i := 2) (some 51) (.bool true) (by kernel_rfl) (by kernel_rfl) (by kernel_rfl) (by kernel_rfl) (by kernel_rfl) (by kernel_rfl) (fun w hS => by kernel_rfl) (fun _ _ d _ _ h => by cases d <;> exact h) (Below.refl _ _) ?_
      simp only [put_lit, put_non, List.set_cons_zero, List.set_cons_succ]
      refine hk_take (i := 3) (some 52) (.int .i64 (m : Int)) (by kernel_rfl) (by kernel_rfl) (by kernel_rfl) (by kernel_rfl) (by kernel_rfl) (by kernel_rfl) (fun w hS => by kernel_rfl) (fun _ _ d _ _ h => by cases d <;> exact h) (Below.refl _ _) ?_
      simp only [put_lit, put_non, List.set_cons_zero, List.set_cons_succ]
      refine hk_take (i := 4) (some 53) (.slice B bl bc) (by kernel_rfl) (by kernel_rfl) (by kernel_rfl) (by kernel_rfl) (by kernel_rfl) (by kernel_rfl) (fun w hS => by kernel_rfl) (fun _ _ d _ _ h => by cases d <;> exact h) (Below.refl _ _) ?_
      simp only [put_lit, put_non, List.set_cons_zero, List.set_cons_succ]
      refine hk_take (i := 5) (some 54) (.int .i64 (bl : Int)) (by kernel_rfl) (by kernel_rfl) (by kernel_rfl) (by kernel_rfl) (by kernel_rfl) (by kernel_rfl) (fun w hS => by kernel_rfl) (fun _ _ d _ _ h => by cases d <;> exact h) (Below.refl _ _) ?_
      simp only [put_lit, put_non, List.set_cons_zero, List.set_cons_succ]
      refine hk_take (i := 6) (some 55) (.bool true) (by kernel_rfl) (by kernel_rfl) (by kernel_rfl) (by kernel_rfl) (by kernel_rfl) (by kernel_rfl) (fun w hS => exec_leq 52 54 m bl HML.out (by kernel_rfl) (by kernel_rfl) (by kernel_rfl)) (fun _ _ d _ _ h => by cases d <;> exact h) (Below.refl _ _) ?_
      simp only [put_lit, put_non, List.set_cons_zero, List.set_cons_succ]
      refine hk_take (i := 7) (some 56) (.bool true) (by kernel_rfl) (by kernel_rfl) (by kernel_rfl) (by kernel_rfl) (by kernel_rfl) (by kernel_rfl) (fun w hS => by kernel_rfl) (fun _ _ d _ _ h => by cases d <;> exact h) (Below.refl _ _) ?_
      simp only [put_lit, put_non, List.set_cons_zero, List.set_cons_succ]
      refine hk_take (i := 8) (some 57) (.bool true) (by kernel_rfl) (by kernel_rfl) (by kernel_rfl) (by kernel_rfl) (by kernel_rfl) (by kernel_rfl) (fun w hS => by kernel_rfl) (fun _ _ d _ _ h => by cases d <;> exact h) (Below.refl _ _) ?_
      simp only [put_lit, put_non, List.set_cons_zero, List.set_cons_succ]
      refine hk_take (i := 9) (some 58) (v) (by kernel_rfl) (by kernel_rfl) (by kernel_rfl) (by kernel_rfl) (by kernel_rfl) (by kernel_rfl) (fun w hS => by kernel_rfl) (fun _ _ d _ _ h => by cases d <;> exact h) (Below.refl _ _) ?_
      simp only [put_lit, put_non, List.set_cons_zero, List.set_cons_succ]
      refine hk_take (i := 10) (some 59) (.string ⟨(ts.take m).toArray⟩) (by kernel_rfl) (by kernel_rfl) (by kernel_rfl) (by kernel_rfl) (by kernel_rfl) (by kernel_rfl) (fun w hS => exec_strB 58 (FA.below hS) (by kernel_rfl) (by kernel_rfl)) (fun _ _ d _ _ h => by cases d <;> exact h) (Below.refl _ _) ?_
      simp only [put_lit, put_non, List.set_cons_zero, List.set_cons_succ]
      refine hk_take (i := 11) (some 60) (.slice B bl bc) (by kernel_rfl) (by kernel_rfl) (by kernel_rfl) (by kernel_rfl) (by kernel_rfl) (by kernel_rfl) (fun w hS => by kernel_rfl) (fun _ _ d _ _ h => by cases d <;> exact h) (Below.refl _ _) ?_
      simp only [put_lit, put_non, List.set_cons_zero, List.set_cons_succ]
      refine hk_take (i := 12) (some 61) (.int .i64 (m : Int)) (by kernel_rfl) (by kernel_rfl) (by kernel_rfl) (by kernel_rfl) (by kernel_rfl) (by kernel_rfl) (fun w hS => by kernel_rfl) (fun _ _ d _ _ h => by cases d <;> exact h) (Below.refl _ _) ?_
      simp only [put_lit, put_non, List.set_cons_zero, List.set_cons_succ]
      refine hk_take (i := 13) (some 62) (.slice B m bc) (by kernel_rfl) (by kernel_rfl) (by kernel_rfl) (by kernel_rfl) (by kernel_rfl) (by kernel_rfl) (fun w hS => exec_toB 60 61 HML.out HLC.out (by kernel_rfl) (by kernel_rfl) (by kernel_rfl)) (fun _ _ d _ _ h => by cases d <;> exact h) (Below.refl _ _) ?_
      simp only [put_lit, put_non, List.set_cons_zero, List.set_cons_succ]
      refine hk_take (i := 14) (some 63) (.string ⟨(ts.take m).toArray⟩) (by kernel_rfl) (by kernel_rfl) (by kernel_rfl) (by kernel_rfl) (by kernel_rfl) (by kernel_rfl) (fun w hS => exec_strB 62 (FB.below hS) (by kernel_rfl) (by kernel_rfl)) (fun _ _ d _ _ h => by cases d <;> exact h) (Below.refl _ _) ?_
      simp only [put_lit, put_non, List.set_cons_zero, List.set_cons_succ]
      refine hk_take (i := 15) (some 64) (.bool true) (by kernel_rfl) (by kernel_rfl) (by kernel_rfl) (by kernel_rfl) (by kernel_rfl) (by kernel_rfl) (fun w hS => exec_eqStr 59 63 ⟨(ts.take m).toArray⟩ (by kernel_rfl) (by kernel_rfl) (by kernel_rfl)) (fun _ _ d _ _ h => by cases d <;> exact h) (Below.refl _ _) ?_
      simp only [put_lit, put_non, List.set_cons_zero, List.set_cons_succ]
      refine hk_take (i := 16) (some 65) (.bool true) (by kernel_rfl) (by kernel_rfl) (by kernel_rfl) (by kernel_rfl) (by kernel_rfl) (by kernel_rfl) (fun w hS => by kernel_rfl) (fun _ _ d _ _ h => by cases d <;> exact h) (Below.refl _ _) ?_
      simp only [put_lit, put_non, List.set_cons_zero, List.set_cons_succ]
      refine hk_take (i := 17) (some 66) (.bool true) (by kernel_rfl) (by kernel_rfl) (by kernel_rfl) (by kernel_rfl) (by kernel_rfl) (by kernel_rfl) (fun w hS => by kernel_rfl) (fun _ _ d _ _ h => by cases d <;> exact h) (Below.refl _ _) ?_
      simp only [put_lit, put_non, List.set_cons_zero, List.set_cons_succ]
      refine hk_one (i := 18) (by kernel_rfl) ?_
      refine op_call (some 67) 19 #[] (by kernel_rfl) (by kernel_rfl) (by kernel_rfl) (fun w => by kernel_rfl) ?_
      refine (known4_c _).mono ?_
      rintro e y1 ⟨rfl, hB⟩
      refine ⟨_, rfl, hB, ?_⟩
      refine hk_more (S2 := fun w' => Below y1.heap.size y1 w') (fun w' h => below_then hB h) _ _ _ _ ?_
      have KB := below_then KB hB
      have FA := FA.below hB
      have FB := FB.below hB
      clear hB
      simp only [put_lit, put_non, List.set_cons_zero, List.set_cons_succ]
      refine hk_take (i := 19) (some 68) (.bool true) (by kernel_rfl) (by kernel_rfl) (by kernel_rfl) (by kernel_rfl) (by kernel_rfl) (by kernel_rfl) (fun w hS => by kernel_rfl) (fun _ _ d _ _ h => by cases d <;> exact h) (Below.refl _ _) ?_
      simp only [put_lit, put_non, List.set_cons_zero, List.set_cons_succ]
      refine hk_take (i := 20) (some 4) (.bool true) (by kernel_rfl) (by kernel_rfl) (by kernel_rfl) (by kernel_rfl) (by kernel_rfl) (by kernel_rfl) (fun w hS => by kernel_rfl) (fun _ _ d _ _ h => by cases d <;> exact h) (Below.refl _ _) ?_
      simp only [put_lit, put_non, List.set_cons_zero, List.set_cons_succ]
      refine hk_done (by kernel_rfl) ?_
      go_wp2_with fail
      go_ret
      exact ⟨rfl, below_then BR.out KB⟩
    · have hnz : (s'.2 != 0) = true := by rw [bne_iff_ne]; exact hs0
      have hl0 : s'.1.length = 0 := by rw [UO.stop hs0]; rfl
      rw [hl0] at RM
      clear hs0 hl0 UO FA0
      go_wp2_with fail
      refine (RE.out).mono ?_
      rintro e w' ⟨rfl, rfl⟩
      go_wp2_with fail
      refine (RM.out).mono ?_
      rintro e w' ⟨rfl, rfl⟩
      go_wp2_with fail
      refine (known4_c _).mono ?_
      rintro e w5 ⟨rfl, hB5⟩
      go_wp2_with fail
      go_ret
      exact ⟨rfl, below_then BR.out hB5⟩
  · go_enter Try.func7, Try.ntmps7
    go_wp2_with fail
    refine (NR.out).mono ?_
    rintro e w1 ⟨g, rfl, hg, hR1, hB1⟩
    have hs : ((ts, (0 : Int)) : RS).1.length ≤ 100 := HT.out
    have BC := nat_c hR1 (by omega)
    unfold RRN at BC
    have BC := Lib.hid BC
    have UO := natS_ok (okR_start ts)
    have hln := Lib.hid (dg_length_le _ 2048 (natS_lt (ts, 0) 2048 (by omega)))
    have UQ := Lib.hid (show (natS (ts, 0)).2.2 = 0 → ts = encN (natS (ts, 0)).1 ++ (natS (ts, 0)).2.1 from fun h => (natS_uniq (pair_eta h)).1)
    generalize (natS (ts, 0)).1 = n at *
    generalize (natS (ts, 0)).2 = s' at *
    clear hR1 hs
    go_wp2_with fail
    refine (BC.out).mono ?_
    rintro e w2 ⟨r2, rfl, hr2, hR2, hG2⟩
    have EE := encNat_c hr2 (by have := hln.out; omega)
    rw [val_dg] at EE
    have EE := Lib.hid EE
    clear hr2
    go_wp2_with fail
    refine (EE.out).mono ?_
    rintro e wr ⟨v, rfl, hv, hBr⟩
    have FA0 := hv.byt
    have hgw : w.heap.size ≤ g := hg
    have B2 := below_of_grown hB1 hG2 hB1.size hgw
    have BR := Lib.hid (below_then B2 hBr)
    have hRr := hR2.below hBr
    have RE := Lib.hid (err_c hRr)
    have RM := Lib.hid (remaining_c hRr)
    clear hR2 hG2 hBr hRr hv B2 hg hB1
    by_cases hs0 : s'.2 = 0
    · have hnz : (s'.2 != 0) = false := by rw [hs0]; rfl
      obtain ⟨hml, he⟩ := again_take (UQ.out hs0)
      obtain ⟨m, hm⟩ : ∃ m, ts.length - s'.1.length = m := ⟨_, rfl⟩
      rw [hm] at hml he
      have hsl : s'.1.length ≤ ts.length := by have := congrArg List.length (UQ.out hs0); rw [List.length_append] at this; omega
      have hmi : (ts.length : Int) - (s'.1.length : Int) = (m : Int) := by omega
      rw [he] at FA0
      have FA := FA0
      have FB := (HBY.out.below BR.out).cut hml
      have HML := Lib.hid hml
      have HLC := Lib.hid hbc
      clear hs0 he hml hm FA0 UO
      generalize hbl : ts.length = bl at *
      go_wp2_with fail
      refine (RE.out).mono ?_
      rintro e w' ⟨rfl, rfl⟩
      go_wp2_with fail
      refine (RM.out).mono ?_
      rintro e w' ⟨rfl, rfl⟩
      go_wp2_with fail
      refine hk_begin (S := fun w' => Below wr.drew.heap.size wr.drew w') 21 (by kernel_rfl) (by kernel_rfl) ?_
      have KB : Below wr.heap.size wr wr.drew := (Below.refl _ _).drew
      have FA := FA.below (Below.refl _ _).drew
      have FB := FB.below (Below.refl _ _).drew
      refine hk_take (i := 0) (some 49) (.int .i64 (m : Int)) (by kernel_rfl) (by kernel_rfl) (by kernel_rfl) (by kernel_rfl) (by kernel_rfl) (by kernel_rfl) (fun w hS => by kernel_rfl) (fun _ _ d _ _ h => by cases d <;> exact h) (Below.refl _ _) ?_
      simp only [put_lit, put_non, List.set_cons_zero, List.set_cons_succ]
      refine hk_take (i := 1) (some 50) (.bool true) (by kernel_rfl) (by kernel_rfl) (by kernel_rfl) (by kernel_rfl) (by kernel_rfl) (by kernel_rfl) (fun w hS => exec_geq0 49 m (by kernel_rfl) (by kernel_rfl) (by kernel_rfl)) (fun _ _ d _ _ h => by cases d <;> exact h) (Below.refl _ _) ?_
      simp only [put_lit, put_non, List.set_cons_zero, List.set_cons_succ]
      refine hk_take (i := 2) (some 51) (.bool true) (by kernel_rfl) (by kernel_rfl) (by kernel_rfl) (by kernel_rfl) (by kernel_rfl) (by kernel_rfl) (fun w hS => by kernel_rfl) (fun _ _ d _ _ h => by cases d <;> exact h) (Below.refl _ _) ?_
      simp only [put_lit, put_non, List.set_cons_zero, List.set_cons_succ]
      refine hk_take (i := 3) (some 52) (.int .i64 (m : Int)) (by kernel_rfl) (by kernel_rfl) (by kernel_rfl) (by kernel_rfl) (by kernel_rfl) (by kernel_rfl) (fun w hS => by kernel_rfl) (fun _ _ d _ _ h => by cases d <;> exact h) (Below.refl _ _) ?_
      simp only [put_lit, put_non, List.set_cons_zero, List.set_cons_succ]
      refine hk_take (i := 4) (some 53) (.slice B bl bc) (by kernel_rfl) (by kernel_rfl) (by kernel_rfl) (by kernel_rfl) (by kernel_rfl) (by kernel_rfl) (fun w hS => by kernel_rfl) (fun _ _ d _ _ h => by cases d <;> exact h) (Below.refl _ _) ?_
      simp only [put_lit, put_non, List.set_cons_zero, List.set_cons_succ]
      refine hk_take (i := 5) (some 54) (.int .i64 (bl : Int)) (by kernel_rfl) (by kernel_rfl) (by kernel_rfl) (by kernel_rfl) (by kernel_rfl) (by kernel_rfl) (fun w hS => by kernel_rfl) (fun _ _ d _ _ h => by cases d <;> exact h) (Below.refl _ _) ?_
      simp only [put_lit, put_non, List.set_cons_zero, List.set_cons_succ]
      refine hk_take (i := 6) (some 55) (.bool true) (by kernel_rfl) (by kernel_rfl) (by kernel_rfl) (by kernel_rfl) (by kernel_rfl) (by kernel_rfl) (fun w hS => exec_leq 52 54 m bl HML.out (by kernel_rfl) (by kernel_rfl) (by kernel_rfl)) (fun _ _ d _ _ h => by cases d <;> exact h) (Below.refl _ _) ?_
      simp only [put_lit, put_non, List.set_cons_zero, List.set_cons_succ]
      refine hk_take (i := 7) (some 56) (.bool true) (by kernel_rfl) (by kernel_rfl) (by kernel_rfl) (by kernel_rfl) (by kernel_rfl) (by kernel_rfl) (fun w hS => by kernel_rfl) (fun _ _ d _ _ h => by cases d <;> exact h) (Below.refl _ _) ?_
      simp only [put_lit, put_non, List.set_cons_zero, List.set_cons_succ]
      refine hk_take (i := 8) (some 57) (.bool true) (by kernel_rfl) (by kernel_rfl) (by kernel_rfl) (by kernel_rfl) (by kernel_rfl) (by kernel_rfl) (fun w hS => by kernel_rfl) (fun _ _ d _ _ h => by cases d <;> exact h) (Below.refl _ _) ?_
      simp only [put_lit, put_non, List.set_cons_zero, List.set_cons_succ]
      refine hk_take (i := 9) (some 58) (v) (by kernel_rfl) (by kernel_rfl) (by kernel_rfl) (by kernel_rfl) (by kernel_rfl) (by kernel_rfl) (fun w hS => by kernel_rfl) (fun _ _ d _ _ h => by cases d <;> exact h) (Below.refl _ _) ?_
      simp only [put_lit, put_non, List.set_cons_zero, List.set_cons_succ]
      refine hk_take (i := 10) (some 59) (.string ⟨(ts.take m).toArray⟩) (by kernel_rfl) (by kernel_rfl) (by kernel_rfl) (by kernel_rfl) (by kernel_rfl) (by kernel_rfl) (fun w hS => exec_strB 58 (FA.below hS) (by kernel_rfl) (by kernel_rfl)) (fun _ _ d _ _ h => by cases d <;> exact h) (Below.refl _ _) ?_
      simp only [put_lit, put_non, List.set_cons_zero, List.set_cons_succ]
      refine hk_take (i := 11) (some 60) (.slice B bl bc) (by kernel_rfl) (by kernel_rfl) (by kernel_rfl) (by kernel_rfl) (by kernel_rfl) (by kernel_rfl) (fun w hS => by kernel_rfl) (fun _ _ d _ _ h => by cases d <;> exact h) (Below.refl _ _) ?_
      simp only [put_lit, put_non, List.set_cons_zero, List.set_cons_succ]
      refine hk_take (i := 12) (some 61) (.int .i64 (m : Int)) (by kernel_rfl) (by kernel_rfl) (by kernel_rfl) (by kernel_rfl) (by kernel_rfl) (by kernel_rfl) (fun w hS => by kernel_rfl) (fun _ _ d _ _ h => by cases d <;> exact h) (Below.refl _ _) ?_
      simp only [put_lit, put_non, List.set_cons_zero, List.set_cons_succ]
      refine hk_take (i := 13) (some 62) (.slice B m bc) (by kernel_rfl) (by kernel_rfl) (by kernel_rfl) (by kernel_rfl) (by kernel_rfl) (by kernel_rfl) (fun w hS => exec_toB 60 61 HML.out HLC.out (by kernel_rfl) (by kernel_rfl) (by kernel_rfl)) (fun _ _ d _ _ h => by cases d <;> exact h) (Below.refl _ _) ?_
      simp only [put_lit, put_non, List.set_cons_zero, List.set_cons_succ]
      refine hk_take (i := 14) (some 63) (.string ⟨(ts.take m).toArray⟩) (by kernel_rfl) (by kernel_rfl) (by kernel_rfl) (by kernel_rfl) (by kernel_rfl) (by kernel_rfl) (fun w hS => exec_strB 62 (FB.below hS) (by kernel_rfl) (by kernel_rfl)) (fun _ _ d _ _ h => by cases d <;> exact h) (Below.refl _ _) ?_
      simp only [put_lit, put_non, List.set_cons_zero, List.set_cons_succ]
      refine hk_take (i := 15) (some 64) (.bool true) (by kernel_rfl) (by kernel_rfl) (by kernel_rfl) (by kernel_rfl) (by kernel_rfl) (by kernel_rfl) (fun w hS => exec_eqStr 59 63 ⟨(ts.take m).toArray⟩ (by kernel_rfl) (by kernel_rfl) (by kernel_rfl)) (fun _ _ d _ _ h => by cases d <;> exact h) (Below.refl _ _) ?_
      simp only [put_lit, put_non, List.set_cons_zero, List.set_cons_succ]
      refine hk_take (i := 16) (some 65) (.bool true) (by kernel_rfl) (by kernel_rfl) (by kernel_rfl) (by kernel_rfl) (by kernel_rfl) (by kernel_rfl) (fun w hS => by kernel_rfl) (fun _ _ d _ _ h => by cases d <;> exact h) (Below.refl _ _) ?_
      simp only [put_lit, put_non, List.set_cons_zero, List.set_cons_succ]
      refine hk_take (i := 17) (some 66) (.bool true) (by kernel_rfl) (by kernel_rfl) (by kernel_rfl) (by kernel_rfl) (by kernel_rfl) (by kernel_rfl) (fun w hS => by kernel_rfl) (fun _ _ d _ _ h => by cases d <;> exact h) (Below.refl _ _) ?_
      simp only [put_lit, put_non, List.set_cons_zero, List.set_cons_succ]
      refine hk_one (i := 18) (by kernel_rfl) ?_
      refine op_call (some 67) 19 #[] (by kernel_rfl) (by kernel_rfl) (by kernel_rfl) (fun w => by kernel_rfl) ?_
      refine (known4_c _).mono ?_
      rintro e y1 ⟨rfl, hB⟩
      refine ⟨_, rfl, hB, ?_⟩
      refine hk_more (S2 := fun w' => Below y1.heap.size y1 w') (fun w' h => below_then hB h) _ _ _ _ ?_
      have KB := below_then KB hB
      have FA := FA.below hB
      have FB := FB.below hB
      clear hB
      simp only [put_lit, put_non, List.set_cons_zero, List.set_cons_succ]
      refine hk_take (i := 19) (some 68) (.bool true) (by kernel_rfl) (by kernel_rfl) (by kernel_rfl) (by kernel_rfl) (by kernel_rfl) (by kernel_rfl) (fun w hS => by kernel_rfl) (fun _ _ d _ _ h => by cases d <;> exact h) (Below.refl _ _) ?_
      simp only [put_lit, put_non, List.set_cons_zero, List.set_cons_succ]
      refine hk_take (i := 20) (some 4) (.bool true) (by kernel_rfl) (by kernel_rfl) (by kernel_rfl) (by kernel_rfl) (by kernel_rfl) (by kernel_rfl) (fun w hS => by kernel_rfl) (fun _ _ d _ _ h => by cases d <;> exact h) (Below.refl _ _) ?_
      simp only [put_lit, put_non, List.set_cons_zero, List.set_cons_succ]
      refine hk_done (by kernel_rfl) ?_
      go_wp2_with fail
      go_ret
      exact ⟨rfl, below_then BR.out KB⟩
    · have hnz : (s'.2 != 0) = true := by rw [bne_iff_ne]; exact hs0
      have hl0 : s'.1.length = 0 := by rw [UO.stop hs0]; rfl
      rw [hl0] at RM
      clear hs0 hl0 UO FA0
      go_wp2_with fail
      refine (RE.out).mono ?_
      rintro e w' ⟨rfl, rfl⟩
      go_wp2_with fail
      refine (RM.out).mono ?_
      rintro e w' ⟨rfl, rfl⟩
      go_wp2_with fail
      refine (known4_c _).mono ?_
      rintro e w5 ⟨rfl, hB5⟩
      go_wp2_with fail
      go_ret
      exact ⟨rfl, below_then BR.out hB5⟩
  · go_enter Try.func7, Try.ntmps7
    go_wp2_with fail
    refine (NR.out).mono ?_
    rintro e w1 ⟨g, rfl, hg, hR1, hB1⟩
    have hs : ((ts, (0 : Int)) : RS).1.length ≤ 100 := HT.out
    have BC := frac_c hR1 (by omega)
    unfold RRF at BC
    have BC := Lib.hid BC
    have UO := fracS_ok (K := canonN) (okR_start ts)
    have UQ := Lib.hid (fun (h : (fracS canonN (ts, 0)).2.2 = 0) => fracS_uniq (K := canonN) (q := (fracS canonN (ts, 0)).1) (ts := ts) (r := (fracS canonN (ts, 0)).2.1) (pair_eta h))
    have hfv := Lib.hid (fun w2 r2 (h : FxO w2 r2 (fracS canonN (ts, 0)).1) => fxo_frac (ts := ts) h)
    generalize (fracS canonN (ts, 0)).1 = n at *
    generalize (fracS canonN (ts, 0)).2 = s' at *
    clear hR1 hs
    go_wp2_with fail
    refine (BC.out).mono ?_
    rintro e w2 ⟨r2, rfl, hr2, hR2, hG2⟩
    obtain ⟨q, hq, hqs⟩ := hfv.out _ _ hr2
    have EE := Lib.hid (encFrac_c hq (by omega) (by omega))
    have UQ := Lib.hid (show s'.2 = 0 → ts = encQ (decide (q.num < 0)) q.num.natAbs q.den ++ s'.1 from fun h => by
      obtain ⟨neg, n1, d1, e1, e2, e3, _, _⟩ := UQ.out h
      obtain ⟨p1, p2, p3⟩ := canon_num e3
      rw [hqs _ _ _ e1, p1, p2, p3]
      exact e2)
    clear hr2 hqs hq hfv
    go_wp2_with fail
    refine (EE.out).mono ?_
    rintro e wr ⟨v, rfl, hv, hBr⟩
    have FA0 := hv.byt
    have hgw : w.heap.size ≤ g := hg
    have B2 := below_of_grown hB1 hG2 hB1.size hgw
    have BR := Lib.hid (below_then B2 hBr)
    have hRr := hR2.below hBr
    have RE := Lib.hid (err_c hRr)
    have RM := Lib.hid (remaining_c hRr)
    clear hR2 hG2 hBr hRr hv B2 hg hB1
    by_cases hs0 : s'.2 = 0
    · have hnz : (s'.2 != 0) = false := by rw [hs0]; rfl
      obtain ⟨hml, he⟩ := again_take (UQ.out hs0)
      obtain ⟨m, hm⟩ : ∃ m, ts.length - s'.1.length = m := ⟨_, rfl⟩
      rw [hm] at hml he
      have hsl : s'.1.length ≤ ts.length := by have := congrArg List.length (UQ.out hs0); rw [List.length_append] at this; omega
      have hmi : (ts.length : Int) - (s'.1.length : Int) = (m : Int) := by omega
      rw [he] at FA0
      have FA := FA0
      have FB := (HBY.out.below BR.out).cut hml
      have HML := Lib.hid hml
      have HLC := Lib.hid hbc
      clear hs0 he hml hm FA0 UO
      generalize hbl : ts.length = bl at *
      go_wp2_with fail
      refine (RE.out).mono ?_
      rintro e w' ⟨rfl, rfl⟩
      go_wp2_with fail
      refine (RM.out).mono ?_
      rintro e w' ⟨rfl, rfl⟩
      go_wp2_with fail
      refine hk_begin (S := fun w' => Below wr.drew.heap.size wr.drew w') 21 (by kernel_rfl) (by kernel_rfl) ?_
      have KB : Below wr.heap.size wr wr.drew := (Below.refl _ _).drew
      have FA := FA.below (Below.refl _ _).drew
      have FB := FB.below (Below.refl _ _).drew
      refine hk_take (i := 0) (some 49) (.int .i64 (m : Int)) (by kernel_rfl) (by kernel_rfl) (by kernel_rfl) (by kernel_rfl) (by kernel_rfl) (by kernel_rfl) (fun w hS => by kernel_rfl) (fun _ _ d _ _ h => by cases d <;> exact h) (Below.refl _ _) ?_
      simp only [put_lit, put_non, List.set_cons_zero, List.set_cons_succ]
      refine hk_take (i := 1) (some 50) (.bool true) (by kernel_rfl) (by kernel_rfl) (by kernel_rfl) (by kernel_rfl) (by kernel_rfl) (by kernel_rfl) (fun w hS => exec_geq0 49 m (by kernel_rfl) (by kernel_rfl) (by kernel_rfl)) (fun _ _ d _ _ h => by cases d <;> exact h) (Below.refl _ _) ?_
      simp only [put_lit, put_non, List.set_cons_zero, List.set_cons_succ]
      refine hk_take (i := 2) (some 51) (.bool true) (by kernel_rfl) (by kernel_rfl) (by kernel_rfl) (by kernel_rfl) (by kernel_rfl) (by kernel_rfl) (fun w hS => by kernel_rfl) (fun _ _ d _ _ h => by cases d <;> exact h) (Below.refl _ _) ?_
      simp only [put_lit, put_non, List.set_cons_zero, List.set_cons_succ]
      refine hk_take (i := 3) (some 52) (.int .i64 (m : Int)) (by kernel_rfl) (by kernel_rfl) (by kernel_rfl) (by kernel_rfl) (by kernel_rfl) (by kernel_rfl) (fun w hS => by kernel_rfl) (fun _ _ d _ _ h => by cases d <;> exact h) (Below.refl _ _) ?_
      simp only [put_lit, put_non, List.set_cons_zero, List.set_cons_succ]
      refine hk_take (i := 4) (some 53) (.slice B bl bc) (by kernel_rfl) (by kernel_rfl) (by kernel_rfl) (by kernel_rfl) (by kernel_rfl) (by kernel_rfl) (fun w hS => by kernel_rfl) (fun _ _ d _ _ h => by cases d <;> exact h) (Below.refl _ _) ?_
      simp only [put_lit, put_non, List.set_cons_zero, List.set_cons_succ]
      refine hk_take (i := 5) (some 54) (.int .i64 (bl : Int)) (by kernel_rfl) (by kernel_rfl) (by kernel_rfl) (by kernel_rfl) (by kernel_rfl) (by kernel_rfl) (fun w hS => by kernel_rfl) (fun _ _ d _ _ h => by cases d <;> exact h) (Below.refl _ _) ?_
      simp only [put_lit, put_non, List.set_cons_zero, List.set_cons_succ]
      refine hk_take (i := 6) (some 55) (.bool true) (by kernel_rfl) (by kernel_rfl) (by kernel_rfl) (by kernel_rfl) (by kernel_rfl) (by kernel_rfl) (fun w hS => exec_leq 52 54 m bl HML.out (by kernel_rfl) (by kernel_rfl) (by kernel_rfl)) (fun _ _ d _ _ h => by cases d <;> exact h) (Below.refl _ _) ?_
      simp only [put_lit, put_non, List.set_cons_zero, List.set_cons_succ]
      refine hk_take (i := 7) (some 56) (.bool true) (by kernel_rfl) (by kernel_rfl) (by kernel_rfl) (by kernel_rfl) (by kernel_rfl) (by kernel_rfl) (fun w hS => by kernel_rfl) (fun _ _ d _ _ h => by cases d <;> exact h) (Below.refl _ _) ?_
      simp only [put_lit, put_non, List.set_cons_zero, List.set_cons_succ]
      refine hk_take (i := 8) (some 57) (.bool true) (by kernel_rfl) (by kernel_rfl) (by kernel_rfl) (by kernel_rfl) (by kernel_rfl) (by kernel_rfl) (fun w hS => by kernel_rfl) (fun _ _ d _ _ h => by cases d <;> exact h) (Below.refl _ _) ?_
      simp only [put_lit, put_non, List.set_cons_zero, List.set_cons_succ]
      refine hk_take (i := 9) (some 58) (v) (by kernel_rfl) (by kernel_rfl) (by kernel_rfl) (by kernel_rfl) (by kernel_rfl) (by kernel_rfl) (fun w hS => by kernel_rfl) (fun _ _ d _ _ h => by cases d <;> exact h) (Below.refl _ _) ?_
      simp only [put_lit, put_non, List.set_cons_zero, List.set_cons_succ]
      refine hk_take (i := 10) (some 59) (.string ⟨(ts.take m).toArray⟩) (by kernel_rfl) (by kernel_rfl) (by kernel_rfl) (by kernel_rfl) (by kernel_rfl) (by kernel_rfl) (fun w hS => exec_strB 58 (FA.below hS) (by kernel_rfl) (by kernel_rfl)) (fun _ _ d _ _ h => by cases d <;> exact h) (Below.refl _ _) ?_
      simp only [put_lit, put_non, List.set_cons_zero, List.set_cons_succ]
      refine hk_take (i := 11) (some 60) (.slice B bl bc) (by kernel_rfl) (by kernel_rfl) (by kernel_rfl) (by kernel_rfl) (by kernel_rfl) (by kernel_rfl) (fun w hS => by kernel_rfl) (fun _ _ d _ _ h => by cases d <;> exact h) (Below.refl _ _) ?_
      simp only [put_lit, put_non, List.set_cons_zero, List.set_cons_succ]
      refine hk_take (i := 12) (some 61) (.int .i64 (m : Int)) (by kernel_rfl) (by kernel_rfl) (by kernel_rfl) (by kernel_rfl) (by kernel_rfl) (by kernel_rfl) (fun w hS => by kernel_rfl) (fun _ _ d _ _ h => by cases d <;> exact h) (Below.refl _ _) ?_
      simp only [put_lit, put_non, List.set_cons_zero, List.set_cons_succ]
      refine hk_take (i := 13) (some 62) (.slice B m bc) (by kernel_rfl) (by kernel_rfl) (by kernel_rfl) (by kernel_rfl) (by kernel_rfl) (by kernel_rfl) (fun w hS => exec_toB 60 61 HML.out HLC.out (by kernel_rfl) (by kernel_rfl) (by kernel_rfl)) (fun _ _ d _ _ h => by cases d <;> exact h) (Below.refl _ _) ?_
      simp only [put_lit, put_non, List.set_cons_zero, List.set_cons_succ]
      refine hk_take (i := 14) (some 63) (.string ⟨(ts.take m).toArray⟩) (by kernel_rfl) (by kernel_rfl) (by kernel_rfl) (by kernel_rfl) (by kernel_rfl) (by kernel_rfl) (fun w hS => exec_strB 62 (FB.below hS) (by kernel_rfl) (by kernel_rfl)) (fun _ _ d _ _ h => by cases d <;> exact h) (Below.refl _ _) ?_
      simp only [put_lit, put_non, List.set_cons_zero, List.set_cons_succ]
      refine hk_take (i := 15) (some 64) (.bool true) (by kernel_rfl) (by kernel_rfl) (by kernel_rfl) (by kernel_rfl) (by kernel_rfl) (by kernel_rfl) (fun w hS => exec_eqStr 59 63 ⟨(ts.take m).toArray⟩ (by kernel_rfl) (by kernel_rfl) (by kernel_rfl)) (fun _ _ d _ _ h => by cases d <;> exact h) (Below.refl _ _) ?_
      simp only [put_lit, put_non, List.set_cons_zero, List.set_cons_succ]
      refine hk_take (i := 16) (some 65) (.bool true) (by kernel_rfl) (by kernel_rfl) (by kernel_rfl) (by kernel_rfl) (by kernel_rfl) (by kernel_rfl) (fun w hS => by kernel_rfl) (fun _ _ d _ _ h => by cases d <;> exact h) (Below.refl _ _) ?_
      simp only [put_lit, put_non, List.set_cons_zero, List.set_cons_succ]
      refine hk_take (i := 17) (some 66) (.bool true) (by kernel_rfl) (by kernel_rfl) (by kernel_rfl) (by kernel_rfl) (by kernel_rfl) (by kernel_rfl) (fun w hS => by kernel_rfl) (fun _ _ d _ _ h => by cases d <;> exact h) (Below.refl _ _) ?_
      simp only [put_lit, put_non, List.set_cons_zero, List.set_cons_succ]
      refine hk_one (i := 18) (by kernel_rfl) ?_
      refine op_call (some 67) 19 #[] (by kernel_rfl) (by kernel_rfl) (by kernel_rfl) (fun w => by kernel_rfl) ?_
      refine (known4_c _).mono ?_
      rintro e y1 ⟨rfl, hB⟩
      refine ⟨_, rfl, hB, ?_⟩
      refine hk_more (S2 := fun w' => Below y1.heap.size y1 w') (fun w' h => below_then hB h) _ _ _ _ ?_
      have KB := below_then KB hB
      have FA := FA.below hB
      have FB := FB.below hB
      clear hB
      simp only [put_lit, put_non, List.set_cons_zero, List.set_cons_succ]
      refine hk_take (i := 19) (some 68) (.bool true) (by kernel_rfl) (by kernel_rfl) (by kernel_rfl) (by kernel_rfl) (by kernel_rfl) (by kernel_rfl) (fun w hS => by kernel_rfl) (fun _ _ d _ _ h => by cases d <;> exact h) (Below.refl _ _) ?_
      simp only [put_lit, put_non, List.set_cons_zero, List.set_cons_succ]
      refine hk_take (i := 20) (some 4) (.bool true) (by kernel_rfl) (by kernel_rfl) (by kernel_rfl) (by kernel_rfl) (by kernel_rfl) (by kernel_rfl) (fun w hS => by kernel_rfl) (fun _ _ d _ _ h => by cases d <;> exact h) (Below.refl _ _) ?_
      simp only [put_lit, put_non, List.set_cons_zero, List.set_cons_succ]
      refine hk_done (by kernel_rfl) ?_
      go_wp2_with fail
      go_ret
      exact ⟨rfl, below_then BR.out KB⟩
    · have hnz : (s'.2 != 0) = true := by rw [bne_iff_ne]; exact hs0
      have hl0 : s'.1.length = 0 := by rw [UO.stop hs0]; rfl
      rw [hl0] at RM
      clear hs0 hl0 UO FA0
      go_wp2_with fail
      refine (RE.out).mono ?_
      rintro e w' ⟨rfl, rfl⟩
      go_wp2_with fail
      refine (RM.out).mono ?_
      rintro e w' ⟨rfl, rfl⟩
      go_wp2_with fail
      refine (known4_c _).mono ?_
      rintro e w5 ⟨rfl, hB5⟩
      go_wp2_with fail
      go_ret
      exact ⟨rfl, below_then BR.out hB5⟩
end
theorem uniq_walk (w : World) (vb : Value) (ts : List UInt8) {z : Int} (hb : Byt w vb ts) (hz : (Lit.int .u8 z).wf = true) :
    Calls Try.prog 7 #[vb, .int .u8 z] w (RVal w (.bool true)) := by
  by_cases h : 100 < ts.length
  · exact uniq_big z hb h
  · obtain ⟨h1, h2⟩ := wf_byte hz
    obtain ⟨k, rfl⟩ := Int.eq_ofNat_of_zero_le h1
    exact uniq_small k (by omega) hb (by omega)
end Go.Proofs.Ytkdnmmbnljaahaa

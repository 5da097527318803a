/- The walk of CodecAlmost. -/
import Derived.Lib.SlBytesConst
import Derived.Test.YtkdnmmbnljaahaaOpz
import Derived.Test.YtkdnmmbnljaahaaEnq
import Derived.Test.YtkdnmmbnljaahaaKns
namespace Go.Proofs.Ytkdnmmbnljaahaa
open Go.RowKit Dig
set_option linter.unusedVariables false

section
variable {w : World} {ops : Array Oper} {rest : List Oper} {o : Oper} {a : Act} {Q : Exit → Act → World → Prop}
/-- The literal of the word "bytes". -/
theorem wp_lit5 (hg : o.guard = none) (ho : o.op = .buildSlice 23 5 #[(0, .const (.int .u8 98)), (1, .const (.int .u8 121)), (2, .const (.int .u8 116)), (3, .const (.int .u8 101)), (4, .const (.int .u8 115))])
    (h : wpList Try.prog ops Q rest (a.put o.dst (.slice (some ⟨w.heap.size, 0, none⟩) 5 5)) (w.alloc (.cells #[.int .u8 98, .int .u8 121, .int .u8 116, .int .u8 101, .int .u8 115] 5))) :
    wpList Try.prog ops Q (o :: rest) a w := by
  obtain ⟨i0, hi, hz0, hz1, hz2⟩ := info_parts info_byte
  refine wpList_plain hg fun K hK => ?_
  unfold Oper.wp execOp
  have hr : (Instr.buildSlice 23 5 #[(0, Value.int .u8 98), (1, Value.int .u8 121), (2, Value.int .u8 116), (3, Value.int .u8 101), (4, Value.int .u8 115)]).run Try.prog w = .ok (.slice (some ⟨w.heap.size, 0, none⟩) 5 5) (w.alloc (.cells #[.int .u8 98, .int .u8 121, .int .u8 116, .int .u8 101, .int .u8 115] 5)) := by
    have hc : ∀ z, (Value.int .u8 z).cells = #[Value.int .u8 z] := fun z => rfl
    simp [Instr.buildSlice, run_underlying Try.underlying23, sizeOf, typeInfo, hi, newRow, Instr.fill, hz1, hc]
    rw [show (Array.range 5) = #[0, 1, 2, 3, 4] from rfl]
    simp
  have e1 : ∀ z, a.eval (.const (.int .u8 z)) = .int .u8 z := fun z => rfl
  simp only [ho, Sem.run_bind, List.map_toArray, List.map_cons, List.map_nil, e1, hr, Result.andThen_ok]
  exact hK _ _ h
/-- The row of that word, marked as a conversion's. -/
theorem byt_lit5 (w : World) : Byt (w.alloc (.cells #[.int .u8 98, .int .u8 121, .int .u8 116, .int .u8 101, .int .u8 115] 5 (5, 6))) (.slice (some ⟨w.heap.size, 0, none⟩) 5 5) [98, 121, 116, 101, 115] := by
  refine ⟨some ⟨w.heap.size, 0, none⟩, 5, rfl, ⟨Nat.le_refl _, fun e => by cases e⟩, by unfold maxLen; omega, fun _ => ⟨w.heap.size, 0, rfl, ?_, fun j hj => ?_⟩⟩
  · show w.heap.size < (w.heap.push _).size
    simp
  · rw [World.cell?_alloc_mark, Nat.zero_add]
    match j, hj with
    | 0, _ => rfl
    | 1, _ => rfl
    | 2, _ => rfl
    | 3, _ => rfl
    | 4, _ => rfl
end
theorem wrap_nat (z : Int) : ∃ m : Nat, IntKind.u64.wrap z = (m : Int) ∧ m < 18446744073709551616 := by
  have h : IntKind.u64.wrap z = z % 18446744073709551616 := IntKind.wrap_u64 z
  refine ⟨(z % 18446744073709551616).toNat, ?_, ?_⟩
  · rw [h]; omega
  · omega
theorem rem_nat {m n : Nat} (hn : 0 < n) : ∃ k : Nat, Int.tmod (m : Int) (n : Int) = (k : Int) ∧ k < n := ⟨m % n, by rw [Int.tmod_eq_emod_of_nonneg (by omega)]; rfl, Nat.mod_lt _ hn⟩
theorem row_at {w : World} {g k : Nat} {ts : List UInt8} {rest : List Value} (h : w.heap[g]? = some (.cells (Y ts ++ rest).toArray 5 (0, 0))) (hk : k < ts.length) : ∃ q : Nat, w.cell? ⟨g, k, none⟩ = some (.int .u8 (q : Int)) ∧ q < 256 := by
  refine ⟨(ts.getD k 0).toNat, ?_, (ts.getD k 0).toNat_lt⟩
  rw [cell_of_row w g k _ _ (0, 0) h, List.getElem?_toArray, List.getElem?_append_left (by rw [Y_length]; exact hk)]
  exact Y_get ts k hk
/-- A byte of an own row is replaced. -/
theorem row_put {w : World} {g k : Nat} {ts : List UInt8} {rest : List Value} (h : w.heap[g]? = some (.cells (Y ts ++ rest).toArray 5 (0, 0))) (hk : k < ts.length) (hm : ts.length + rest.length ≤ maxLen) (u : UInt8) (q : Int) (hq : q = (u.toNat : Int)) :
    Byt (w.setCell ⟨g, k, none⟩ (.int .u8 q)) (.slice (some ⟨g, 0, none⟩) ts.length (ts.length + rest.length)) (ts.set k u) := by
  subst hq
  have e : (w.setCell ⟨g, k, none⟩ (.int .u8 (u.toNat : Int))).heap[g]? = some (.cells (Y (ts.set k u) ++ rest).toArray 5 (0, 0)) := by
    simp only [World.setCell, Array.getElem?_modify, h]
    simp [Y, List.map_set, hk]
  have hl : (ts.set k u).length = ts.length := List.length_set
  have := (OwB.byt (base := 0) (.inr ⟨g, rest, rfl, Nat.zero_le _, by rw [hl]; exact hm, e⟩))
  rwa [hl] at this
section
variable {w : World} {vx vy vl : Value} {xs ys : List Nat} {l : List (Nat × Nat × Int)}
theorem almost_big (n at' by' : Int) (neg : Bool) (hx : Num w vx xs) (hy : Num w vy ys) (hl : Ops w vl l) (h : 5 < xs.length ∨ 5 < ys.length ∨ 6 < l.length) :
    Calls Try.prog 5 #[.int .u64 n, vx, .bool neg, vy, .int .i64 at', .int .u8 by', vl] w (RVal w (.bool true)) := by
  obtain ⟨B, bc, rfl⟩ := hx.form
  obtain ⟨A, c, rfl⟩ := hy.form
  obtain ⟨A', c', rfl⟩ := hl.form
  generalize xs.length = l0 at *
  generalize ys.length = l1 at *
  generalize l.length = l2 at *
  clear hl hx hy
  by_cases h0 : 5 < l0
  · have h0i : (5 : Int) < l0 := by omega
    clear h h0
    go_enter Try.func5, Try.ntmps5
    go_wp2_with fail
    go_ret
    exact ⟨rfl, Below.refl _ _⟩
  · have h0i : ¬ (5 : Int) < l0 := by omega
    by_cases h1 : 5 < l1
    · have h1i : (5 : Int) < l1 := by omega
      clear h h0 h1
      go_enter Try.func5, Try.ntmps5
      go_wp2_with fail
      go_ret
      exact ⟨rfl, Below.refl _ _⟩
    · have h1i : ¬ (5 : Int) < l1 := by omega
      have h2i : (6 : Int) < l2 := by omega
      clear h h0 h1
      go_enter Try.func5, Try.ntmps5
      go_wp2_with fail
      go_ret
      exact ⟨rfl, Below.refl _ _⟩
set_option maxRecDepth 20000 in
set_option maxHeartbeats 16000000 in
theorem almost_small (n : Nat) (hn : n < 18446744073709551616) (at' by' : Int) (neg : Bool) (hx : Num w vx xs) (hy : Num w vy ys) (hl : Ops w vl l) (h0 : xs.length ≤ 5) (h1 : ys.length ≤ 5) (h2 : l.length ≤ 6)
    (ha1 : -9223372036854775808 ≤ at') (ha2 : at' ≤ 9223372036854775807) (hb1 : 0 ≤ by') (hb2 : by' < 256) :
    Calls Try.prog 5 #[.int .u64 (n : Int), vx, .bool neg, vy, .int .i64 at', .int .u8 by', vl] w (RVal w (.bool true)) := by
  have US := Lib.hid (refUint_c w n hn)
  have FR := Lib.hid (fun w1 (hB : Below w.heap.size w w1) => frac4_c neg (hx.below hB) (hy.below hB))
  have HOP := Lib.hid hl
  have hsx := hx.small
  have hsy := hy.small
  obtain ⟨m1, m2⟩ := mkn_short neg xs ys hsx hsy
  have hLu := encU_ten hn
  have hLq := encQ_short (neg := decide ((fr neg (val (mkn xs)) (val (mkn ys))).num < 0)) m1 m2
  obtain ⟨B, bc, rfl⟩ := hx.form
  obtain ⟨A, c, rfl⟩ := hy.form
  obtain ⟨A', c', rfl⟩ := hl.form
  have h0i : ¬ (5 : Int) < xs.length := by omega
  have h1i : ¬ (5 : Int) < ys.length := by omega
  have h2i : ¬ (6 : Int) < l.length := by omega
  have HL := Lib.hid h2
  have HA1 := Lib.hid ha1
  have HA2 := Lib.hid ha2
  have HB1 := Lib.hid hb1
  have HB2 := Lib.hid hb2
  obtain ⟨m, hm⟩ : ∃ m : Nat, IntKind.u64.wrap at' = (m : Int) ∧ m < 18446744073709551616 := wrap_nat at'
  have HM := Lib.hid hm.2
  have hm := hm.1
  clear hl hx hy h0 h1 h2 ha1 ha2 hb1 hb2 hsx hsy m1 m2 hn
  generalize xs.length = l0 at *
  generalize ys.length = l1 at *
  have LU := Lib.hid hLu
  generalize hQ : encQ (decide ((fr neg (val (mkn xs)) (val (mkn ys))).num < 0)) (fr neg (val (mkn xs)) (val (mkn ys))).num.natAbs (fr neg (val (mkn xs)) (val (mkn ys))).den = Qs at hLq
  have LQ := Lib.hid hLq
  have HQ := Lib.hid hQ
  generalize encU n = Us at *
  clear hLu hLq hQ
  go_enter Try.func5, Try.ntmps5
  go_wp2_with fail
  refine (US.out).mono ?_
  rintro e w1 ⟨r1, rfl, hr1, hB1⟩
  have hr1 := Lib.hid hr1
  have hB1 := Lib.hid hB1
  go_wp2_with fail
  refine (FR.out _ hB1.out).mono ?_
  rintro e w2 ⟨v, rfl, hv, hB2⟩
  obtain ⟨vn, vd, rfl, hv1, hv2⟩ := hv
  have B2 := Lib.hid (below_then hB1.out hB2)
  have o2 := Lib.hid (hr1.out.below hB2 (Nat.le_refl _))
  have QF := refFrac_c (FracV.of (neg := neg) ⟨_, hv1, rfl, mkn_length xs⟩ ⟨_, hv2, rfl, mkn_length ys⟩) (by omega) (by omega)
  rw [HQ.out] at QF
  have QF := Lib.hid QF
  clear hr1 hB1 hB2 hv1 hv2 US FR HQ
  go_wp2_with fail
  refine (QF.out).mono ?_
  rintro e w3 ⟨r3, rfl, hr3, hB3⟩
  have B3 := Lib.hid (below_then B2.out hB3)
  have o3 := Lib.hid (o2.out.below hB3 (Nat.le_refl _))
  have hr3 := Lib.hid hr3
  have kc := fun (w : World) (C : Array Value) (n c : Nat) => Lib.run_convert_bytes_const (P := Try.prog) w 23 5 C n c Try.underlying23 Try.underlying5
  clear QF B2 o2 hB3
  go_wp2_with (first | (with_reducible refine wp_lit5 rfl rfl ?_) | (at_builtin; refine wp_appendB rfl _ _ rfl w.heap.size r1 Us rfl o3.out _ Qs rfl hr3.out.byt (by have := LU.out; have := LQ.out; omega) B3.out.size ?_; intro v4 w4 hv4 hg4; have B4 := Lib.hid (below_ownB B3.out hg4 o3.out (Nat.le_refl _)); have o4 := Lib.hid hv4; clear hv4 hg4 o3 B3 hr3))
  have hBL : Below w4.heap.size w4 (w4.alloc (.cells #[.int .u8 98, .int .u8 121, .int .u8 116, .int .u8 101, .int .u8 115] 5 (5, 6))) := (Below.refl _ _).alloc (Nat.le_refl _) _
  have B5 := Lib.hid (below_then B4.out hBL)
  have o5 := Lib.hid (o4.out.below hBL (Nat.le_refl _))
  have LB := Lib.hid (show 5 ≤ (encB [98, 121, 116, 101, 115]).length ∧ (encB [98, 121, 116, 101, 115]).length ≤ 15 by
    have := encU_ten (n := ([98, 121, 116, 101, 115] : List UInt8).length) (by decide)
    unfold encB
    rw [List.length_append]
    simp only [List.length_cons, List.length_nil] at this ⊢
    omega)
  refine (refBytes_c (byt_lit5 w4) (by decide)).mono ?_
  generalize w4.alloc (.cells #[.int .u8 98, .int .u8 121, .int .u8 116, .int .u8 101, .int .u8 115] 5 (5, 6)) = w5 at B5 o5 ⊢
  generalize encB [98, 121, 116, 101, 115] = Bs at LB ⊢
  rintro e w6 ⟨r6, rfl, hr6, hB6⟩
  have B6 := Lib.hid (below_then B5.out hB6)
  have o6 := Lib.hid (o5.out.below hB6 (Nat.le_refl _))
  have hr6 := Lib.hid hr6.byt
  clear hBL hB6 B5 o5 B4 o4 kc
  generalize w4.heap.size = g5 at *
  go_wp2_with (at_builtin; refine wp_appendB rfl _ _ rfl w.heap.size v4 (Us ++ Qs) rfl o6.out _ Bs rfl hr6.out (by have := LU.out; have := LQ.out; have := LB.out; rw [List.length_append]; omega) B6.out.size ?_; intro v7 w7 hv7 hg7; have B7 := Lib.hid (below_ownB B6.out hg7 o6.out (Nat.le_refl _)); have L7 := Lib.hid (show 5 ≤ (Us ++ Qs ++ Bs).length ∧ (Us ++ Qs ++ Bs).length ≤ 110 by have := LU.out; have := LQ.out; have := LB.out; rw [List.length_append, List.length_append]; omega); generalize Us ++ Qs ++ Bs = ts at hv7 L7; rcases hv7 with ⟨_, rfl⟩ | ⟨g, rest, rfl, hgw, hcap, hrow⟩; (exact absurd L7.out.1 (by decide)); obtain ⟨k, hk, hkl⟩ := rem_nat (m := m) (n := ts.length) (by have := L7.out; omega); have hki : (k : Int) < ts.length := (by omega); have HK := Lib.hid hkl; clear hkl; have hti : (ts.length : Int) ≤ 110 := (by have := L7.out; omega); have htj : (5 : Int) ≤ ts.length := (by have := L7.out; omega); have hfz : w7.frozen? ⟨g, k, none⟩ = false := (by simp [World.frozen?, hrow]); obtain ⟨q, hcell, hq⟩ := row_at hrow HK.out; have hrow := Lib.hid hrow; have hq := Lib.hid hq; have hgw := Lib.hid hgw; have hcap := Lib.hid hcap; clear hg7)
  have hX := u8_xor (q : Int) by' (by omega) (by have := hq.out; omega) HB1.out HB2.out
  have hb8 := row_put hrow.out HK.out hcap.out (oct ((q : Int).toNat ^^^ by'.toNat)) (bits .xor .u8 (q : Int) by') (by rw [hX, oct_toNat (Nat.xor_lt_two_pow (n := 8) (by have := hq.out; omega) (by have := HB1.out; have := HB2.out; omega))])
  have B8 := Lib.hid (B7.out.setCell (p := ⟨g, k, none⟩) hgw.out (.int .u8 (bits .xor .u8 (q : Int) by')))
  have hl8 : (ts.set k (oct ((q : Int).toNat ^^^ by'.toNat))).length ≤ 110 := by rw [List.length_set]; exact L7.out.2
  generalize w7.setCell ⟨g, k, none⟩ (.int .u8 (bits .xor .u8 (q : Int) by')) = w8 at hb8 B8 ⊢
  generalize bits .xor .u8 (q : Int) by' = Z at *
  generalize ts.set k (oct ((q : Int).toNat ^^^ by'.toNat)) = us at hb8 hl8
  clear hX hrow hq hgw hcap HK hfz hcell hti htj hki hk L7 B7 hm HM
  generalize ts.length + rest.length = c8 at *
  generalize ts.length = n8 at *
  have L8 := Lib.hid hl8
  have NR := newReader_c hb8 (by omega)
  have hb8 := Lib.hid hb8
  clear hl8
  refine NR.mono ?_
  rintro e w9 ⟨g1, rfl, hg1, hR9, hB9⟩
  clear NR
  have hBa : Below w9.heap.size w9 (w9.alloc (.cells #[.slice (some ⟨g, 0, none⟩) n8 c8, .int .i64 0] 42)) := (Below.refl _ _).alloc (Nat.le_refl _) _
  have hM := Rdr.new (T := 42) (hb8.out.below hB9)
  have hlt := hR9.lt
  have hR := hR9.below hBa
  have B10 := Lib.hid (below_then (below_then B8.out hB9) hBa)
  have hne := Lib.hid (show g1 ≠ w9.heap.size by omega)
  have hg1 := Lib.hid (Nat.le_trans B8.out.size hg1)
  have hg2 := Lib.hid (Nat.le_trans B8.out.size hB9.size)
  have ST := Lib.hid (show Calls Try.prog 23 #[.pointer (some ⟨g1, 0, none⟩), .pointer (some ⟨w9.heap.size, 0, none⟩), .agg #[.int .u8 0, .int .u64 18446744073709551615, .int .i64 0]] _ (RStep _ g1 w9.heap.size (us, 0)) from step_c hR hM hne.out (by have := L8.out; show us.length ≤ 1000000; omega) 0 18446744073709551615 (by omega) (by omega) 0 (by omega) (by omega))
  clear hBa hM hR hlt hR9 hB9 B8 hb8
  go_wp2_with fail
  generalize w9.alloc (.cells #[.slice (some ⟨g, 0, none⟩) n8 c8, .int .i64 0] 42) = w10 at *
  generalize w9.heap.size = g2 at *
  refine (ST.out).mono ?_
  rintro e w11 ⟨s1, rfl, hs1, hr1, hm1, _, hB1⟩
  have B11 := Lib.hid (B10.out.trans (hB1 w.heap.size B10.out.size hg1.out hg2.out))
  have hs1 := Lib.hid (Nat.le_trans hs1 L8.out)
  clear ST
  have ST := Lib.hid (show Calls Try.prog 23 #[.pointer (some ⟨g1, 0, none⟩), .pointer (some ⟨g2, 0, none⟩), .agg #[.int .u8 3, .int .u64 0, .int .i64 0]] w11 (RStep w11 g1 g2 s1) from step_c hr1 hm1 hne.out (by have := hs1.out; omega) 3 0 (by omega) (by omega) 0 (by omega) (by omega))
  clear hB1 hr1 hm1 B10
  go_wp2_with fail
  refine (ST.out).mono ?_
  rintro e w12 ⟨s2, rfl, hs2, hr2, hm2, _, hB2⟩
  have B12 := Lib.hid (B11.out.trans (hB2 w.heap.size B11.out.size hg1.out hg2.out))
  have hs2 := Lib.hid (Nat.le_trans hs2 hs1.out)
  clear ST
  have ST := Lib.hid (show Calls Try.prog 23 #[.pointer (some ⟨g1, 0, none⟩), .pointer (some ⟨g2, 0, none⟩), .agg #[.int .u8 1, .int .u64 0, .int .i64 5]] w12 (RStep w12 g1 g2 s2) from step_c hr2 hm2 hne.out (by have := hs2.out; omega) 1 0 (by omega) (by omega) 5 (by omega) (by omega))
  clear hB2 hr2 hm2 B11
  go_wp2_with fail
  refine (ST.out).mono ?_
  rintro e w13 ⟨s3, rfl, hs3, hr3, hm3, _, hB3⟩
  have B13 := Lib.hid (B12.out.trans (hB3 w.heap.size B12.out.size hg1.out hg2.out))
  have hs3 := Lib.hid (Nat.le_trans hs3 hs2.out)
  have hr3 := Lib.hid hr3
  have hm3 := Lib.hid hm3
  clear ST hB3 B12
  go_wp2_with fail
  go_loopw [18] (fun i wr => ∃ (j : Nat) (s : RS), j ≤ l.length ∧ i = .int .i64 j ∧ s.1.length ≤ 200 ∧ Rdr 66 wr g1 s ∧ Rdr 42 wr g2 s ∧ Below w.heap.size w wr) (fun i _ => l.length - (intOf i).toNat)
  case atStart => exact ⟨0, s3, Nat.zero_le _, rfl, by have := hs3.out; omega, hr3.out, hm3.out, B13.out⟩
  case round =>
    obtain ⟨j, s, hj, rfl, hs, hr, hm, hB⟩ := hrel
    by_cases hjn : j < l.length
    · have HI : (j : Int) < l.length := by omega
      obtain ⟨k1, k2, k3, k4⟩ := HOP.out.ok hjn
      obtain ⟨b, off, rfl, hb, c0, c1, c2⟩ := (HOP.out.below hB).cells hjn
      generalize l.getD j default = o at k1 k2 k3 k4 c0 c1 c2
      obtain ⟨o1, o2, o3⟩ := o
      dsimp only at k1 k2 k3 k4 c0 c1 c2
      have ST := Lib.hid (step_c hr hm hne.out (by omega) _ _ k1 k2 _ k3 k4)
      have hle := Lib.hid (show w.heap.size ≤ wr.heap.size from hB.size)
      have HBR := Lib.hid hB
      have HS := Lib.hid hs
      clear k1 k2 k3 k4 hr hm hB hs
      go_wp2_with fail
      refine (ST.out).mono ?_
      rintro e w14 ⟨s4, rfl, hs4, hr4, hm4, hz4, hB4⟩
      have hB5 := Lib.hid (HBR.out.trans (hB4 w.heap.size hle.out hg1.out hg2.out))
      have hr4 := Lib.hid hr4
      have hm4 := Lib.hid hm4
      have hs5 := Lib.hid (Nat.le_trans hs4 HS.out)
      clear hB4 hs4 hz4 c0 c1 c2
      go_wp2_with fail
      go_roundw
      case rel => exact ⟨j + 1, s4, by omega, by go_num, hs5.out, hr4.out, hm4.out, hB5.out⟩
      case measure => simp [intOf]; omega
    · have HI : ¬ (j : Int) < l.length := by omega
      have HBR := Lib.hid hB
      clear hr hm hB hs
      go_wp2_with fail
      refine (known4_c _).mono ?_
      rintro e w14 ⟨rfl, hB4⟩
      go_wp2_with fail
      go_ret
      exact ⟨rfl, below_then HBR.out hB4⟩
end
theorem almost_walk (w : World) (vx vy vl : Value) (xs ys : List Nat) (l : List (Nat × Nat × Int)) {n at' by' : Int} {neg : Bool} (hn : (Lit.int .u64 n).wf = true) (hx : Num w vx xs) (hy : Num w vy ys) (ha : (Lit.int .i64 at').wf = true) (hb : (Lit.int .u8 by').wf = true) (hl : Ops w vl l) :
    Calls Try.prog 5 #[.int .u64 n, vx, .bool neg, vy, .int .i64 at', .int .u8 by', vl] w (RVal w (.bool true)) := by
  by_cases h : 5 < xs.length ∨ 5 < ys.length ∨ 6 < l.length
  · exact almost_big n at' by' neg hx hy hl h
  · obtain ⟨h1, h2⟩ := wf_u64 hn
    obtain ⟨h3, h4⟩ := wf_i64 ha
    obtain ⟨h5, h6⟩ := wf_byte hb
    obtain ⟨m, rfl⟩ := Int.eq_ofNat_of_zero_le h1
    exact almost_small m (by omega) at' by' neg hx hy hl (by omega) (by omega) (by omega) h3 h4 h5 h6
end Go.Proofs.Ytkdnmmbnljaahaa

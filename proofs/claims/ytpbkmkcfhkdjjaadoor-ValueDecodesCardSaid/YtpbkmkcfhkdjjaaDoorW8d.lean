/- The law ValueDecodes of stage 8. -/
import Derived.Test.YtpbkmkcfhkdjjaaDoorVls
import Derived.Test.YtpbkmkcfhkdjjaaDoorVlt
import Derived.Test.YtpbkmkcfhkdjjaaDoorVlu
import Derived.Test.YtpbkmkcfhkdjjaaDoorVlw
import Derived.Test.YtpbkmkcfhkdjjaaDoorBytes
namespace Go.Proofs.YtpbkmkcfhkdjjaaDoor
open Go.RowKit Dig
set_option linter.unusedVariables false

theorem wrap_nat (z : Int) : ∃ m : Nat, IntKind.u64.wrap z = (m : Int) ∧ m < 18446744073709551616 := by
  have h : IntKind.u64.wrap z = z % 18446744073709551616 := IntKind.wrap_u64 z
  refine ⟨(z % 18446744073709551616).toNat, ?_, ?_⟩
  · rw [h]; omega
  · omega
theorem rem_nat {m n : Nat} (hn : 0 < n) : ∃ k : Nat, Int.tmod (m : Int) (n : Int) = (k : Int) ∧ k < n := ⟨m % n, by rw [Int.tmod_eq_emod_of_nonneg (by omega)]; rfl, Nat.mod_lt _ hn⟩
/-- A cell of an own row. -/
theorem row_at {w : World} {g k : Nat} {ts : List UInt8} {rest : List Value} (h : w.heap[g]? = some (.cells (Y ts ++ rest).toArray 5 (0, 0))) (hk : k < ts.length) : w.cell? ⟨g, k, none⟩ = some (.int .u8 ((ts.getD k 0).toNat : Int)) ∧ w.frozen? ⟨g, k, none⟩ = false := by
  refine ⟨?_, by simp [World.frozen?, h]⟩
  rw [cell_of_row w g k _ _ (0, 0) h, List.getElem?_toArray, List.getElem?_append_left (by rw [Y_length]; exact hk)]
  exact Y_get ts k hk
/-- A byte of an own row is replaced. -/
theorem row_put {w : World} {g k : Nat} {ts : List UInt8} {rest : List Value} (h : w.heap[g]? = some (.cells (Y ts ++ rest).toArray 5 (0, 0))) (hk : k < ts.length) (u : UInt8) (q : Int) (hq : q = (u.toNat : Int)) :
    (w.setCell ⟨g, k, none⟩ (.int .u8 q)).heap[g]? = some (.cells (Y (ts.set k u) ++ rest).toArray 5 (0, 0)) := by
  subst hq
  simp only [World.setCell, Array.getElem?_modify, h]
  simp [Y, List.map_set, hk]
theorem row_byt {w : World} {g n : Nat} {ts : List UInt8} {rest : List Value} (h : w.heap[g]? = some (.cells (Y ts ++ rest).toArray 5 (0, 0))) (hn : ts.length = n) (hm : n + rest.length ≤ maxLen) : Byt w (.slice (some ⟨g, 0, none⟩) n (n + rest.length)) ts := by
  subst hn
  exact OwB.byt (base := 0) (.inr ⟨g, rest, rfl, Nat.zero_le _, hm, h⟩)
theorem keyV_pos (x : Vl) : 1 ≤ (keyV x).length := by
  obtain ⟨c, t, e⟩ := keyV_ne x
  rw [e, List.length_cons]
  omega
theorem keyL_ge : ∀ l : List Vl, l.length ≤ (keyL l).length
  | [] => Nat.zero_le _
  | x :: l => by
    have h1 := keyV_pos x
    have h2 := keyL_ge l
    show (x :: l).length ≤ (keyV x ++ keyL l).length
    rw [List.length_append, List.length_cons]
    omega
theorem key_short {b : List UInt8} {l : List Vl} (h : IsKey b l) (hb : b.length ≤ 1000000) : l.length ≤ 1000000 := by
  have := keyL_ge l
  rw [h.2] at this
  omega
set_option maxRecDepth 20000 in
set_option maxHeartbeats 8000000 in
theorem decodes_walk (w : World) (vb : Value) (bs : List UInt8) (va : Value) (la : List Vl) (at' by' : Int) (qb : Byt w vb bs) (qa : Vls w va la) (oa : ∀ y ∈ la, OkVl y) (wa : (Lit.int .i64 at').wf = true) (wb : (Lit.int .u8 by').wf = true) (hS : Std w) : Calls Tryd.prog 4 #[vb, va, .int .i64 at', .int .u8 by'] w (RVal w (.bool true)) := by
  have HS := Lib.hid hS
  have QA := Lib.hid qa
  have QB := Lib.hid qb
  have FA := fun w1 (h : Below w.heap.size w w1) => fits_c (QA.out.below h) oa
  obtain ⟨A, c, rfl⟩ := qa.form
  obtain ⟨B, d, rfl⟩ := qb.form
  obtain ⟨na, hna⟩ : ∃ n, la.length = n := ⟨_, rfl⟩
  obtain ⟨nb, hnb⟩ : ∃ n, bs.length = n := ⟨_, rfl⟩
  by_cases hb : nb ≤ 100
  case neg =>
    have hbi : (nb : Int) > 100 := by omega
    rw [hna, hnb]
    clear hS qa qb hna hnb FA hb wa wb
    go_enter Tryd.func4, Tryd.ntmps4
    go_wp2_with fail
    go_ret
    exact ⟨rfl, Below.refl _ _⟩
  have hbi : ¬ (nb : Int) > 100 := by omega
  have HB100 := Lib.hid (show bs.length ≤ 100000 by omega)
  cases hfa : fitB la with
  | false =>
    rw [hfa] at FA
    rw [hna] at FA QA ⊢
    rw [hnb] at QB ⊢
    clear hS qa qb hfa hna hnb hb wa wb
    go_enter Tryd.func4, Tryd.ntmps4
    go_wp2_with fail
    refine (FA _ (Below.refl _ _)).mono ?_
    rintro e w1 ⟨rfl, hB1⟩
    go_wp2_with fail
    go_ret
    exact ⟨rfl, hB1⟩
  | true =>
    have MA := Lib.hid (okL_make hfa oa)
    have CA := fun w1 (h : Below w.heap.size w w1) => valids_c (QA.out.below h) (by have := ((fitB_iff la).1 hfa).1; omega) (fun y hy => by have := ((fitB_iff la).1 hfa).2 y hy; omega)
    rw [hfa] at FA
    rw [hna] at FA CA QA MA ⊢
    rw [hnb] at QB ⊢
    obtain ⟨hz0, hz1⟩ := wf_byte wb
    obtain ⟨z, rfl⟩ := Int.eq_ofNat_of_zero_le hz0
    generalize la.map mkV = p at *
    have KP := Lib.hid MA.out.1.key
    have EN := Lib.hid MA.out.1.enc
    have FW := Lib.hid MA.out.1.few
    obtain ⟨ts, hts⟩ : ∃ q, keyL p ++ [1] = q := ⟨_, rfl⟩
    obtain ⟨l0, hl0⟩ : ∃ q, ts.length = q := ⟨_, rfl⟩
    have hl1 : 0 < l0 ∧ l0 ≤ 1100 := by have := KP.out; rw [← hl0, ← hts, List.length_append, List.length_singleton]; omega
    have HTS := Lib.hid hts
    have HL0 := Lib.hid hl0
    have HL1 := Lib.hid hl1
    obtain ⟨m, hm, hml⟩ := wrap_nat at'
    obtain ⟨k, hk, hkl⟩ := rem_nat (m := m) (n := l0) hl1.1
    have hq := (ts.getD k 0).toNat_lt
    have hx := u8_xor_nat (ts.getD k 0).toNat z hq (by omega)
    have hX := Nat.xor_lt_two_pow (n := 8) hq (show z < 2 ^ 8 by omega)
    have HX := Lib.hid (oct_toNat hX)
    obtain ⟨q, eq⟩ : ∃ q, (ts.getD k 0).toNat = q := ⟨_, rfl⟩
    rw [eq] at hx HX
    obtain ⟨X, eX⟩ : ∃ X, q ^^^ z = X := ⟨_, rfl⟩
    rw [eX] at hx HX
    have EQ := Lib.hid eq
    have HKL := Lib.hid hkl
    have hki : (k : Int) < l0 := by omega
    have hl0i : (0 : Int) < l0 := by omega
    have hl0n : ¬ (l0 : Int) = 0 := by omega
    have hl0w : (l0 : Int) ≤ 1100 := by omega
    have hl0z : ¬ (l0 : Int) < 1 := by omega
    clear hS qa qb hfa hna hnb hb wa wb hts hl0 hl1 hml hkl hq hX eq eX hz0 hz1
    go_enter Tryd.func4, Tryd.ntmps4
    go_wp2_with fail
    refine (FA _ (Below.refl _ _)).mono ?_
    rintro e w1 ⟨rfl, hB1⟩
    have BW := Lib.hid hB1
    clear hB1
    go_wp2_with fail
    refine (CA _ BW.out).mono ?_
    rintro e w2 ⟨u2, rfl, hO, hB⟩
    have PV := Lib.hid hO.vls
    have BW := Lib.hid (below_then BW.out hB)
    clear hO hB FA CA
    go_wp2_with fail
    refine (rencode_c PV.out FW.out).mono ?_
    rintro e w3 ⟨u3, rfl, hO, hB⟩
    rw [EN.out] at hO
    have O3 := Lib.hid hO
    have T3 := Lib.hid hB
    clear hO hB
    go_wp2_with (at_builtin; refine wp_appendB rfl _ _ rfl w2.heap.size _ _ rfl (O3.out.alloc _) _ [1] rfl (Byt.one _ _ 1 rfl) (by have := KP.out; simp only [List.length_singleton]; omega) (Nat.le_trans T3.out.size (World.grownBy_alloc _ _ none).size) ?_; intro v4 w4 hv hg; rw [HTS.out] at hv; have T4 := Lib.hid ((T3.out.alloc T3.out.size _).grown hg (Nat.le_trans T3.out.size (World.grownBy_alloc _ _ none).size) (fun k hk => (O3.out.block k hk).1)); clear hg; rcases hv with ⟨_, rfl⟩ | ⟨g, rest, rfl, hgw, hcap, hrow⟩; (have h1 := HL0.out; have h2 := HL1.out; simp at h1; omega); obtain ⟨hcell, hfz⟩ := row_at hrow (by have := HL0.out; have := HKL.out; omega : k < ts.length); rw [EQ.out] at hcell; have hrow := Lib.hid hrow; have hgw := Lib.hid hgw; rw [HL0.out] at hcap ⊢; have hcap := Lib.hid hcap)
    have hkt : k < ts.length := by have := HL0.out; have := HKL.out; omega
    have hb3 := row_byt (n := l0) (row_put hrow.out hkt (oct X) (X : Int) (by rw [HX.out])) (by rw [List.length_set]; exact HL0.out) hcap.out
    have B5 := Lib.hid (below_then BW.out (T4.out.setCell (p := ⟨g, k, none⟩) hgw.out (.int .u8 (X : Int))))
    have HL3 : Hid ((ts.set k (oct X)).length ≤ 100000) := Lib.hid (by rw [List.length_set]; have := HL0.out; have := HL1.out; omega)
    generalize w4.setCell ⟨g, k, none⟩ (.int .u8 (X : Int)) = w5 at hb3 B5 ⊢
    generalize ts.set k (oct X) = cs at hb3 HL3
    generalize l0 + rest.length = c0 at *
    have CB := Lib.hid hb3
    have BB := Lib.hid (QB.out.below B5.out)
    clear hb3 hkt hcell hfz hx hk hm hki hl0i hl0n hl0w hl0z hgw hrow hcap T3 T4 O3 PV EQ BW
    refine (decode_c BB.out HB100.out).mono ?_
    rintro e w6 ⟨hB, hR⟩
    have BW := Lib.hid (below_then B5.out hB)
    have CB := Lib.hid (CB.out.below hB)
    have BB := Lib.hid (BB.out.below hB)
    clear hB B5
    rcases hR with ⟨u6, l1, rfl, hO, hk⟩ | ⟨hno, rfl⟩
    · skip
      have U1 := Lib.hid hO.vls
      have I1 := Lib.hid hk
      have KU1 := Lib.hid (key_short hk (by have := HB100.out; omega))
      clear hO hk
      go_wp2_with fail
      refine (rdecode_c BB.out HB100.out).mono ?_
      rintro e w7 ⟨hB, hR⟩
      have BW := Lib.hid (below_then BW.out hB)
      have CB := Lib.hid (CB.out.below hB)
      have U1 := Lib.hid (U1.out.below hB)
      clear hB BB
      rcases hR with ⟨u7, l2, rfl, hO, hk⟩ | ⟨hno, rfl⟩
      case inr => exact absurd I1.out (hno l1)
      obtain rfl : l2 = l1 := isKey_uniq hk I1.out
      have U2 := Lib.hid hO.vls
      clear hO hk I1
      go_wp2_with fail
      refine (decode_c CB.out HL3.out).mono ?_
      rintro e w8 ⟨hB, hR⟩
      have BW := Lib.hid (below_then BW.out hB)
      have CB := Lib.hid (CB.out.below hB)
      have U1 := Lib.hid (U1.out.below hB)
      have U2 := Lib.hid (U2.out.below hB)
      clear hB
      rcases hR with ⟨u8, l3, rfl, hO, hk⟩ | ⟨hno, rfl⟩
      · skip
        have U3 := Lib.hid hO.vls
        have I3 := Lib.hid hk
        have KU3 := Lib.hid (key_short hk (by have := HL3.out; omega))
        clear hO hk
        go_wp2_with fail
        refine (rdecode_c CB.out HL3.out).mono ?_
        rintro e w9 ⟨hB, hR⟩
        have BW := Lib.hid (below_then BW.out hB)
        have U1 := Lib.hid (U1.out.below hB)
        have U2 := Lib.hid (U2.out.below hB)
        have U3 := Lib.hid (U3.out.below hB)
        clear hB CB
        rcases hR with ⟨u9, l4, rfl, hO, hk⟩ | ⟨hno, rfl⟩
        case inr => exact absurd I3.out (hno l3)
        obtain rfl : l4 = l3 := isKey_uniq hk I3.out
        have U4 := Lib.hid hO.vls
        clear hO hk I3
        go_wp2_with fail
        refine (same_c U1.out U2.out (KU1.out)).mono ?_
        rintro e w10 ⟨rfl, hB⟩
        have BW := Lib.hid (below_then BW.out hB)
        have U3 := Lib.hid (U3.out.below hB)
        have U4 := Lib.hid (U4.out.below hB)
        clear hB
        rw [decide_eq_true rfl]
        go_wp2_with fail
        refine (same_c U3.out U4.out (KU3.out)).mono ?_
        rintro e w11 ⟨rfl, hB⟩
        have BW := Lib.hid (below_then BW.out hB)
        clear hB
        rw [decide_eq_true rfl]
        go_wp2_with fail
        refine (known8_c (HS.out.below BW.out)).mono ?_
        rintro e w12 ⟨rfl, hB⟩
        have BW := Lib.hid (below_then BW.out hB)
        clear hB
        go_wp2_with fail
        go_ret
        exact ⟨rfl, BW.out⟩
      · skip
        have N3 := Lib.hid hno
        clear hno
        go_wp2_with fail
        refine (rdecode_c CB.out HL3.out).mono ?_
        rintro e w9 ⟨hB, hR⟩
        have BW := Lib.hid (below_then BW.out hB)
        have U1 := Lib.hid (U1.out.below hB)
        have U2 := Lib.hid (U2.out.below hB)
        clear hB CB
        rcases hR with ⟨u9, l4, rfl, hO, hk⟩ | ⟨hno, rfl⟩
        case inl => exact absurd hk (N3.out l4)
        clear hno N3
        go_wp2_with fail
        refine (same_c U1.out U2.out (KU1.out)).mono ?_
        rintro e w10 ⟨rfl, hB⟩
        have BW := Lib.hid (below_then BW.out hB)
        clear hB
        rw [decide_eq_true rfl]
        go_wp2_with fail
        refine (known8_c (HS.out.below BW.out)).mono ?_
        rintro e w12 ⟨rfl, hB⟩
        have BW := Lib.hid (below_then BW.out hB)
        clear hB
        go_wp2_with fail
        go_ret
        exact ⟨rfl, BW.out⟩
    · skip
      have N1 := Lib.hid hno
      clear hno
      go_wp2_with fail
      refine (rdecode_c BB.out HB100.out).mono ?_
      rintro e w7 ⟨hB, hR⟩
      have BW := Lib.hid (below_then BW.out hB)
      have CB := Lib.hid (CB.out.below hB)
      clear hB BB
      rcases hR with ⟨u7, l2, rfl, hO, hk⟩ | ⟨hno, rfl⟩
      case inl => exact absurd hk (N1.out l2)
      clear hno N1
      go_wp2_with fail
      refine (decode_c CB.out HL3.out).mono ?_
      rintro e w8 ⟨hB, hR⟩
      have BW := Lib.hid (below_then BW.out hB)
      have CB := Lib.hid (CB.out.below hB)
      clear hB
      rcases hR with ⟨u8, l3, rfl, hO, hk⟩ | ⟨hno, rfl⟩
      · skip
        have U3 := Lib.hid hO.vls
        have I3 := Lib.hid hk
        have KU3 := Lib.hid (key_short hk (by have := HL3.out; omega))
        clear hO hk
        go_wp2_with fail
        refine (rdecode_c CB.out HL3.out).mono ?_
        rintro e w9 ⟨hB, hR⟩
        have BW := Lib.hid (below_then BW.out hB)
        have U3 := Lib.hid (U3.out.below hB)
        clear hB CB
        rcases hR with ⟨u9, l4, rfl, hO, hk⟩ | ⟨hno, rfl⟩
        case inr => exact absurd I3.out (hno l3)
        obtain rfl : l4 = l3 := isKey_uniq hk I3.out
        have U4 := Lib.hid hO.vls
        clear hO hk I3
        go_wp2_with fail
        refine (same_c U3.out U4.out (KU3.out)).mono ?_
        rintro e w11 ⟨rfl, hB⟩
        have BW := Lib.hid (below_then BW.out hB)
        clear hB
        rw [decide_eq_true rfl]
        go_wp2_with fail
        refine (known8_c (HS.out.below BW.out)).mono ?_
        rintro e w12 ⟨rfl, hB⟩
        have BW := Lib.hid (below_then BW.out hB)
        clear hB
        go_wp2_with fail
        go_ret
        exact ⟨rfl, BW.out⟩
      · skip
        have N3 := Lib.hid hno
        clear hno
        go_wp2_with fail
        refine (rdecode_c CB.out HL3.out).mono ?_
        rintro e w9 ⟨hB, hR⟩
        have BW := Lib.hid (below_then BW.out hB)
        clear hB CB
        rcases hR with ⟨u9, l4, rfl, hO, hk⟩ | ⟨hno, rfl⟩
        case inl => exact absurd hk (N3.out l4)
        clear hno N3
        go_wp2_with fail
        refine (known8_c (HS.out.below BW.out)).mono ?_
        rintro e w12 ⟨rfl, hB⟩
        have BW := Lib.hid (below_then BW.out hB)
        clear hB
        go_wp2_with fail
        go_ret
        exact ⟨rfl, BW.out⟩
end Go.Proofs.YtpbkmkcfhkdjjaaDoor

/- The contract of the program's Reader: Frac. -/
import Derived.Test.YtkdnmmbnljaahaaRdf
namespace Go.Proofs.Ytkdnmmbnljaahaa
open Go.RowKit Dig
set_option linter.unusedVariables false

section
variable {w : World} {g : Nat} {s : RS}
/-- What a reading of a fraction comes to. -/
theorem restS_good {neg : Bool} {s1 s2 s3 : RS} {n d : Nat} (e1 : natS s1 = (n, s2)) (e2 : natS s2 = (d, s3)) (h0 : s3.2 = 0) (hk : canon neg (dg n) (dg d) = true) : restS canonN neg s1 = (some (neg, n, d), s3) := by
  unfold restS
  rw [e1, e2, if_pos h0]
  exact if_pos hk
theorem restS_bad {neg : Bool} {s1 s2 s3 : RS} {n d : Nat} (e1 : natS s1 = (n, s2)) (e2 : natS s2 = (d, s3)) (h0 : s3.2 = 0) (hk : canon neg (dg n) (dg d) = false) : restS canonN neg s1 = (none, ([], 2)) := by
  unfold restS
  rw [e1, e2, if_pos h0]
  exact if_neg (by show ¬ canonN neg n d = true; unfold canonN; rw [hk]; exact Bool.false_ne_true)
theorem restS_err {neg : Bool} {s1 s2 s3 : RS} {n d : Nat} (e1 : natS s1 = (n, s2)) (e2 : natS s2 = (d, s3)) (h0 : s3.2 ≠ 0) : restS canonN neg s1 = (none, s3) := by
  unfold restS
  rw [e1, e2]
  exact if_neg h0
set_option maxRecDepth 20000 in
set_option maxHeartbeats 8000000 in
theorem frac_c (h : Rdr 66 w g s) (hz : s.1.length ≤ 1000000) :
    Calls Try.prog 27 #[.pointer (some ⟨g, 0, none⟩)] w (RRF 66 g w (fracS canonN s)) := by
  have S0 := FSt.new h
  have RW := Lib.hid (raw_c S0.1 (by omega) 1 (by omega) (by omega))
  rw [show (1 : Int).toNat = 1 from rfl] at RW
  have hl := (rawS_len 1 s).1
  have herr := Lib.hid (fun h => rawS_err (n := 1) (s := s) h)
  have HN := Lib.hid (show fracS canonN s = match (rawS 1 s).1 with | [] => (none, (rawS 1 s).2) | c :: _ => if 1 < c.toNat then (none, ([], 2)) else restS canonN (c.toNat == 1) (rawS 1 s).2 from rfl)
  have HS0 := Lib.hid S0
  have hlt := h.lt
  clear S0 h
  go_enter Try.func27, Try.ntmps27
  go_wp2_with fail
  refine (RW.out).mono ?_
  rintro x w1 ⟨r, rfl, hr, hR, hG⟩
  have S1 := HS0.out.call hR hG
  clear RW hR hG
  generalize (rawS 1 s).1 = bs at *
  generalize (rawS 1 s).2 = s1 at *
  obtain ⟨A, c, rfl⟩ := hr.form
  have hbd := hr.bounds.2
  obtain ⟨q0, q1, q2⟩ := S1.2.1.cells
  obtain ⟨z0, z1, z2⟩ := S1.2.1.frozen
  cases bs with
  | nil =>
    have HP := Lib.hid (show fracS canonN s = (none, s1) from HN.out)
    have HS1 := Lib.hid S1
    clear HN S1 hr
    go_wp2_with fail
    refine bodyPost_ret (v := .agg #[.bool false, .slice none 0 0, .slice none 0 0]) (by rw [results_one rfl]; go_simp) rfl ?_
    rw [HP.out]
    exact HS1.out.zero
  | cons a l =>
    have hs0 : s1.2 = 0 := by
      by_cases e : s1.2 = 0
      · exact e
      · exact absurd (herr.out e) (by simp)
    obtain ⟨b, off, rfl, _, hall⟩ := hr.cells (by simp)
    have hcz := hall 0 (by simp)
    rw [Nat.add_zero] at hcz
    have hc0 : w1.cell? ⟨b, off, none⟩ = some (.int .u8 (a.toNat : Int)) := hcz
    clear hcz
    have HN := Lib.hid (show fracS canonN s = if 1 < a.toNat then (none, ([], 2)) else restS canonN (a.toNat == 1) s1 from HN.out)
    rw [List.length_cons] at *
    have hll : (((l.length + 1 : Nat) : Int) == 0) = false := by rw [beq_eq_false_iff_ne]; omega
    have hlp : (0 : Int) < ((l.length + 1 : Nat) : Int) := by omega
    generalize l.length + 1 = L at *
    clear hall herr
    by_cases ha : 1 < a.toNat
    · have HP := Lib.hid (HN.out.trans (if_pos ha))
      have FF := Lib.hid (fail_c S1.1 2 (by omega))
      rw [failS_of hs0] at FF
      have hai : (1 : Int) < (a.toNat : Int) := by omega
      generalize (a.toNat : Int) = z at *
      have HS1 := Lib.hid S1
      clear HN S1 ha hr hs0
      go_wp2_with fail
      refine (FF.out).mono ?_
      rintro x w2 ⟨rfl, hR2, hG2⟩
      have S2 := HS1.out.call hR2 hG2
      have HS2 := Lib.hid S2
      clear q0 q1 q2 z0 z1 z2 hc0
      obtain ⟨q0, q1, q2⟩ := S2.2.1.cells
      obtain ⟨z0, z1, z2⟩ := S2.2.1.frozen
      clear S2
      go_wp2_with fail
      refine bodyPost_ret (v := .agg #[.bool false, .slice none 0 0, .slice none 0 0]) (by rw [results_one rfl]; go_simp) rfl ?_
      rw [HP.out]
      exact HS2.out.zero
    · have HP := Lib.hid (HN.out.trans (if_neg ha))
      have hai : ¬ (1 : Int) < (a.toNat : Int) := by omega
      obtain ⟨neg, hneg⟩ : ∃ neg, (a.toNat == 1) = neg := ⟨_, rfl⟩
      have hni : ((a.toNat : Int) == 1) = neg := by
        rw [← hneg]
        by_cases e : a.toNat = 1
        · rw [e]; rfl
        · rw [show (a.toNat == 1) = false by simpa using e, beq_eq_false_iff_ne]; omega
      rw [hneg] at HP
      generalize (a.toNat : Int) = z at *
      have hBa : Below w1.heap.size w1 (w1.alloc (.cells #[.bool neg, .slice none 0 0, .slice none 0 0] 28)) := (Below.refl _ _).alloc (Nat.le_refl _) _
      have S2 := Lib.hid (S1.below hBa)
      have F2 := Lib.hid (Fcl.new w1 neg (.slice none 0 0) (.slice none 0 0))
      have l1 := natS_len s1
      have l2 := natS_len (natS s1).2
      have hgR := S1.2.1.lt
      have hgw := S1.2.2.1.size
      have hgl := S1.1.lt
      clear HN S1 ha hr hneg hBa
      go_wp2_with fail
      generalize w1.alloc (.cells #[.bool neg, .slice none 0 0, .slice none 0 0] 28) = w2 at *
      generalize hga : w1.heap.size = ga at *
      have hwga : w.heap.size < ga := by have := HS0.out.2.1.lt; omega
      refine (nat_c S2.out.1 (by omega)).mono ?_
      rintro x w3 ⟨rx, rfl, hx, hR3, hG3⟩
      have e1 : natS s1 = ((natS s1).1, (natS s1).2) := rfl
      have e2 : natS (natS s1).2 = ((natS (natS s1).2).1, (natS (natS s1).2).2) := rfl
      have hz2 : (natS s1).2.1.length ≤ 1000000 := by omega
      have hln := Lib.hid (dg_length_le _ 2048 (natS_lt s1 2048 (by omega)))
      have hld := Lib.hid (dg_length_le _ 2048 (natS_lt (natS s1).2 2048 (by omega)))
      generalize (natS s1).1 = n at *
      generalize (natS s1).2 = s2 at *
      generalize (natS s2).1 = d at *
      have HLn := hln
      have HLd := hld
      clear hln hld
      have S3 := S2.out.call hR3 hG3
      have F3 := F2.out.grow1 hG3 (by simp; omega)
      obtain ⟨X, xc, rfl⟩ := hx.form
      generalize (dg n).length = xn at hx F3 ⊢
      clear q0 q1 q2 z0 z1 z2 hc0
      obtain ⟨k0, k1, k2⟩ := F3.cells
      obtain ⟨f0, f1, f2⟩ := F3.frozen
      have S4 := Lib.hid (S3.set F3 (by omega) (by omega) 1 (.slice X xn xc))
      have F4 := Lib.hid (F3.put1 (.slice X xn xc))
      have hx4 := Lib.hid (hx.keepBut (w' := w3.setCell ⟨ga, 1, none⟩ (.slice X xn xc)) F3 (by rw [set_size]; exact Nat.le_refl _) (set_heap _ _ _ _))
      clear S3 F3 hx
      go_wp2_with fail
      generalize w3.setCell ⟨ga, 1, none⟩ (.slice X xn xc) = w4 at *
      refine (nat_c S4.out.1 hz2).mono ?_
      rintro x w5 ⟨ry, rfl, hy, hR5, hG5⟩
      have S5 := S4.out.call hR5 hG5
      have F5 := F4.out.grow1 hG5 (by simp; omega)
      have hx5 := hx4.out.beside S4.out.1 hG5
      rw [e2] at S5 hy
      have S5 : FSt _ w g w.heap.size (natS s2).2 w5 := S5
      have hy : Num w5 ry (dg d) := hy
      generalize (natS s2).2 = s3 at *
      obtain ⟨Y, yc, rfl⟩ := hy.form
      generalize (dg d).length = yn at hy F5 ⊢
      clear k0 k1 k2 f0 f1 f2
      obtain ⟨k0, k1, k2⟩ := F5.cells
      obtain ⟨f0, f1, f2⟩ := F5.frozen
      have S6 := S5.set F5 (by omega) (by omega) 2 (.slice Y yn yc)
      have F6 := F5.put2 (.slice Y yn yc)
      have hx6 := hx5.keepBut (w' := w5.setCell ⟨ga, 2, none⟩ (.slice Y yn yc)) F5 (by rw [set_size]; exact Nat.le_refl _) (set_heap _ _ _ _)
      have hy6 := hy.keepBut (w' := w5.setCell ⟨ga, 2, none⟩ (.slice Y yn yc)) F5 (by rw [set_size]; exact Nat.le_refl _) (set_heap _ _ _ _)
      clear F5 hx5 hy S5
      have HS6 := Lib.hid S6
      have HF6 := Lib.hid F6
      have hX6 := Lib.hid hx6
      have hY6 := Lib.hid hy6
      obtain ⟨⟨⟨RA, rn, rc, rh, rb⟩, rok⟩, _⟩ := S6
      have re := (row2_cells rh).2
      obtain ⟨j0, j1, j2⟩ := F6.cells
      clear rh rb rok F6 hx6 hy6 hl l1 l2 hz2 hG3 hR3 hG5 hR5
      by_cases hs : s3.2 = 0
      · have hez : (s3.2 == 0) = true := by rw [hs]; rfl
        have hnz : (s3.2 != 0) = false := by rw [hs]; rfl
        have HC := isCanon_v (w5.setCell ⟨ga, 2, none⟩ (.slice Y yn yc)) neg _ _ (dg n) (dg d) hX6.out hY6.out (by have := HLn.out; omega) (by have := HLd.out; omega)
        cases hk : canon neg (dg n) (dg d) with
        | true =>
          have HE := Lib.hid (restS_good e1 e2 hs hk)
          rw [hk] at HC
          have HC := Lib.hid HC
          clear hs hk e1 e2
          go_wp2_with fail
          refine (HC.out).mono ?_
          rintro x w7 ⟨rfl, hB7⟩
          have S7 := HS6.out.below hB7
          have F7 := HF6.out.below hB7
          have hx7 := hX6.out.below hB7
          have hy7 := hY6.out.below hB7
          clear k0 k1 k2 f0 f1 f2 j0 j1 j2 re
          have HS7 := Lib.hid S7
          obtain ⟨q0, q1, q2⟩ := S7.2.1.cells
          obtain ⟨z0, z1, z2⟩ := S7.2.1.frozen
          obtain ⟨j0, j1, j2⟩ := F7.cells
          obtain ⟨⟨⟨RA, rn, rc, rh, rb⟩, rok⟩, _⟩ := S7
          have re := (row2_cells rh).2
          clear rh rb rok F7
          go_wp2_with fail
          refine bodyPost_ret (v := .agg #[.bool neg, .slice X xn xc, .slice Y yn yc]) (by rw [results_one rfl]; go_simp) rfl ?_
          rw [HP.out, HE.out]
          exact HS7.out.some hx7 hy7
        | false =>
          have HE := Lib.hid (restS_bad e1 e2 hs hk)
          rw [hk] at HC
          have HC := Lib.hid HC
          have HH := Lib.hid hs
          clear hs hk e1 e2
          go_wp2_with fail
          refine (HC.out).mono ?_
          rintro x w7 ⟨rfl, hB7⟩
          have S7 := HS6.out.below hB7
          have FF := Lib.hid (fail_c S7.1 2 (by omega))
          rw [failS_of HH.out] at FF
          have HS7 := Lib.hid S7
          clear S7 k0 k1 k2 f0 f1 f2 j0 j1 j2 re
          go_wp2_with fail
          refine (FF.out).mono ?_
          rintro x w8 ⟨rfl, hR8, hG8⟩
          have S8 := HS7.out.call hR8 hG8
          have HS8 := Lib.hid S8
          obtain ⟨q0, q1, q2⟩ := S8.2.1.cells
          obtain ⟨z0, z1, z2⟩ := S8.2.1.frozen
          obtain ⟨⟨⟨RA, rn, rc, rh, rb⟩, rok⟩, _⟩ := S8
          have re := (row2_cells rh).2
          have re : w8.cell? ⟨g, 1, none⟩ = some (.int .i64 2) := re
          clear rh rb rok
          go_wp2_with fail
          refine bodyPost_ret (v := .agg #[.bool false, .slice none 0 0, .slice none 0 0]) (by rw [results_one rfl]; go_simp) rfl ?_
          rw [HP.out, HE.out]
          exact HS8.out.zero
      · have hez : (s3.2 == 0) = false := by rw [beq_eq_false_iff_ne]; exact hs
        have hnz : (s3.2 != 0) = true := by rw [bne_iff_ne]; exact hs
        have HE := Lib.hid (restS_err (neg := neg) e1 e2 hs)
        obtain ⟨q0, q1, q2⟩ := HS6.out.2.1.cells
        obtain ⟨z0, z1, z2⟩ := HS6.out.2.1.frozen
        clear hs e1 e2
        go_wp2_with fail
        refine bodyPost_ret (v := .agg #[.bool false, .slice none 0 0, .slice none 0 0]) (by rw [results_one rfl]; go_simp) rfl ?_
        rw [HP.out, HE.out]
        exact HS6.out.zero
end
end Go.Proofs.Ytkdnmmbnljaahaa

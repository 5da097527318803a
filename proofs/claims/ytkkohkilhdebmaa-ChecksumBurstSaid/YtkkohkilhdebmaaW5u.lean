/- The walk of ChecksumBurst. -/
import Derived.Test.YtkkohkilhdebmaaW5b
namespace Go.Proofs.Ytkkohkilhdebmaa
open Go.RowKit Dig
set_option linter.unusedVariables false
theorem bit_at {d : Nat} (h : d < 4294967296) (j : Nat) : bits .and .u32 ((d : Int) / 2 ^ j) 1 = ((d / 2 ^ j % 2 : Nat) : Int) := by
  have e := u32_and_nat (d / 2 ^ j) 1 (Nat.lt_of_le_of_lt (Nat.div_le_self _ _) h) (by omega)
  rw [Nat.and_one_is_mod] at e
  have e2 : ((d / 2 ^ j : Nat) : Int) = (d : Int) / 2 ^ j := by simp
  rw [e2] at e
  exact e
/-- The bit that is put in. -/
theorem flip_at {q : Nat} (h : q < 256) (K : Nat) : bits .xor .u8 (q : Int) (2 ^ (K % 8) % 256) = ((oct (q ^^^ 2 ^ (K % 8))).toNat : Int) := by
  have hp : 2 ^ (K % 8) < 256 := Nat.pow_lt_pow_right (a := 2) (n := 8) (by omega) (Nat.mod_lt _ (by omega))
  have e := u8_xor_nat q (2 ^ (K % 8)) h hp
  rw [oct_toNat (Nat.xor_lt_two_pow (n := 8) h hp), ← e, ← Nat.mod_eq_of_lt hp]
  rfl
theorem flip_more {cs ts : List UInt8} {k j d q : Nat} (hK : k + j < 8 * cs.length) (hq : (cs.getD ((k + j) / 8) 0).toNat = q) (hv : leV cs = leV ts ^^^ 2 ^ k * (d % 2 ^ j)) (hbit : d / 2 ^ j % 2 = 1) :
    leV (cs.set ((k + j) / 8) (oct (q ^^^ 2 ^ ((k + j) % 8)))) = leV ts ^^^ 2 ^ k * (d % 2 ^ (j + 1)) := by
  have := leV_flip cs (k + j) hK
  rw [hq] at this
  rw [this, hv, bit_more, if_pos hbit, mul_xor, Nat.pow_add, Nat.xor_assoc]
section
variable {w : World} {vb : Value} {ts : List UInt8}
theorem burst_big (hb : Byt w vb ts) (a c : Int) (h : ts.length < 5 ∨ 300 < ts.length ∨ c = 0) :
    Calls Try.prog 5 #[vb, .int .i64 a, .int .u32 c] w (RVal w (.bool true)) := by
  obtain ⟨B, b, rfl⟩ := hb.form
  generalize ts.length = l0 at *
  clear hb
  by_cases h0 : l0 < 5
  · have h0i : (l0 : Int) < 5 := by omega
    clear h h0
    go_enter Try.func5, Try.ntmps5
    go_wp2_with fail
    go_ret
    exact ⟨rfl, Below.refl _ _⟩
  · have h0i : ¬ (l0 : Int) < 5 := by omega
    by_cases h1 : 300 < l0
    · have h1i : (300 : Int) < l0 := by omega
      clear h h0 h1
      go_enter Try.func5, Try.ntmps5
      go_wp2_with fail
      go_ret
      exact ⟨rfl, Below.refl _ _⟩
    · have h1i : ¬ (300 : Int) < l0 := by omega
      have h2i : c = 0 := by omega
      subst h2i
      clear h h0 h1
      go_enter Try.func5, Try.ntmps5
      go_wp2_with fail
      go_ret
      exact ⟨rfl, Below.refl _ _⟩
set_option maxRecDepth 20000 in
set_option maxHeartbeats 8000000 in
theorem burst_small (hb : Byt w vb ts) (a : Int) (d : Nat) (h0 : 5 ≤ ts.length) (h1 : ts.length ≤ 300) (hd : d < 4294967296) (hd0 : d ≠ 0) :
    Calls Try.prog 5 #[vb, .int .i64 a, .int .u32 (d : Int)] w (RVal w (.bool true)) := by
  have H1 := Lib.hid (fun w1 (hB : Below w.heap.size w w1) => crc_c (hb.below hB) (by omega))
  have HBY := Lib.hid hb
  obtain ⟨m, hm, hml⟩ := wrap_nat a
  obtain ⟨k, hk, hkl⟩ := rem_nat (m := m) (n := 8 * ts.length - 32) (by omega)
  have hk : Int.tmod (m : Int) (8 * (ts.length : Int) - 32) = (k : Int) := by
    rw [← hk]
    congr 1
    omega
  have HL := Lib.hid (show 5 ≤ ts.length ∧ ts.length ≤ 300 ∧ k < 8 * ts.length - 32 from ⟨h0, h1, hkl⟩)
  obtain ⟨B, b, rfl⟩ := hb.form
  have h0i : ¬ (ts.length : Int) < 5 := by omega
  have h1i : ¬ (300 : Int) < ts.length := by omega
  have hki : (k : Int) < 8 * (ts.length : Int) - 32 := by omega
  have hdi : ¬ (d : Int) = 0 := by omega
  have HD := Lib.hid (show d < 4294967296 ∧ d ≠ 0 from ⟨hd, hd0⟩)
  clear hb h0 h1 hd hd0 hml hkl
  obtain ⟨l0, e0⟩ : ∃ l, ts.length = l := ⟨_, rfl⟩
  have E0 := Lib.hid e0
  rw [e0] at HBY H1 h0i h1i hki hk HL
  rw [e0]
  clear e0
  go_enter Try.func5, Try.ntmps5
  go_wp2_with (first | ((with_reducible refine wp_noneB rfl rfl ?_); intro w1 hS hB1; have o1 := Lib.hid hS; have B1 := Lib.hid hB1; clear hS hB1) | (at_builtin; refine wp_appendB rfl _ _ rfl w.heap.size _ [] rfl o1.out _ ts rfl (HBY.out.below B1.out) (by have := HL.out; have := E0.out; simp; omega) B1.out.size ?_; intro v2 w2 hv2 hg2; have B2 := Lib.hid (below_ownB B1.out hg2 o1.out (Nat.le_refl _)); clear o1 hg2; rw [List.nil_append] at hv2; rcases hv2 with ⟨_, rfl⟩ | ⟨g, rest, rfl, hgw, hcap, hrow⟩; (have h1 := E0.out; have h2 := HL.out; simp at h1; omega); have hrow := Lib.hid hrow; have hgw := Lib.hid hgw; rw [E0.out] at hcap ⊢; have hcap := Lib.hid hcap))
  go_loopw [9] (fun i wr => ∃ (j : Nat) (cs : List UInt8), j ≤ 32 ∧ i = .int .i64 j ∧ cs.length = l0 ∧ leV cs = leV ts ^^^ 2 ^ k * (d % 2 ^ j) ∧ wr.heap[g]? = some (.cells (Y cs ++ rest).toArray 5 (0, 0)) ∧ Below w.heap.size w wr) (fun i _ => 32 - (intOf i).toNat)
  case atStart => exact ⟨0, ts, by omega, rfl, E0.out, by rw [Nat.pow_zero, Nat.mod_one, Nat.mul_zero, Nat.xor_zero], hrow.out, B2.out⟩
  case round =>
    obtain ⟨j, cs, hj, rfl, hcl, hcv, hcr, hB⟩ := hrel
    by_cases hj32 : j < 32
    · have HI : (j : Int) < 32 := by omega
      have hbx := bit_at HD.out.1 j
      by_cases hbit : d / 2 ^ j % 2 = 1
      · rw [hbit] at hbx
        have hki2 := HL.out
        have hlt : (k + j) / 8 < cs.length := by omega
        obtain ⟨hcell, hfz⟩ := row_at hcr hlt
        have hq := (cs.getD ((k + j) / 8) 0).toNat_lt
        obtain ⟨q, eq⟩ : ∃ q, (cs.getD ((k + j) / 8) 0).toNat = q := ⟨_, rfl⟩
        have HV := Lib.hid (flip_more (by omega) eq hcv hbit)
        rw [eq] at hcell hq
        have HR := Lib.hid (row_put hcr hlt _ _ (flip_at hq (k + j)))
        have HBR := Lib.hid (hB.setCell (p := ⟨g, (k + j) / 8, none⟩) hgw.out (.int .u8 (bits .xor .u8 (q : Int) (2 ^ ((k + j) % 8) % 256))))
        have HCL := Lib.hid (show (cs.set ((k + j) / 8) (oct (q ^^^ 2 ^ ((k + j) % 8)))).length = l0 by rw [List.length_set]; exact hcl)
        clear hki2 hlt hq eq hcv hcr hB hcl hbit
        go_wp2_with fail
        go_roundw
        case rel => exact ⟨j + 1, _, by omega, by go_num, HCL.out, HV.out, HR.out, HBR.out⟩
        case measure => simp [intOf]; omega
      · rw [show d / 2 ^ j % 2 = 0 by omega] at hbx
        have HV := Lib.hid (show leV cs = leV ts ^^^ 2 ^ k * (d % 2 ^ (j + 1)) by rw [hcv, bit_more, if_neg hbit])
        have HR := Lib.hid hcr
        have HBR := Lib.hid hB
        have HCL := Lib.hid hcl
        clear hcv hcr hB hcl hbit
        go_wp2_with fail
        go_roundw
        case rel => exact ⟨j + 1, cs, by omega, by go_num, HCL.out, HV.out, HR.out, HBR.out⟩
        case measure => simp [intOf]; omega
    · have HI : ¬ (j : Int) < 32 := by omega
      have e32 : j = 32 := by omega
      have hdm : d % 2 ^ j = d := by rw [e32]; exact Nat.mod_eq_of_lt HD.out.1
      rw [hdm] at hcv
      have hne := crc_ne (hcl.trans E0.out.symm) hcv HD.out.2 HD.out.1 (by have := HL.out; have := E0.out; omega)
      have hb3 := Lib.hid (row_byt hcr hcl hcap.out)
      have hl3 := Lib.hid (show cs.length ≤ 1000000000 by have := HL.out; omega)
      have B3 := Lib.hid hB
      obtain ⟨R1, e1⟩ : ∃ R, crcN ts = R := ⟨_, rfl⟩
      obtain ⟨R2, e2⟩ : ∃ R, crcN cs = R := ⟨_, rfl⟩
      rw [e1, e2] at hne
      have H2 := H1.out wr B3.out
      rw [e1] at H2
      have H2 := Lib.hid H2
      have E2 := Lib.hid e2
      have hrb : ((R1 : Int) != R2) = true := bne_iff_ne.2 (by omega)
      clear hcv hcr hB hcl e32 hdm hne e1 e2 hj32 hm hk
      generalize l0 + rest.length = c0 at *
      go_wp2_with fail
      refine (H2.out).mono ?_
      rintro e w4 ⟨rfl, hB⟩
      have C2 := crc_c (hb3.out.below hB) hl3.out
      rw [E2.out] at C2
      have C2 := Lib.hid C2
      have B4 := Lib.hid (below_then B3.out hB)
      clear hB
      go_wp2_with fail
      refine (C2.out).mono ?_
      rintro e w5 ⟨rfl, hB⟩
      have B5 := Lib.hid (below_then B4.out hB)
      clear hB
      go_wp2_with fail
      refine (known5_c w5).mono ?_
      rintro e w6 ⟨rfl, hB⟩
      have B6 := Lib.hid (below_then B5.out hB)
      clear hB
      go_wp2_with fail
      go_ret
      exact ⟨rfl, B6.out⟩
end
theorem burst_walk (w : World) (vb : Value) (ts : List UInt8) (hb : Byt w vb ts) {a c : Int} (ha : (Lit.int .i64 a).wf = true) (hc : (Lit.int .u32 c).wf = true) :
    Calls Try.prog 5 #[vb, .int .i64 a, .int .u32 c] w (RVal w (.bool true)) := by
  by_cases h : ts.length < 5 ∨ 300 < ts.length ∨ c = 0
  · exact burst_big hb a c h
  · obtain ⟨h1, h2⟩ := wf_word hc
    obtain ⟨n, rfl⟩ := Int.eq_ofNat_of_zero_le h1
    exact burst_small hb a n (by omega) (by omega) (by omega) (by omega)
end Go.Proofs.Ytkkohkilhdebmaa

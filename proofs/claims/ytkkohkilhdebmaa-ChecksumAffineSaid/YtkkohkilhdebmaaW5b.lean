/- The walk of ChecksumByte. -/
import Derived.Test.YtkkohkilhdebmaaW5v
namespace Go.Proofs.Ytkkohkilhdebmaa
open Go.RowKit Dig
set_option linter.unusedVariables false
theorem wrap_nat (z : Int) : ∃ m : Nat, IntKind.u64.wrap z = (m : Int) ∧ m < 18446744073709551616 := by
  have h : IntKind.u64.wrap z = z % 18446744073709551616 := IntKind.wrap_u64 z
  refine ⟨(z % 18446744073709551616).toNat, ?_, ?_⟩
  · rw [h]; omega
  · omega
theorem rem_nat {m n : Nat} (hn : 0 < n) : ∃ k : Nat, Int.tmod (m : Int) (n : Int) = (k : Int) ∧ k < n := ⟨m % n, by rw [Int.tmod_eq_emod_of_nonneg (by omega)]; rfl, Nat.mod_lt _ hn⟩
/-- A cell of an own row. -/
theorem row_at {w : World} {g k : Nat} {ts : List UInt8} {rest : List Value} (h : w.heap[g]? = some (.cells (Y ts ++ rest).toArray 5 (0, 0))) (hk : k < ts.length) : w.cell? ⟨g, k, none⟩ = some (.int .u8 ((ts.getD k 0).toNat : Int)) ∧ w.frozen? ⟨g, k, none⟩ = false := by
  refine ⟨?_, by simp [World.frozen?, h]⟩
  rw [cell_of_row w g k _ _ (0, 0) h, List.getElem?_toArray, List.getElem?_append_left (by rw [Y_length]; exact hk)]
  exact Y_get ts k hk
/-- A byte of an own row is replaced. -/
theorem row_put {w : World} {g k : Nat} {ts : List UInt8} {rest : List Value} (h : w.heap[g]? = some (.cells (Y ts ++ rest).toArray 5 (0, 0))) (hk : k < ts.length) (u : UInt8) (q : Int) (hq : q = (u.toNat : Int)) :
    (w.setCell ⟨g, k, none⟩ (.int .u8 q)).heap[g]? = some (.cells (Y (ts.set k u) ++ rest).toArray 5 (0, 0)) := by
  subst hq
  simp only [World.setCell, Array.getElem?_modify, h]
  simp [Y, List.map_set, hk]
theorem row_byt {w : World} {g n : Nat} {ts : List UInt8} {rest : List Value} (h : w.heap[g]? = some (.cells (Y ts ++ rest).toArray 5 (0, 0))) (hn : ts.length = n) (hm : n + rest.length ≤ maxLen) : Byt w (.slice (some ⟨g, 0, none⟩) n (n + rest.length)) ts := by
  subst hn
  exact OwB.byt (base := 0) (.inr ⟨g, rest, rfl, Nat.zero_le _, hm, h⟩)
section
variable {w : World} {vb : Value} {ts : List UInt8}
theorem byte_big (hb : Byt w vb ts) (a c : Int) (h : ts.length < 1 ∨ 300 < ts.length ∨ c = 0) :
    Calls Try.prog 6 #[vb, .int .i64 a, .int .u8 c] w (RVal w (.bool true)) := by
  obtain ⟨B, b, rfl⟩ := hb.form
  generalize ts.length = l0 at *
  clear hb
  by_cases h0 : l0 < 1
  · have h0i : (l0 : Int) < 1 := by omega
    clear h h0
    go_enter Try.func6, Try.ntmps6
    go_wp2_with fail
    go_ret
    exact ⟨rfl, Below.refl _ _⟩
  · have h0i : ¬ (l0 : Int) < 1 := by omega
    by_cases h1 : 300 < l0
    · have h1i : (300 : Int) < l0 := by omega
      clear h h0 h1
      go_enter Try.func6, Try.ntmps6
      go_wp2_with fail
      go_ret
      exact ⟨rfl, Below.refl _ _⟩
    · have h1i : ¬ (300 : Int) < l0 := by omega
      have h2i : c = 0 := by omega
      subst h2i
      clear h h0 h1
      go_enter Try.func6, Try.ntmps6
      go_wp2_with fail
      go_ret
      exact ⟨rfl, Below.refl _ _⟩
set_option maxRecDepth 20000 in
set_option maxHeartbeats 8000000 in
theorem byte_small (hb : Byt w vb ts) (a : Int) (c : Nat) (h0 : 1 ≤ ts.length) (h1 : ts.length ≤ 300) (hc : c < 256) (hc0 : c ≠ 0) :
    Calls Try.prog 6 #[vb, .int .i64 a, .int .u8 (c : Int)] w (RVal w (.bool true)) := by
  have H1 := Lib.hid (fun w1 (hB : Below w.heap.size w w1) => hash_c (hb.below hB) (by omega))
  have HBY := Lib.hid hb
  obtain ⟨m, hm, hml⟩ := wrap_nat a
  obtain ⟨k, hk, hkl⟩ := rem_nat (m := m) (n := ts.length) (by omega)
  have hq := (ts.getD k 0).toNat_lt
  have hx := u8_xor_nat (ts.getD k 0).toNat c hq hc
  have hX := Nat.xor_lt_two_pow (n := 8) hq hc
  have hne : oct ((ts.getD k 0).toNat ^^^ c) ≠ ts.getD k 0 := by
    intro e
    have := congrArg UInt8.toNat e
    rw [oct_toNat hX] at this
    have h2 := congrArg (fun x => (ts.getD k 0).toNat ^^^ x) this
    simp only [← Nat.xor_assoc, Nat.xor_self, Nat.zero_xor] at h2
    exact hc0 h2
  have hne := fnv_ne ts k _ (h := 14695981039346656037) (by omega) hkl hne
  have hfn : hashN ts ≠ hashN (ts.set k (oct ((ts.getD k 0).toNat ^^^ c))) := fun e => hne e.symm
  have HL := Lib.hid (show ts.length ≤ 300 ∧ k < ts.length from ⟨h1, hkl⟩)
  have HX := Lib.hid (oct_toNat hX)
  obtain ⟨B, b, rfl⟩ := hb.form
  have h0i : ¬ (ts.length : Int) < 1 := by omega
  have h1i : ¬ (300 : Int) < ts.length := by omega
  have hki : (k : Int) < ts.length := by omega
  have hci : ¬ (c : Int) = 0 := by omega
  obtain ⟨q, eq⟩ : ∃ q, (ts.getD k 0).toNat = q := ⟨_, rfl⟩
  rw [eq] at hx HX hfn
  obtain ⟨X, eX⟩ : ∃ X, q ^^^ c = X := ⟨_, rfl⟩
  rw [eX] at hx HX hfn
  obtain ⟨R1, e1⟩ : ∃ R, hashN ts = R := ⟨_, rfl⟩
  obtain ⟨R2, e2⟩ : ∃ R, hashN (ts.set k (oct X)) = R := ⟨_, rfl⟩
  rw [e1, e2] at hfn
  rw [e1] at H1
  have hrb : ((R1 : Int) != R2) = true := bne_iff_ne.2 (by omega)
  have EQ := Lib.hid eq
  have E2 := Lib.hid e2
  clear hb h0 h1 hc hc0 hml hkl hq hX hne hfn eq eX e1 e2
  obtain ⟨l0, e0⟩ : ∃ l, ts.length = l := ⟨_, rfl⟩
  have E0 := Lib.hid e0
  rw [e0] at HBY H1 h0i h1i hki hk HL
  rw [e0]
  clear e0
  go_enter Try.func6, Try.ntmps6
  go_wp2_with (first | ((with_reducible refine wp_noneB rfl rfl ?_); intro w1 hS hB1; have o1 := Lib.hid hS; have B1 := Lib.hid hB1; clear hS hB1) | (at_builtin; refine wp_appendB rfl _ _ rfl w.heap.size _ [] rfl o1.out _ ts rfl (HBY.out.below B1.out) (by have := HL.out; have := E0.out; simp; omega) B1.out.size ?_; intro v2 w2 hv2 hg2; have B2 := Lib.hid (below_ownB B1.out hg2 o1.out (Nat.le_refl _)); clear o1 hg2; rw [List.nil_append] at hv2; rcases hv2 with ⟨_, rfl⟩ | ⟨g, rest, rfl, hgw, hcap, hrow⟩; (have h1 := E0.out; have h2 := HL.out; simp at h1; omega); obtain ⟨hcell, hfz⟩ := row_at hrow (by have := HL.out; have := E0.out; omega : k < ts.length); rw [EQ.out] at hcell; have hrow := Lib.hid hrow; have hgw := Lib.hid hgw; rw [E0.out] at hcap ⊢; have hcap := Lib.hid hcap))
  have hkt : k < ts.length := by have := HL.out; have := E0.out; omega
  have hb3 := row_byt (n := l0) (row_put hrow.out hkt (oct X) (X : Int) (by rw [HX.out])) (by rw [List.length_set]; exact E0.out) hcap.out
  have B3 := Lib.hid (B2.out.setCell (p := ⟨g, k, none⟩) hgw.out (.int .u8 (X : Int)))
  have hl3 : (ts.set k (oct X)).length ≤ 1000000000 := by rw [List.length_set]; have := HL.out; have := E0.out; omega
  generalize w2.setCell ⟨g, k, none⟩ (.int .u8 (X : Int)) = w3 at hb3 B3 ⊢
  refine (H1.out w3 B3.out).mono ?_
  rintro e w4 ⟨rfl, hB⟩
  have C2 := hash_c (hb3.below hB) hl3
  rw [E2.out] at C2
  have C2 := Lib.hid C2
  have B4 := Lib.hid (below_then B3.out hB)
  clear hB hb3 hl3 hkt hcell hfz hx hk hm hki
  generalize l0 + rest.length = c0 at *
  go_wp2_with fail
  refine (C2.out).mono ?_
  rintro e w5 ⟨rfl, hB⟩
  have B5 := Lib.hid (below_then B4.out hB)
  clear hB
  go_wp2_with fail
  refine (known5_c w5).mono ?_
  rintro e w6 ⟨rfl, hB⟩
  have B6 := Lib.hid (below_then B5.out hB)
  clear hB
  go_wp2_with fail
  go_ret
  exact ⟨rfl, B6.out⟩
end
theorem byte_walk (w : World) (vb : Value) (ts : List UInt8) (hb : Byt w vb ts) {a c : Int} (ha : (Lit.int .i64 a).wf = true) (hc : (Lit.int .u8 c).wf = true) :
    Calls Try.prog 6 #[vb, .int .i64 a, .int .u8 c] w (RVal w (.bool true)) := by
  by_cases h : ts.length < 1 ∨ 300 < ts.length ∨ c = 0
  · exact byte_big hb a c h
  · obtain ⟨h1, h2⟩ := wf_byte hc
    obtain ⟨n, rfl⟩ := Int.eq_ofNat_of_zero_le h1
    exact byte_small hb a n (by omega) (by omega) (by omega) (by omega)
end Go.Proofs.Ytkkohkilhdebmaa

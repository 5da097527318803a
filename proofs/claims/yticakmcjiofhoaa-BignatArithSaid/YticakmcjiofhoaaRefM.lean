/- The contract of the reference function NatMul. -/
import Derived.Test.YticakmcjiofhoaaRefC
namespace Go.Proofs.Yticakmcjiofhoaa
open Go.RowKit Dig
set_option linter.unusedVariables false

set_option maxHeartbeats 2000000 in
theorem natMul_c (w : World) (va vb : Value) (qs ps : List Nat) (ha : Num w va qs) (hb : Num w vb ps) (hza : qs.length ≤ 4398046511104) (hzb : ps.length ≤ 4398046511104) :
    Calls Try.prog 31 #[va, vb] w (RNat w (val qs * val ps)) := by
  obtain ⟨A, c, rfl⟩ := ha.form
  obtain ⟨A', c', rfl⟩ := hb.form
  have hba := ha.bounds.2
  have hbb := hb.bounds.2
  go_enter Try.func31, Try.ntmps31
  go_wp2_with (at_make; refine wp_make rfl _ _ rfl _ _ (ps.length + qs.length) rfl rfl (by omega) (by omega) (by omega) ?_; intro w1 hS hB1)
  go_loopw [6, 7, 8] (fun i cy kk wr => ∃ (k : Nat) (zs : List Nat), k ≤ qs.length ∧ i = .int .i64 k ∧ OutRel ps qs zs k ∧ Seg wr w.heap.size [] zs [] ∧ Below w.heap.size w wr) (fun i _ _ _ => qs.length - (intOf i).toNat)
  case atStart => exact ⟨0, _, Nat.zero_le _, rfl, OutRel.start ps qs, hS, hB1⟩
  case round =>
    obtain ⟨i, zs0, hi, rfl, hr0, hseg0, hbel0⟩ := hrel
    by_cases hlt : i < qs.length
    · have bd := ha.small.get i
      have hli : (i : Int) < qs.length := by omega
      go_wp2_with fail
      go_loopw [7, 8] (fun cy j wr => ∃ (k q : Nat) (zs : List Nat), k ≤ ps.length ∧ j = .int .i64 k ∧ cy = .int .u64 q ∧ InRel ps zs0 zs i (qs.getD i 0) k q ∧ Seg wr w.heap.size [] zs [] ∧ Below w.heap.size w wr) (fun _ j _ => ps.length - (intOf j).toNat)
      case atStart => exact ⟨0, 0, zs0, Nat.zero_le _, rfl, rfl, InRel.start ps zs0 i _ hr0.2.1, hseg0, hbel0⟩
      case round =>
        obtain ⟨j, q, zs, hj, rfl, rfl, hr, hseg, hbel⟩ := hrel
        have hq := hr.2.2.2.2
        have hl0 := hr0.1
        have hl1 := hr.1
        by_cases hlt2 : j < ps.length
        · obtain ⟨b, off, rfl, hbb2, hall1⟩ := (ha.below hbel).cells (by omega)
          have hcd := hall1 i hlt
          obtain ⟨b2, off2, rfl, hbb3, hall⟩ := (hb.below hbel).cells (by omega)
          have hce := hall j hlt2
          clear hall hall1
          have be := hb.small.get j
          generalize hdd : qs.getD i 0 = d at *
          generalize hee : ps.getD j 0 = e at hce be
          have hcx := hseg.cell0 (j := i + j) (by omega)
          have hfx := hseg.frozen (i + j)
          have bx := hr.2.1.get (i + j)
          generalize hxx : zs.getD (i + j) 0 = x at hcx bx
          have hm := mul_le_digits bd be
          have hm1 : (d : Int) * (e : Int) ≤ 18446744065119617025 := by rw [← Int.natCast_mul]; omega
          have hm0 : (0 : Int) ≤ (d : Int) * (e : Int) := by rw [← Int.natCast_mul]; omega
          have HR := Lib.hid (hr.step (by omega) bd hee hxx be bx)
          have e1 : ((q : Int) + (x : Int) + ((d : Int) * (e : Int))) = ((q + (d * e + x) : Nat) : Int) := by rw [Int.natCast_add, Int.natCast_add, Int.natCast_mul]; omega
          have HS := Lib.hid (hseg.put0 (i + j) ((q + (d * e + x)) % 4294967296) (((q : Int) + (x : Int) + ((d : Int) * (e : Int))) % 4294967296) (by omega) (by rw [e1]; rfl))
          have HB := Lib.hid (fun N => (below_drewN hbel N).setCell (p := ⟨w.heap.size, i + j, none⟩) (Nat.le_refl _) (.int .u32 (((q : Int) + (x : Int) + ((d : Int) * (e : Int))) % 4294967296)))
          have HC := Lib.hid (show Value.int .u64 (((q : Int) + (x : Int) + ((d : Int) * (e : Int))) / 4294967296) = .int .u64 (((q + (d * e + x)) / 4294967296 : Nat) : Int) by rw [e1]; rfl)
          have hlj : (j : Int) < ps.length := by omega
          have hsum : (i : Int) + (j : Int) < (ps.length : Int) + (qs.length : Int) := by omega
          have HHr0 := Lib.hid hr0
          have HHdd := Lib.hid hdd
          clear hr hseg hbel hxx hee e1 hm hdd hr0 hseg0 hbel0
          go_wp2_with fail
          go_quiet (fail)
          go_wp2_with fail
          go_roundw
          case rel => exact ⟨j + 1, (q + (d * e + x)) / 4294967296, _, by omega, by go_num, HC.out, HR.out, HS.out, HB.out _⟩
          case measure => simp [intOf]; omega
        · have hje : j = ps.length := by omega
          subst hje
          have hcx := hseg.cell0 (j := i + ps.length) (by omega)
          have hfx := hseg.frozen (i + ps.length)
          have HR := Lib.hid (hr.done hr0 hlt rfl)
          have HS := Lib.hid (hseg.put0 (i + ps.length) q (q : Int) (by omega) rfl)
          have HB := Lib.hid (hbel.setCell (p := ⟨w.heap.size, i + ps.length, none⟩) (Nat.le_refl _) (.int .u32 (q : Int)))
          have hsum : (i : Int) + (ps.length : Int) < (ps.length : Int) + (qs.length : Int) := by omega
          clear hr hseg hbel
          go_wp2_with fail
          go_roundw
          case rel => exact ⟨i + 1, _, by omega, by go_num, HR.out, HS.out, HB.out⟩
          case measure => simp [intOf]; omega
    · have hie : i = qs.length := by omega
      subst hie
      have HV := Lib.hid hr0.done
      have HL := Lib.hid hr0.1
      have hO := Own.of_seg (base := w.heap.size) (c := ps.length + qs.length) hseg0 hr0.2.1 hr0.1 (Nat.le_refl _) rfl (by omega)
      have NN := natNorm_c _ _ zs0 hO.num (by rw [hr0.1]; omega)
      rw [hr0.done, Nat.mul_comm] at NN
      have HN := Lib.hid NN
      have hsz := hbel0.size
      clear hr0 NN hO
      go_wp2_with fail
      refine (HN.out).mono ?_
      rintro e w2 ⟨r, rfl, hO, hB⟩
      go_wp2_with fail
      go_ret
      exact ⟨_, rfl, hO.mono hsz, below_then hbel0 hB⟩
end Go.Proofs.Yticakmcjiofhoaa

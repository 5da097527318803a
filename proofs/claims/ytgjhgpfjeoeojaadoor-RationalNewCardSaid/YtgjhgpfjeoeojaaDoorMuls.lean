/- The contract of longProduct: long multiplication. -/
import Derived.Laws.IdiomStrings
import Derived.Test.YtgjhgpfjeoeojaaDoorAdds
import Derived.Test.YtgjhgpfjeoeojaaDoorPlain
import Derived.Test.YtgjhgpfjeoeojaaDoorMems
namespace Go.Proofs.YtgjhgpfjeoeojaaDoor
open Go.RowKit Dig

theorem Seg.cell0 {w : World} {g : Nat} {post : List Value} {xs : List Nat} (h : Seg w g [] xs post) {j : Nat} (hj : j < xs.length) : w.cell? ⟨g, j, none⟩ = some (.int .u32 ((xs.getD j 0 : Nat) : Int)) := by
  have := h.cell hj
  simpa using this
theorem Seg.put0 {w : World} {g : Nat} {post : List Value} {xs : List Nat} (h : Seg w g [] xs post) (j v : Nat) (q : Int) (hj : j < xs.length) (hq : q = (v : Int)) : Seg (w.setCell ⟨g, j, none⟩ (.int .u32 q)) g [] (xs.set j v) post := by
  have := h.put j v q hj hq
  simpa using this

set_option maxHeartbeats 2000000 in
theorem long_c (w : World) (va vb : Value) (ps qs : List Nat) (ha : Num w va ps) (hb : Num w vb qs) (hza : ps.length ≤ 8796093022208) (hzb : qs.length ≤ 8796093022208) :
    Calls Tryd.prog 39 #[va, vb] w fun e w' => ∃ r zs, e = .returned r ∧ zs.length = ps.length + qs.length ∧ val zs = val ps * val qs ∧ Own w.heap.size w' r zs ∧ Below w.heap.size w w' := by
  obtain ⟨A, c, rfl⟩ := ha.form
  obtain ⟨A', c', rfl⟩ := hb.form
  have hba := ha.bounds.2
  have hbb := hb.bounds.2
  go_enter Tryd.func39, Tryd.ntmps39
  go_wp2_with (at_make; refine wp_make rfl _ _ rfl _ _ (ps.length + qs.length) rfl rfl (by omega) (by omega) (by omega) ?_; intro w1 hS hB1)
  go_loopw [8, 19] (fun cy i wr => ∃ (k : Nat) (zs : List Nat), k ≤ qs.length ∧ i = .int .i64 k ∧ OutRel ps qs zs k ∧ Seg wr w.heap.size [] zs [] ∧ Below w.heap.size w wr) (fun _ i _ => qs.length - (intOf i).toNat)
  case atStart => exact ⟨0, _, Nat.zero_le _, rfl, OutRel.start ps qs, hS, hB1⟩
  case round =>
    obtain ⟨i, zs0, hi, rfl, hr0, hseg0, hbel0⟩ := hrel
    by_cases hlt : i < qs.length
    · obtain ⟨b, off, rfl, hbb2, hall⟩ := (hb.below hbel0).cells (by omega)
      have hcd := hall i hlt
      clear hall
      have bd := hb.small.get i
      generalize hdd : qs.getD i 0 = d at hcd bd
      have HD := Lib.hid hdd
      clear hdd
      have hli : (i : Int) < qs.length := by omega
      go_wp2_with fail
      go_loopw [8, 26] (fun cy j wr => ∃ (k q : Nat) (zs : List Nat), k ≤ ps.length ∧ j = .int .i64 k ∧ cy = .int .u64 q ∧ InRel ps zs0 zs i d k q ∧ Seg wr w.heap.size [] zs [] ∧ Below w.heap.size w wr) (fun _ j _ => ps.length - (intOf j).toNat)
      case atStart => exact ⟨0, 0, zs0, Nat.zero_le _, rfl, rfl, InRel.start ps zs0 i d hr0.2.1, hseg0, hbel0⟩
      case round =>
        obtain ⟨j, q, zs, hj, rfl, rfl, hr, hseg, hbel⟩ := hrel
        have hq := hr.2.2.2.2
        have hl0 := hr0.1
        have hl1 := hr.1
        by_cases hlt2 : j < ps.length
        · obtain ⟨b2, off2, rfl, hbb3, hall⟩ := (ha.below hbel).cells (by omega)
          have hce := hall j hlt2
          clear hall
          have be := ha.small.get j
          generalize hee : ps.getD j 0 = e at hce be
          have hcx := hseg.cell0 (j := i + j) (by omega)
          have hfx := hseg.frozen (i + j)
          have bx := hr.2.1.get (i + j)
          generalize hxx : zs.getD (i + j) 0 = x at hcx bx
          have hm := mul_le_digits bd be
          have hm1 : (d : Int) * (e : Int) ≤ 18446744065119617025 := by rw [← Int.natCast_mul]; omega
          have hm0 : (0 : Int) ≤ (d : Int) * (e : Int) := by rw [← Int.natCast_mul]; omega
          have HR := Lib.hid (hr.step (by omega) bd hee hxx be bx)
          have e1 : ((q : Int) + ((d : Int) * (e : Int) + (x : Int))) = ((q + (d * e + x) : Nat) : Int) := by rw [Int.natCast_add, Int.natCast_add, Int.natCast_mul]
          have HS := Lib.hid (hseg.put0 (i + j) ((q + (d * e + x)) % 4294967296) (((q : Int) + ((d : Int) * (e : Int) + (x : Int))) % 4294967296) (by omega) (by rw [e1]; rfl))
          have HB := Lib.hid (hbel.setCell (p := ⟨w.heap.size, i + j, none⟩) (Nat.le_refl _) (.int .u32 (((q : Int) + ((d : Int) * (e : Int) + (x : Int))) % 4294967296)))
          have HC := Lib.hid (show Value.int .u64 (((q : Int) + ((d : Int) * (e : Int) + (x : Int))) / 4294967296) = .int .u64 (((q + (d * e + x)) / 4294967296 : Nat) : Int) by rw [e1]; rfl)
          have hlj : (j : Int) < ps.length := by omega
          have hsum : (i : Int) + (j : Int) < (ps.length : Int) + (qs.length : Int) := by omega
          clear hr hseg hbel hxx hee e1 hm
          go_wp2_with fail
          go_roundw
          case rel => exact ⟨j + 1, (q + (d * e + x)) / 4294967296, _, by omega, by go_num, HC.out, HR.out, HS.out, HB.out⟩
          case measure => simp [intOf]; omega
        · have hje : j = ps.length := by omega
          subst hje
          have hcx := hseg.cell0 (j := i + ps.length) (by omega)
          have hfx := hseg.frozen (i + ps.length)
          have HR := Lib.hid (hr.done hr0 hlt HD.out)
          have HS := Lib.hid (hseg.put0 (i + ps.length) q (q : Int) (by omega) rfl)
          have HB := Lib.hid (hbel.setCell (p := ⟨w.heap.size, i + ps.length, none⟩) (Nat.le_refl _) (.int .u32 (q : Int)))
          have hsum : (i : Int) + (ps.length : Int) < (ps.length : Int) + (qs.length : Int) := by omega
          clear hr hseg hbel
          go_wp2_with fail
          go_roundw
          case rel => exact ⟨i + 1, _, by omega, by go_num, HR.out, HS.out, HB.out⟩
          case measure => simp [intOf]; omega
    · have hie : i = qs.length := by omega
      subst hie
      have HV := Lib.hid hr0.done
      have HL := Lib.hid hr0.1
      have HO := Lib.hid (Own.of_seg (base := w.heap.size) (c := ps.length + qs.length) hseg0 hr0.2.1 hr0.1 (Nat.le_refl _) rfl (by omega))
      go_wp2_with fail
      go_ret
      exact ⟨_, zs0, rfl, HL.out, HV.out, HO.out, hbel0⟩
end Go.Proofs.YtgjhgpfjeoeojaaDoor

/- The contract of Mul where the shorter factor has fewer than 48 digits. -/
namespace Go.Proofs.YtgjhgpfjeoeojaaDoor
open Go.RowKit Dig
set_option linter.unusedVariables false

set_option maxHeartbeats 400000 in
theorem mul_nz (w : World) (va vb : Value) (xs ys : List Nat) (ha : Num w va xs) (hb : Num w vb ys) (hza : xs.length ≤ 8796093022208) (hzb : ys.length ≤ 8796093022208) (hl : (dg (val ys)).length ≤ (dg (val xs)).length) (h0 : (dg (val ys)).length = 0) :
    Calls Tryd.prog 16 #[va, vb] w (RNat w (val xs * val ys)) := by
  have Ta := Lib.hid (trim_n w va xs ha)
  have Tb := Lib.hid (trim_n w vb ys hb)
  have hla := dg_length_val xs ha.small
  have hlb := dg_length_val ys hb.small
  have hl2 : decide ((dg (val xs)).length < (dg (val ys)).length) = false := by simp; omega
  have E := Lib.hid (dg_len0 h0)
  have hz : (((dg (val ys)).length : Int) == 0) = true := by rw [h0]; rfl
  have H0 := Lib.hid h0
  clear h0
  go_enter Tryd.func16, Tryd.ntmps16
  go_wp2_with fail
  refine (Ta.out).mono ?_
  rintro e w' ⟨A, c, rfl, hA, rfl⟩
  go_wp2_with fail
  refine (Tb.out).mono ?_
  rintro e w' ⟨A', c', rfl, hB, rfl⟩
  go_wp2_with fail
  go_ret
  exact ⟨_, rfl, by rw [E.out, Nat.mul_zero]; exact Own.nil _ _, Below.refl _ _⟩

set_option maxHeartbeats 400000 in
theorem mul_nl (w : World) (va vb : Value) (xs ys : List Nat) (ha : Num w va xs) (hb : Num w vb ys) (hza : xs.length ≤ 8796093022208) (hzb : ys.length ≤ 8796093022208) (hl : (dg (val ys)).length ≤ (dg (val xs)).length) (h0 : (dg (val ys)).length ≠ 0) (h48 : (dg (val ys)).length < 48) :
    Calls Tryd.prog 16 #[va, vb] w (RNat w (val xs * val ys)) := by
  have Ta := Lib.hid (trim_n w va xs ha)
  have Tb := Lib.hid (trim_n w vb ys hb)
  have hla := dg_length_val xs ha.small
  have hlb := dg_length_val ys hb.small
  have hl2 : decide ((dg (val xs)).length < (dg (val ys)).length) = false := by simp; omega
  have hz : (((dg (val ys)).length : Int) == 0) = false := by rw [beq_eq_false_iff_ne]; omega
  go_enter Tryd.func16, Tryd.ntmps16
  go_wp2_with fail
  refine (Ta.out).mono ?_
  rintro e w' ⟨A, c, rfl, hA, rfl⟩
  go_wp2_with fail
  refine (Tb.out).mono ?_
  rintro e w' ⟨A', c', rfl, hB, rfl⟩
  go_wp2_with fail
  refine (long_c w _ _ (dg (val xs)) (dg (val ys)) hA hB (by omega) (by omega)).mono ?_
  rintro e w1 ⟨r, zs, rfl, z1, z2, hO, hB1⟩
  have T2 := Lib.hid (trim_own_any w1 _ r zs hO)
  have Z2 := Lib.hid z2
  clear z1 z2
  go_wp2_with fail
  refine (T2.out).mono ?_
  rintro e w3 ⟨r3, rfl, hr3, rfl⟩
  go_wp2_with fail
  go_ret
  rw [Z2.out, val_dg, val_dg] at hr3
  exact ⟨_, rfl, hr3, hB1⟩

set_option maxHeartbeats 400000 in
theorem mul_sz (w : World) (va vb : Value) (xs ys : List Nat) (ha : Num w va xs) (hb : Num w vb ys) (hza : xs.length ≤ 8796093022208) (hzb : ys.length ≤ 8796093022208) (hl : (dg (val xs)).length < (dg (val ys)).length) (h0 : (dg (val xs)).length = 0) :
    Calls Tryd.prog 16 #[va, vb] w (RNat w (val xs * val ys)) := by
  have Ta := Lib.hid (trim_n w va xs ha)
  have Tb := Lib.hid (trim_n w vb ys hb)
  have hla := dg_length_val xs ha.small
  have hlb := dg_length_val ys hb.small
  have E := Lib.hid (dg_len0 h0)
  have hz : (((dg (val xs)).length : Int) == 0) = true := by rw [h0]; rfl
  have H0 := Lib.hid h0
  clear h0
  go_enter Tryd.func16, Tryd.ntmps16
  go_wp2_with fail
  refine (Ta.out).mono ?_
  rintro e w' ⟨A, c, rfl, hA, rfl⟩
  go_wp2_with fail
  refine (Tb.out).mono ?_
  rintro e w' ⟨A', c', rfl, hB, rfl⟩
  go_wp2_with fail
  go_ret
  exact ⟨_, rfl, by rw [E.out, Nat.zero_mul]; exact Own.nil _ _, Below.refl _ _⟩

set_option maxHeartbeats 400000 in
theorem mul_sl (w : World) (va vb : Value) (xs ys : List Nat) (ha : Num w va xs) (hb : Num w vb ys) (hza : xs.length ≤ 8796093022208) (hzb : ys.length ≤ 8796093022208) (hl : (dg (val xs)).length < (dg (val ys)).length) (h0 : (dg (val xs)).length ≠ 0) (h48 : (dg (val xs)).length < 48) :
    Calls Tryd.prog 16 #[va, vb] w (RNat w (val xs * val ys)) := by
  have Ta := Lib.hid (trim_n w va xs ha)
  have Tb := Lib.hid (trim_n w vb ys hb)
  have hla := dg_length_val xs ha.small
  have hlb := dg_length_val ys hb.small
  have hz : (((dg (val xs)).length : Int) == 0) = false := by rw [beq_eq_false_iff_ne]; omega
  go_enter Tryd.func16, Tryd.ntmps16
  go_wp2_with fail
  refine (Ta.out).mono ?_
  rintro e w' ⟨A, c, rfl, hA, rfl⟩
  go_wp2_with fail
  refine (Tb.out).mono ?_
  rintro e w' ⟨A', c', rfl, hB, rfl⟩
  go_wp2_with fail
  refine (long_c w _ _ (dg (val ys)) (dg (val xs)) hB hA (by omega) (by omega)).mono ?_
  rintro e w1 ⟨r, zs, rfl, z1, z2, hO, hB1⟩
  have T2 := Lib.hid (trim_own_any w1 _ r zs hO)
  have Z2 := Lib.hid z2
  clear z1 z2
  go_wp2_with fail
  refine (T2.out).mono ?_
  rintro e w3 ⟨r3, rfl, hr3, rfl⟩
  go_wp2_with fail
  go_ret
  rw [Z2.out, val_dg, val_dg] at hr3
  exact ⟨_, rfl, by rw [Nat.mul_comm]; exact hr3, hB1⟩

theorem mul_small (w : World) (va vb : Value) (xs ys : List Nat) (ha : Num w va xs) (hb : Num w vb ys) (hza : xs.length ≤ 8796093022208) (hzb : ys.length ≤ 8796093022208) (h : (dg (val xs)).length < 48 ∨ (dg (val ys)).length < 48) :
    Calls Tryd.prog 16 #[va, vb] w (RNat w (val xs * val ys)) := by
  by_cases hl : (dg (val xs)).length < (dg (val ys)).length
  · by_cases h0 : (dg (val xs)).length = 0
    · exact mul_sz w va vb xs ys ha hb hza hzb hl h0
    · exact mul_sl w va vb xs ys ha hb hza hzb hl h0 (by omega)
  · by_cases h0 : (dg (val ys)).length = 0
    · exact mul_nz w va vb xs ys ha hb hza hzb (by omega) h0
    · exact mul_nl w va vb xs ys ha hb hza hzb (by omega) h0 (by omega)
end Go.Proofs.YtgjhgpfjeoeojaaDoor

/- The contract of divideByDigit: division in place by one digit. -/
namespace Go.Proofs.YtgjhgpfjeoeojaaDoor
open Go.RowKit Dig
set_option linter.unusedVariables false

namespace Dig
/-- Above place k the digits are those of the quotient; r is the remainder. -/
def DivRel (xs zs : List Nat) (k d r : Nat) : Prop :=
  zs.length = xs.length ∧ Small zs ∧ (∀ j, j < k → zs.getD j 0 = xs.getD j 0) ∧ val (xs.drop k) = val (zs.drop k) * d + r ∧ r < d
theorem drop_getD (zs : List Nat) (k : Nat) (h : k < zs.length) : val (zs.drop k) = zs.getD k 0 + 4294967296 * val (zs.drop (k + 1)) := by
  rw [List.drop_eq_getElem_cons h]
  simp [val, List.getD_eq_getElem?_getD, h]
theorem drop_set (zs : List Nat) (k v : Nat) (h : k < zs.length) : val ((zs.set k v).drop k) = v + 4294967296 * val (zs.drop (k + 1)) := by
  rw [drop_getD _ k (by simpa using h), getD_set_same _ _ _ h]
  congr 2
  rw [List.drop_set_of_lt (by omega)]
theorem DivRel.start (xs : List Nat) (hs : Small xs) (d : Nat) (hd : 0 < d) : DivRel xs xs xs.length d 0 := ⟨rfl, hs, fun _ _ => rfl, by simp [val], hd⟩
theorem DivRel.step {xs zs : List Nat} {k d r x : Nat} (h : DivRel xs zs (k + 1) d r) (hk : k < xs.length) (hx : zs.getD k 0 = x) (hd : d < 4294967296) :
    DivRel xs (zs.set k ((x + 4294967296 * r) / d)) k d ((x + 4294967296 * r) % d) ∧ (x + 4294967296 * r) / d < 4294967296 := by
  obtain ⟨hl, hs, ha, hv, hr⟩ := h
  have hxb := hs.get k
  rw [hx] at hxb
  have hq : (x + 4294967296 * r) / d < 4294967296 := by
    rw [Nat.div_lt_iff_lt_mul (by omega)]
    have : 4294967296 * (r + 1) ≤ 4294967296 * d := Nat.mul_le_mul_left _ hr
    omega
  refine ⟨⟨by simpa using hl, hs.set _ _ hq, fun j hj => ?_, ?_, Nat.mod_lt _ (by omega)⟩, hq⟩
  · rw [getD_set_ne _ _ _ _ (by omega)]
    exact ha j (by omega)
  · rw [drop_set _ _ _ (by omega), drop_getD xs k hk, hv, ← ha k (by omega), hx, Nat.add_mul, Nat.mul_add, Nat.mul_assoc]
    have := Nat.div_add_mod (x + 4294967296 * r) d
    rw [Nat.mul_comm] at this
    omega
theorem DivRel.done {xs zs : List Nat} {d r : Nat} (h : DivRel xs zs 0 d r) : val zs = val xs / d ∧ r = val xs % d := by
  obtain ⟨hl, hs, ha, hv, hr⟩ := h
  simp only [List.drop_zero] at hv
  rw [hv]
  constructor
  · rw [Nat.mul_comm, Nat.mul_add_div (by omega), Nat.div_eq_of_lt hr, Nat.add_zero]
  · rw [Nat.mul_comm, Nat.mul_add_mod, Nat.mod_eq_of_lt hr]
end Dig

set_option maxHeartbeats 1000000 in
theorem divd_c (w : World) (g n : Nat) (post : List Value) (xs : List Nat) (c d : Nat) (hs : Seg w g [] xs post) (hn : xs.length = n) (hx : Small xs) (hc : n ≤ c ∧ c ≤ 9223372036854775807) (hd0 : 0 < d) (hd : d < 4294967296) :
    Calls Tryd.prog 30 #[.slice (some ⟨g, 0, none⟩) n c, .int .u32 (d : Int)] w fun e w' => e = .returned (.int .u32 ((val xs % d : Nat) : Int)) ∧ InPlace w g [] n (val xs / d) post w' := by
  have hD0 : (0 : Int) < (d : Int) := by omega
  have hne : ((d : Int) == 0) = false := by rw [beq_eq_false_iff_ne]; omega
  obtain ⟨hc1, hc2⟩ := hc
  have hlen : (n : Int) ≤ 9223372036854775807 := by omega
  have HN := Lib.hid hn
  clear hn
  go_enter Tryd.func30, Tryd.ntmps30
  go_wp2_with fail
  go_loopw [5, 6] (fun rr i wr => ∃ (k r : Nat) (zs : List Nat), k ≤ n ∧ i = .int .i64 ((k : Int) - 1) ∧ rr = .int .u64 r ∧ DivRel xs zs k d r ∧ Seg wr g [] zs post ∧ w.grownBy wr (some g) ∧ wr.heap.size = w.heap.size) (fun _ i _ => (intOf i + 1).toNat)
  case atStart => exact ⟨n, 0, xs, Nat.le_refl _, rfl, rfl, by rw [← HN.out]; exact DivRel.start xs hx d hd0, hs, World.grownBy.refl w _, rfl⟩
  case round =>
    obtain ⟨k, r, zs, hk, rfl, rfl, hr, hseg, hgr, hsz⟩ := hrel
    have hzl : zs.length = n := hr.1.trans HN.out
    have hrd := hr.2.2.2.2
    rcases Nat.eq_zero_or_pos k with h0 | h0
    · subst h0
      have HE := Lib.hid hr.done
      have HS := Lib.hid hr.2.1
      have HL := Lib.hid hzl
      have hru : (r : Int) < 4294967296 := by omega
      clear hzl hr
      go_wp2_with fail
      go_ret
      exact ⟨ret_eq (show Value.int .u32 (r : Int) = _ by rw [HE.out.2]), zs, HL.out, HS.out, HE.out.1, hseg, hgr, hsz⟩
    · obtain ⟨j, rfl⟩ : ∃ j, k = j + 1 := ⟨k - 1, by omega⟩
      have hcx := hseg.cell0 (j := j) (by omega)
      have hfx := hseg.frozen j
      have bx := hr.2.1.get j
      generalize hxx : zs.getD j 0 = x at hcx bx
      have hlx := HN.out
      have HSTEP := hr.step (by omega) hxx hd
      have hq := HSTEP.2
      have HR := Lib.hid HSTEP.1
      have e0 := or_u64 x r bx (by omega)
      have hsb : x + 4294967296 * r < 18446744073709551616 := by omega
      generalize x + 4294967296 * r = s at *
      have e1 : (s : Int) / (d : Int) = ((s / d : Nat) : Int) := rfl
      have hq1 : (s : Int) / (d : Int) < 4294967296 := by rw [e1]; omega
      have hq0 : 0 ≤ (s : Int) / (d : Int) := by rw [e1]; exact Int.natCast_nonneg _
      have HS := Lib.hid (hseg.put0 j (s / d) _ (by omega) e1)
      have HG := Lib.hid (grown_set hgr j (.int .u32 ((s : Int) / (d : Int))))
      have HZ := Lib.hid hsz
      have hrb : (r : Int) < 4294967296 := by omega
      have hjn : (j : Int) < n := by omega
      rw [show (((j + 1 : Nat) : Int) - 1) = (j : Int) by omega]
      clear hr hseg hgr hsz hxx HSTEP hlx hzl hq e1
      go_wp2_with fail
      go_roundw
      case rel => exact ⟨j, s % d, _, by omega, by go_num, rfl, HR.out, HS.out, HG.out, by rw [size_set]; exact HZ.out⟩
      case measure => simp [intOf]
end Go.Proofs.YtgjhgpfjeoeojaaDoor

/- The contract of isDecimal. -/
namespace Go.Proofs.YtgjhgpfjeoeojaaDoor
open Go.RowKit Dig
set_option linter.unusedVariables false

/-- The letters of a string. -/
def chars (s : ByteArray) : List UInt8 := s.data.toList
theorem chars_length (s : ByteArray) : (chars s).length = s.size := by simp [chars]

theorem wp_bytes {w : World} {ops : Array Oper} {rest : List Oper} {o : Oper} {a : Act} {Q : Exit → Act → World → Prop} (hgd : o.guard = none) (x : Operand) (hop : o.op = .convert 9 50 x) (s : ByteArray) (hx : a.eval x = .string s)
    (h : ∀ w' c, (∀ j, j < (chars s).length → w'.cell? ⟨w.heap.size, j, none⟩ = some (.int .u8 (((chars s).getD j 0).toNat : Int))) → Below w.heap.size w w' → s.size ≤ c → wpList Tryd.prog ops Q rest (a.put o.dst (.slice (some ⟨w.heap.size, 0, none⟩) s.size c)) w') :
    wpList Tryd.prog ops Q (o :: rest) a w := by
  refine wpList_plain hgd fun K hK => ?_
  have hrun := run_bytes_of_string (P := Tryd.prog) w 9 50 5 s Tryd.underlying9 Tryd.underlying50 Tryd.underlying5
  unfold Oper.wp
  simp only [execOp, hop, hx, hrun, Result.andThen, Sem.run_bind, Sem.run_pure]
  refine hK _ _ (h _ _ ?_ ?_ (grownCap_ge _ _ _ _))
  · intro j hj
    have hc := World.cell?_alloc_mark w.drew (bytesRow s (grownCap w s.size 0 5)) 5 ((bytesRow s (grownCap w s.size 0 5)).size, (bytesRow s (grownCap w s.size 0 5)).size + 1) j
    have hj' : j < s.data.size := by simpa [chars] using hj
    refine hc.trans ?_
    rw [bytesRow_at s _ j hj']
    simp [chars, List.getD_eq_getElem?_getD]
    rw [Array.getElem?_eq_getElem hj']
    rfl
  · exact ((Below.refl _ _).drew).alloc (Nat.le_refl _) _


set_option maxHeartbeats 1000000 in
theorem isDec_no (w : World) (s : ByteArray) (hs : s.size ≤ 4000) (k : Nat) (hk : k < (chars s).length) (hn : isDig ((chars s).getD k 0) = false) :
    Calls Tryd.prog 91 #[.string s] w fun e w' => e = .returned (.bool false) ∧ Below w.heap.size w w' := by
  have hl := chars_length s
  have HL := Lib.hid hl
  have HN := Lib.hid hn
  go_enter Tryd.func91, Tryd.ntmps91
  go_wp2_with (refine wp_bytes rfl (.tmp 5) rfl s rfl ?_; intro w1 cp hC hB1 hcp)
  have hk2 : k < s.size := by omega
  clear hl hn
  go_loop [8] (fun i => ∃ j : Nat, j ≤ k ∧ i = .int .i64 j) (fun i => k + 1 - (intOf i).toNat)
  case atStart => exact ⟨0, Nat.zero_le _, rfl⟩
  case round =>
    obtain ⟨j, hj, rfl⟩ := hrel
    have hcc := hC j (by omega)
    clear hC
    have hjs : (j : Int) < s.size := by omega
    by_cases hd : isDig ((chars s).getD j 0) = true
    · have hjk : j ≠ k := by intro e; subst e; rw [HN.out] at hd; cases hd
      have hd2 : 48 ≤ ((chars s).getD j 0).toNat ∧ ((chars s).getD j 0).toNat ≤ 57 := by simpa [isDig] using hd
      generalize ((chars s).getD j 0).toNat = c at hcc hd2
      obtain ⟨d1, d2⟩ := hd2
      clear hd
      go_wp2_with fail
      go_round
      case rel => exact ⟨j + 1, by omega, by go_num⟩
      case measure => simp [intOf]; omega
    · have hd2 : ((chars s).getD j 0).toNat < 48 ∨ 57 < ((chars s).getD j 0).toNat := by
        simp only [isDig, Bool.and_eq_true, decide_eq_true_eq] at hd
        omega
      generalize ((chars s).getD j 0).toNat = c at hcc hd2
      clear hd
      by_cases h1 : c < 48
      · go_wp2_with fail
        go_ret
        exact ⟨rfl, hB1⟩
      · have h2 : 57 < c := by omega
        go_wp2_with fail
        go_ret
        exact ⟨rfl, hB1⟩

theorem toList_chars (s : ByteArray) : s.toList = chars s := ByteArray.toList_eq s

theorem lead_eq (s : ByteArray) (hp : 0 < s.size) : (s.toList == [48] || !s.toList.isEmpty && (((s[0]'hp).toNat : Int) != 48)) = lead (chars s) := by
  rw [lead, toList_chars]
  congr 2
  have h1 : 0 < s.data.size := hp
  have e : (chars s).headD 0 = s[0]'hp := by
    unfold chars
    rw [List.headD_eq_head?_getD, List.head?_eq_getElem?, List.getElem?_eq_getElem (by simpa using h1)]
    rfl
  rw [e, Bool.eq_iff_iff, bne_iff_ne, bne_iff_ne, Ne, Ne, ← UInt8.toNat_inj]
  have : (48 : UInt8).toNat = 48 := rfl
  omega

set_option maxHeartbeats 1000000 in
theorem isDec_empty (w : World) (s : ByteArray) (h0 : s.size = 0) :
    Calls Tryd.prog 91 #[.string s] w fun e w' => e = .returned (.bool false) ∧ Below w.heap.size w w' := by
  have hT : s.toList = [] := by rw [toList_chars]; exact List.eq_nil_of_length_eq_zero (by rw [chars_length]; exact h0)
  go_enter Tryd.func91, Tryd.ntmps91
  go_wp2_with (refine wp_bytes rfl (.tmp 5) rfl s rfl ?_; intro w1 cp hC hB1 hcp)
  clear hC
  go_loop [8] (fun i => i = .int .i64 0) (fun i => 0)
  case atStart => exact rfl
  case round =>
    subst hrel
    go_wp2_with fail
    go_ret
    exact ⟨rfl, hB1⟩

set_option maxHeartbeats 1000000 in
theorem isDec_all (w : World) (s : ByteArray) (hs : s.size ≤ 4000) (hp : 0 < s.size) (hall : ∀ j, j < (chars s).length → isDig ((chars s).getD j 0) = true) :
    Calls Tryd.prog 91 #[.string s] w fun e w' => e = .returned (.bool (lead (chars s))) ∧ Below w.heap.size w w' := by
  have hl := chars_length s
  have HL := Lib.hid hl
  have hT : ¬ s.toList = [] := by
    rw [toList_chars]
    intro e
    rw [e] at hl
    simp at hl
    omega
  go_enter Tryd.func91, Tryd.ntmps91
  go_wp2_with (refine wp_bytes rfl (.tmp 5) rfl s rfl ?_; intro w1 cp hC hB1 hcp)
  have HA := Lib.hid hall
  clear hl hall
  go_loop [8] (fun i => ∃ j : Nat, j ≤ s.size ∧ i = .int .i64 j) (fun i => s.size - (intOf i).toNat)
  case atStart => exact ⟨0, Nat.zero_le _, rfl⟩
  case round =>
    obtain ⟨j, hj, rfl⟩ := hrel
    by_cases hlt : j < s.size
    · have hcc := hC j (by rw [HL.out]; exact hlt)
      have hd := HA.out j (by rw [HL.out]; exact hlt)
      have hd2 : 48 ≤ ((chars s).getD j 0).toNat ∧ ((chars s).getD j 0).toNat ≤ 57 := by simpa [isDig] using hd
      generalize ((chars s).getD j 0).toNat = c at hcc hd2
      obtain ⟨d1, d2⟩ := hd2
      have hjs : (j : Int) < s.size := by omega
      clear hd hC
      go_wp2_with fail
      go_round
      case rel => exact ⟨j + 1, by omega, by go_num⟩
      case measure => simp [intOf]; omega
    · have : j = s.size := by omega
      subst this
      clear hC
      by_cases h48 : s.toList = [48]
      · go_wp2_with fail
        go_ret
        refine ⟨ret_eq (show Value.bool true = _ from ?_), hB1⟩
        rw [lead, ← toList_chars, h48]; rfl
      · go_wp2_with fail
        go_ret
        exact ⟨ret_eq (congrArg Value.bool (lead_eq s hp)), hB1⟩
end Go.Proofs.YtgjhgpfjeoeojaaDoor

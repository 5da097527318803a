/- The contract of subtractFrom: a difference in place. -/
import Derived.Test.YticakmcjiofhoaaAddTo
namespace Go.Proofs.Yticakmcjiofhoaa
open Go.RowKit Dig

theorem sub_wrap1 (x : Nat) (hx : x < 4294967296) :
    ∃ d b' : Nat, d < 4294967296 ∧ b' ≤ 1 ∧ d + 0 + 1 = x + 4294967296 * b' ∧ 0 ≤ IntKind.u64.wrap ((x : Int) - 1) ∧
      IntKind.u64.wrap ((x : Int) - 1) % 4294967296 = (d : Int) ∧ IntKind.u64.wrap ((x : Int) - 1) / 9223372036854775808 = (b' : Int) := by
  simp only [IntKind.wrap_u64]
  by_cases h : 1 ≤ x
  · exact ⟨x - 1, 0, by omega, by omega, by omega, by omega, by omega, by omega⟩
  · exact ⟨x + 4294967296 - 1, 1, by omega, by omega, by omega, by omega, by omega, by omega⟩

set_option maxHeartbeats 1000000 in
theorem subFrom_c (w : World) (g : Nat) (pre post : List Value) (xs ys : List Nat) (c : Nat) (vb : Value) (hs : Seg w g pre xs post) (hx : Small xs) (hc : xs.length ≤ c ∧ c ≤ 9223372036854775807) (hb : Num w vb ys)
    (hne : 0 < ys.length → vb.ownBlock ≠ some g) (hle : ys.length ≤ xs.length) (hf : val ys ≤ val xs) :
    Calls Try.prog 42 #[.slice (some ⟨g, pre.length, none⟩) xs.length c, vb] w fun e w' => e = .returned (.tuple #[]) ∧ InPlace w g pre xs.length (val xs - val ys) post w' := by
  have HF := Lib.hid hf
  clear hf
  obtain ⟨A, c', rfl⟩ := hb.form
  have hbd := hb.bounds.2
  obtain ⟨hc1, hc2⟩ := hc
  have hlen : (xs.length : Int) ≤ 9223372036854775807 := by omega
  go_enter Try.func42, Try.ntmps42
  go_wp2_with fail
  go_loopw [4, 12] (fun cy i wr => ∃ (k q : Nat) (zs : List Nat), k ≤ ys.length ∧ i = .int .i64 k ∧ cy = .int .u64 q ∧ SubRel xs ys zs k q ∧ Seg wr g pre zs post ∧ w.grownBy wr (some g) ∧ wr.heap.size = w.heap.size) (fun _ i _ => ys.length - (intOf i).toNat)
  case atStart => exact ⟨0, 0, xs, Nat.zero_le _, rfl, rfl, SubRel.start xs ys hx, hs, World.grownBy.refl w _, rfl⟩
  case round =>
    obtain ⟨k, q, zs, hk, rfl, rfl, hr, hseg, hgr, hsz⟩ := hrel
    have hq := hr.2.2.2.2
    by_cases hlt : k < ys.length
    · have hzl := hr.1
      have hcx := hseg.cell (j := k) (by omega)
      have hfx := hseg.frozen (pre.length + k)
      obtain ⟨b, off, rfl, hbb, hall⟩ := (hb.far hgr hne).cells (by omega)
      have hcy := hall k hlt
      clear hall
      have bx := hr.2.1.get k
      have by' := hb.small.get k
      generalize hxx : zs.getD k 0 = x at hcx bx
      generalize hyy : ys.getD k 0 = y at hcy by'
      obtain ⟨d, b1, hd, hb1, he, hw0, hw1, hw2⟩ := sub_wrap x y q bx by' hq
      have HR := Lib.hid (hr.step (by omega) hxx hyy hd hb1 he)
      have hkz : k < zs.length := by omega
      have HS := Lib.hid (hseg.put k d _ hkz hw1)
      have HG := Lib.hid (grown_set hgr (pre.length + k) (.int .u32 (IntKind.u64.wrap (IntKind.u64.wrap ((x : Int) - (y : Int)) - (q : Int)) % 4294967296)))
      have HW := Lib.hid hw2
      clear hw1 hw2 he
      have HZ := Lib.hid hsz
      clear hr hseg hgr hsz hxx hyy hzl
      have hlt' : (k : Int) < ys.length := by omega
      have hkx : (k : Int) < xs.length := by omega
      go_wp2_with fail
      go_roundw
      case rel => exact ⟨k + 1, b1, _, by omega, by go_num, congrArg (Value.int .u64) HW.out, HR.out, HS.out, HG.out, by rw [size_set]; exact HZ.out⟩
      case measure => simp [intOf]; omega
    · have hke : k = ys.length := by omega
      subst hke
      have HR := Lib.hid hr
      clear hr
      go_wp2_with fail
      go_loopw [4, 8] (fun cy i wr => ∃ (k q : Nat) (zs : List Nat), ys.length ≤ k ∧ k ≤ xs.length ∧ i = .int .i64 k ∧ cy = .int .u64 q ∧ SubRel xs ys zs k q ∧ Seg wr g pre zs post ∧ w.grownBy wr (some g) ∧ wr.heap.size = w.heap.size) (fun _ i _ => xs.length - (intOf i).toNat)
      case atStart => exact ⟨ys.length, q, zs, Nat.le_refl _, hle, rfl, rfl, HR.out, hseg, hgr, hsz⟩
      case round =>
        clear HR hseg hgr hsz hq
        obtain ⟨k, q, zs, hk1, hk2, rfl, rfl, hr, hseg, hgr, hsz⟩ := hrel
        have hq := hr.2.2.2.2
        by_cases hq0 : q = 0
        · subst hq0
          have HE := Lib.hid (hr.done hk2 hk1)
          go_wp2_with fail
          go_end0
          exact ⟨rfl, zs, hr.1, hr.2.1, by have := HE.out; omega, hseg, hgr, hsz⟩
        · obtain ⟨hlt, hq1⟩ := hr.more hk2 hk1 HF.out hq0
          subst hq1
          have hzl := hr.1
          have hcx := hseg.cell (j := k) (by omega)
          have hfx := hseg.frozen (pre.length + k)
          have bx := hr.2.1.get k
          generalize hxx : zs.getD k 0 = x at hcx bx
          have hyy : ys.getD k 0 = 0 := by rw [List.getD_eq_getElem?_getD, List.getElem?_eq_none hk1]; rfl
          obtain ⟨d, b1, hd, hb1, he, hw0, hw1, hw2⟩ := sub_wrap1 x bx
          have HR := Lib.hid (hr.step hlt hxx hyy hd hb1 he)
          have hkz : k < zs.length := by omega
          have HS := Lib.hid (hseg.put k d _ hkz hw1)
          have HG := Lib.hid (grown_set hgr (pre.length + k) (.int .u32 (IntKind.u64.wrap ((x : Int) - 1) % 4294967296)))
          have HW := Lib.hid hw2
          clear hw1 hw2 he
          have HZ := Lib.hid hsz
          clear hr hseg hgr hsz hxx hyy hzl
          have hkx : (k : Int) < xs.length := by omega
          go_wp2_with fail
          go_roundw
          case rel => exact ⟨k + 1, b1, _, by omega, by omega, by go_num, congrArg (Value.int .u64) HW.out, HR.out, HS.out, HG.out, by rw [size_set]; exact HZ.out⟩
          case measure => simp [intOf]; omega
end Go.Proofs.Yticakmcjiofhoaa

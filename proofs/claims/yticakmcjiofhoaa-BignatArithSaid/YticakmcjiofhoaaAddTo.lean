/- The contracts of addTo and subtractFrom: sums and differences in place. -/
import Derived.Test.YticakmcjiofhoaaMake
import Derived.Test.YticakmcjiofhoaaSum
namespace Go.Proofs.Yticakmcjiofhoaa
open Go.RowKit Dig

theorem Seg.put {w : World} {g : Nat} {pre post : List Value} {xs : List Nat} (h : Seg w g pre xs post) (j v : Nat) (q : Int) (hj : j < xs.length) (hq : q = (v : Int)) : Seg (w.setCell ⟨g, pre.length + j, none⟩ (.int .u32 q)) g pre (xs.set j v) post := by
  subst hq
  exact h.set j v hj
theorem grown_set {w wr : World} {g : Nat} (h : w.grownBy wr (some g)) (i : Nat) (u : Value) : w.grownBy (wr.setCell ⟨g, i, none⟩ u) (some g) :=
  ⟨h.os, h.tape, h.output, by simpa [World.setCell] using h.size, fun k hk hne => (Below.heap_setCell wr ⟨g, i, none⟩ u k (fun e => hne (by rw [e]))).trans (h.block k hk hne)⟩
theorem size_set (w : World) (p : Addr) (u : Value) : (w.setCell p u).heap.size = w.heap.size := by simp [World.setCell]

/-- A number can be read as long as its block is not written. -/
theorem Num.far {w w' : World} {v : Value} {xs : List Nat} {g : Nat} (h : Num w v xs) (hg : w.grownBy w' (some g)) (hne : 0 < xs.length → v.ownBlock ≠ some g) : Num w' v xs := by
  obtain ⟨A, c, rfl, hc, hm, hs, hr⟩ := h
  refine ⟨A, c, rfl, hc, hm, hs, fun hp => ?_⟩
  obtain ⟨b, off, rfl, hb, hcell⟩ := hr hp
  have hbg : b ≠ g := by
    intro e
    subst e
    exact hne hp rfl
  refine ⟨b, off, rfl, Nat.lt_of_lt_of_le hb hg.size, fun j hj => ?_⟩
  exact hg.cell (hcell j hj) (by simpa using hbg)

/-- What a call leaves that works in place on the digits xs of block g: digits of the value n. -/
def InPlace (w : World) (g : Nat) (pre : List Value) (len n : Nat) (post : List Value) (w' : World) : Prop :=
  ∃ zs, zs.length = len ∧ Small zs ∧ val zs = n ∧ Seg w' g pre zs post ∧ w.grownBy w' (some g) ∧ w'.heap.size = w.heap.size

set_option maxHeartbeats 1000000 in
theorem addTo_c (w : World) (g : Nat) (pre post : List Value) (xs ys : List Nat) (c : Nat) (vb : Value) (hs : Seg w g pre xs post) (hx : Small xs) (hc : xs.length ≤ c ∧ c ≤ 9223372036854775807) (hb : Num w vb ys)
    (hne : 0 < ys.length → vb.ownBlock ≠ some g) (hle : ys.length ≤ xs.length) (hf : val xs + val ys < 4294967296 ^ xs.length) :
    Calls Try.prog 49 #[.slice (some ⟨g, pre.length, none⟩) xs.length c, vb] w fun e w' => e = .returned (.tuple #[]) ∧ InPlace w g pre xs.length (val xs + val ys) post w' := by
  have HF := Lib.hid hf
  clear hf
  obtain ⟨A, c', rfl⟩ := hb.form
  have hbd := hb.bounds.2
  obtain ⟨hc1, hc2⟩ := hc
  have hlen : (xs.length : Int) ≤ 9223372036854775807 := by omega
  go_enter Try.func49, Try.ntmps49
  go_wp2_with fail
  go_loopw [4, 10] (fun cy i wr => ∃ (k q : Nat) (zs : List Nat), k ≤ ys.length ∧ i = .int .i64 k ∧ cy = .int .u64 q ∧ AddRel xs ys zs k q ∧ Seg wr g pre zs post ∧ w.grownBy wr (some g) ∧ wr.heap.size = w.heap.size) (fun _ i _ => ys.length - (intOf i).toNat)
  case atStart => exact ⟨0, 0, xs, Nat.zero_le _, rfl, rfl, AddRel.start xs ys hx, hs, World.grownBy.refl w _, rfl⟩
  case round =>
    obtain ⟨k, q, zs, hk, rfl, rfl, hr, hseg, hgr, hsz⟩ := hrel
    have hq := hr.2.2.2.2
    by_cases hlt : k < ys.length
    · have hzl := hr.1
      have hcx := hseg.cell (j := k) (by omega)
      have hfx := hseg.frozen (pre.length + k)
      obtain ⟨b, off, rfl, hbb, hall⟩ := (hb.far hgr hne).cells (by omega)
      have hcy := hall k hlt
      clear hall
      have bx := hr.2.1.get k
      have by' := hb.small.get k
      generalize hxx : zs.getD k 0 = x at hcx bx
      generalize hyy : ys.getD k 0 = y at hcy by'
      have HR := Lib.hid (hr.step (by omega) hxx hyy by')
      have hkz : k < zs.length := by omega
      have HS := Lib.hid (hseg.put k ((q + (x + y)) % 4294967296) (((q : Int) + ((x : Int) + (y : Int))) % 4294967296) hkz (by omega))
      have HG := Lib.hid (grown_set hgr (pre.length + k) (.int .u32 (((q : Int) + ((x : Int) + (y : Int))) % 4294967296)))
      have HZ := Lib.hid hsz
      clear hr hseg hgr hsz hxx hyy hzl
      have hlt' : (k : Int) < ys.length := by omega
      have hkx : (k : Int) < xs.length := by omega
      go_wp2_with fail
      go_roundw
      case rel => exact ⟨k + 1, (q + (x + y)) / 4294967296, _, by omega, by go_num, by go_num, HR.out, HS.out, HG.out, by rw [size_set]; exact HZ.out⟩
      case measure => simp [intOf]; omega
    · have hke : k = ys.length := by omega
      subst hke
      have HR := Lib.hid hr
      clear hr
      go_wp2_with fail
      go_loopw [4, 7] (fun cy i wr => ∃ (k q : Nat) (zs : List Nat), ys.length ≤ k ∧ k ≤ xs.length ∧ i = .int .i64 k ∧ cy = .int .u64 q ∧ AddRel xs ys zs k q ∧ Seg wr g pre zs post ∧ w.grownBy wr (some g) ∧ wr.heap.size = w.heap.size) (fun _ i _ => xs.length - (intOf i).toNat)
      case atStart => exact ⟨ys.length, q, zs, Nat.le_refl _, hle, rfl, rfl, HR.out, hseg, hgr, hsz⟩
      case round =>
        clear HR hseg hgr hsz hq
        obtain ⟨k, q, zs, hk1, hk2, rfl, rfl, hr, hseg, hgr, hsz⟩ := hrel
        have hq := hr.2.2.2.2
        by_cases hq0 : q = 0
        · subst hq0
          have HE := Lib.hid (hr.done hk2 hk1)
          go_wp2_with fail
          go_end0
          exact ⟨rfl, zs, hr.1, hr.2.1, HE.out, hseg, hgr, hsz⟩
        · obtain ⟨hlt, hq1⟩ := hr.more hk2 hk1 HF.out hq0
          subst hq1
          have hzl := hr.1
          have hcx := hseg.cell (j := k) (by omega)
          have hfx := hseg.frozen (pre.length + k)
          have bx := hr.2.1.get k
          generalize hxx : zs.getD k 0 = x at hcx bx
          have hyy : ys.getD k 0 = 0 := by rw [List.getD_eq_getElem?_getD, List.getElem?_eq_none hk1]; rfl
          have HR := Lib.hid (hr.step hlt hxx hyy (by omega))
          have hkz : k < zs.length := by omega
          have HS := Lib.hid (hseg.put k ((1 + (x + 0)) % 4294967296) ((1 + (x : Int)) % 4294967296) hkz (by omega))
          have HG := Lib.hid (grown_set hgr (pre.length + k) (.int .u32 ((1 + (x : Int)) % 4294967296)))
          have HZ := Lib.hid hsz
          clear hr hseg hgr hsz hxx hyy hzl
          have hkx : (k : Int) < xs.length := by omega
          go_wp2_with fail
          go_roundw
          case rel => exact ⟨k + 1, (1 + (x + 0)) / 4294967296, _, by omega, by omega, by go_num, by go_num, HR.out, HS.out, HG.out, by rw [size_set]; exact HZ.out⟩
          case measure => simp [intOf]; omega
theorem wrap_u64_nonneg (n : Int) (h : 0 ≤ n) (h2 : n < 18446744073709551616) : IntKind.u64.wrap n = n := by
  rw [IntKind.wrap_u64]; omega
theorem wrap_u64_neg (n : Int) (h : n < 0) (h2 : -18446744073709551616 ≤ n) : IntKind.u64.wrap n = n + 18446744073709551616 := by
  rw [IntKind.wrap_u64]; omega

/-- A difference of digits with a borrow, in 64 bits. -/
theorem sub_wrap (x y b : Nat) (hx : x < 4294967296) (hy : y < 4294967296) (hb : b ≤ 1) :
    ∃ d b' : Nat, d < 4294967296 ∧ b' ≤ 1 ∧ d + y + b = x + 4294967296 * b' ∧ 0 ≤ IntKind.u64.wrap (IntKind.u64.wrap ((x : Int) - (y : Int)) - (b : Int)) ∧
      IntKind.u64.wrap (IntKind.u64.wrap ((x : Int) - (y : Int)) - (b : Int)) % 4294967296 = (d : Int) ∧ IntKind.u64.wrap (IntKind.u64.wrap ((x : Int) - (y : Int)) - (b : Int)) / 9223372036854775808 = (b' : Int) := by
  simp only [IntKind.wrap_u64]
  by_cases h : y + b ≤ x
  · exact ⟨x - y - b, 0, by omega, by omega, by omega, by omega, by omega, by omega⟩
  · exact ⟨x + 4294967296 - y - b, 1, by omega, by omega, by omega, by omega, by omega, by omega⟩
end Go.Proofs.Yticakmcjiofhoaa

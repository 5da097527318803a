/- The contracts of addTo and subtractFrom: sums and differences in place. -/
import Derived.Test.YtgjhgpfjeoeojaaDoorMems
import Derived.Test.YtgjhgpfjeoeojaaDoorPlain
namespace Go.Proofs.YtgjhgpfjeoeojaaDoor
open Go.RowKit Dig

theorem Seg.put {w : World} {g : Nat} {pre post : List Value} {xs : List Nat} (h : Seg w g pre xs post) (j v : Nat) (q : Int) (hj : j < xs.length) (hq : q = (v : Int)) : Seg (w.setCell ⟨g, pre.length + j, none⟩ (.int .u32 q)) g pre (xs.set j v) post := by
  subst hq
  exact h.set j v hj
theorem grown_set {w wr : World} {g : Nat} (h : w.grownBy wr (some g)) (i : Nat) (u : Value) : w.grownBy (wr.setCell ⟨g, i, none⟩ u) (some g) :=
  ⟨h.os, h.tape, h.output, by simpa [World.setCell] using h.size, fun k hk hne => (Below.heap_setCell wr ⟨g, i, none⟩ u k (fun e => hne (by rw [e]))).trans (h.block k hk hne)⟩
theorem size_set (w : World) (p : Addr) (u : Value) : (w.setCell p u).heap.size = w.heap.size := by simp [World.setCell]

/-- A number can be read as long as its block is not written. -/
theorem Num.far {w w' : World} {v : Value} {xs : List Nat} {g : Nat} (h : Num w v xs) (hg : w.grownBy w' (some g)) (hne : 0 < xs.length → v.ownBlock ≠ some g) : Num w' v xs := by
  obtain ⟨A, c, rfl, hc, hm, hs, hr⟩ := h
  refine ⟨A, c, rfl, hc, hm, hs, fun hp => ?_⟩
  obtain ⟨b, off, rfl, hb, hcell⟩ := hr hp
  have hbg : b ≠ g := by
    intro e
    subst e
    exact hne hp rfl
  refine ⟨b, off, rfl, Nat.lt_of_lt_of_le hb hg.size, fun j hj => ?_⟩
  exact hg.cell (hcell j hj) (by simpa using hbg)

/-- What a call leaves that works in place on the digits xs of block g: digits of the value n. -/
def InPlace (w : World) (g : Nat) (pre : List Value) (len n : Nat) (post : List Value) (w' : World) : Prop :=
  ∃ zs, zs.length = len ∧ Small zs ∧ val zs = n ∧ Seg w' g pre zs post ∧ w.grownBy w' (some g) ∧ w'.heap.size = w.heap.size

set_option maxHeartbeats 1000000 in
theorem addTo_c (w : World) (g : Nat) (pre post : List Value) (xs ys : List Nat) (c : Nat) (vb : Value) (hs : Seg w g pre xs post) (hx : Small xs) (hc : xs.length ≤ c ∧ c ≤ 9223372036854775807) (hb : Num w vb ys)
    (hne : 0 < ys.length → vb.ownBlock ≠ some g) (hle : ys.length ≤ xs.length) (hf : val xs + val ys < 4294967296 ^ xs.length) :
    Calls Tryd.prog 59 #[.slice (some ⟨g, pre.length, none⟩) xs.length c, vb] w fun e w' => e = .returned (.tuple #[]) ∧ InPlace w g pre xs.length (val xs + val ys) post w' := by
  have HF := Lib.hid hf
  clear hf
  obtain ⟨A, c', rfl⟩ := hb.form
  have hbd := hb.bounds.2
  obtain ⟨hc1, hc2⟩ := hc
  have hlen : (xs.length : Int) ≤ 9223372036854775807 := by omega
  go_enter Tryd.func59, Tryd.ntmps59
  go_wp2_with fail
  go_loopw [4, 10] (fun cy i wr => ∃ (k q : Nat) (zs : List Nat), k ≤ ys.length ∧ i = .int .i64 k ∧ cy = .int .u64 q ∧ AddRel xs ys zs k q ∧ Seg wr g pre zs post ∧ w.grownBy wr (some g) ∧ wr.heap.size = w.heap.size) (fun _ i _ => ys.length - (intOf i).toNat)
  case atStart => exact ⟨0, 0, xs, Nat.zero_le _, rfl, rfl, AddRel.start xs ys hx, hs, World.grownBy.refl w _, rfl⟩
  case round =>
    obtain ⟨k, q, zs, hk, rfl, rfl, hr, hseg, hgr, hsz⟩ := hrel
    have hq := hr.2.2.2.2
    by_cases hlt : k < ys.length
    · have hzl := hr.1
      have hcx := hseg.cell (j := k) (by omega)
      have hfx := hseg.frozen (pre.length + k)
      obtain ⟨b, off, rfl, hbb, hall⟩ := (hb.far hgr hne).cells (by omega)
      have hcy := hall k hlt
      clear hall
      have bx := hr.2.1.get k
      have by' := hb.small.get k
      generalize hxx : zs.getD k 0 = x at hcx bx
      generalize hyy : ys.getD k 0 = y at hcy by'
      have HR := Lib.hid (hr.step (by omega) hxx hyy by')
      have hkz : k < zs.length := by omega
      have HS := Lib.hid (hseg.put k ((q + (x + y)) % 4294967296) (((q : Int) + ((x : Int) + (y : Int))) % 4294967296) hkz (by omega))
      have HG := Lib.hid (grown_set hgr (pre.length + k) (.int .u32 (((q : Int) + ((x : Int) + (y : Int))) % 4294967296)))
      have HZ := Lib.hid hsz
      clear hr hseg hgr hsz hxx hyy hzl
      have hlt' : (k : Int) < ys.length := by omega
      have hkx : (k : Int) < xs.length := by omega
      go_wp2_with fail
      go_roundw
      case rel => exact ⟨k + 1, (q + (x + y)) / 4294967296, _, by omega, by go_num, by go_num, HR.out, HS.out, HG.out, by rw [size_set]; exact HZ.out⟩
      case measure => simp [intOf]; omega
    · have hke : k = ys.length := by omega
      subst hke
      have HR := Lib.hid hr
      clear hr
      go_wp2_with fail
      go_loopw [4, 7] (fun cy i wr => ∃ (k q : Nat) (zs : List Nat), ys.length ≤ k ∧ k ≤ xs.length ∧ i = .int .i64 k ∧ cy = .int .u64 q ∧ AddRel xs ys zs k q ∧ Seg wr g pre zs post ∧ w.grownBy wr (some g) ∧ wr.heap.size = w.heap.size) (fun _ i _ => xs.length - (intOf i).toNat)
      case atStart => exact ⟨ys.length, q, zs, Nat.le_refl _, hle, rfl, rfl, HR.out, hseg, hgr, hsz⟩
      case round =>
        clear HR hseg hgr hsz hq
        obtain ⟨k, q, zs, hk1, hk2, rfl, rfl, hr, hseg, hgr, hsz⟩ := hrel
        have hq := hr.2.2.2.2
        by_cases hq0 : q = 0
        · subst hq0
          have HE := Lib.hid (hr.done hk2 hk1)
          go_wp2_with fail
          go_end0
          exact ⟨rfl, zs, hr.1, hr.2.1, HE.out, hseg, hgr, hsz⟩
        · obtain ⟨hlt, hq1⟩ := hr.more hk2 hk1 HF.out hq0
          subst hq1
          have hzl := hr.1
          have hcx := hseg.cell (j := k) (by omega)
          have hfx := hseg.frozen (pre.length + k)
          have bx := hr.2.1.get k
          generalize hxx : zs.getD k 0 = x at hcx bx
          have hyy : ys.getD k 0 = 0 := by rw [List.getD_eq_getElem?_getD, List.getElem?_eq_none hk1]; rfl
          have HR := Lib.hid (hr.step hlt hxx hyy (by omega))
          have hkz : k < zs.length := by omega
          have HS := Lib.hid (hseg.put k ((1 + (x + 0)) % 4294967296) ((1 + (x : Int)) % 4294967296) hkz (by omega))
          have HG := Lib.hid (grown_set hgr (pre.length + k) (.int .u32 ((1 + (x : Int)) % 4294967296)))
          have HZ := Lib.hid hsz
          clear hr hseg hgr hsz hxx hyy hzl
          have hkx : (k : Int) < xs.length := by omega
          go_wp2_with fail
          go_roundw
          case rel => exact ⟨k + 1, (1 + (x + 0)) / 4294967296, _, by omega, by omega, by go_num, by go_num, HR.out, HS.out, HG.out, by rw [size_set]; exact HZ.out⟩
          case measure => simp [intOf]; omega
theorem wrap_u64_nonneg (n : Int) (h : 0 ≤ n) (h2 : n < 18446744073709551616) : IntKind.u64.wrap n = n := by
  rw [IntKind.wrap_u64]; omega
theorem wrap_u64_neg (n : Int) (h : n < 0) (h2 : -18446744073709551616 ≤ n) : IntKind.u64.wrap n = n + 18446744073709551616 := by
  rw [IntKind.wrap_u64]; omega

/-- A difference of digits with a borrow, in 64 bits. -/
theorem sub_wrap (x y b : Nat) (hx : x < 4294967296) (hy : y < 4294967296) (hb : b ≤ 1) :
    ∃ d b' : Nat, d < 4294967296 ∧ b' ≤ 1 ∧ d + y + b = x + 4294967296 * b' ∧ 0 ≤ IntKind.u64.wrap (IntKind.u64.wrap ((x : Int) - (y : Int)) - (b : Int)) ∧
      IntKind.u64.wrap (IntKind.u64.wrap ((x : Int) - (y : Int)) - (b : Int)) % 4294967296 = (d : Int) ∧ IntKind.u64.wrap (IntKind.u64.wrap ((x : Int) - (y : Int)) - (b : Int)) / 9223372036854775808 = (b' : Int) := by
  simp only [IntKind.wrap_u64]
  by_cases h : y + b ≤ x
  · exact ⟨x - y - b, 0, by omega, by omega, by omega, by omega, by omega, by omega⟩
  · exact ⟨x + 4294967296 - y - b, 1, by omega, by omega, by omega, by omega, by omega, by omega⟩
end Go.Proofs.YtgjhgpfjeoeojaaDoor

/- The contract of subtractFrom: a difference in place. -/
namespace Go.Proofs.YtgjhgpfjeoeojaaDoor
open Go.RowKit Dig

theorem sub_wrap1 (x : Nat) (hx : x < 4294967296) :
    ∃ d b' : Nat, d < 4294967296 ∧ b' ≤ 1 ∧ d + 0 + 1 = x + 4294967296 * b' ∧ 0 ≤ IntKind.u64.wrap ((x : Int) - 1) ∧
      IntKind.u64.wrap ((x : Int) - 1) % 4294967296 = (d : Int) ∧ IntKind.u64.wrap ((x : Int) - 1) / 9223372036854775808 = (b' : Int) := by
  simp only [IntKind.wrap_u64]
  by_cases h : 1 ≤ x
  · exact ⟨x - 1, 0, by omega, by omega, by omega, by omega, by omega, by omega⟩
  · exact ⟨x + 4294967296 - 1, 1, by omega, by omega, by omega, by omega, by omega, by omega⟩

set_option maxHeartbeats 1000000 in
theorem subFrom_c (w : World) (g : Nat) (pre post : List Value) (xs ys : List Nat) (c : Nat) (vb : Value) (hs : Seg w g pre xs post) (hx : Small xs) (hc : xs.length ≤ c ∧ c ≤ 9223372036854775807) (hb : Num w vb ys)
    (hne : 0 < ys.length → vb.ownBlock ≠ some g) (hle : ys.length ≤ xs.length) (hf : val ys ≤ val xs) :
    Calls Tryd.prog 60 #[.slice (some ⟨g, pre.length, none⟩) xs.length c, vb] w fun e w' => e = .returned (.tuple #[]) ∧ InPlace w g pre xs.length (val xs - val ys) post w' := by
  have HF := Lib.hid hf
  clear hf
  obtain ⟨A, c', rfl⟩ := hb.form
  have hbd := hb.bounds.2
  obtain ⟨hc1, hc2⟩ := hc
  have hlen : (xs.length : Int) ≤ 9223372036854775807 := by omega
  go_enter Tryd.func60, Tryd.ntmps60
  go_wp2_with fail
  go_loopw [4, 12] (fun cy i wr => ∃ (k q : Nat) (zs : List Nat), k ≤ ys.length ∧ i = .int .i64 k ∧ cy = .int .u64 q ∧ SubRel xs ys zs k q ∧ Seg wr g pre zs post ∧ w.grownBy wr (some g) ∧ wr.heap.size = w.heap.size) (fun _ i _ => ys.length - (intOf i).toNat)
  case atStart => exact ⟨0, 0, xs, Nat.zero_le _, rfl, rfl, SubRel.start xs ys hx, hs, World.grownBy.refl w _, rfl⟩
  case round =>
    obtain ⟨k, q, zs, hk, rfl, rfl, hr, hseg, hgr, hsz⟩ := hrel
    have hq := hr.2.2.2.2
    by_cases hlt : k < ys.length
    · have hzl := hr.1
      have hcx := hseg.cell (j := k) (by omega)
      have hfx := hseg.frozen (pre.length + k)
      obtain ⟨b, off, rfl, hbb, hall⟩ := (hb.far hgr hne).cells (by omega)
      have hcy := hall k hlt
      clear hall
      have bx := hr.2.1.get k
      have by' := hb.small.get k
      generalize hxx : zs.getD k 0 = x at hcx bx
      generalize hyy : ys.getD k 0 = y at hcy by'
      obtain ⟨d, b1, hd, hb1, he, hw0, hw1, hw2⟩ := sub_wrap x y q bx by' hq
      have HR := Lib.hid (hr.step (by omega) hxx hyy hd hb1 he)
      have hkz : k < zs.length := by omega
      have HS := Lib.hid (hseg.put k d _ hkz hw1)
      have HG := Lib.hid (grown_set hgr (pre.length + k) (.int .u32 (IntKind.u64.wrap (IntKind.u64.wrap ((x : Int) - (y : Int)) - (q : Int)) % 4294967296)))
      have HW := Lib.hid hw2
      clear hw1 hw2 he
      have HZ := Lib.hid hsz
      clear hr hseg hgr hsz hxx hyy hzl
      have hlt' : (k : Int) < ys.length := by omega
      have hkx : (k : Int) < xs.length := by omega
      go_wp2_with fail
      go_roundw
      case rel => exact ⟨k + 1, b1, _, by omega, by go_num, congrArg (Value.int .u64) HW.out, HR.out, HS.out, HG.out, by rw [size_set]; exact HZ.out⟩
      case measure => simp [intOf]; omega
    · have hke : k = ys.length := by omega
      subst hke
      have HR := Lib.hid hr
      clear hr
      go_wp2_with fail
      go_loopw [4, 8] (fun cy i wr => ∃ (k q : Nat) (zs : List Nat), ys.length ≤ k ∧ k ≤ xs.length ∧ i = .int .i64 k ∧ cy = .int .u64 q ∧ SubRel xs ys zs k q ∧ Seg wr g pre zs post ∧ w.grownBy wr (some g) ∧ wr.heap.size = w.heap.size) (fun _ i _ => xs.length - (intOf i).toNat)
      case atStart => exact ⟨ys.length, q, zs, Nat.le_refl _, hle, rfl, rfl, HR.out, hseg, hgr, hsz⟩
      case round =>
        clear HR hseg hgr hsz hq
        obtain ⟨k, q, zs, hk1, hk2, rfl, rfl, hr, hseg, hgr, hsz⟩ := hrel
        have hq := hr.2.2.2.2
        by_cases hq0 : q = 0
        · subst hq0
          have HE := Lib.hid (hr.done hk2 hk1)
          go_wp2_with fail
          go_end0
          exact ⟨rfl, zs, hr.1, hr.2.1, by have := HE.out; omega, hseg, hgr, hsz⟩
        · obtain ⟨hlt, hq1⟩ := hr.more hk2 hk1 HF.out hq0
          subst hq1
          have hzl := hr.1
          have hcx := hseg.cell (j := k) (by omega)
          have hfx := hseg.frozen (pre.length + k)
          have bx := hr.2.1.get k
          generalize hxx : zs.getD k 0 = x at hcx bx
          have hyy : ys.getD k 0 = 0 := by rw [List.getD_eq_getElem?_getD, List.getElem?_eq_none hk1]; rfl
          obtain ⟨d, b1, hd, hb1, he, hw0, hw1, hw2⟩ := sub_wrap1 x bx
          have HR := Lib.hid (hr.step hlt hxx hyy hd hb1 he)
          have hkz : k < zs.length := by omega
          have HS := Lib.hid (hseg.put k d _ hkz hw1)
          have HG := Lib.hid (grown_set hgr (pre.length + k) (.int .u32 (IntKind.u64.wrap ((x : Int) - 1) % 4294967296)))
          have HW := Lib.hid hw2
          clear hw1 hw2 he
          have HZ := Lib.hid hsz
          clear hr hseg hgr hsz hxx hyy hzl
          have hkx : (k : Int) < xs.length := by omega
          go_wp2_with fail
          go_roundw
          case rel => exact ⟨k + 1, b1, _, by omega, by omega, by go_num, congrArg (Value.int .u64) HW.out, HR.out, HS.out, HG.out, by rw [size_set]; exact HZ.out⟩
          case measure => simp [intOf]; omega
end Go.Proofs.YtgjhgpfjeoeojaaDoor

/- The contracts of Add and Sub. -/
namespace Go.Proofs.YtgjhgpfjeoeojaaDoor
open Go.RowKit Dig

theorem Own.of_seg {w : World} {g n base : Nat} {zs : List Nat} {post : List Value} {c : Nat} (h : Seg w g [] zs post) (hs : Small zs) (hn : zs.length = n) (hb : base ≤ g) (hc : c = n + post.length) (hm : c ≤ 9223372036854775807) :
    Own base w (.slice (some ⟨g, 0, none⟩) n c) zs := by
  subst hn
  subst hc
  exact ⟨hs, .inr ⟨g, post, rfl, hb, by unfold maxLen; omega, h⟩⟩
theorem Num.ne_new {w : World} {v : Value} {ys : List Nat} {g : Nat} (h : Num w v ys) (hg : w.heap.size ≤ g) : 0 < ys.length → v.ownBlock ≠ some g := by
  intro hp
  obtain ⟨A, c, rfl, _, _, _, hr⟩ := h
  obtain ⟨b, off, rfl, hb, _⟩ := hr hp
  intro e
  simp [Value.ownBlock] at e
  omega

theorem addTo_n (w : World) (g off n : Nat) (pre post : List Value) (xs ys : List Nat) (c : Nat) (vb : Value) (hs : Seg w g pre xs post) (hoff : pre.length = off) (hn : xs.length = n) (hx : Small xs) (hc : n ≤ c ∧ c ≤ 9223372036854775807) (hb : Num w vb ys)
    (hne : 0 < ys.length → vb.ownBlock ≠ some g) (hle : ys.length ≤ n) (hf : val xs + val ys < 4294967296 ^ n) :
    Calls Tryd.prog 59 #[.slice (some ⟨g, off, none⟩) n c, vb] w fun e w' => e = .returned (.tuple #[]) ∧ InPlace w g pre n (val xs + val ys) post w' := by
  subst hoff
  subst hn
  exact addTo_c w g pre post xs ys c vb hs hx hc hb hne hle hf
theorem subFrom_n (w : World) (g off n : Nat) (pre post : List Value) (xs ys : List Nat) (c : Nat) (vb : Value) (hs : Seg w g pre xs post) (hoff : pre.length = off) (hn : xs.length = n) (hx : Small xs) (hc : n ≤ c ∧ c ≤ 9223372036854775807) (hb : Num w vb ys)
    (hne : 0 < ys.length → vb.ownBlock ≠ some g) (hle : ys.length ≤ n) (hf : val ys ≤ val xs) :
    Calls Tryd.prog 60 #[.slice (some ⟨g, off, none⟩) n c, vb] w fun e w' => e = .returned (.tuple #[]) ∧ InPlace w g pre n (val xs - val ys) post w' := by
  subst hoff
  subst hn
  exact subFrom_c w g pre post xs ys c vb hs hx hc hb hne hle hf

/-- trim of a row of the call's own. -/
theorem trim_own (w : World) (base g n c : Nat) (zs : List Nat) (h : Own base w (.slice (some ⟨g, 0, none⟩) n c) zs) :
    Calls Tryd.prog 31 #[.slice (some ⟨g, 0, none⟩) n c] w fun e w' => ∃ r, e = .returned r ∧ Own base w r (dg (val zs)) ∧ w = w' :=
  (trim_c w _ n c zs h.num).mono fun _ _ ⟨a, b⟩ => ⟨_, a, h.trimmed, b⟩

theorem add_fit (a b n : Nat) (ha : a < 4294967296 ^ n) (hb : b < 4294967296 ^ n) : a + b < 4294967296 ^ (n + 1) := by
  rw [Nat.pow_succ]; omega
theorem below_grown {w w1 w' : World} {g : Nat} (h : Below w.heap.size w w1) (hg : w1.grownBy w' (some g)) (hb : w.heap.size ≤ g) : Below w.heap.size w w' :=
  h.grown hg h.size (fun k e => by injection e with e; omega)

set_option maxHeartbeats 1000000 in
/-- The part of Add behind the exchange of its arguments, where a is not shorter than b. -/
theorem add_c (w : World) (va vb : Value) (xs ys : List Nat) (ha : Num w va xs) (hb : Num w vb ys) (hza : xs.length ≤ 8796093022208) (hzb : ys.length ≤ 8796093022208) :
    Calls Tryd.prog 36 #[va, vb] w (RNat w (val xs + val ys)) := by
  have Ta := Lib.hid (trim_n w va xs ha)
  have Tb := Lib.hid (trim_n w vb ys hb)
  have hla := dg_length_val xs ha.small
  have hlb := dg_length_val ys hb.small
  have fa := Lib.hid (dg_lt (val xs))
  have fb := Lib.hid (dg_lt (val ys))
  have sa := small_dg (val xs)
  have sb := small_dg (val ys)
  have va' := Lib.hid (val_dg (val xs))
  have vb' := Lib.hid (val_dg (val ys))
  by_cases hl : (dg (val xs)).length < (dg (val ys)).length
  · go_enter Tryd.func36, Tryd.ntmps36
    go_wp2_with fail
    refine (Ta.out).mono ?_
    rintro e w' ⟨A, c, rfl, hA, rfl⟩
    go_wp2_with fail
    refine (Tb.out).mono ?_
    rintro e w' ⟨A', c', rfl, hB, rfl⟩
    generalize hX : dg (val xs) = X at *
    generalize hY : dg (val ys) = Y at *
    have HX := Lib.hid hX
    have HY := Lib.hid hY
    clear hX hY Ta Tb
    have ne1 := Lib.hid (hA.ne_new (g := w.heap.size) (Nat.le_refl _))
    have lrep : (List.replicate (Y.length + 1) 0).drop Y.length = [0] := by simp
    have LR := Lib.hid lrep
    clear lrep
    go_wp2_with (first | (at_make; refine wp_make rfl _ _ rfl _ _ (Y.length + 1) rfl rfl (by omega) (by omega) (by omega) ?_; intro w1 hS hB1; have hN1 := hB.below hB1) | (with_reducible refine wp_copy rfl (.tmp 21) (.tmp 22) rfl w.heap.size 0 (Y.length + 1) (Y.length + 1) rfl (.slice A' Y.length c') Y rfl hN1 [] [] _ hS rfl (by simp) (by simp) ?_; intro w2 hS2 hG2 hZ2))
    rw [LR.out] at hS2
    have hB2 := below_grown hB1 hG2 (Nat.le_refl _)
    have hN2 := hA.below hB2
    have hv : val (Y ++ [0]) = val Y := by rw [val_append]; simp [val]
    have hfit : val (Y ++ [0]) + val X < 4294967296 ^ (Y.length + 1) := by
      rw [hv, vb'.out, va'.out]
      exact add_fit _ _ _ (fb).out (Nat.lt_of_lt_of_le (fa).out (pow_le (by omega)))
    have HFIT := Lib.hid hfit
    have HV := Lib.hid hv
    have sm : Small (Y ++ [0]) := Small.append sb (fun d hd => by simp at hd; omega)
    clear hfit hv hS hG2 hZ2
    refine (addTo_n w2 w.heap.size 0 (Y.length + 1) [] [] _ X _ _ hS2 rfl (by simp) sm ⟨by omega, by omega⟩ hN2 ne1.out (by omega) HFIT.out).mono ?_
    rintro e w3 ⟨rfl, zs, z1, z2, z3, z4, z5, z6⟩
    have hO := Own.of_seg (base := w.heap.size) (c := Y.length + 1) z4 z2 z1 (Nat.le_refl _) rfl (by omega)
    have TT := Lib.hid (trim_own _ _ _ _ _ _ hO)
    have Z1 := Lib.hid z1
    have Z3 := Lib.hid z3
    have Z6 := Lib.hid z6
    clear z1 z3 z6 hS2 hN2
    go_wp2_with fail
    refine (TT.out).mono ?_
    rintro e w4 ⟨r, rfl, hr, rfl⟩
    go_wp2_with fail
    go_ret
    have e3 : val zs = val xs + val ys := by rw [Z3.out, HV.out, vb'.out, va'.out]; omega
    rw [e3] at hr
    exact ⟨_, rfl, hr, below_grown hB2 z5 (Nat.le_refl _)⟩
  · have hl2 : decide ((dg (val xs)).length < (dg (val ys)).length) = false := by simp; omega
    go_enter Tryd.func36, Tryd.ntmps36
    go_wp2_with fail
    refine (Ta.out).mono ?_
    rintro e w' ⟨A, c, rfl, hA, rfl⟩
    go_wp2_with fail
    refine (Tb.out).mono ?_
    rintro e w' ⟨A', c', rfl, hB, rfl⟩
    generalize hX : dg (val xs) = X at *
    generalize hY : dg (val ys) = Y at *
    have HX := Lib.hid hX
    have HY := Lib.hid hY
    clear hX hY Ta Tb
    have ne1 := Lib.hid (hB.ne_new (g := w.heap.size) (Nat.le_refl _))
    have lrep : (List.replicate (X.length + 1) 0).drop X.length = [0] := by simp
    have LR := Lib.hid lrep
    clear lrep
    go_wp2_with (first | (at_make; refine wp_make rfl _ _ rfl _ _ (X.length + 1) rfl rfl (by omega) (by omega) (by omega) ?_; intro w1 hS hB1; have hN1 := hA.below hB1) | (with_reducible refine wp_copy rfl (.tmp 21) (.tmp 22) rfl w.heap.size 0 (X.length + 1) (X.length + 1) rfl (.slice A X.length c) X rfl hN1 [] [] _ hS rfl (by simp) (by simp) ?_; intro w2 hS2 hG2 hZ2))
    rw [LR.out] at hS2
    have hB2 := below_grown hB1 hG2 (Nat.le_refl _)
    have hN2 := hB.below hB2
    have hv : val (X ++ [0]) = val X := by rw [val_append]; simp [val]
    have hfit : val (X ++ [0]) + val Y < 4294967296 ^ (X.length + 1) := by
      rw [hv, va'.out, vb'.out]
      exact add_fit _ _ _ (fa).out (Nat.lt_of_lt_of_le (fb).out (pow_le (by omega)))
    have HFIT := Lib.hid hfit
    have HV := Lib.hid hv
    have sm : Small (X ++ [0]) := Small.append sa (fun d hd => by simp at hd; omega)
    clear hfit hv hS hG2 hZ2
    refine (addTo_n w2 w.heap.size 0 (X.length + 1) [] [] _ Y _ _ hS2 rfl (by simp) sm ⟨by omega, by omega⟩ hN2 ne1.out (by omega) HFIT.out).mono ?_
    rintro e w3 ⟨rfl, zs, z1, z2, z3, z4, z5, z6⟩
    have hO := Own.of_seg (base := w.heap.size) (c := X.length + 1) z4 z2 z1 (Nat.le_refl _) rfl (by omega)
    have TT := Lib.hid (trim_own _ _ _ _ _ _ hO)
    have Z1 := Lib.hid z1
    have Z3 := Lib.hid z3
    have Z6 := Lib.hid z6
    clear z1 z3 z6 hS2 hN2
    go_wp2_with fail
    refine (TT.out).mono ?_
    rintro e w4 ⟨r, rfl, hr, rfl⟩
    go_wp2_with fail
    go_ret
    have e3 : val zs = val xs + val ys := by rw [Z3.out, HV.out, va'.out, vb'.out]
    rw [e3] at hr
    exact ⟨_, rfl, hr, below_grown hB2 z5 (Nat.le_refl _)⟩
end Go.Proofs.YtgjhgpfjeoeojaaDoor

/- The contract of Sub. -/
namespace Go.Proofs.YtgjhgpfjeoeojaaDoor
open Go.RowKit Dig

set_option maxHeartbeats 400000 in
theorem subFrom_nil (w : World) (A : Option Addr) (c : Nat) :
    Calls Tryd.prog 60 #[.slice none 0 0, .slice A 0 c] w fun e w' => e = .returned (.tuple #[]) ∧ w = w' := by
  go_enter Tryd.func60, Tryd.ntmps60
  go_wp2_with fail
  go_loop [4, 12] (fun cy i => i = .int .i64 0 ∧ cy = .int .u64 0) (fun _ _ => 0)
  case atStart => exact ⟨rfl, rfl⟩
  case round =>
    obtain ⟨rfl, rfl⟩ := hrel
    go_wp2_with fail
    go_loop [4, 8] (fun cy i => i = .int .i64 0 ∧ cy = .int .u64 0) (fun _ _ => 0)
    case atStart => exact ⟨rfl, rfl⟩
    case round =>
      obtain ⟨rfl, rfl⟩ := hrel
      go_wp2_with fail
      go_end0
      exact ⟨rfl, rfl⟩

theorem trim_own_any (w : World) (base : Nat) (r : Value) (zs : List Nat) (h : Own base w r zs) :
    Calls Tryd.prog 31 #[r] w fun e w' => ∃ r', e = .returned r' ∧ Own base w r' (dg (val zs)) ∧ w = w' := by
  have h' := h
  obtain ⟨hs, h⟩ := h
  rcases h with ⟨rfl, rfl⟩ | ⟨g, rest, rfl, hg, hm, hseg⟩
  · exact (trim_c w none 0 0 [] h'.num).mono fun _ _ ⟨a, b⟩ => ⟨_, a, Own.nil _ _, b⟩
  · exact trim_own w base g _ _ zs h'

theorem subFrom_own (w : World) (base : Nat) (r vb : Value) (xs ys : List Nat) (ho : Own base w r xs) (hb : Num w vb ys) (hne : 0 < ys.length → vb.ownBlock ≠ r.ownBlock) (hle : ys.length ≤ xs.length) (hf : val ys ≤ val xs) :
    Calls Tryd.prog 60 #[r, vb] w fun e w' => e = .returned (.tuple #[]) ∧ ∃ zs, zs.length = xs.length ∧ val zs = val xs - val ys ∧ Own base w' r zs ∧ w.grownBy w' r.ownBlock ∧ w'.heap.size = w.heap.size := by
  obtain ⟨hs, h⟩ := ho
  rcases h with ⟨rfl, rfl⟩ | ⟨g, rest, rfl, hg, hm, hseg⟩
  · have : ys = [] := List.eq_nil_of_length_eq_zero (by simpa using hle)
    subst this
    obtain ⟨A, c, rfl⟩ := hb.form
    refine (subFrom_nil w A c).mono fun e w' ⟨a, b⟩ => ⟨a, [], rfl, rfl, ?_, ?_, ?_⟩
    · exact Own.nil _ _
    · rw [← b]; exact World.grownBy.refl w _
    · rw [← b]
  · refine (subFrom_n w g 0 xs.length [] rest xs ys _ vb hseg rfl rfl hs ⟨by omega, by unfold maxLen at hm; omega⟩ hb hne hle hf).mono ?_
    rintro e w' ⟨a, zs, z1, z2, z3, z4, z5, z6⟩
    exact ⟨a, zs, z1, z3, Own.of_seg z4 z2 z1 hg rfl (by unfold maxLen at hm; omega), z5, z6⟩

theorem Own.block {base : Nat} {w : World} {v : Value} {xs : List Nat} (h : Own base w v xs) : ∀ g, v.ownBlock = some g → base ≤ g ∧ g < w.heap.size := by
  intro g hg
  obtain ⟨_, h⟩ := h
  rcases h with ⟨rfl, _⟩ | ⟨g', rest, rfl, hb, _, hseg⟩
  · simp [Value.ownBlock] at hg
  · simp [Value.ownBlock] at hg
    subst hg
    exact ⟨hb, hseg.lt⟩
theorem below_own {w w1 w' : World} {v : Value} {base : Nat} {xs : List Nat} (h : Below w.heap.size w w1) (hg : w1.grownBy w' v.ownBlock) (hb : Own base w1 v xs) (hbase : w.heap.size ≤ base) : Below w.heap.size w w' :=
  h.grown hg h.size (fun k e => by have := (hb.block k e).1; omega)

def RSub (w : World) (n : Nat) (e : Ending) (w' : World) : Prop := ∃ r, e = .returned (.tuple #[r, .bool true]) ∧ Own w.heap.size w' r (dg n) ∧ Below w.heap.size w w'
def RNoSub (w : World) (e : Ending) (w' : World) : Prop := e = .returned (.tuple #[.slice none 0 0, .bool false]) ∧ Below w.heap.size w w'

theorem below_drewN {B : Nat} {a w : World} (h : Below B a w) (n : Nat) : Below B a (w.drewN n) := ⟨h.os, h.tape, h.output, h.size, h.block⟩

set_option maxHeartbeats 400000 in
theorem sub_lt (w : World) (va vb : Value) (xs ys : List Nat) (ha : Num w va xs) (hb : Num w vb ys) (hlt : val xs < val ys) :
    Calls Tryd.prog 37 #[va, vb] w (RNoSub w) := by
  have C := Lib.hid (cmp_c w va vb xs ys ha hb)
  rw [cmpI_lt hlt] at C
  go_enter Tryd.func37, Tryd.ntmps37
  go_wp2_with fail
  refine (C.out).mono ?_
  rintro e w' ⟨rfl, N, rfl⟩
  go_wp2_with fail
  go_ret2
  exact ⟨rfl, below_drewN (Below.refl _ _) N⟩

set_option maxHeartbeats 400000 in
theorem sub_ge (w : World) (va vb : Value) (xs ys : List Nat) (ha : Num w va xs) (hb : Num w vb ys) (hza : xs.length ≤ 8796093022208) (hge : val ys ≤ val xs) :
    Calls Tryd.prog 37 #[va, vb] w (RSub w (val xs - val ys)) := by
  have C := Lib.hid (cmp_c w va vb xs ys ha hb)
  have hci : 0 ≤ cmpI (val xs) (val ys) ∧ cmpI (val xs) (val ys) ≤ 1 := by unfold cmpI; rw [if_neg (by omega)]; split <;> omega
  have hdl : decide (cmpI (val xs) (val ys) < 0) = false := by simp; omega
  generalize cmpI (val xs) (val ys) = ci at *
  have hll : (dg (val ys)).length ≤ (dg (val xs)).length := dg_length_mono hge
  go_enter Tryd.func37, Tryd.ntmps37
  go_wp2_with fail
  refine (C.out).mono ?_
  rintro e w' ⟨rfl, N, rfl⟩
  go_wp2_with fail
  refine (normalize_c (w.drewN N) va xs (ha.drewN N) hza).mono ?_
  rintro e w1 ⟨r, rfl, hr, hB⟩
  have hB1 : Below w.heap.size w w1 := (below_drewN (Below.refl _ _) N).trans hB
  have hr1 : Own w.heap.size w1 r (dg (val xs)) := hr
  have T := Lib.hid (trim_any w1 vb ys (hb.below hB1))
  clear hB hr
  go_wp2_with fail
  refine (T.out).mono ?_
  rintro e w' ⟨A, c, rfl, hN, rfl⟩
  have hne : 0 < (dg (val ys)).length → (Value.slice A (dg (val ys)).length c).ownBlock ≠ r.ownBlock := by
    intro hp he
    obtain ⟨b, off, rfl, hbb, _⟩ := (hN w hb).cells hp
    have := (hr1.block b he.symm).1
    omega
  have S := Lib.hid (subFrom_own w1 _ r _ _ _ hr1 (hN w1 (hb.below hB1)) hne hll (by rw [val_dg, val_dg]; exact hge))
  clear hN
  go_wp2_with fail
  refine (S.out).mono ?_
  rintro e w2 ⟨rfl, zs, z1, z2, z3, z4, z5⟩
  have hB2 := below_own hB1 z4 hr1 (Nat.le_refl _)
  rw [val_dg, val_dg] at z2
  have T2 := Lib.hid (trim_own_any w2 _ r zs z3)
  rw [z2] at T2
  clear z1 z2 z5
  go_wp2_with fail
  refine (T2.out).mono ?_
  rintro e w3 ⟨r3, rfl, hr3, rfl⟩
  go_wp2_with fail
  go_ret2
  exact ⟨_, rfl, hr3, hB2⟩
end Go.Proofs.YtgjhgpfjeoeojaaDoor

/- Steps of 'nothing below turned', one after another. -/
namespace Go.Proofs.YtgjhgpfjeoeojaaDoor
open Go.RowKit Dig

theorem below_then {w w1 w2 : World} (h : Below w.heap.size w w1) (h2 : Below w1.heap.size w1 w2) : Below w.heap.size w w2 := h.trans (h2.mono h.size)
theorem below_undrew {w w' : World} (h : Below w.drew.heap.size w.drew w') : Below w.heap.size w w' := ⟨h.os, h.tape, h.output, h.size, h.block⟩
end Go.Proofs.YtgjhgpfjeoeojaaDoor

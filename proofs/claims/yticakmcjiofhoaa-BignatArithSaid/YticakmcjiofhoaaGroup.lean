/- The contract of appendGroup: nine decimal digits more. -/
import Derived.Test.YticakmcjiofhoaaDivd
namespace Go.Proofs.Yticakmcjiofhoaa
open Go.RowKit Dig
set_option linter.unusedVariables false

namespace Dig
def GroupRel (xs zs : List Nat) (p k c : Nat) : Prop :=
  zs.length = xs.length ∧ Small zs ∧ (∀ j, k ≤ j → zs.getD j 0 = xs.getD j 0) ∧ val (zs.take k) + 4294967296 ^ k * c = val (xs.take k) * 1000000000 + p ∧ c < 1000000000
theorem GroupRel.start (xs : List Nat) (p : Nat) (hs : Small xs) (hp : p < 1000000000) : GroupRel xs xs p 0 p := ⟨rfl, hs, fun _ _ => rfl, by simp [val], hp⟩
theorem GroupRel.step {xs zs : List Nat} {p k c x : Nat} (h : GroupRel xs zs p k c) (hk : k < xs.length) (hx : zs.getD k 0 = x) (hxb : x < 4294967296) :
    GroupRel xs (zs.set k ((c + x * 1000000000) % 4294967296)) p (k + 1) ((c + x * 1000000000) / 4294967296) := by
  obtain ⟨hl, hs, ha, hv, hc⟩ := h
  refine ⟨by simpa using hl, hs.set _ _ (Nat.mod_lt _ (by omega)), fun j hj => ?_, ?_, by omega⟩
  · rw [getD_set_ne _ _ _ _ (by omega)]
    exact ha j (by omega)
  · rw [take_set_succ _ _ _ (by omega), val_take_succ xs k hk, ← ha k (Nat.le_refl _), hx, Nat.pow_succ, Nat.mul_assoc, Nat.add_assoc, ← Nat.mul_add, Nat.mod_add_div, Nat.mul_add, Nat.add_mul, Nat.mul_assoc]
    omega
theorem GroupRel.done {xs zs : List Nat} {p c : Nat} (h : GroupRel xs zs p xs.length c) : val zs + 4294967296 ^ xs.length * c = val xs * 1000000000 + p ∧ zs.length = xs.length ∧ Small zs ∧ c < 1000000000 := by
  obtain ⟨hl, hs, ha, hv, hc⟩ := h
  rw [List.take_of_length_le (by omega), List.take_of_length_le (Nat.le_refl _)] at hv
  exact ⟨hv, hl, hs, hc⟩
end Dig

theorem Num.one (w : World) (a : Nat) (x : Int) (ha : a < 4294967296) (hx : x = (a : Int)) : Num (w.alloc (.cells #[.int .u32 x] 50)) (.slice (some ⟨w.heap.size, 0, none⟩) 1 1) [a] := by
  subst hx
  have : Own w.heap.size (w.alloc (.cells #[.int .u32 (a : Int)] 50)) (.slice (some ⟨w.heap.size, 0, none⟩) 1 1) [a] := by
    refine ⟨fun d hd => ?_, .inr ⟨w.heap.size, [], rfl, Nat.le_refl _, by unfold maxLen; simp, ?_⟩⟩
    · simp at hd; omega
    · unfold Seg
      rw [heap_alloc_new]
      simp [U]
  exact this.num
theorem Own.alloc {base : Nat} {w : World} {v : Value} {xs : List Nat} (h : Own base w v xs) (o : Obj) : Own base (w.alloc o) v xs := h.below ((Below.refl w.heap.size _).alloc (Nat.le_refl _) o) (Nat.le_refl _)
theorem grown_after_alloc {w w' : World} {o : Obj} {row : Option Nat} (h : (w.alloc o).grownBy w' row) : w.grownBy w' row :=
  ⟨h.os, h.tape, h.output, Nat.le_trans (by simp) h.size, fun k hk hne => (h.block k (by simp; omega) hne).trans (Below.heap_alloc w o k hk)⟩
theorem grown_trans {a b c : World} {row : Option Nat} (h : a.grownBy b row) (k : b.grownBy c row) : a.grownBy c row :=
  ⟨k.os.trans h.os, k.tape.trans h.tape, k.output.trans h.output, Nat.le_trans h.size k.size, fun i hi hne => (k.block i (Nat.lt_of_lt_of_le hi h.size) hne).trans (h.block i hi hne)⟩

/-- What appendGroup leaves. -/
def Grouped (w : World) (base : Nat) (v : Value) (n len : Nat) (e : Ending) (w' : World) : Prop :=
  ∃ r zs, e = .returned r ∧ Own base w' r zs ∧ val zs = n ∧ zs.length ≤ len + 1 ∧ w.grownBy w' v.ownBlock

set_option maxHeartbeats 1000000 in
theorem group_nil (w : World) (base p : Nat) (hp : p < 1000000000) (hb : base ≤ w.heap.size) :
    Calls Try.prog 57 #[.slice none 0 0, .int .u64 (p : Int)] w (Grouped w base (.slice none 0 0) p 0) := by
  go_enter Try.func57, Try.ntmps57
  go_wp2_with fail
  go_loop [5, 11] (fun cy i => i = .int .i64 0 ∧ cy = .int .u64 p) (fun _ _ => 0)
  case atStart => exact ⟨rfl, rfl⟩
  case round =>
    obtain ⟨rfl, rfl⟩ := hrel
    by_cases h0 : p = 0
    · subst h0
      go_wp2_with fail
      go_ret
      exact ⟨_, [], rfl, Own.nil _ _, rfl, by simp, World.grownBy.refl w _⟩
    · have hpi : (p : Int) < 4294967296 := by omega
      have hpn : ((p : Int) != 0) = true := by rw [bne_iff_ne]; omega
      have HN := Lib.hid (Num.one w p (p : Int) (by omega) rfl)
      go_wp2_with (at_builtin; refine wp_append rfl _ _ rfl base (.slice none 0 0) [] rfl (Own.nil _ _) (.slice (some ⟨w.heap.size, 0, none⟩) 1 1) [p] rfl HN.out (by simp) (by simp; omega) ?_; intro v' w' hv' hg' _)
      go_ret
      exact ⟨_, _, rfl, hv', by simp [val], by simp, grown_after_alloc hg'⟩

set_option maxHeartbeats 1000000 in
theorem group_some (w : World) (base g p : Nat) (xs : List Nat) (rest : List Value) (hs : Small xs) (hp : p < 1000000000) (hb : base ≤ g) (hm : xs.length + rest.length ≤ maxLen) (hz : xs.length ≤ 8796093022208) (h : Seg w g [] xs rest) :
    Calls Try.prog 57 #[.slice (some ⟨g, 0, none⟩) xs.length (xs.length + rest.length), .int .u64 (p : Int)] w (Grouped w base (.slice (some ⟨g, 0, none⟩) xs.length (xs.length + rest.length)) (val xs * 1000000000 + p) xs.length) := by
  have HM := Lib.hid hm
  unfold maxLen at hm
  go_enter Try.func57, Try.ntmps57
  go_wp2_with fail
  go_loopw [5, 11] (fun cy i wr => ∃ (k q : Nat) (zs : List Nat), k ≤ xs.length ∧ i = .int .i64 k ∧ cy = .int .u64 q ∧ GroupRel xs zs p k q ∧ Seg wr g [] zs rest ∧ w.grownBy wr (some g)) (fun _ i _ => xs.length - (intOf i).toNat)
  case atStart => exact ⟨0, p, xs, Nat.zero_le _, rfl, rfl, GroupRel.start xs p hs hp, h, World.grownBy.refl w _⟩
  case round =>
    obtain ⟨k, q, zs, hk, rfl, rfl, hr, hseg, hgr⟩ := hrel
    have hq := hr.2.2.2.2
    by_cases hlt : k < xs.length
    · have hl := hr.1
      have hcx := hseg.cell0 (j := k) (by omega)
      have hfx := hseg.frozen k
      have bx := hr.2.1.get k
      generalize hxx : zs.getD k 0 = x at hcx bx
      have HR := Lib.hid (hr.step hlt hxx bx)
      have HS := Lib.hid (hseg.put0 k ((q + x * 1000000000) % 4294967296) (((q : Int) + (x : Int) * 1000000000) % 4294967296) (by omega) (by omega))
      have HG := Lib.hid (grown_set hgr k (.int .u32 (((q : Int) + (x : Int) * 1000000000) % 4294967296)))
      have hki : (k : Int) < xs.length := by omega
      clear hr hseg hgr hxx hl
      go_wp2_with fail
      go_roundw
      case rel => exact ⟨k + 1, (q + x * 1000000000) / 4294967296, _, by omega, by go_num, by go_num, HR.out, HS.out, HG.out⟩
      case measure => simp [intOf]; omega
    · have : k = xs.length := by omega
      subst this
      obtain ⟨e1, e2, e3, e4⟩ := hr.done
      have E1 := Lib.hid e1
      have E2 := Lib.hid e2
      clear e1 hr
      by_cases h0 : q = 0
      · subst h0
        clear e2
        go_wp2_with fail
        go_ret
        refine ⟨_, zs, rfl, ⟨e3, .inr ⟨g, rest, ?_, hb, by rw [E2.out]; exact HM.out, hseg⟩⟩, by have := E1.out; omega, by rw [E2.out]; omega, hgr⟩
        rw [E2.out]; rfl
      · have hqn : ((q : Int) != 0) = true := by rw [bne_iff_ne]; omega
        have HN := Lib.hid (Num.one wr q (q : Int) (by omega) rfl)
        have ho : Own base wr (.slice (some ⟨g, 0, none⟩) xs.length (xs.length + rest.length)) zs := ⟨e3, .inr ⟨g, rest, by rw [E2.out], hb, by rw [E2.out]; exact HM.out, hseg⟩⟩
        have HO := Lib.hid (ho.alloc (.cells #[.int .u32 (q : Int)] 50))
        have hgs := hseg.lt
        have hqi : (q : Int) < 4294967296 := by omega
        clear e2 ho
        go_wp2_with (at_builtin; refine wp_append rfl _ _ rfl base (.slice (some ⟨g, 0, none⟩) xs.length (xs.length + rest.length)) zs rfl HO.out (.slice (some ⟨wr.heap.size, 0, none⟩) 1 1) [q] rfl HN.out (by simp only [E2.out, List.length_singleton]; omega) (by simp; omega) ?_; intro v' w' hv' hg' _)
        go_ret
        refine ⟨_, _, rfl, hv', ?_, by rw [List.length_append, E2.out]; simp, ?_⟩
        · rw [val_append, E2.out, ← E1.out]; simp [val]
        · exact grown_trans hgr (grown_after_alloc hg')

theorem group_c (w : World) (base p : Nat) (v : Value) (xs : List Nat) (ho : Own base w v xs) (hp : p < 1000000000) (hb : base ≤ w.heap.size) (hz : xs.length ≤ 8796093022208) :
    Calls Try.prog 57 #[v, .int .u64 (p : Int)] w (Grouped w base v (val xs * 1000000000 + p) xs.length) := by
  obtain ⟨hs, h⟩ := ho
  rcases h with ⟨rfl, rfl⟩ | ⟨g, rest, rfl, hg, hm, hseg⟩
  · have := group_nil w base p hp hb
    simpa [val] using this
  · exact group_some w base g p xs rest hs hp hg hm hz hseg
end Go.Proofs.Yticakmcjiofhoaa

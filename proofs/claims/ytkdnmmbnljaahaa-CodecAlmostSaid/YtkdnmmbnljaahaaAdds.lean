/- The contracts of addTo and subtractFrom: sums and differences in place. -/
import Derived.Test.YtkdnmmbnljaahaaMems
import Derived.Test.YtkdnmmbnljaahaaPlain
namespace Go.Proofs.Ytkdnmmbnljaahaa
open Go.RowKit Dig

theorem Seg.put {w : World} {g : Nat} {pre post : List Value} {xs : List Nat} (h : Seg w g pre xs post) (j v : Nat) (q : Int) (hj : j < xs.length) (hq : q = (v : Int)) : Seg (w.setCell ⟨g, pre.length + j, none⟩ (.int .u32 q)) g pre (xs.set j v) post := by
  subst hq
  exact h.set j v hj
theorem grown_set {w wr : World} {g : Nat} (h : w.grownBy wr (some g)) (i : Nat) (u : Value) : w.grownBy (wr.setCell ⟨g, i, none⟩ u) (some g) :=
  ⟨h.os, h.tape, h.output, by simpa [World.setCell] using h.size, fun k hk hne => (Below.heap_setCell wr ⟨g, i, none⟩ u k (fun e => hne (by rw [e]))).trans (h.block k hk hne)⟩
theorem size_set (w : World) (p : Addr) (u : Value) : (w.setCell p u).heap.size = w.heap.size := by simp [World.setCell]

/-- A number can be read as long as its block is not written. -/
theorem Num.far {w w' : World} {v : Value} {xs : List Nat} {g : Nat} (h : Num w v xs) (hg : w.grownBy w' (some g)) (hne : 0 < xs.length → v.ownBlock ≠ some g) : Num w' v xs := by
  obtain ⟨A, c, rfl, hc, hm, hs, hr⟩ := h
  refine ⟨A, c, rfl, hc, hm, hs, fun hp => ?_⟩
  obtain ⟨b, off, rfl, hb, hcell⟩ := hr hp
  have hbg : b ≠ g := by
    intro e
    subst e
    exact hne hp rfl
  refine ⟨b, off, rfl, Nat.lt_of_lt_of_le hb hg.size, fun j hj => ?_⟩
  exact hg.cell (hcell j hj) (by simpa using hbg)

/-- What a call leaves that works in place on the digits xs of block g: digits of the value n. -/
def InPlace (w : World) (g : Nat) (pre : List Value) (len n : Nat) (post : List Value) (w' : World) : Prop :=
  ∃ zs, zs.length = len ∧ Small zs ∧ val zs = n ∧ Seg w' g pre zs post ∧ w.grownBy w' (some g) ∧ w'.heap.size = w.heap.size

theorem wrap_u64_nonneg (n : Int) (h : 0 ≤ n) (h2 : n < 18446744073709551616) : IntKind.u64.wrap n = n := by
  rw [IntKind.wrap_u64]; omega
theorem wrap_u64_neg (n : Int) (h : n < 0) (h2 : -18446744073709551616 ≤ n) : IntKind.u64.wrap n = n + 18446744073709551616 := by
  rw [IntKind.wrap_u64]; omega

/-- A difference of digits with a borrow, in 64 bits. -/
theorem sub_wrap (x y b : Nat) (hx : x < 4294967296) (hy : y < 4294967296) (hb : b ≤ 1) :
    ∃ d b' : Nat, d < 4294967296 ∧ b' ≤ 1 ∧ d + y + b = x + 4294967296 * b' ∧ 0 ≤ IntKind.u64.wrap (IntKind.u64.wrap ((x : Int) - (y : Int)) - (b : Int)) ∧
      IntKind.u64.wrap (IntKind.u64.wrap ((x : Int) - (y : Int)) - (b : Int)) % 4294967296 = (d : Int) ∧ IntKind.u64.wrap (IntKind.u64.wrap ((x : Int) - (y : Int)) - (b : Int)) / 9223372036854775808 = (b' : Int) := by
  simp only [IntKind.wrap_u64]
  by_cases h : y + b ≤ x
  · exact ⟨x - y - b, 0, by omega, by omega, by omega, by omega, by omega, by omega⟩
  · exact ⟨x + 4294967296 - y - b, 1, by omega, by omega, by omega, by omega, by omega, by omega⟩
end Go.Proofs.Ytkdnmmbnljaahaa

/- The contract of subtractFrom: a difference in place. -/
namespace Go.Proofs.Ytkdnmmbnljaahaa
open Go.RowKit Dig

theorem sub_wrap1 (x : Nat) (hx : x < 4294967296) :
    ∃ d b' : Nat, d < 4294967296 ∧ b' ≤ 1 ∧ d + 0 + 1 = x + 4294967296 * b' ∧ 0 ≤ IntKind.u64.wrap ((x : Int) - 1) ∧
      IntKind.u64.wrap ((x : Int) - 1) % 4294967296 = (d : Int) ∧ IntKind.u64.wrap ((x : Int) - 1) / 9223372036854775808 = (b' : Int) := by
  simp only [IntKind.wrap_u64]
  by_cases h : 1 ≤ x
  · exact ⟨x - 1, 0, by omega, by omega, by omega, by omega, by omega, by omega⟩
  · exact ⟨x + 4294967296 - 1, 1, by omega, by omega, by omega, by omega, by omega, by omega⟩

end Go.Proofs.Ytkdnmmbnljaahaa

/- The contracts of Add and Sub. -/
namespace Go.Proofs.Ytkdnmmbnljaahaa
open Go.RowKit Dig

theorem Own.of_seg {w : World} {g n base : Nat} {zs : List Nat} {post : List Value} {c : Nat} (h : Seg w g [] zs post) (hs : Small zs) (hn : zs.length = n) (hb : base ≤ g) (hc : c = n + post.length) (hm : c ≤ 9223372036854775807) :
    Own base w (.slice (some ⟨g, 0, none⟩) n c) zs := by
  subst hn
  subst hc
  exact ⟨hs, .inr ⟨g, post, rfl, hb, by unfold maxLen; omega, h⟩⟩
theorem Num.ne_new {w : World} {v : Value} {ys : List Nat} {g : Nat} (h : Num w v ys) (hg : w.heap.size ≤ g) : 0 < ys.length → v.ownBlock ≠ some g := by
  intro hp
  obtain ⟨A, c, rfl, _, _, _, hr⟩ := h
  obtain ⟨b, off, rfl, hb, _⟩ := hr hp
  intro e
  simp [Value.ownBlock] at e
  omega


/-- trim of a row of the call's own. -/
theorem trim_own (w : World) (base g n c : Nat) (zs : List Nat) (h : Own base w (.slice (some ⟨g, 0, none⟩) n c) zs) :
    Calls Try.prog 46 #[.slice (some ⟨g, 0, none⟩) n c] w fun e w' => ∃ r, e = .returned r ∧ Own base w r (dg (val zs)) ∧ w = w' :=
  (trim_c w _ n c zs h.num).mono fun _ _ ⟨a, b⟩ => ⟨_, a, h.trimmed, b⟩

theorem add_fit (a b n : Nat) (ha : a < 4294967296 ^ n) (hb : b < 4294967296 ^ n) : a + b < 4294967296 ^ (n + 1) := by
  rw [Nat.pow_succ]; omega
theorem below_grown {w w1 w' : World} {g : Nat} (h : Below w.heap.size w w1) (hg : w1.grownBy w' (some g)) (hb : w.heap.size ≤ g) : Below w.heap.size w w' :=
  h.grown hg h.size (fun k e => by injection e with e; omega)

end Go.Proofs.Ytkdnmmbnljaahaa

/- The contract of Sub. -/
namespace Go.Proofs.Ytkdnmmbnljaahaa
open Go.RowKit Dig


theorem trim_own_any (w : World) (base : Nat) (r : Value) (zs : List Nat) (h : Own base w r zs) :
    Calls Try.prog 46 #[r] w fun e w' => ∃ r', e = .returned r' ∧ Own base w r' (dg (val zs)) ∧ w = w' := by
  have h' := h
  obtain ⟨hs, h⟩ := h
  rcases h with ⟨rfl, rfl⟩ | ⟨g, rest, rfl, hg, hm, hseg⟩
  · exact (trim_c w none 0 0 [] h'.num).mono fun _ _ ⟨a, b⟩ => ⟨_, a, Own.nil _ _, b⟩
  · exact trim_own w base g _ _ zs h'


theorem Own.block {base : Nat} {w : World} {v : Value} {xs : List Nat} (h : Own base w v xs) : ∀ g, v.ownBlock = some g → base ≤ g ∧ g < w.heap.size := by
  intro g hg
  obtain ⟨_, h⟩ := h
  rcases h with ⟨rfl, _⟩ | ⟨g', rest, rfl, hb, _, hseg⟩
  · simp [Value.ownBlock] at hg
  · simp [Value.ownBlock] at hg
    subst hg
    exact ⟨hb, hseg.lt⟩
theorem below_own {w w1 w' : World} {v : Value} {base : Nat} {xs : List Nat} (h : Below w.heap.size w w1) (hg : w1.grownBy w' v.ownBlock) (hb : Own base w1 v xs) (hbase : w.heap.size ≤ base) : Below w.heap.size w w' :=
  h.grown hg h.size (fun k e => by have := (hb.block k e).1; omega)

def RSub (w : World) (n : Nat) (e : Ending) (w' : World) : Prop := ∃ r, e = .returned (.tuple #[r, .bool true]) ∧ Own w.heap.size w' r (dg n) ∧ Below w.heap.size w w'
def RNoSub (w : World) (e : Ending) (w' : World) : Prop := e = .returned (.tuple #[.slice none 0 0, .bool false]) ∧ Below w.heap.size w w'

theorem below_drewN {B : Nat} {a w : World} (h : Below B a w) (n : Nat) : Below B a (w.drewN n) := ⟨h.os, h.tape, h.output, h.size, h.block⟩


end Go.Proofs.Ytkdnmmbnljaahaa

/- Steps of 'nothing below turned', one after another. -/
namespace Go.Proofs.Ytkdnmmbnljaahaa
open Go.RowKit Dig

theorem below_then {w w1 w2 : World} (h : Below w.heap.size w w1) (h2 : Below w1.heap.size w1 w2) : Below w.heap.size w w2 := h.trans (h2.mono h.size)
theorem below_undrew {w w' : World} (h : Below w.drew.heap.size w.drew w') : Below w.heap.size w w' := ⟨h.os, h.tape, h.output, h.size, h.block⟩
end Go.Proofs.Ytkdnmmbnljaahaa

/- What every text leans on: the worlds behind a call, bytes as numbers. -/
import Derived.WalkKit
import Derived.Deep.Draws
import Derived.Outline
import Derived.Lib.Hide
import Derived.Test.YtpbkmkcfhkdjjaaDoorProg
namespace Go.Proofs.YtpbkmkcfhkdjjaaDoor
open Go.RowKit
namespace Dig
def oct (n : Nat) : UInt8 := UInt8.ofNat n
theorem oct_toNat {n : Nat} (h : n < 256) : (oct n).toNat = n := by simp [oct]; omega
theorem oct_of (c : UInt8) : oct c.toNat = c := by simp [oct]
theorem oct_lt (c : UInt8) : c.toNat < 256 := c.toNat_lt
end Dig
theorem below_then {w w1 w2 : World} (h : Below w.heap.size w w1) (h2 : Below w1.heap.size w1 w2) : Below w.heap.size w w2 := h.trans (h2.mono h.size)
theorem below_undrew {w w' : World} (h : Below w.drew.heap.size w.drew w') : Below w.heap.size w w' := ⟨h.os, h.tape, h.output, h.size, h.block⟩
/-- A call that hands back v and leaves what was there. -/
def RVal (w : World) (v : Value) (e : Ending) (w' : World) : Prop := e = .returned v ∧ Below w.heap.size w w'
theorem grown_set {w wr : World} {g : Nat} (h : w.grownBy wr (some g)) (i : Nat) (u : Value) : w.grownBy (wr.setCell ⟨g, i, none⟩ u) (some g) :=
  ⟨h.os, h.tape, h.output, by simpa [World.setCell] using h.size, fun k hk hne => (Below.heap_setCell wr ⟨g, i, none⟩ u k (fun e => hne (by rw [e]))).trans (h.block k hk hne)⟩
theorem size_set (w : World) (p : Addr) (u : Value) : (w.setCell p u).heap.size = w.heap.size := by simp [World.setCell]
theorem grown_after_alloc {w w' : World} {o : Obj} {row : Option Nat} (h : (w.alloc o).grownBy w' row) : w.grownBy w' row :=
  ⟨h.os, h.tape, h.output, Nat.le_trans (by simp) h.size, fun k hk hne => (h.block k (by simp; omega) hne).trans (Below.heap_alloc w o k hk)⟩
theorem grown_trans {a b c : World} {row : Option Nat} (h : a.grownBy b row) (k : b.grownBy c row) : a.grownBy c row :=
  ⟨k.os.trans h.os, k.tape.trans h.tape, k.output.trans h.output, Nat.le_trans h.size k.size, fun i hi hne => (k.block i (Nat.lt_of_lt_of_le hi h.size) hne).trans (h.block i hi hne)⟩
end Go.Proofs.YtpbkmkcfhkdjjaaDoor

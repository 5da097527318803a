/- The program's disk: the last write is replaced, the one before it goes into the map (queue.replaceLast). -/
import Derived.WalkSpells
import Derived.Carry
import Derived.Test.YtckomifecmemnaaGreatDqe
namespace Go.Proofs.YtckomifecmemnaaGreat
open Go.RowKit Dig Go.ChangeMaps
set_option linter.unusedVariables false

section
variable {P : Program} {ops : Array Oper} {Q : Exit → Act → World → Prop} {S : World → Prop}
/-- An operation that writes and yields nothing. -/
theorem wkS_skipW {i : Nat} {r : List (Nat × Bool)} {a : Act} {w w' : World} (d : Option Tmp) (hi : (ops[i]?).isSome = true) (hd : (opI ops i).dst = d)
    (hw : Region.wanted (opI ops i) (yielded ops a.tmps) = true) (he : (execOp a.eval (opI ops i)).run P w = .ok .skip w') (hS : S w') (h : wkS P ops Q S r (a.put d undef) w') :
    wkS P ops Q S ((i, false) :: r) a w :=
  op_skip d w' hi hd hw he ⟨hS, h⟩
end
section
variable {ev : Operand → Value} {o : Oper} {w w' : World}
/-- A store into a map. -/
theorem exec_mapUpdate {t : TypeId} {m x v : Operand} {mv key val : Value} (ho : o.op = .mapUpdate t m x v) (hm : ev m = mv) (hx : ev x = key) (hv : ev v = val) (hrun : (Instr.mapUpdate t mv key val).run Tryz.prog w = .ok () w') :
    (execOp ev o).run Tryz.prog w = .ok .skip w' := by
  simp [execOp, ho, hm, hx, hv, hrun, Result.andThen]
end
/-- The cells of a write. -/
def wrC (q b : Nat) : List Value := [.int .i64 (q : Int), .slice (some ⟨b, 0, none⟩) 64 64]
theorem wrC_one (q b : Nat) : ∀ u ∈ wrC q b, u.oneCell' = true := by
  intro u hu
  simp only [wrC, List.mem_cons, List.not_mem_nil, or_false] at hu
  rcases hu with rfl | rfl <;> rfl
section
variable {w w' : World} {F : Nat → Prop} {G : Nat → Prop} {g bd bv k n b q : Nat} {ve : Value} {t : Tl} {on : Bool} {c : Int} {es : List Ent} {ls : List (Nat × List UInt8)} {L V : List (List UInt8)} {x : List UInt8}
theorem FldG.last (h : FldG w g bd bv ve k t n on c) (q b : Nat) : FldG (spl w g 4 (wrC q b)) g bd bv ve k (.int .i64 (q : Int), .slice (some ⟨b, 0, none⟩) 64 64, t.2.2) n on c := by
  unfold FldG at h ⊢
  unfold spl
  rw [h]
  exact setRow_heap w g _ _ _ (0, 0) h
/-- The last write is stored. -/
theorem wp_storeL {ops : Array Oper} {rest : List Oper} {o : Oper} {a : Act} {Q : Exit → Act → World → Prop} (h : FldG w g bd bv ve k t n on c) (hgd : o.guard = none) (p s : Tmp) (ho : o.op = .store 55 (.tmp p) (.tmp s)) (hx : a.eval (.tmp p) = .pointer (some ⟨g, 4, none⟩)) (hy : a.eval (.tmp s) = .agg (wrC q b).toArray)
    (hh : ∀ w', FldG w' g bd bv ve k (.int .i64 (q : Int), .slice (some ⟨b, 0, none⟩) 64 64, t.2.2) n on c → w.grownBy w' (some g) → wpList Tryz.prog ops Q rest (a.put o.dst undef) w') : wpList Tryz.prog ops Q (o :: rest) a w := by
  refine wpList_plain hgd fun K hK => ?_
  have hr := exec_storeC (w := w) (ev := a.eval) (o := o) p s (cs := wrC q b) size_wr h (by show 4 + 2 ≤ 9; omega) (wrC_one q b) ho hx hy
  unfold Oper.wp
  rw [hr]
  exact hK _ _ (hh _ (h.last q b) (grown_spl (World.grownBy.refl _ _)))
/-- The load of a whole write. -/
theorem wp_loadW {ops : Array Oper} {rest : List Oper} {o : Oper} {a : Act} {Q : Exit → Act → World → Prop} (hgd : o.guard = none) (t : Tmp) (ho : o.op = .load 55 (.tmp t)) (b off : Nat) (cs : List Value) (hx : a.eval (.tmp t) = .pointer (some ⟨b, off, none⟩)) (hr : w.rangeAt b off cs) (hl : cs.length = 2)
    (h : wpList Tryz.prog ops Q rest (a.put o.dst (.agg cs.toArray)) w) : wpList Tryz.prog ops Q (o :: rest) a w := by
  refine wpList_plain hgd fun K hK => ?_
  have hrun := exec_loadC (w := w) (ev := a.eval) (o := o) t Tryz.underlying55 rfl (cs := cs) (by rw [hl]; exact size_wr) hr ho hx
  unfold Oper.wp
  rw [hrun]
  exact hK _ _ h
theorem range_whole {cs : List Value} {T : TypeId} (h : w.heap[b]? = some (.cells cs.toArray T (0, 0))) : w.rangeAt b 0 cs := fun j u hj => by
  rw [cell_of_row w b _ _ _ (0, 0) h, Nat.zero_add, List.getElem?_toArray]
  exact hj
/-- A row is no map. -/
theorem Late.notMap {cs : Array Value} {T : TypeId} {fr : Nat × Nat} (h : Late w G t ls) (hc : w.heap[b]? = some (.cells cs T fr)) : t.2.2 ≠ .map (some b) := by
  rcases h with ⟨_, h⟩ | ⟨ms, p, b', mv, _, h2, _, _, _, h6⟩
  · subst h
    intro e
    cases e
  · subst h2
    rcases h6 with ⟨_, h⟩ | ⟨bm, n, D, _, h, _, h4, _⟩
    · show mv ≠ _
      rw [h]
      intro e
      cases e
    · show mv ≠ _
      rw [h]
      intro e
      cases e
      obtain ⟨es, clock, hb, _⟩ := h4
      rw [hc] at hb
      cases hb
/-- What replaceLast leaves. -/
def Repl (w : World) (F : Nat → Prop) (g bd bv : Nat) (ve : Value) (t : Tl) (n : Nat) (on : Bool) (c : Int) (k q b : Nat) (ls : List (Nat × List UInt8)) (w' : World) : Prop :=
  ∃ mv, FldG w' g bd bv ve k (.int .i64 (q : Int), .slice (some ⟨b, 0, none⟩) 64 64, mv) n on c ∧ MapL w' (Besd (More F w w') g bd bv ve) mv ls ∧ mv ≠ .map (some b) ∧
    w'.os = w.os ∧ w'.tape = w.tape ∧ w'.output = w.output ∧ w.heap.size ≤ w'.heap.size ∧ ∀ j, j < w.heap.size → j ≠ g → t.2.2 ≠ .map (some j) → w'.heap[j]? = w.heap[j]?
/-- A write goes into a map that is there. -/
theorem MapL.put {bm n : Nat} {D : DataW Unit} {ms : List (Nat × List UInt8)} {p : Nat × List UInt8} {b : Nat} (h4 : w.ownsMap Tryz.prog 3 blkR bm n D) (h5 : n ≤ ms.length) (h6 : Maps.IsMap D) (h7 : Holds w (fun b => G b ∧ b ≠ bm) D ms) (hm : G bm) (hlen : ms.length ≤ 1000000)
    (hp : p.1 ≤ 1000000) (hb : LetB w b p.2) (hG : G b) (hne : b ≠ bm) : ∃ w', (Instr.mapUpdate 56 (.map (some bm)) (.int .i64 (p.1 : Int)) (.slice (some ⟨b, 0, none⟩) 64 64)).run Tryz.prog w = .ok () w' ∧ w.grownBy w' (some bm) ∧ MapL w' G (.map (some bm)) (ms ++ [p]) := by
  obtain ⟨w', hrun, r1, r2⟩ := h4.update int_key Tryz.underlying56 (by unfold maxLen; omega) (key_of hp) (blkR_of b)
  have hq := h7.put h6 hp hb ⟨hG, hne⟩
  refine ⟨w', hrun, r2, .inr ⟨bm, n + 1, _, by simp, rfl, hm, r1, by rw [List.length_append]; show n + 1 ≤ ms.length + 1; omega, r1.isMap, hq.keep (fun j hj hg => r2.block j hj (fun e => hg.2 (by injection e))) fun _ _ h => h⟩⟩
end
end Go.Proofs.YtckomifecmemnaaGreat

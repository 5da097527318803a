/- Slices beside a disk; the states of DiskFails. -/
import Derived.Test.YthknlimhenbhfaaDkz
namespace Go.Proofs.Ythknlimhenbhfaa
open Go.RowKit Dig
set_option linter.unusedVariables false

/-- The row of a slice is no block of the disk. -/
def Asd (fp : World → Nat → Nat → Prop) (w : World) (g : Nat) (r : Value) : Prop := ∀ b, r.ownBlock = some b → b < w.heap.size ∧ ¬ fp w g b
section
variable {D : World → Nat → DS → Prop} {fp : World → Nat → Nat → Prop} {w w' : World} {g B : Nat} {s s' : DS} {v r : Value} {ts : List UInt8} {e : Ending}
theorem Asd.below (P : Prog6 D fp) (hD : D w g s) (h : Asd fp w g r) (hB : Below w.heap.size w w') : Asd fp w' g r := fun b hb => by
  obtain ⟨h1, h2⟩ := h b hb
  have hk := P.keep hD hB.size (fun b hb _ => hB.block b hb)
  exact ⟨Nat.lt_of_lt_of_le h1 hB.size, fun hF => h2 (hk.2 b hF)⟩
theorem Asd.prog (h : Asd fp w g r) (hd : PDk D fp w g v s' e w') : Asd fp w' g r := fun b hb => by
  obtain ⟨h1, h2⟩ := h b hb
  obtain ⟨_, _, ⟨_, _, _, t4, _⟩, hf⟩ := hd
  exact ⟨Nat.lt_of_lt_of_le h1 t4, fun hF => (hf b hF).elim h2 (fun h => by omega)⟩
theorem Asd.own (P : Prog6 D fp) (hD : D w g s) (hB : Below w.heap.size w w') (hr : OwB w.heap.size w' r ts) : Asd fp w' g r := fun b hb => by
  obtain ⟨h1, h2⟩ := hr.block b hb
  have hk := P.keep hD hB.size (fun b hb _ => hB.block b hb)
  exact ⟨h2, fun hF => by have := P.fpLt hD (hk.2 _ hF); omega⟩
/-- Bytes beside the disk stay. -/
theorem Byt.aside (h : Byt w r ts) (ha : Asd fp w g r) (hd : PDk D fp w g v s' e w') : Byt w' r ts := by
  obtain ⟨_, _, ⟨_, _, _, t4, t5⟩, _⟩ := hd
  obtain ⟨A, c, h1, h2, h3, h5⟩ := h
  refine ⟨A, c, h1, h2, h3, fun hp => ?_⟩
  obtain ⟨b, off, e, hlt, hc⟩ := h5 hp
  subst e
  obtain ⟨_, hn⟩ := ha b (by rw [h1]; rfl)
  refine ⟨b, off, rfl, Nat.lt_of_lt_of_le hlt t4, fun j hj => ?_⟩
  rw [World.cell?_of_block (a := ⟨b, off + j, none⟩) (t5 b hlt hn)]
  exact hc j hj
end
/-! The states of DiskFails. -/
def fs (k i : Nat) (ts : List UInt8) : DS := { dur := List.replicate 8 (List.replicate 64 0), pend := (List.range i).map fun t => (t, padS ts), off := false, armed := true, left := k - i }
def ft (k : Nat) (ts : List UInt8) : DS := { fs k k ts with armed := false, off := true }
def fu (k : Nat) (ts : List UInt8) : DS := powerS (ft k ts)
theorem fs_start (k : Nat) (ts : List UInt8) : failAfterS (newS 8) (k : Int) = fs k 0 ts := by
  unfold failAfterS fs newS
  simp
theorem fs_bad {k i : Nat} {ts : List UInt8} {a : Nat} {n : Nat} (ha : a < 8) (hn : n ≤ 64) : badS (fs k i ts) (a : Int) n = 0 := by
  unfold badS
  rw [if_neg (by show ¬ (false = true); simp), if_neg (by show ¬ ((a : Int) < 0 ∨ ((List.replicate 8 (List.replicate 64 (0 : UInt8))).length : Int) ≤ a); rw [List.length_replicate]; omega), if_neg (by omega)]
theorem fs_write {k i : Nat} {ts : List UInt8} (hi : i < k) (hk : k ≤ 7) (ht : ts.length ≤ 64) : writeS (fs k i ts) (i : Int) ts = (0, fs k (i + 1) ts) := by
  have hf : failsS (fs k i ts) = (false, { fs k i ts with left := k - i - 1 }) := by
    unfold failsS
    rw [if_neg (by show ¬ (true = false); simp), if_pos (by show 0 < k - i; omega)]
    rfl
  unfold writeS
  rw [fs_bad (by omega) ht, if_neg (by simp), hf, if_neg (by simp), Int.toNat_natCast]
  show (0, ({ dur := _, pend := _, off := _, armed := _, left := _ } : DS)) = (0, ({ dur := _, pend := _, off := _, armed := _, left := _ } : DS))
  rw [List.range_succ, List.map_append, show k - i - 1 = k - (i + 1) by omega]
  rfl
theorem fs_range (k i : Nat) (ts : List UInt8) : writeS (fs k i ts) 99 ts = (6, fs k i ts) := by
  have hb : badS (fs k i ts) 99 ts.length = 6 := by
    unfold badS
    rw [if_neg (by show ¬ (false = true); simp), if_pos (by right; show ((List.replicate 8 (List.replicate 64 (0 : UInt8))).length : Int) ≤ 99; rw [List.length_replicate]; omega)]
  unfold writeS
  rw [hb, if_pos (by simp)]
theorem fs_lost (k : Nat) (ts : List UInt8) : writeS (fs k k ts) 7 [108, 111, 115, 116] = (10, ft k ts) := by
  have hb : badS (fs k k ts) 7 ([108, 111, 115, 116] : List UInt8).length = 0 := fs_bad (a := 7) (by omega) (by decide)
  have hf : failsS (fs k k ts) = (true, ft k ts) := by
    unfold failsS
    rw [if_neg (by show ¬ (true = false); simp), if_neg (by show ¬ 0 < k - k; omega)]
    rfl
  unfold writeS
  rw [hb, if_neg (by simp), hf, if_pos rfl]
theorem ft_flush (k : Nat) (ts : List UInt8) : flushS (ft k ts) = (10, ft k ts) := by
  unfold flushS
  rw [if_pos (show (ft k ts).off = true from rfl)]
theorem fu_pend (k : Nat) (ts : List UInt8) : (fu k ts).pend.length = k := by
  show ((List.range k).map fun t => (t, padS ts)).length = k
  simp
theorem fs_pend (k i : Nat) (ts : List UInt8) : (fs k i ts).pend.length = i := by
  show ((List.range i).map fun t => (t, padS ts)).length = i
  simp
theorem ft_pend (k : Nat) (ts : List UInt8) : (ft k ts).pend.length = k := fs_pend k k ts
theorem fs_few {k i : Nat} {ts : List UInt8} (h : i ≤ 7) : fewD (fs k i ts) := ⟨by show (List.replicate 8 (List.replicate 64 (0 : UInt8))).length ≤ 10000; rw [List.length_replicate]; omega, by rw [fs_pend]; omega⟩
theorem ft_few {k : Nat} {ts : List UInt8} (h : k ≤ 7) : fewD (ft k ts) := fs_few (k := k) (i := k) (ts := ts) h
theorem fu_few {k : Nat} {ts : List UInt8} (h : k ≤ 7) : fewD (fu k ts) := fs_few (k := k) (i := k) (ts := ts) h
theorem fold_apart (q : Nat) : ∀ (P : List (Nat × List UInt8)) (L : List (List UInt8)), (∀ p ∈ P, p.1 ≠ q) → (P.foldl put1 L).getD q [] = L.getD q []
  | [], L, _ => rfl
  | p :: P, L, h => by
    rw [List.foldl_cons, fold_apart q P (put1 L p) (fun x hx => h x (by simp [hx]))]
    unfold put1
    rw [List.getD_eq_getElem?_getD, List.getD_eq_getElem?_getD, List.getElem?_set_ne (h p (by simp))]
theorem fu_read {k : Nat} {ts : List UInt8} (h : k ≤ 7) : readS (fu k ts) 7 = (0, List.replicate 64 0) := by
  have hb : badS (fu k ts) 7 0 = 0 := fs_bad (k := k) (i := k) (ts := ts) (a := 7) (n := 0) (by omega) (by omega)
  unfold readS
  rw [hb, if_neg (by simp)]
  have e : (secs (fu k ts)).getD 7 [] = List.replicate 64 0 := by
    show ((((List.range k).map fun t => (t, padS ts)).foldl put1 (List.replicate 8 (List.replicate 64 (0 : UInt8)))).getD 7 []) = _
    rw [fold_apart 7 _ _ (fun p hp => by obtain ⟨t, ht, rfl⟩ := List.mem_map.1 hp; have := List.mem_range.1 ht; show t ≠ 7; omega)]
    rfl
  show (0, (secs (fu k ts)).getD 7 []) = _
  rw [e]
def fv (k : Nat) (ts : List UInt8) : DS := { fu k ts with pend := (fu k ts).pend ++ [(7, padS ts)] }
theorem fu_write {k : Nat} {ts : List UInt8} (ht : ts.length ≤ 64) : writeS (fu k ts) 7 ts = (0, fv k ts) := by
  have hb : badS (fu k ts) 7 ts.length = 0 := fs_bad (k := k) (i := k) (ts := ts) (a := 7) (by omega) ht
  have hf : failsS (fu k ts) = (false, fu k ts) := by
    unfold failsS
    rw [if_pos (show (fu k ts).armed = false from rfl)]
  unfold writeS
  rw [hb, if_neg (by simp), hf, if_neg (by simp)]
  rfl
theorem fv_flush (k : Nat) (ts : List UInt8) : (flushS (fv k ts)).1 = 0 := by
  have hf : failsS (fv k ts) = (false, fv k ts) := by
    unfold failsS
    rw [if_pos (show (fv k ts).armed = false from rfl)]
  unfold flushS
  rw [if_neg (by show ¬ (false = true); simp), hf, if_neg (by simp)]
theorem fv_few {k : Nat} {ts : List UInt8} (h : k ≤ 7) : fewD (fv k ts) := by
  have h1 := fu_few (k := k) (ts := ts) h
  refine ⟨h1.1, ?_⟩
  show ((fu k ts).pend ++ [(7, padS ts)]).length ≤ 62
  rw [List.length_append, fu_pend]
  simp
  omega
end Go.Proofs.Ythknlimhenbhfaa

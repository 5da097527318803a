/- The contract of GCD where the second number is 0. -/
import Derived.Test.YtgjhgpfjeoeojaaDoorAdds
import Derived.Test.YtgjhgpfjeoeojaaDoorTexts
import Derived.Test.YtgjhgpfjeoeojaaDoorDivs
import Derived.Test.YtgjhgpfjeoeojaaDoorRefd
namespace Go.Proofs.YtgjhgpfjeoeojaaDoor
open Go.RowKit Dig
set_option linter.unusedVariables false

set_option maxHeartbeats 1000000 in
theorem gcd_zero (w : World) (va vb : Value) (xs ys : List Nat) (ha : Num w va xs) (hb : Num w vb ys) (h0 : val ys = 0) (hz : xs.length ≤ 4398046511104) :
    Calls Tryd.prog 44 #[va, vb] w (RNat w (val xs)) := by
  have Ta := Lib.hid (trim_n w va xs ha)
  have T2 := trim_n w vb ys hb
  rw [h0] at T2
  have Tb := Lib.hid T2
  have hla := dg_length_val xs ha.small
  go_enter Tryd.func44, Tryd.ntmps44
  go_wp2_with fail
  refine (Ta.out).mono ?_
  rintro e w' ⟨A, c, rfl, hA, rfl⟩
  go_wp2_with fail
  refine (Tb.out).mono ?_
  rintro e w' ⟨A', c', rfl, hA', rfl⟩
  have C := cmp_c w _ _ _ _ hA hA'
  have hcm : 0 ≤ cmpI (val xs) 0 ∧ cmpI (val xs) 0 ≤ 1 := by
    rcases Nat.eq_zero_or_pos (val xs) with h | h
    · rw [h, cmpI_eq]; omega
    · rw [cmpI_gt h]; omega
  rw [val_dg, val_dg] at C
  have NN := fun w1 hB => normalize_c w1 _ _ (Num.below (w' := w1) hA hB) (by omega)
  rw [val_dg] at NN
  have HNN := Lib.hid NN
  generalize cmpI (val xs) 0 = cz at *
  obtain ⟨hc0, hc1⟩ := hcm
  have HC := Lib.hid C
  rw [show (dg 0).length = 0 from rfl] at *
  clear C NN T2
  go_wp2_with fail
  refine (HC.out).mono ?_
  rintro e w1 ⟨rfl, N, rfl⟩
  have hBN := below_drewN (Below.refl w.heap.size w) N
  go_wp2_with fail
  go_loopw [0, 1] (fun x y wr => x = .slice A (dg (val xs)).length c ∧ y = .slice A' 0 c' ∧ wr = w.drewN N) (fun _ _ _ => 0)
  case atStart => exact ⟨rfl, rfl, rfl⟩
  case round =>
    obtain ⟨rfl, rfl, rfl⟩ := hrel
    go_wp2_with fail
    refine (HNN.out _ hBN).mono ?_
    rintro e w2 ⟨r, rfl, hO, hB2⟩
    go_wp2_with fail
    go_ret
    exact ⟨_, rfl, hO.mono hBN.size, below_then hBN hB2⟩
end Go.Proofs.YtgjhgpfjeoeojaaDoor

/- Slices whose digits may be overwritten; the contracts of NatDivMod and of GCD with 0 in the form in which the laws use them. -/
namespace Go.Proofs.YtgjhgpfjeoeojaaDoor
open Go.RowKit Dig
set_option linter.unusedVariables false

/-- The digits of v lie in a block from B on, and may be written. -/
def Wrt (B : Nat) (w : World) (v : Value) : Prop :=
  ∃ A n c, v = .slice A n c ∧ n ≤ c ∧ c ≤ 9223372036854775807 ∧ (0 < n → ∃ b cells t, A = some ⟨b, 0, none⟩ ∧ B ≤ b ∧ w.heap[b]? = some (.cells cells t (0, 0)) ∧ n ≤ cells.size)
section
variable {B : Nat} {w w' : World} {v : Value} {n : Nat}
theorem Wrt.nil (B : Nat) (w : World) : Wrt B w (.slice none 0 0) := ⟨none, 0, 0, rfl, Nat.le_refl _, by omega, fun h => absurd h (by omega)⟩
theorem Wrt.of {base : Nat} {xs : List Nat} (h : Own base w v xs) (hb : B ≤ base) : Wrt B w v := by
  obtain ⟨hs, h⟩ := h
  rcases h with ⟨rfl, rfl⟩ | ⟨g, rest, rfl, hg, hm, hh⟩
  · exact Wrt.nil B w
  · exact ⟨_, _, _, rfl, by omega, by unfold maxLen at hm; omega, fun hp => ⟨g, _, _, rfl, by omega, hh, by simp [U_length]⟩⟩
theorem Wrt.keep (h : Wrt B w v) (hk : ∀ b, B ≤ b → ∀ cells t, w.heap[b]? = some (.cells cells t (0, 0)) → ∃ cells' : Array Value, w'.heap[b]? = some (.cells cells' t (0, 0)) ∧ cells'.size = cells.size) : Wrt B w' v := by
  obtain ⟨A, n, c, e, hn, hc, hp⟩ := h
  refine ⟨A, n, c, e, hn, hc, fun h0 => ?_⟩
  obtain ⟨b, cells, t, eA, hb, hh, hz⟩ := hp h0
  obtain ⟨cells', h1, h2⟩ := hk b hb cells t hh
  exact ⟨b, cells', t, eA, hb, h1, by omega⟩
theorem block_lt {b : Nat} {o : Obj} (h : w.heap[b]? = some o) : b < w.heap.size := by
  rcases Nat.lt_or_ge b w.heap.size with hlt | hge
  · exact hlt
  · rw [Array.getElem?_eq_none hge] at h; cases h
theorem Wrt.below (h : Wrt B w v) (hb : Below w.heap.size w w') : Wrt B w' v :=
  h.keep fun b _ cells t hh => ⟨cells, (hb.block b (block_lt hh)).trans hh, rfl⟩
theorem Wrt.set (h : Wrt B w v) (g off : Nat) (u : Value) : Wrt B (w.setCell ⟨g, off, none⟩ u) v := by
  refine h.keep fun b _ cells t hh => ?_
  by_cases e : b = g
  · subst e
    refine ⟨cells.setIfInBounds off u, ?_, by simp⟩
    simp only [World.setCell, Array.getElem?_modify, hh]
    simp
  · exact ⟨cells, (Below.heap_setCell w ⟨g, off, none⟩ u b e).trans hh, rfl⟩
theorem Wrt.apart (h : Wrt B w v) {g : Nat} (hg : w.heap.size ≤ g) : ∀ b off n c, v = .slice (some ⟨b, off, none⟩) n c → 0 < n → b ≠ g := by
  obtain ⟨A, n, c, rfl, hn, hc, hp⟩ := h
  rintro b off n' c' e h0 rfl
  simp only [Value.slice.injEq] at e
  obtain ⟨rfl, rfl, rfl⟩ := e
  obtain ⟨b', cells, t, eA, hb, hh, hz⟩ := hp h0
  simp only [Option.some.injEq, Addr.mk.injEq, and_true] at eA
  obtain ⟨rfl, rfl⟩ := eA
  have := block_lt hh
  omega
end
/-- Block g holds the list L of slices of digits. -/
def Lst (g : Nat) (L : List Value) (w : World) : Prop := w.heap[g]? = some (.cells L.toArray 23 (0, 0))
/-- The digits of each slice of L may be written, and lie in other blocks than g. -/
def AllW (B g : Nat) (L : List Value) (w : World) : Prop := ∀ v ∈ L, Wrt B w v ∧ ∀ b off n c, v = .slice (some ⟨b, off, none⟩) n c → 0 < n → b ≠ g
section
variable {B g : Nat} {L : List Value} {w w' : World} {v : Value}
theorem Lst.cell (h : Lst g L w) {m : Nat} {v : Value} (hv : L[m]? = some v) : w.cell? ⟨g, m, none⟩ = some v := by
  unfold Lst at h
  rw [cell_of_row w g _ _ _ (0, 0) h]
  simpa using hv
theorem Lst.set (h : Lst g L w) {b : Nat} (hb : b ≠ g) (o : Nat) (u : Value) : Lst g L (w.setCell ⟨b, o, none⟩ u) := (Below.heap_setCell w ⟨b, o, none⟩ u g (fun e => hb e.symm)).trans h
theorem Lst.drewN (h : Lst g L w) (n : Nat) : Lst g L (w.drewN n) := h
theorem AllW.set (h : AllW B g L w) (b o : Nat) (u : Value) : AllW B g L (w.setCell ⟨b, o, none⟩ u) := fun v hv => ⟨(h v hv).1.set b o u, (h v hv).2⟩
theorem AllW.drewN (h : AllW B g L w) (n : Nat) : AllW B g L (w.drewN n) := h
theorem AllW.form (h : AllW B g L w) {m : Nat} (hm : m < L.length) : ∃ A n c, L[m]? = some (.slice A n c) ∧ n ≤ c ∧ c ≤ 9223372036854775807 := by
  obtain ⟨⟨A, n, c, e, hn, hc, _⟩, _⟩ := h L[m] (List.getElem_mem hm)
  exact ⟨A, n, c, by rw [List.getElem?_eq_getElem hm, e], hn, hc⟩
theorem AllW.spot (h : AllW B g L w) {m : Nat} {A : Option Addr} {n c q : Nat} (hm : L[m]? = some (.slice A n c)) (hq : q < n) :
    ∃ b u, A = some ⟨b, 0, none⟩ ∧ B ≤ b ∧ b ≠ g ∧ w.cell? ⟨b, q, none⟩ = some u ∧ w.frozen? ⟨b, q, none⟩ = false := by
  obtain ⟨⟨A', n', c', e, hn, hc, hp⟩, ha⟩ := h _ (List.mem_of_getElem? hm)
  simp only [Value.slice.injEq] at e
  obtain ⟨rfl, rfl, rfl⟩ := e
  obtain ⟨b, cells, t, rfl, hb, hh, hz⟩ := hp (by omega)
  refine ⟨b, cells[q], rfl, hb, ha b 0 n c rfl (by omega), ?_, ?_⟩
  · rw [cell_of_row w b _ _ _ (0, 0) hh]
    simp [Array.getElem?_eq_getElem (show q < cells.size by omega)]
  · simp [World.frozen?, hh]
theorem AllW.of (h : ∀ v ∈ L, Wrt B w v) (hg : w.heap.size = g) (hb : Below w.heap.size w w') : AllW B g L w' := fun v hv => ⟨(h v hv).below hb, (h v hv).apart (by omega)⟩
end
section
variable {w : World} {va vb : Value} {a b k l : Nat}
theorem NumV.nil (w : World) : NumV w (.slice none 0 0) 0 0 := ⟨[], Num.nil _, rfl, Nat.le_refl _⟩
theorem Can.nil (w : World) : Can w (.slice none 0 0) 0 8 := ⟨Num.nil _, by decide⟩
theorem natDiv_v (ha : NumV w va a k) (hb : NumV w vb b l) (hk : k ≤ 1000000) (hl : l ≤ 1000000) (h0 : 0 < b) :
    Calls Tryd.prog 48 #[va, vb] w fun e w' => ∃ q r, e = .returned (.tuple #[q, r, .bool true]) ∧ Can w' q (a / b) k ∧ Can w' r (a % b) k ∧ Own w.heap.size w' q (dg (a / b)) ∧ Own w.heap.size w' r (dg (a % b)) ∧ Below w.heap.size w w' := by
  have hf := ha.lt
  obtain ⟨L, h1, h2, h3⟩ := ha
  obtain ⟨M, g1, g2, g3⟩ := hb
  subst h2
  subst g2
  exact (natDiv_c w va vb L M h1 g1 (by omega) (by omega) h0).mono fun e w' ⟨q, r, x, y, z, t⟩ => ⟨q, r, x, ⟨y.num, Nat.lt_of_le_of_lt (Nat.div_le_self _ _) hf⟩, ⟨z.num, Nat.lt_of_le_of_lt (Nat.mod_le _ _) hf⟩, y, z, t⟩
theorem natDiv0_v (ha : NumV w va a k) (hb : NumV w vb 0 l) (hk : k ≤ 1000000) (hl : l ≤ 1000000) :
    Calls Tryd.prog 48 #[va, vb] w fun e w' => e = .returned (.tuple #[.slice none 0 0, .slice none 0 0, .bool false]) ∧ Below w.heap.size w w' := by
  obtain ⟨L, h1, h2, h3⟩ := ha
  obtain ⟨M, g1, g2, g3⟩ := hb
  exact natDiv_zero w va vb L M h1 g1 (by omega) (by omega) g2
theorem gcd0_v (ha : NumV w va a k) (hb : NumV w vb 0 l) (hk : k ≤ 1000000) : Calls Tryd.prog 44 #[va, vb] w (RCan w a k) := by
  have hf := ha.lt
  obtain ⟨L, h1, h2, h3⟩ := ha
  obtain ⟨M, g1, g2, g3⟩ := hb
  subst h2
  exact (gcd_zero w va vb L M h1 g1 g2 (by omega)).mono fun e w' h => RCan.of h hf
theorem baseNum_v {ls : List Nat} (h : Num w va ls) : Calls Tryd.prog 38 #[va] w fun e w' => ∃ r, e = .returned r ∧ Num w' r (mkn ls) ∧ Below w.heap.size w w' :=
  (base_c w va ls h).mono fun e w' ⟨r, x, y, z⟩ => ⟨r, x, y.num, z⟩
end
end Go.Proofs.YtgjhgpfjeoeojaaDoor

/- What Crash stores byte by byte; the address of an array's element; a cell of an own row. -/
import Derived.Test.YthknlimhenbhfaaDkv
namespace Go.Proofs.Ythknlimhenbhfaa
open Go.RowKit Dig
set_option linter.unusedVariables false
section
variable {α : Type} (f : α → List Value) {K : Nat}
theorem flat_set (v : Value) : ∀ (L : List α) (i k : Nat) (y : α) (hi : i < L.length), k < K → (∀ x ∈ L, (f x).length = K) → f y = (f L[i]).set k v → (L.map f).flatten.set (i * K + k) v = ((L.set i y).map f).flatten
  | [], _, _, _, hi, _, _, _ => by simp at hi
  | x :: L, 0, k, y, hi, hk, h, hy => by
    simp only [List.map_cons, List.flatten_cons, Nat.zero_mul, Nat.zero_add, List.set_cons_zero, List.getElem_cons_zero] at hy ⊢
    rw [hy, List.set_append_left _ _ (by rw [h x (by simp)]; exact hk)]
  | x :: L, i + 1, k, y, hi, hk, h, hy => by
    have := flat_set v L i k y (by simpa using hi) hk (fun z hz => h z (by simp [hz])) (by simpa using hy)
    have hx := h x (by simp)
    simp only [List.map_cons, List.flatten_cons, List.set_cons_succ]
    have hle : K ≤ (i + 1) * K + k := by rw [Nat.add_mul, Nat.one_mul]; omega
    rw [List.set_append_right _ _ (by rw [hx]; exact hle), hx, show (i + 1) * K + k - K = i * K + k by rw [Nat.add_mul, Nat.one_mul]; omega, this]
end
theorem secC_byte {L : List (List UInt8)} {i k : Nat} {c : UInt8} (hi : i < L.length) (hk : k < 64) (h : ∀ x ∈ L, x.length = 64) : (secC L).set (i * 64 + k) (.int .u8 (c.toNat : Int)) = secC (L.set i (L[i].set k c)) :=
  flat_set Y _ L i k _ hi hk (fun x hx => by rw [Y_length]; exact h x hx) (by simp [Y, List.map_set])
section
variable {w : World} {base n k : Nat} {e : TypeId} {g cap : Nat} {vs : List Value}
theorem own_put {o : Nat} (h : w.ownsRow base e k (.slice (some ⟨g, 0, none⟩) n cap) n vs) (ho : o < n * k) (v : Value) : (w.setCell ⟨g, o, none⟩ v).ownsRow base e k (.slice (some ⟨g, 0, none⟩) n cap) n (vs.set o v) ∧ base ≤ g ∧ w.frozen? ⟨g, o, none⟩ = false ∧ ∃ u, w.cell? ⟨g, o, none⟩ = some u := by
  obtain ⟨cur, h1, h2, h3, h4, h5, h6, h7⟩ := own_cur h
  have hk : n * k ≤ cap * k := Nat.mul_le_mul_right k h3
  have hc : o < cur.size := by omega
  refine ⟨⟨by rw [List.length_set]; exact h7, .inr ⟨g, cap, cur.setIfInBounds o v, rfl, h1, ?_, h3, h4, by simpa using h5, ?_⟩⟩, h1, by simp [World.frozen?, h2], cur[o], ?_⟩
  · simp [World.setCell, Array.getElem?_modify, h2]
  · rw [Array.toList_setIfInBounds, List.take_set, h6]
  · rw [cell_of_row w g o _ _ (0, 0) h2]
    simp [hc]
end
section
variable {ev : Operand → Value} {o : Oper} {w : World}
/-- The address of a byte of a sector. -/
theorem exec_indexA (x i : Tmp) {b off j : Nat} (ho : o.op = .indexAddr 72 (.tmp x) (.tmp i)) (hx : ev (.tmp x) = .pointer (some ⟨b, off, none⟩)) (hi : ev (.tmp i) = .int .i64 (j : Int)) (hj : j < 64) :
    (execOp ev o).run Try.prog w = .ok (.value (.pointer (some ⟨b, off + j, none⟩))) w := by
  have hji : (j : Int) < 64 := by omega
  unfold execOp
  simp only [ho, hx, hi]
  go_simp
end
/-! ### Crash, write by write -/
theorem crashL_snoc (keep last : Nat) (torn : Int) : ∀ (P : List (Nat × List UInt8)) (L : List (List UInt8)) (i : Nat) (p : Nat × List UInt8), crashL keep last torn L i (P ++ [p]) = crash1 keep last torn (crashL keep last torn L i P) (i + P.length) p
  | [], L, i, p => rfl
  | q :: P, L, i, p => by
    show crashL keep last torn (crash1 keep last torn L i q) (i + 1) (P ++ [p]) = _
    rw [crashL_snoc keep last torn P, List.length_cons, show i + 1 + P.length = i + (P.length + 1) by omega]
    rfl
theorem crash1_length (keep last : Nat) (torn : Int) (L : List (List UInt8)) (i : Nat) (p : Nat × List UInt8) : (crash1 keep last torn L i p).length = L.length := by
  unfold crash1
  split
  · exact List.length_set
  · rfl
theorem torn_le (last : Nat) (torn : Int) (i : Nat) : tornS last torn i ≤ 64 := by
  unfold tornS
  split <;> omega
/-- A sector the first k bytes of which are new. -/
def mixS (y x : List UInt8) (k : Nat) : List UInt8 := y.take k ++ x.drop k
theorem mixS_length {y x : List UInt8} {k : Nat} (hy : y.length = 64) (hx : x.length = 64) (hk : k ≤ 64) : (mixS y x k).length = 64 := by simp [mixS, hy, hx]; omega
theorem mixS_zero (y x : List UInt8) : mixS y x 0 = x := by simp [mixS]
theorem mixS_set {y x : List UInt8} {k : Nat} (hy : y.length = 64) (hx : x.length = 64) (hk : k < 64) : (mixS y x k).set k (y.getD k 0) = mixS y x (k + 1) := by
  refine List.ext_getElem (by rw [List.length_set, mixS_length hy hx (by omega), mixS_length hy hx (by omega)]) fun i h1 h2 => ?_
  rw [List.length_set, mixS_length hy hx (by omega)] at h1
  rw [List.getElem_set]
  have hky : k < y.length := by omega
  by_cases e : k = i
  · subst e
    rw [if_pos rfl, List.getD_eq_getElem?_getD, List.getElem?_eq_getElem hky]
    simp only [mixS, List.getElem_append, List.length_take, List.getElem_take, List.getElem_drop, Option.getD_some]
    rw [dif_pos (by omega)]
  · rw [if_neg e]
    simp only [mixS, List.getElem_append, List.length_take, List.getElem_take, List.getElem_drop]
    by_cases hi : i < k
    · rw [dif_pos (by omega), dif_pos (by omega)]
    · rw [dif_neg (by omega), dif_neg (by omega)]
      congr 1
      omega
theorem crash1_ok {keep last : Nat} {torn : Int} {L : List (List UInt8)} {i : Nat} {p : Nat × List UInt8} (h : ∀ x ∈ L, x.length = 64) (hp : p.1 < L.length ∧ p.2.length = 64) : ∀ x ∈ crash1 keep last torn L i p, x.length = 64 := by
  intro x hx
  unfold crash1 at hx
  split at hx
  · rcases List.mem_or_eq_of_mem_set hx with h1 | h1
    · exact h x h1
    · rw [h1]
      have hg : (L.getD p.1 []).length = 64 := by
        rw [List.getD_eq_getElem?_getD, List.getElem?_eq_getElem hp.1]
        exact h _ (List.getElem_mem hp.1)
      exact mixS_length hp.2 hg (torn_le _ _ _)
  · exact h x hx
theorem crashL_ok (keep last : Nat) (torn : Int) : ∀ (P : List (Nat × List UInt8)) (L : List (List UInt8)) (i : Nat), (∀ x ∈ L, x.length = 64) → (∀ p ∈ P, p.1 < L.length ∧ p.2.length = 64) → (∀ x ∈ crashL keep last torn L i P, x.length = 64) ∧ (crashL keep last torn L i P).length = L.length
  | [], L, i, h, _ => ⟨h, rfl⟩
  | p :: P, L, i, h, hp => by
    have hl := crash1_length keep last torn L i p
    have := crashL_ok keep last torn P (crash1 keep last torn L i p) (i + 1) (crash1_ok h (hp p (by simp))) (fun q hq => by rw [hl]; exact hp q (by simp [hq]))
    exact ⟨this.1, this.2.trans hl⟩
theorem lastS_le (keep : Nat) : ∀ m, lastS keep m ≤ m
  | 0 => Nat.le_refl _
  | m + 1 => by
    unfold lastS
    split
    · exact Nat.le_refl _
    · exact Nat.le_succ_of_le (lastS_le keep m)
end Go.Proofs.Ythknlimhenbhfaa

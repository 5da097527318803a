/- Typed values: how the reference's Parse reads a text (pure), and the operations that it does in regions that draw. -/
import Derived.Laws.BitsAllLaws
import Derived.Test.YtpbkmkcfhkdjjaaDoorVlx
import Derived.Test.YtpbkmkcfhkdjjaaDoorHkm
namespace Go.Proofs.YtpbkmkcfhkdjjaaDoor
open Go.RowKit Dig
set_option linter.unusedVariables false

theorem intT_len {n : Int} (h1 : -9223372036854775808 ≤ n) (h2 : n ≤ 9223372036854775807) : 1 ≤ (intT n).length ∧ (intT n).length ≤ 101 := by
  have hd : (dtext n.natAbs).length ≤ 100 := by
    obtain ⟨d1, d2, d3⟩ := dtext_spec n.natAbs
    rcases Nat.lt_or_ge 100 (dtext n.natAbs).length with h | h
    · exfalso
      obtain ⟨c, t, e, hc⟩ := dtext_ne n.natAbs
      rw [e] at d1 d2 d3 h
      by_cases h48 : c = 48
      · subst h48
        cases t with
        | nil => simp at h
        | cons d t => simp [lead] at d3
      · have hg := dec_lead_ge c t hc h48
        rw [d2] at hg
        have h3 : 10 ^ 99 ≤ 10 ^ t.length := Nat.pow_le_pow_right (by decide) (by simp at h; omega)
        have h4 : n.natAbs < 10 ^ 99 := Nat.lt_of_le_of_lt (show n.natAbs ≤ 9223372036854775808 by omega) (by decide)
        omega
    · exact h
  obtain ⟨c, t, e, _⟩ := intT_ne n
  refine ⟨by rw [e, List.length_cons]; omega, ?_⟩
  unfold intT
  split
  · simp only [List.length_append, List.length_singleton]
    omega
  · simp only [List.nil_append]
    omega
theorem txt_len {s : List UInt8} {v : Vl} (h : IsTxt s v) : 1 ≤ s.length ∧ s.length ≤ 130 := by
  obtain ⟨ho, rfl⟩ := h
  obtain ⟨t, n, p⟩ := v
  rcases ho.1 with ⟨e1, e2⟩ | ⟨e1, e2, e3, e4⟩
  · obtain rfl : t = 1 := e1
    have := intT_len ho.2.1 ho.2.2
    show 1 ≤ (intT n).length ∧ (intT n).length ≤ 130
    dsimp only at this
    omega
  · obtain rfl : t = 2 := e1
    show 1 ≤ (39 :: (qs p ++ [39])).length ∧ (39 :: (qs p ++ [39])).length ≤ 130
    have := (qs_length p).2
    have : p.length ≤ 64 := e3
    simp only [List.length_cons, List.length_append, List.length_nil]
    omega
theorem wrap_step (A x : Int) : IntKind.i64.wrap (IntKind.i64.wrap (10 * IntKind.i64.wrap A) - x) = IntKind.i64.wrap (10 * A - x) := by
  simp only [IntKind.wrap_i64]
  omega
theorem wrap_range (A : Int) : -9223372036854775808 ≤ IntKind.i64.wrap A ∧ IntKind.i64.wrap A ≤ 9223372036854775807 := by
  rw [IntKind.wrap_i64]
  omega
/-- The integer that Parse reads. -/
def candN (s : List UInt8) : Int := if s.head? ≠ some 45 ∧ IntKind.i64.wrap (negD s) ≠ -9223372036854775808 then IntKind.i64.wrap (-(IntKind.i64.wrap (negD s))) else IntKind.i64.wrap (negD s)
theorem candN_range (s : List UInt8) : -9223372036854775808 ≤ candN s ∧ candN s ≤ 9223372036854775807 := by
  unfold candN
  split
  · exact wrap_range _
  · exact wrap_range _
theorem candN_int {k : Int} (h1 : -9223372036854775808 ≤ k) (h2 : k ≤ 9223372036854775807) : candN (intT k) = k := by
  unfold candN
  rw [negD_int]
  have hw : IntKind.i64.wrap (-(k.natAbs : Int)) = -(k.natAbs : Int) := by rw [IntKind.wrap_i64]; omega
  rw [hw]
  by_cases hk : k < 0
  · rw [if_neg]
    · omega
    · rintro ⟨h, _⟩
      apply h
      unfold intT
      rw [if_pos hk]
      rfl
  · rw [if_pos]
    · rw [IntKind.wrap_i64]
      omega
    · refine ⟨?_, by omega⟩
      unfold intT
      rw [if_neg hk, List.nil_append]
      obtain ⟨c, t, e, hc⟩ := dtext_ne k.natAbs
      rw [e]
      intro h
      have h3 : c = 45 := Option.some.inj h
      rw [h3] at hc
      revert hc
      decide
theorem cand_str {r : List UInt8} {v : Vl} (h : IsTxt (39 :: r) v) : v = (2, 0, unq (r.take (r.length - 1))) := by
  obtain ⟨ho, hf⟩ := h
  obtain ⟨t, n, p⟩ := v
  rcases ho.1 with ⟨e1, e2⟩ | ⟨e1, e2, e3, e4⟩
  · obtain rfl : t = 1 := e1
    obtain ⟨c, q, e, hc⟩ := intT_ne n
    have h5 : intT n = 39 :: r := hf
    rw [e] at h5
    exact absurd (List.cons.inj h5).1 hc
  · obtain rfl : t = 2 := e1
    obtain rfl : n = 0 := e2
    have h5 : 39 :: (qs p ++ [39]) = 39 :: r := hf
    have h6 := (List.cons.inj h5).2
    rw [← h6, List.length_append, List.length_singleton, Nat.add_sub_cancel, List.take_left, unq_qs]
theorem cand_num {c0 : UInt8} {r : List UInt8} {v : Vl} (h0 : c0 ≠ 39) (h : IsTxt (c0 :: r) v) : v = (1, candN (c0 :: r), []) := by
  obtain ⟨ho, hf⟩ := h
  obtain ⟨t, n, p⟩ := v
  rcases ho.1 with ⟨e1, e2⟩ | ⟨e1, e2, e3, e4⟩
  · obtain rfl : t = 1 := e1
    obtain rfl : p = [] := e2
    have h5 : intT n = c0 :: r := hf
    rw [← h5, candN_int ho.2.1 ho.2.2]
  · obtain rfl : t = 2 := e1
    have h5 : 39 :: (qs p ++ [39]) = c0 :: r := hf
    exact absurd (List.cons.inj h5).1.symm h0
/-- What the reference's Format answers. -/
noncomputable def fmtR (x : Vl) : List UInt8 := if vldB x then fmtV x else []
theorem txt_of {s : List UInt8} {x : Vl} (hs : s ≠ []) (h1 : -9223372036854775808 ≤ x.2.1) (h2 : x.2.1 ≤ 9223372036854775807) (h : fmtR x = s) : IsTxt s x := by
  unfold fmtR at h
  cases hv : vldB x with
  | true =>
    rw [hv, if_pos rfl] at h
    exact ⟨⟨(vldB_iff x).1 hv, h1, h2⟩, h⟩
  | false =>
    rw [hv, if_neg (by simp)] at h
    exact absurd h.symm hs
theorem of_txt {s : List UInt8} {x : Vl} (h : IsTxt s x) : fmtR x = s := by
  unfold fmtR
  rw [if_pos ((vldB_iff x).2 h.1.1)]
  exact h.2
theorem unq_length : ∀ m : List UInt8, (unq m).length ≤ m.length
  | [] => Nat.le_refl _
  | [c] => Nat.le_refl _
  | c :: d :: r => by
    have h1 := unq_length r
    have h2 := unq_length (d :: r)
    show (if c = 39 then c :: unq r else c :: unq (d :: r)).length ≤ _
    split
    · simp only [List.length_cons] at h1 ⊢; omega
    · simp only [List.length_cons] at h2 ⊢; omega
/-- What the reference's Parse answers. -/
def RParseR (s : List UInt8) (e : Ending) : Prop := (∃ v, IsTxt s v ∧ e = .returned (.tuple #[vV v, .bool true])) ∨ ((∀ v, ¬ IsTxt s v) ∧ e = .returned (.tuple #[vV (0, 0, []), .bool false]))
section
variable {w w' : World} {g : Nat} {t n : Int} {p : List UInt8}
theorem VarV.put (h : VarV w g (t, n, p)) : (∀ r : List UInt8, VarV (w.setCell ⟨g, 2, none⟩ (.string ⟨r.toArray⟩)) g (t, n, r)) ∧ (∀ k : Int, VarV (w.setCell ⟨g, 1, none⟩ (.int .i64 k)) g (t, k, p)) ∧ (∀ k : Int, VarV (w.setCell ⟨g, 0, none⟩ (.int .i64 k)) g (k, n, p)) := by
  unfold VarV at h
  refine ⟨fun r => ?_, fun k => ?_, fun k => ?_⟩ <;>
  · unfold VarV
    simp only [World.setCell, Array.getElem?_modify, h]
    simp [vC]
theorem VarV.far {x : Vl} {g' i : Nat} (h : VarV w g x) (hne : g ≠ g') (u : Value) : VarV (w.setCell ⟨g', i, none⟩ u) g x := by
  refine h.keepB ?_
  simp only [World.setCell, Array.getElem?_modify]
  rw [if_neg (fun e => hne e.symm)]
variable {ev : Operand → Value} {o : Oper}
theorem exec_add1 (t : Tmp) (p : Nat) (ho : o.op = .binOp .add 3 (.tmp t) (.const (.int .i64 1)) 3) (hx : ev (.tmp t) = .int .i64 (p : Int)) (hc : ev (.const (.int .i64 1)) = .int .i64 1) (hp : p < 1000) :
    (execOp ev o).run Tryd.prog w = .ok (.value (.int .i64 ((p + 1 : Nat) : Int))) w := by
  have hpi : (p : Int) < 1000 := by omega
  unfold execOp
  simp only [ho, hx, hc]
  go_simp
  first | (simp only [IntKind.wrap_i64]; omega) | (unfold IntKind.wrap; simp; omega)
theorem exec_cat (t s : Tmp) (x y : ByteArray) (ho : o.op = .binOp .add 9 (.tmp t) (.tmp s) 9) (hx : ev (.tmp t) = .string x) (hy : ev (.tmp s) = .string y) (h1 : x.size ≤ 1000) (h2 : y.size ≤ 1000) :
    (execOp ev o).run Tryd.prog w = .ok (.value (.string (x ++ y))) w := by
  have h1i : (x.size : Int) ≤ 1000 := by omega
  have h2i : (y.size : Int) ≤ 1000 := by omega
  unfold execOp
  simp only [ho, hx, hy]
  go_simp
  omega
theorem exec_subS (t x y : Tmp) (u : ByteArray) (a b : Nat) (ho : o.op = .slice 9 (.tmp t) (some (.tmp x)) (some (.tmp y)) none) (hx : ev (.tmp t) = .string u) (hh : ev (.tmp x) = .int .i64 (a : Int)) (hk : ev (.tmp y) = .int .i64 (b : Int)) (hab : a ≤ b) (hb : b ≤ u.size) :
    (execOp ev o).run Tryd.prog w = .ok (.value (.string (u.extract a b))) w := by
  have h1 : (b : Int) ≤ u.size := by omega
  have h2 : (a : Int) ≤ (b : Int) := by omega
  have h3 : (a : Int) ≤ u.size := by omega
  unfold execOp
  simp only [ho, hx, hh, hk, Option.map]
  go_simp
theorem exec_idxS (t x : Tmp) {s : List UInt8} {j : Nat} {c : UInt8} (hc : s[j]? = some c) (ho : o.op = .index 9 (.tmp t) (.tmp x)) (hx : ev (.tmp t) = .string ⟨s.toArray⟩) (hh : ev (.tmp x) = .int .i64 (j : Int)) :
    (execOp ev o).run Tryd.prog w = .ok (.value (.int .u8 (c.toNat : Int))) w := by
  obtain ⟨hl, he⟩ := List.getElem?_eq_some_iff.1 hc
  have hsz : (⟨s.toArray⟩ : ByteArray).size = s.length := rfl
  have kg : ∀ h : j < (⟨s.toArray⟩ : ByteArray).size, (⟨s.toArray⟩ : ByteArray)[j]'h = c := fun h => (List.getElem_toArray (xs := s) (i := j) (h := by simpa using hl)).trans he
  have hji : (j : Int) < (s.length : Int) := by omega
  unfold execOp
  simp only [ho, hx, hh]
  go_simp
theorem exec_storeS {q : Addr} {u : ByteArray} {y : Value} (t s : Tmp) (ho : o.op = .store 9 (.tmp t) (.tmp s)) (hx : ev (.tmp t) = .pointer (some q)) (hy : ev (.tmp s) = .string u)
    (hz : w.frozen? q = false) (hc : w.cell? q = some y) : (execOp ev o).run Tryd.prog w = .ok .skip (w.setCell q (.string u)) := by
  unfold execOp
  simp only [ho, hx, hy]
  go_simp
theorem exec_storeI {q : Addr} {u : Int} {y : Value} (t s : Tmp) (ho : o.op = .store 2 (.tmp t) (.tmp s)) (hx : ev (.tmp t) = .pointer (some q)) (hy : ev (.tmp s) = .int .i64 u)
    (hz : w.frozen? q = false) (hc : w.cell? q = some y) : (execOp ev o).run Tryd.prog w = .ok .skip (w.setCell q (.int .i64 u)) := by
  unfold execOp
  simp only [ho, hx, hy]
  go_simp
theorem exec_mulTen (t : Tmp) (x : Int) (ho : o.op = .binOp .mul 2 (.const (.int .i64 10)) (.tmp t) 2) (hx : ev (.tmp t) = .int .i64 x) (hc : ev (.const (.int .i64 10)) = .int .i64 10) :
    (execOp ev o).run Tryd.prog w = .ok (.value (.int .i64 (IntKind.i64.wrap (10 * x)))) w := by
  unfold execOp
  simp only [ho, hx, hc]
  go_simp
theorem exec_subI (t s : Tmp) (x y : Int) (ho : o.op = .binOp .sub 2 (.tmp t) (.tmp s) 2) (hx : ev (.tmp t) = .int .i64 x) (hy : ev (.tmp s) = .int .i64 y) :
    (execOp ev o).run Tryd.prog w = .ok (.value (.int .i64 (IntKind.i64.wrap (x - y)))) w := by
  unfold execOp
  simp only [ho, hx, hy]
  go_simp
theorem exec_digit (t : Tmp) (c : Nat) (h : 48 ≤ c ∧ c ≤ 57) (ho : o.op = .binOp .sub 5 (.tmp t) (.const (.int .u8 48)) 5) (hx : ev (.tmp t) = .int .u8 (c : Int)) (hc : ev (.const (.int .u8 48)) = .int .u8 48) :
    (execOp ev o).run Tryd.prog w = .ok (.value (.int .u8 ((c - 48 : Nat) : Int))) w := by
  have h1 : (48 : Int) ≤ c := by omega
  have h2 : (c : Int) ≤ 57 := by omega
  unfold execOp
  simp only [ho, hx, hc]
  go_simp
  rw [IntKind.wrap_u8']
  omega
theorem exec_wide (t : Tmp) (c : Nat) (h : c ≤ 57) (ho : o.op = .convert 5 2 (.tmp t)) (hx : ev (.tmp t) = .int .u8 (c : Int)) :
    (execOp ev o).run Tryd.prog w = .ok (.value (.int .i64 (c : Int))) w := by
  have h2 : (c : Int) ≤ 57 := by omega
  unfold execOp
  simp only [ho, hx]
  go_simp
  rw [IntKind.wrap_i64]
  omega
end
end Go.Proofs.YtpbkmkcfhkdjjaaDoor

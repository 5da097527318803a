/- Long division: plain lemmas of a round, and the calls in it over one row of digits. -/
import Derived.Test.YticakmcjiofhoaaEst
import Derived.Test.YticakmcjiofhoaaSubMul
import Derived.Test.YticakmcjiofhoaaShift
namespace Go.Proofs.Yticakmcjiofhoaa
open Go.RowKit Dig
set_option linter.unusedVariables false

namespace Dig
theorem div_keep {P L L' D E M p cy : Nat} (hP : P = L + M * p) (hs : L' + E = L + M * cy) (hlt : P < E + D) (hD : D < M) (h : cy ≤ p) : L' + E = P ∧ L' < D := by
  obtain ⟨t, rfl⟩ : ∃ t, p = cy + t := ⟨p - cy, by omega⟩
  rw [Nat.mul_add] at hP
  rcases Nat.eq_zero_or_pos t with h0 | h0
  · subst h0; omega
  · have := Nat.mul_le_mul_left M (show 1 ≤ t from h0)
    omega
theorem div_back {P L L' L2 D E F M p cy c2 : Nat} (hP : P = L + M * p) (hs : L' + E = L + M * cy) (hlt : E < P + D) (hD : D < M) (hL' : L' < M) (h : p < cy) (hF : E = F + D) (ha : L2 + M * c2 = L' + D) (hc2 : c2 ≤ 1) (hL2 : L2 < M) : L2 + F = P ∧ L2 < D := by
  obtain ⟨t, rfl⟩ : ∃ t, cy = p + t := ⟨cy - p, by omega⟩
  rw [Nat.mul_add] at hs
  have ht : t = 1 := by
    rcases Nat.lt_or_ge t 2 with h1 | h1
    · omega
    · have := Nat.mul_le_mul_left M h1
      omega
  subst ht
  have : c2 = 0 ∨ c2 = 1 := by omega
  rcases this with rfl | rfl
  · omega
  · omega
theorem div_back_pos {P L L' D M p cy d : Nat} (hP : P = L + M * p) (hs : L' + d * D = L + M * cy) (hL' : L' < M) (h : p < cy) : 1 ≤ d := by
  rcases Nat.eq_zero_or_pos d with h0 | h0
  · subst h0
    obtain ⟨t, rfl⟩ : ∃ t, cy = p + 1 + t := ⟨cy - p - 1, by omega⟩
    rw [Nat.mul_add, Nat.mul_add] at hs
    omega
  · exact h0

/-- What is known in long division when the digits of the quotient from place k on are done: R the dividend, D the divisor. -/
def LongRel (R D : Nat) (rs qs : List Nat) (n m k : Nat) : Prop :=
  rs.length = m + 1 ∧ Small rs ∧ Small qs ∧ qs.length = m - n + 1 ∧ val ((rs.drop k).take n) < D ∧ R = val (rs.take k) + 4294967296 ^ k * (val ((rs.drop k).take n) + D * val (qs.drop k))

theorem part_val (rs : List Nat) (i n : Nat) (h : i < rs.length) : val ((rs.drop i).take (n + 1)) = rs.getD i 0 + 4294967296 * val ((rs.drop (i + 1)).take n) := by
  rw [List.drop_eq_getElem_cons h, List.take_succ_cons]
  simp [val, List.getD_eq_getElem?_getD, h]
theorem LongRel.part_lt {R D : Nat} {rs qs : List Nat} {n m i : Nat} (h : LongRel R D rs qs n m (i + 1)) (hi : i < rs.length) : val ((rs.drop i).take (n + 1)) < 4294967296 * D := by
  rw [part_val rs i n hi]
  have := h.2.1.get i
  have := h.2.2.2.2.1
  omega
theorem LongRel.step {R D : Nat} {rs rs' qs : List Nat} {n m i d : Nat} (h : LongRel R D rs qs n m (i + 1)) (hi : i < m - n + 1) (hnm : n ≤ m) (hl : rs'.length = rs.length) (hs : Small rs') (ht : rs'.take i = rs.take i) (hd : d < 4294967296)
    (hv : val ((rs'.drop i).take n) + d * D = val ((rs.drop i).take (n + 1))) (hlt : val ((rs'.drop i).take n) < D) : LongRel R D rs' (qs.set i d) n m i := by
  obtain ⟨h1, h2, h3, h4, h5, h6⟩ := h
  refine ⟨by omega, hs, h3.set _ _ hd, by simpa using h4, hlt, ?_⟩
  rw [part_val rs i n (by omega)] at hv
  rw [val_take_succ rs i (by omega)] at h6
  have e1 : val ((qs.set i d).drop i) = d + 4294967296 * val (qs.drop (i + 1)) := by
    rw [drop_set _ _ _ (by omega)]
  rw [ht, e1, h6, Nat.pow_succ, Nat.mul_assoc, Nat.add_assoc, ← Nat.mul_add]
  congr 2
  have e2 : D * (d + 4294967296 * val (qs.drop (i + 1))) = d * D + 4294967296 * (D * val (qs.drop (i + 1))) := by
    rw [Nat.mul_add, Nat.mul_comm D d, Nat.mul_left_comm]
  rw [e2]
  omega
theorem LongRel.done {R D : Nat} {rs qs : List Nat} {n m : Nat} (h : LongRel R D rs qs n m 0) : val (rs.take n) < D ∧ R = val (rs.take n) + D * val qs := by
  obtain ⟨h1, h2, h3, h4, h5, h6⟩ := h
  simp only [List.drop_zero, List.take_zero, val, Nat.pow_zero, Nat.one_mul, Nat.zero_add] at h5 h6
  exact ⟨h5, h6⟩
end Dig

theorem Seg.sub {w : World} {g : Nat} {rs : List Nat} {post : List Value} (h : Seg w g [] rs post) (hs : Small rs) (off n c : Nat) (hn : off + n ≤ rs.length) (hc : n ≤ c) (hm : c ≤ 9223372036854775807) :
    Num w (.slice (some ⟨g, off, none⟩) n c) ((rs.drop off).take n) := by
  have hl : ((rs.drop off).take n).length = n := by rw [List.length_take, List.length_drop]; omega
  refine ⟨some ⟨g, off, none⟩, c, by rw [hl], ⟨by omega, fun e => by cases e⟩, by unfold maxLen; omega, (hs.drop off).take n, fun _ => ⟨g, off, rfl, h.lt, fun j hj => ?_⟩⟩
  rw [hl] at hj
  have := h.cell0 (j := off + j) (by omega)
  rw [this, getD_take _ _ _ hj, getD_drop]
theorem Seg.at_ {w : World} {g : Nat} {rs : List Nat} {post : List Value} (h : Seg w g [] rs post) (i : Nat) : Seg w g (U (rs.take i)) (rs.drop i) post := by
  have h' : Seg w g [] (rs.take i ++ rs.drop i) post := by rw [List.take_append_drop]; exact h
  simpa using h'.right
theorem Seg.back {w : World} {g : Nat} {xs ys : List Nat} {post : List Value} (h : Seg w g (U xs) ys post) : Seg w g [] (xs ++ ys) post := by
  have h' : Seg w g ([] ++ U xs) ys post := by simpa using h
  exact h'.ofRight

/-- subtractMultiple over the digits from place i on of one row. -/
theorem subMul_i (w : World) (g n c q i : Nat) (post : List Value) (rs ds : List Nat) (vd : Value) (hs : Seg w g [] rs post) (hx : Small rs) (hxn : i + n < rs.length) (hc : n + 1 ≤ c ∧ c ≤ 9223372036854775807) (hd : Num w vd ds) (hdl : ds.length = n) (hn0 : 0 < n)
    (hne : vd.ownBlock ≠ some g) (hq : q < 4294967296) :
    Calls Try.prog 64 #[.slice (some ⟨g, i, none⟩) (n + 1) c, vd, .int .u64 (q : Int)] w fun e w' => ∃ (rs' : List Nat) (cy : Nat), e = .returned (.bool (decide (rs.getD (i + n) 0 < cy))) ∧ rs'.length = rs.length ∧ Small rs' ∧ rs'.take i = rs.take i ∧
      val ((rs'.drop i).take n) + q * val ds = val ((rs.drop i).take n) + 4294967296 ^ n * cy ∧ Seg w' g [] rs' post ∧ w.grownBy w' (some g) ∧ w'.heap.size = w.heap.size := by
  have hlen : (U (rs.take i)).length = i := by rw [U_length, List.length_take]; omega
  have h := subMul_c w g n c q (U (rs.take i)) post (rs.drop i) ds vd (hs.at_ i) (hx.drop i) (by rw [List.length_drop]; omega) hc hd hdl hn0 hne hq
  rw [hlen] at h
  refine h.mono ?_
  rintro e w' ⟨zs, cy, a1, a2, a3, a4, a5, a6, a7, a8⟩
  rw [getD_drop] at a1
  have hti : (rs.take i).length = i := by rw [List.length_take]; omega
  refine ⟨rs.take i ++ zs, cy, a1, ?_, (hx.take i).append a3, ?_, ?_, a6.back, a7, a8⟩
  · rw [List.length_append, a2, List.length_drop, hti]; omega
  · rw [List.take_append_of_le_length (by omega), List.take_take, Nat.min_self]
  · rw [show (rs.take i ++ zs).drop i = zs by rw [List.drop_append_of_le_length (by omega), List.drop_of_length_le (by omega)]; rfl]
    exact a5
theorem addBack_i (w : World) (g n c i : Nat) (post : List Value) (rs ds : List Nat) (vd : Value) (hs : Seg w g [] rs post) (hx : Small rs) (hxn : i + n < rs.length) (hc : n + 1 ≤ c ∧ c ≤ 9223372036854775807) (hd : Num w vd ds) (hdl : ds.length = n) (hn0 : 0 < n)
    (hne : vd.ownBlock ≠ some g) :
    Calls Try.prog 65 #[.slice (some ⟨g, i, none⟩) (n + 1) c, vd] w fun e w' => e = .returned (.tuple #[]) ∧ ∃ (rs' : List Nat) (q : Nat), rs'.length = rs.length ∧ Small rs' ∧ rs'.take i = rs.take i ∧
      val ((rs'.drop i).take n) + 4294967296 ^ n * q = val ((rs.drop i).take n) + val ds ∧ q ≤ 1 ∧ Seg w' g [] rs' post ∧ w.grownBy w' (some g) ∧ w'.heap.size = w.heap.size := by
  have hlen : (U (rs.take i)).length = i := by rw [U_length, List.length_take]; omega
  have h := addBack_c w g n (n + 1) c (U (rs.take i)) post (rs.drop i) ds vd (hs.at_ i) (hx.drop i) (by rw [List.length_drop]; omega) ⟨by omega, hc⟩ hd hdl hn0 hne
  rw [hlen] at h
  refine h.mono ?_
  rintro e w' ⟨a0, zs, q, ⟨b1, b2, b3, b4, b5⟩, a6, a7, a8⟩
  rw [show ds.take n = ds from List.take_of_length_le (by omega)] at b4
  have hti : (rs.take i).length = i := by rw [List.length_take]; omega
  refine ⟨a0, rs.take i ++ zs, q, ?_, (hx.take i).append b2, ?_, ?_, b5, a6.back, a7, a8⟩
  · rw [List.length_append, b1, List.length_drop, hti]; omega
  · rw [List.take_append_of_le_length (by omega), List.take_take, Nat.min_self]
  · rw [show (rs.take i ++ zs).drop i = zs by rw [List.drop_append_of_le_length (by omega), List.drop_of_length_le (by omega)]; rfl]
    exact b4
end Go.Proofs.Yticakmcjiofhoaa

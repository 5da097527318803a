/- The contract of Normalize of package poly. -/
import Derived.Test.YtpmjhkpjhfpfpaaPlyA
namespace Go.Proofs.Ytpmjhkpjhfpfpaa
open Go.RowKit Dig
set_option linter.unusedVariables false

/-- A call that hands back a polynomial in memory of its own, its coefficients canonical, and leaves what was there. -/
def RPol (w : World) (qs : List Rat) (k : Nat) (e : Ending) (w' : World) : Prop := ∃ v, e = .returned v ∧ Ofl (CV k) w.heap.size w' v qs ∧ Below w.heap.size w w'
theorem below_stor3 {w w2 : World} (hB : Below w.heap.size w w2) {g : Nat} (hg : w.heap.size ≤ g) (o : Nat) (a b c : Value) : Below w.heap.size w (stor3o w2 g o a b c) := below_stor3o hB hg o a b c
/-- The list that a loop is writing: n places, the first i of them hold the first i values. -/
def Fill (base : Nat) (E : World → Value → Rat → Prop) (w : World) (g n i : Nat) (f : Nat → Rat) : Prop := ∃ ts, FBlk w g ts ∧ ts.length = n ∧ ∀ j, j < i → E w (ts.getD j .zero).val (f j)
section
variable {E : World → Value → Rat → Prop} {w w' : World} {g n i base : Nat} {f : Nat → Rat}
theorem Fill.start (h : FBlk w g (List.replicate n .zero)) : Fill base E w g n 0 f := ⟨_, h, by simp, fun j hj => absurd hj (by omega)⟩
theorem Fill.below (h : Fill base E w g n i f) (K : Keeps E) (hb : Below w.heap.size w w') : Fill base E w' g n i f := by
  obtain ⟨ts, hF, hl, hE⟩ := h
  exact ⟨ts, hF.below hb, hl, fun j hj => K.below (hE j hj) hb⟩
theorem Fill.lt (h : Fill base E w g n i f) : g < w.heap.size := by
  obtain ⟨ts, hF, _⟩ := h
  exact hF.lt
theorem Fill.frozen (h : Fill base E w g n i f) (j : Nat) : w.frozen? ⟨g, j, none⟩ = false := by
  obtain ⟨ts, hF, _⟩ := h
  exact hF.frozen j
theorem Fill.cells (h : Fill base E w g n i f) {j : Nat} (hj : j < n) : ∃ a b c, w.cell? ⟨g, j * 3, none⟩ = some a ∧ w.cell? ⟨g, j * 3 + 1, none⟩ = some b ∧ w.cell? ⟨g, j * 3 + 2, none⟩ = some c := by
  obtain ⟨ts, hF, hl, _⟩ := h
  obtain ⟨c0, c1, c2⟩ := hF.cells (j := j) (by omega)
  exact ⟨_, _, _, c0, c1, c2⟩
theorem Fill.set (h : Fill base E w g n i f) (K : Keeps E) (hi : i < n) {b : Bool} {X Y : Option Addr} {xm xc ym yc : Nat} (hE : E w (.agg #[.bool b, .slice X xm xc, .slice Y ym yc]) (f i)) :
    Fill base E (stor3o w g (i * 3) (.bool b) (.slice X xm xc) (.slice Y ym yc)) g n (i + 1) f := by
  obtain ⟨ts, hF, hl, h⟩ := h
  have hS : FBlk (stor3o w g (i * 3) (.bool b) (.slice X xm xc) (.slice Y ym yc)) g (ts.set i ⟨b, (X, xm, xc), (Y, ym, yc)⟩) := hF.set (by omega) (⟨b, (X, xm, xc), (Y, ym, yc)⟩ : Tri)
  have hs : w.heap.size ≤ (stor3o w g (i * 3) (.bool b) (.slice X xm xc) (.slice Y ym yc)).heap.size := Nat.le_of_eq (stor3o_size _ _ _ _ _ _).symm
  have hk := stor3o_heap w g (i * 3) (.bool b) (.slice X xm xc) (.slice Y ym yc)
  generalize stor3o w g (i * 3) (.bool b) (.slice X xm xc) (.slice Y ym yc) = w3 at *
  refine ⟨_, hS, by simpa using hl, fun j hj => ?_⟩
  rcases Nat.lt_or_ge j i with h1 | h1
  · rw [List.getD_eq_getElem?_getD, List.getElem?_set_ne (by omega), ← List.getD_eq_getElem?_getD]
    exact K.apart (h j h1) hF hs hk
  · obtain rfl : j = i := by omega
    rw [List.getD_eq_getElem?_getD, List.getElem?_set_self (by omega)]
    exact K.apart (v := .agg #[.bool b, .slice X xm xc, .slice Y ym yc]) hE hF hs hk
theorem Fill.done (h : Fill base E w g n n f) (hg : base ≤ g) (hm : n ≤ 1000000000000) : Ofl E base w (.slice (some ⟨g, 0, none⟩) n n) (mk n f) := by
  obtain ⟨ts, hF, hl, hE⟩ := h
  refine .inr ⟨g, ts, by rw [mk_length, hl], hg, hF, by rw [mk_length]; omega, by unfold maxLen; omega, fun j hj => ?_⟩
  rw [mk_length] at hj
  have : (mk n f).getD j 0 = f j := by have := cf_mk n f j; rw [if_pos hj] at this; exact this
  rw [this]
  exact hE j hj
theorem Ofl.cast {v : Value} {ps qs : List Rat} (h : Ofl E base w v ps) (e : ps = qs) : Ofl E base w v qs := e ▸ h
end

section
variable {w : World} {v : Value} {qs : List Rat} {k : Nat}
set_option maxHeartbeats 4000000 in
theorem normalize_p (h : Fls (FV k) w v qs) (hk : k ≤ 400000) (h2 : 2 ≤ k) (hl : qs.length ≤ 1000000000) : Calls Try.prog 13 #[v] w (RPol w (tr qs) k) := by
  have T := Lib.hid (trim_p h (keeps_FV k) (reads_FV k) hk)
  have hl := Nat.le_trans (tr_le qs) hl
  generalize tr qs = ps at *
  clear h
  go_enter Try.func13, Try.ntmps13
  go_wp2_with fail
  refine (T.out).mono ?_
  rintro e w1 ⟨A, c, rfl, rfl, hF, hB1⟩
  obtain ⟨_, hc, hm⟩ := hF.lens
  obtain ⟨n, hn⟩ : ∃ n, ps.length = n := ⟨_, rfl⟩
  rw [hn] at hc hl
  have HN := Lib.hid hn
  have HF := Lib.hid hF
  rw [hn]
  clear hF hn T
  go_wp2_with (at_make; refine wp_make_f 24 (by kernel_rfl) rfl _ _ rfl _ _ n rfl rfl rfl rfl (by omega) ?_; intro w2 hF2 hB2)
  have hG : w.heap.size ≤ w1.heap.size := hB1.size
  have hI := Fill.start (base := w.heap.size) (E := CV k) (f := cf ps) hF2
  have hW2 := below_then hB1 hB2
  have HW := Lib.hid (fun wr (hr : Below w1.heap.size w1 wr) => (HF.out.below (keeps_FV k) hr).cells (n := ps.length))
  generalize w1.heap.size = g at *
  clear hF2 hB1 HF
  have HK := Lib.hid (keeps_CV k)
  go_loopw [13] (fun i wr => ∃ j : Nat, j ≤ n ∧ i = .int .i64 j ∧ Fill w.heap.size (CV k) wr g n j (cf ps) ∧ Below w.heap.size w wr ∧ Below g w1 wr) (fun i _ => n - (intOf i).toNat)
  case atStart => exact ⟨0, Nat.zero_le _, rfl, hI, hW2, hB2⟩
  case round =>
    obtain ⟨j, hj, rfl, hI, hB, hB2⟩ := hrel
    by_cases hjn : j < n
    · have HI : (j : Int) < n := by omega
      obtain ⟨b, off, rfl, hb, hcell⟩ := HW.out _ hB2 (by rw [HN.out]; omega)
      obtain ⟨tb, X, xm, xc, Y, ym, yc, c0, c1, c2, hv⟩ := hcell j (by rw [HN.out]; exact hjn)
      have NF := Lib.hid (fun w3 (hb3 : Below wr.heap.size wr w3) => normf_v (w := w3) (FracV.below hv hb3) hk h2)
      have FI := Lib.hid hI
      clear hcell hv hI
      go_wp2_with fail
      refine (NF.out _ ((Below.refl _ _).alloc (Nat.le_refl _) _)).mono ?_
      rintro e w4 ⟨u, rfl, hu, hB4⟩
      have hB4 : Below wr.heap.size wr w4 := below_new _ hB4
      obtain ⟨b', C, o, r, C', o', r', rfl, hb', hvx, hvy⟩ := hu.parts
      have hI := FI.out.below HK.out hB4
      obtain ⟨z0, z1, z2, e0, e1, e2⟩ := hI.cells hjn
      have f0 := hI.frozen (j * 3)
      have f1 := hI.frozen (j * 3 + 1)
      have f2 := hI.frozen (j * 3 + 2)
      have HS := Lib.hid (hI.set HK.out hjn (CanF.ofParts hb' hvx hvy : CV k w4 _ _))
      have hB := below_then hB hB4
      have hB2 := hB2.trans (hB4.mono (Nat.le_of_lt FI.out.lt))
      clear c0 c1 c2 hI hu hb' hvx hvy NF
      go_wp2_with fail
      go_roundw
      case rel => exact ⟨j + 1, by omega, by go_num, HS.out, below_stor3o hB hG _ _ _ _, below_stor3o hB2 (Nat.le_refl _) _ _ _ _⟩
      case measure => simp [intOf]; omega
    · have HI : ¬ (j : Int) < n := by omega
      obtain rfl : j = n := by omega
      have HD := Lib.hid (hI.done hG (by omega))
      have HB := Lib.hid hB
      clear hI hB hB2
      go_wp2_with fail
      go_ret
      exact ⟨_, rfl, HD.out.cast (by rw [← HN.out, mk_cf]), HB.out⟩
end
end Go.Proofs.Ytpmjhkpjhfpfpaa

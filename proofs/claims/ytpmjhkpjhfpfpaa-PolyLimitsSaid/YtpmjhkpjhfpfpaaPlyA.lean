/- The contracts of trim, at and first of package poly. -/
import Derived.Test.YtpmjhkpjhfpfpaaFlw
import Derived.Test.YtpmjhkpjhfpfpaaRatD
import Derived.Test.YtpmjhkpjhfpfpaaZsum
namespace Go.Proofs.Ytpmjhkpjhfpfpaa
open Go.RowKit Dig
set_option linter.unusedVariables false

/-- What can be read as fractions of at most k digits. -/
def Reads (E : World → Value → Rat → Prop) (k : Nat) : Prop := ∀ {w : World} {v : Value} {q : Rat}, E w v q → FracV w v q k
theorem reads_FV (k : Nat) : Reads (FV k) k := fun h => h
theorem reads_CV (k : Nat) : Reads (CV k) k := fun h => CanF.fracV h

section
variable {E : World → Value → Rat → Prop} {w w' : World} {v : Value} {qs : List Rat} {k n c : Nat} {A : Option Addr}
theorem Fls.lens (h : Fls E w (.slice A n c) qs) : n = qs.length ∧ n ≤ c ∧ c ≤ 9223372036854775807 := by
  obtain ⟨A', c', e, ⟨hc, hn⟩, hm, hr⟩ := h
  simp only [Value.slice.injEq] at e
  obtain ⟨rfl, rfl, rfl⟩ := e
  exact ⟨rfl, hc, by unfold maxLen at hm; omega⟩
theorem Fls.cells (h : Fls E w (.slice A n c) qs) (hp : 0 < n) : ∃ b off, A = some ⟨b, off, none⟩ ∧ b < w.heap.size ∧ ∀ j, j < n → ∃ tb X xm xc Y ym yc,
      w.cell? ⟨b, off + j * 3, none⟩ = some (.bool tb) ∧ w.cell? ⟨b, off + j * 3 + 1, none⟩ = some (.slice X xm xc) ∧ w.cell? ⟨b, off + j * 3 + 2, none⟩ = some (.slice Y ym yc) ∧
      E w (.agg #[.bool tb, .slice X xm xc, .slice Y ym yc]) (cf qs j) := by
  obtain ⟨A', c', e, ⟨hc, hn⟩, hm, hr⟩ := h
  simp only [Value.slice.injEq] at e
  obtain ⟨rfl, rfl, rfl⟩ := e
  obtain ⟨b, off, e, hb, hcell⟩ := hr hp
  refine ⟨b, off, e, hb, fun j hj => ?_⟩
  obtain ⟨⟨tb, ⟨X, xm, xc⟩, ⟨Y, ym, yc⟩⟩, c0, c1, c2, hE⟩ := hcell j hj
  exact ⟨tb, X, xm, xc, Y, ym, yc, c0, c1, c2, hE⟩
theorem Fls.cut (h : Fls E w (.slice A n c) qs) : Fls E w (.slice A (tr qs).length c) (tr qs) := by
  obtain ⟨rfl, _, _⟩ := h.lens
  have := h.take (tr_le qs)
  rwa [← tr_prefix] at this

set_option maxHeartbeats 1000000 in
theorem trim_p (h : Fls E w v qs) (K : Keeps E) (hE : Reads E k) (hk : k ≤ 400000) :
    Calls Try.prog 47 #[v] w fun e w' => ∃ A c, v = .slice A qs.length c ∧ e = .returned (.slice A (tr qs).length c) ∧ Fls E w' (.slice A (tr qs).length c) (tr qs) ∧ Below w.heap.size w w' := by
  obtain ⟨A, c, rfl⟩ := h.form
  obtain ⟨_, hc, hm⟩ := h.lens
  have hcells := fun hp => h.cells hp
  obtain ⟨n, hn⟩ : ∃ n, qs.length = n := ⟨_, rfl⟩
  rw [hn] at hc hcells ⊢
  have HN := Lib.hid hn
  have H := Lib.hid h
  clear h hn
  go_enter Try.func47, Try.ntmps47
  go_wp2_with fail
  go_loopw [3] (fun i wr => ∃ j : Nat, j ≤ n ∧ i = .int .i64 j ∧ Below w.heap.size w wr ∧ ∀ i, j ≤ i → i < n → cf qs i = 0) (fun i _ => (intOf i).toNat)
  case atStart => exact ⟨n, Nat.le_refl _, rfl, Below.refl _ _, fun j h1 h2 => by omega⟩
  case round =>
    obtain ⟨j, hj, rfl, hB, hz⟩ := hrel
    have HB := Lib.hid hB
    by_cases h0 : j = 0
    · subst h0
      have HT := Lib.hid (tr_take (p := qs) (n := 0) (Nat.zero_le _) (fun i h1 h2 => hz i h1 (by rw [HN.out] at h2; exact h2)) (.inl rfl))
      clear hcells hB
      go_wp2_with fail
      go_ret
      have e0 : (tr qs).length = 0 := by rw [HT.out]; rfl
      exact ⟨A, c, rfl, ret_eq (show Value.slice A 0 c = _ by rw [e0]), by have := (H.out.below K HB.out).cut; rw [e0] at this ⊢; exact this, HB.out⟩
    · obtain ⟨b, off, rfl, hb, hcell⟩ := hcells (by omega)
      obtain ⟨tb, X, xm, xc, Y, ym, yc, c0, c1, c2, hv⟩ := hcell (j - 1) (by omega)
      have c0 := (hB.cell (p := ⟨b, _, none⟩) hb).trans c0
      have c1 := (hB.cell (p := ⟨b, _, none⟩) hb).trans c1
      have c2 := (hB.cell (p := ⟨b, _, none⟩) hb).trans c2
      have SG := Lib.hid (signf_v (hE (K.below hv hB)) hk)
      clear hcell hcells hv
      go_wp2_with fail
      refine (SG.out).mono ?_
      rintro e w2 ⟨rfl, hB2⟩
      have hB2 := below_then hB hB2
      by_cases hq : cf qs (j - 1) = 0
      · have hq' : rsgn (cf qs (j - 1)) = 0 := rsgn_eq_zero.2 hq
        rw [hq']
        have hz' : ∀ i, j - 1 ≤ i → i < n → cf qs i = 0 := fun i h1 h2 => by
          rcases Nat.eq_or_lt_of_le h1 with h3 | h3
          · rw [← h3]; exact hq
          · exact hz i (by omega) h2
        clear hq hq' hz
        go_wp2_with fail
        go_roundw
        case rel => exact ⟨j - 1, by omega, by go_num, hB2, hz'⟩
        case measure => simp [intOf]; omega
      · have hq' : rsgn (cf qs (j - 1)) ≠ 0 := fun e => hq (rsgn_eq_zero.1 e)
        have HT := Lib.hid (tr_take (p := qs) (n := j) (by rw [HN.out]; exact hj) (fun i h1 h2 => hz i h1 (by rw [HN.out] at h2; exact h2)) (.inr hq))
        have HB2 := Lib.hid hB2
        have hq' : (rsgn (cf qs (j - 1)) == 0) = false := by rw [beq_eq_false_iff_ne]; exact hq'
        generalize rsgn (cf qs (j - 1)) = sg at *
        clear hB2 hz hq c0 c1 c2
        go_wp2_with fail
        go_ret
        have e0 : (tr qs).length = j := by rw [HT.out, List.length_take, HN.out]; omega
        exact ⟨_, c, rfl, ret_eq (show Value.slice (some ⟨b, off, none⟩) j c = _ by rw [e0]), by have := (H.out.below K HB2.out).cut; exact this, HB2.out⟩

theorem FracV.zero (w : World) (k : Nat) : FracV w (.agg #[.bool false, .slice none 0 0, .slice none 0 0]) 0 k :=
  ⟨false, _, _, 0, 0, rfl, ⟨[], Num.nil w, rfl, Nat.zero_le _⟩, ⟨[], Num.nil w, rfl, Nat.zero_le _⟩, fr_zero _ _⟩
def RFV (w : World) (q : Rat) (k : Nat) (e : Ending) (w' : World) : Prop := ∃ v, e = .returned v ∧ FracV w' v q k ∧ Below w.heap.size w w'

set_option maxHeartbeats 1000000 in
theorem at_p (h : Fls E w v qs) (hE : Reads E k) (i : Nat) (hi : i ≤ 9223372036854775807) :
    Calls Try.prog 50 #[v, .int .i64 (i : Int)] w (RFV w (cf qs i) k) := by
  obtain ⟨A, c, rfl⟩ := h.form
  obtain ⟨_, hc, hm⟩ := h.lens
  have hcells := fun hp => h.cells hp
  have hov := cf_over (p := qs) (i := i)
  obtain ⟨n, hn⟩ : ∃ n, qs.length = n := ⟨_, rfl⟩
  rw [hn] at hc hcells hov ⊢
  clear h hn
  have R0 := Fcl.new w false (.slice none 0 0) (.slice none 0 0)
  have hB0 : Below w.heap.size w (w.alloc (.cells #[.bool false, .slice none 0 0, .slice none 0 0] 29)) := (Below.refl _ _).alloc (Nat.le_refl _) _
  by_cases hin : i < n
  · obtain ⟨b, off, rfl, hb, hcell⟩ := hcells (by omega)
    obtain ⟨tb, X, xm, xc, Y, ym, yc, c0, c1, c2, hv⟩ := hcell i hin
    have c0 := (hB0.cell (p := ⟨b, _, none⟩) hb).trans c0
    have c1 := (hB0.cell (p := ⟨b, _, none⟩) hb).trans c1
    have c2 := (hB0.cell (p := ⟨b, _, none⟩) hb).trans c2
    have HV := Lib.hid (hE hv)
    have HI : (i : Int) < n := by omega
    obtain ⟨k0, k1, k2⟩ := R0.cells
    obtain ⟨f0, f1, f2⟩ := R0.frozen
    clear hcell hcells hv hov
    go_enter Try.func50, Try.ntmps50
    go_wp2_with fail
    refine bodyPost_ret (v := .agg #[.bool tb, .slice X xm xc, .slice Y ym yc]) (by rw [results_one rfl]; go_simp) rfl ?_
    exact ⟨_, rfl, HV.out.below ((Below.refl _ _).alloc (Nat.le_refl _) _), (Below.refl _ _).alloc (Nat.le_refl _) _⟩
  · rw [hov (by omega)]
    have HI : ¬ (i : Int) < n := by omega
    obtain ⟨k0, k1, k2⟩ := R0.cells
    obtain ⟨f0, f1, f2⟩ := R0.frozen
    clear hcells hov
    go_enter Try.func50, Try.ntmps50
    go_wp2_with fail
    refine bodyPost_ret (v := .agg #[.bool false, .slice none 0 0, .slice none 0 0]) (by rw [results_one rfl]; go_simp) rfl ?_
    exact ⟨_, rfl, FracV.zero _ _, (Below.refl _ _).alloc (Nat.le_refl _) _⟩

set_option maxHeartbeats 1000000 in
theorem first_p (h : Fls E w v qs) (K : Keeps E) (i : Int) (hi : -9223372036854775808 ≤ i) (hi2 : i ≤ 9223372036854775807) :
    Calls Try.prog 62 #[v, .int .i64 i] w fun e w' => ∃ u, e = .returned u ∧ Fls E w' u (qs.take i.toNat) ∧ Below w.heap.size w w' := by
  obtain ⟨A, c, rfl⟩ := h.form
  obtain ⟨_, hc, hm⟩ := h.lens
  have H := Lib.hid h
  obtain ⟨n, hn⟩ : ∃ n, qs.length = n := ⟨_, rfl⟩
  rw [hn] at hc ⊢
  have HN := Lib.hid hn
  clear h hn
  go_enter Try.func62, Try.ntmps62
  go_wp2_with fail
  go_ret
  have hm : (max 0 (min i (n : Int))).toNat = min i.toNat n := by omega
  have HT := H.out.take (n := min i.toNat n) (by rw [HN.out]; omega)
  have e : qs.take (min i.toNat n) = qs.take i.toNat := by
    rw [← HN.out]
    rcases Nat.lt_or_ge i.toNat qs.length with h | h
    · rw [Nat.min_eq_left (by omega)]
    · rw [Nat.min_eq_right h, List.take_of_length_le h, List.take_of_length_le (Nat.le_refl _)]
  rw [e] at HT
  exact ⟨_, ret_eq (show Value.slice A (max 0 (min i (n : Int))).toNat c = .slice A (min i.toNat n) c by rw [hm]), HT, Below.refl _ _⟩
end
end Go.Proofs.Ytpmjhkpjhfpfpaa

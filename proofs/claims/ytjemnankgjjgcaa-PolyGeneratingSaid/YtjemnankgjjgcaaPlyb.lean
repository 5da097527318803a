/- The contracts of trim, at and first of package poly. -/
import Derived.Test.YtjemnankgjjgcaaFlst
import Derived.Test.YtjemnankgjjgcaaRatD
import Derived.Test.YtjemnankgjjgcaaPpol
namespace Go.Proofs.Ytjemnankgjjgcaa
open Go.RowKit Dig
set_option linter.unusedVariables false

/-- What can be read as fractions of at most k digits. -/
def Reads (E : World → Value → Rat → Prop) (k : Nat) : Prop := ∀ {w : World} {v : Value} {q : Rat}, E w v q → FracV w v q k
theorem reads_FV (k : Nat) : Reads (FV k) k := fun h => h
theorem reads_CV (k : Nat) : Reads (CV k) k := fun h => CanF.fracV h

section
variable {E : World → Value → Rat → Prop} {w w' : World} {v : Value} {qs : List Rat} {k n c : Nat} {A : Option Addr}
theorem Fls.lens (h : Fls E w (.slice A n c) qs) : n = qs.length ∧ n ≤ c ∧ c ≤ 9223372036854775807 := by
  obtain ⟨A', c', e, ⟨hc, hn⟩, hm, hr⟩ := h
  simp only [Value.slice.injEq] at e
  obtain ⟨rfl, rfl, rfl⟩ := e
  exact ⟨rfl, hc, by unfold maxLen at hm; omega⟩
theorem Fls.cells (h : Fls E w (.slice A n c) qs) (hp : 0 < n) : ∃ b off, A = some ⟨b, off, none⟩ ∧ b < w.heap.size ∧ ∀ j, j < n → ∃ tb X xm xc Y ym yc,
      w.cell? ⟨b, off + j * 3, none⟩ = some (.bool tb) ∧ w.cell? ⟨b, off + j * 3 + 1, none⟩ = some (.slice X xm xc) ∧ w.cell? ⟨b, off + j * 3 + 2, none⟩ = some (.slice Y ym yc) ∧
      E w (.agg #[.bool tb, .slice X xm xc, .slice Y ym yc]) (cf qs j) := by
  obtain ⟨A', c', e, ⟨hc, hn⟩, hm, hr⟩ := h
  simp only [Value.slice.injEq] at e
  obtain ⟨rfl, rfl, rfl⟩ := e
  obtain ⟨b, off, e, hb, hcell⟩ := hr hp
  refine ⟨b, off, e, hb, fun j hj => ?_⟩
  obtain ⟨⟨tb, ⟨X, xm, xc⟩, ⟨Y, ym, yc⟩⟩, c0, c1, c2, hE⟩ := hcell j hj
  exact ⟨tb, X, xm, xc, Y, ym, yc, c0, c1, c2, hE⟩
theorem Fls.cut (h : Fls E w (.slice A n c) qs) : Fls E w (.slice A (tr qs).length c) (tr qs) := by
  obtain ⟨rfl, _, _⟩ := h.lens
  have := h.take (tr_le qs)
  rwa [← tr_prefix] at this

set_option maxHeartbeats 1000000 in
theorem trim_p (h : Fls E w v qs) (K : Keeps E) (hE : Reads E k) (hk : k ≤ 400000) :
    Calls Try.prog 47 #[v] w fun e w' => ∃ A c, v = .slice A qs.length c ∧ e = .returned (.slice A (tr qs).length c) ∧ Fls E w' (.slice A (tr qs).length c) (tr qs) ∧ Below w.heap.size w w' := by
  obtain ⟨A, c, rfl⟩ := h.form
  obtain ⟨_, hc, hm⟩ := h.lens
  have hcells := fun hp => h.cells hp
  obtain ⟨n, hn⟩ : ∃ n, qs.length = n := ⟨_, rfl⟩
  rw [hn] at hc hcells ⊢
  have HN := Lib.hid hn
  have H := Lib.hid h
  clear h hn
  go_enter Try.func47, Try.ntmps47
  go_wp2_with fail
  go_loopw [3] (fun i wr => ∃ j : Nat, j ≤ n ∧ i = .int .i64 j ∧ Below w.heap.size w wr ∧ ∀ i, j ≤ i → i < n → cf qs i = 0) (fun i _ => (intOf i).toNat)
  case atStart => exact ⟨n, Nat.le_refl _, rfl, Below.refl _ _, fun j h1 h2 => by omega⟩
  case round =>
    obtain ⟨j, hj, rfl, hB, hz⟩ := hrel
    have HB := Lib.hid hB
    by_cases h0 : j = 0
    · subst h0
      have HT := Lib.hid (tr_take (p := qs) (n := 0) (Nat.zero_le _) (fun i h1 h2 => hz i h1 (by rw [HN.out] at h2; exact h2)) (.inl rfl))
      clear hcells hB
      go_wp2_with fail
      go_ret
      have e0 : (tr qs).length = 0 := by rw [HT.out]; rfl
      exact ⟨A, c, rfl, ret_eq (show Value.slice A 0 c = _ by rw [e0]), by have := (H.out.below K HB.out).cut; rw [e0] at this ⊢; exact this, HB.out⟩
    · obtain ⟨b, off, rfl, hb, hcell⟩ := hcells (by omega)
      obtain ⟨tb, X, xm, xc, Y, ym, yc, c0, c1, c2, hv⟩ := hcell (j - 1) (by omega)
      have c0 := (hB.cell (p := ⟨b, _, none⟩) hb).trans c0
      have c1 := (hB.cell (p := ⟨b, _, none⟩) hb).trans c1
      have c2 := (hB.cell (p := ⟨b, _, none⟩) hb).trans c2
      have SG := Lib.hid (signf_v (hE (K.below hv hB)) hk)
      clear hcell hcells hv
      go_wp2_with fail
      refine (SG.out).mono ?_
      rintro e w2 ⟨rfl, hB2⟩
      have hB2 := below_then hB hB2
      by_cases hq : cf qs (j - 1) = 0
      · have hq' : rsgn (cf qs (j - 1)) = 0 := rsgn_eq_zero.2 hq
        rw [hq']
        have hz' : ∀ i, j - 1 ≤ i → i < n → cf qs i = 0 := fun i h1 h2 => by
          rcases Nat.eq_or_lt_of_le h1 with h3 | h3
          · rw [← h3]; exact hq
          · exact hz i (by omega) h2
        clear hq hq' hz
        go_wp2_with fail
        go_roundw
        case rel => exact ⟨j - 1, by omega, by go_num, hB2, hz'⟩
        case measure => simp [intOf]; omega
      · have hq' : rsgn (cf qs (j - 1)) ≠ 0 := fun e => hq (rsgn_eq_zero.1 e)
        have HT := Lib.hid (tr_take (p := qs) (n := j) (by rw [HN.out]; exact hj) (fun i h1 h2 => hz i h1 (by rw [HN.out] at h2; exact h2)) (.inr hq))
        have HB2 := Lib.hid hB2
        have hq' : (rsgn (cf qs (j - 1)) == 0) = false := by rw [beq_eq_false_iff_ne]; exact hq'
        generalize rsgn (cf qs (j - 1)) = sg at *
        clear hB2 hz hq c0 c1 c2
        go_wp2_with fail
        go_ret
        have e0 : (tr qs).length = j := by rw [HT.out, List.length_take, HN.out]; omega
        exact ⟨_, c, rfl, ret_eq (show Value.slice (some ⟨b, off, none⟩) j c = _ by rw [e0]), by have := (H.out.below K HB2.out).cut; exact this, HB2.out⟩

theorem FracV.zero (w : World) (k : Nat) : FracV w (.agg #[.bool false, .slice none 0 0, .slice none 0 0]) 0 k :=
  ⟨false, _, _, 0, 0, rfl, ⟨[], Num.nil w, rfl, Nat.zero_le _⟩, ⟨[], Num.nil w, rfl, Nat.zero_le _⟩, fr_zero _ _⟩
def RFV (w : World) (q : Rat) (k : Nat) (e : Ending) (w' : World) : Prop := ∃ v, e = .returned v ∧ FracV w' v q k ∧ Below w.heap.size w w'

set_option maxHeartbeats 1000000 in
theorem at_p (h : Fls E w v qs) (hE : Reads E k) (i : Nat) (hi : i ≤ 9223372036854775807) :
    Calls Try.prog 50 #[v, .int .i64 (i : Int)] w (RFV w (cf qs i) k) := by
  obtain ⟨A, c, rfl⟩ := h.form
  obtain ⟨_, hc, hm⟩ := h.lens
  have hcells := fun hp => h.cells hp
  have hov := cf_over (p := qs) (i := i)
  obtain ⟨n, hn⟩ : ∃ n, qs.length = n := ⟨_, rfl⟩
  rw [hn] at hc hcells hov ⊢
  clear h hn
  have R0 := Fcl.new w false (.slice none 0 0) (.slice none 0 0)
  have hB0 : Below w.heap.size w (w.alloc (.cells #[.bool false, .slice none 0 0, .slice none 0 0] 29)) := (Below.refl _ _).alloc (Nat.le_refl _) _
  by_cases hin : i < n
  · obtain ⟨b, off, rfl, hb, hcell⟩ := hcells (by omega)
    obtain ⟨tb, X, xm, xc, Y, ym, yc, c0, c1, c2, hv⟩ := hcell i hin
    have c0 := (hB0.cell (p := ⟨b, _, none⟩) hb).trans c0
    have c1 := (hB0.cell (p := ⟨b, _, none⟩) hb).trans c1
    have c2 := (hB0.cell (p := ⟨b, _, none⟩) hb).trans c2
    have HV := Lib.hid (hE hv)
    have HI : (i : Int) < n := by omega
    obtain ⟨k0, k1, k2⟩ := R0.cells
    obtain ⟨f0, f1, f2⟩ := R0.frozen
    clear hcell hcells hv hov
    go_enter Try.func50, Try.ntmps50
    go_wp2_with fail
    refine bodyPost_ret (v := .agg #[.bool tb, .slice X xm xc, .slice Y ym yc]) (by rw [results_one rfl]; go_simp) rfl ?_
    exact ⟨_, rfl, HV.out.below ((Below.refl _ _).alloc (Nat.le_refl _) _), (Below.refl _ _).alloc (Nat.le_refl _) _⟩
  · rw [hov (by omega)]
    have HI : ¬ (i : Int) < n := by omega
    obtain ⟨k0, k1, k2⟩ := R0.cells
    obtain ⟨f0, f1, f2⟩ := R0.frozen
    clear hcells hov
    go_enter Try.func50, Try.ntmps50
    go_wp2_with fail
    refine bodyPost_ret (v := .agg #[.bool false, .slice none 0 0, .slice none 0 0]) (by rw [results_one rfl]; go_simp) rfl ?_
    exact ⟨_, rfl, FracV.zero _ _, (Below.refl _ _).alloc (Nat.le_refl _) _⟩

set_option maxHeartbeats 1000000 in
theorem first_p (h : Fls E w v qs) (K : Keeps E) (i : Int) (hi : -9223372036854775808 ≤ i) (hi2 : i ≤ 9223372036854775807) :
    Calls Try.prog 62 #[v, .int .i64 i] w fun e w' => ∃ u, e = .returned u ∧ Fls E w' u (qs.take i.toNat) ∧ Below w.heap.size w w' := by
  obtain ⟨A, c, rfl⟩ := h.form
  obtain ⟨_, hc, hm⟩ := h.lens
  have H := Lib.hid h
  obtain ⟨n, hn⟩ : ∃ n, qs.length = n := ⟨_, rfl⟩
  rw [hn] at hc ⊢
  have HN := Lib.hid hn
  clear h hn
  go_enter Try.func62, Try.ntmps62
  go_wp2_with fail
  go_ret
  have hm : (max 0 (min i (n : Int))).toNat = min i.toNat n := by omega
  have HT := H.out.take (n := min i.toNat n) (by rw [HN.out]; omega)
  have e : qs.take (min i.toNat n) = qs.take i.toNat := by
    rw [← HN.out]
    rcases Nat.lt_or_ge i.toNat qs.length with h | h
    · rw [Nat.min_eq_left (by omega)]
    · rw [Nat.min_eq_right h, List.take_of_length_le h, List.take_of_length_le (Nat.le_refl _)]
  rw [e] at HT
  exact ⟨_, ret_eq (show Value.slice A (max 0 (min i (n : Int))).toNat c = .slice A (min i.toNat n) c by rw [hm]), HT, Below.refl _ _⟩
end
end Go.Proofs.Ytjemnankgjjgcaa

/- The contract of Normalize of package poly. -/
namespace Go.Proofs.Ytjemnankgjjgcaa
open Go.RowKit Dig
set_option linter.unusedVariables false

/-- A call that hands back a polynomial in memory of its own, its coefficients canonical, and leaves what was there. -/
def RPol (w : World) (qs : List Rat) (k : Nat) (e : Ending) (w' : World) : Prop := ∃ v, e = .returned v ∧ Ofl (CV k) w.heap.size w' v qs ∧ Below w.heap.size w w'
theorem below_stor3 {w w2 : World} (hB : Below w.heap.size w w2) {g : Nat} (hg : w.heap.size ≤ g) (o : Nat) (a b c : Value) : Below w.heap.size w (stor3o w2 g o a b c) := below_stor3o hB hg o a b c
/-- The list that a loop is writing: n places, the first i of them hold the first i values. -/
def Fill (base : Nat) (E : World → Value → Rat → Prop) (w : World) (g n i : Nat) (f : Nat → Rat) : Prop := ∃ ts, FBlk w g ts ∧ ts.length = n ∧ ∀ j, j < i → E w (ts.getD j .zero).val (f j)
section
variable {E : World → Value → Rat → Prop} {w w' : World} {g n i base : Nat} {f : Nat → Rat}
theorem Fill.start (h : FBlk w g (List.replicate n .zero)) : Fill base E w g n 0 f := ⟨_, h, by simp, fun j hj => absurd hj (by omega)⟩
theorem Fill.below (h : Fill base E w g n i f) (K : Keeps E) (hb : Below w.heap.size w w') : Fill base E w' g n i f := by
  obtain ⟨ts, hF, hl, hE⟩ := h
  exact ⟨ts, hF.below hb, hl, fun j hj => K.below (hE j hj) hb⟩
theorem Fill.lt (h : Fill base E w g n i f) : g < w.heap.size := by
  obtain ⟨ts, hF, _⟩ := h
  exact hF.lt
theorem Fill.frozen (h : Fill base E w g n i f) (j : Nat) : w.frozen? ⟨g, j, none⟩ = false := by
  obtain ⟨ts, hF, _⟩ := h
  exact hF.frozen j
theorem Fill.cells (h : Fill base E w g n i f) {j : Nat} (hj : j < n) : ∃ a b c, w.cell? ⟨g, j * 3, none⟩ = some a ∧ w.cell? ⟨g, j * 3 + 1, none⟩ = some b ∧ w.cell? ⟨g, j * 3 + 2, none⟩ = some c := by
  obtain ⟨ts, hF, hl, _⟩ := h
  obtain ⟨c0, c1, c2⟩ := hF.cells (j := j) (by omega)
  exact ⟨_, _, _, c0, c1, c2⟩
theorem Fill.set (h : Fill base E w g n i f) (K : Keeps E) (hi : i < n) {b : Bool} {X Y : Option Addr} {xm xc ym yc : Nat} (hE : E w (.agg #[.bool b, .slice X xm xc, .slice Y ym yc]) (f i)) :
    Fill base E (stor3o w g (i * 3) (.bool b) (.slice X xm xc) (.slice Y ym yc)) g n (i + 1) f := by
  obtain ⟨ts, hF, hl, h⟩ := h
  have hS : FBlk (stor3o w g (i * 3) (.bool b) (.slice X xm xc) (.slice Y ym yc)) g (ts.set i ⟨b, (X, xm, xc), (Y, ym, yc)⟩) := hF.set (by omega) (⟨b, (X, xm, xc), (Y, ym, yc)⟩ : Tri)
  have hs : w.heap.size ≤ (stor3o w g (i * 3) (.bool b) (.slice X xm xc) (.slice Y ym yc)).heap.size := Nat.le_of_eq (stor3o_size _ _ _ _ _ _).symm
  have hk := stor3o_heap w g (i * 3) (.bool b) (.slice X xm xc) (.slice Y ym yc)
  generalize stor3o w g (i * 3) (.bool b) (.slice X xm xc) (.slice Y ym yc) = w3 at *
  refine ⟨_, hS, by simpa using hl, fun j hj => ?_⟩
  rcases Nat.lt_or_ge j i with h1 | h1
  · rw [List.getD_eq_getElem?_getD, List.getElem?_set_ne (by omega), ← List.getD_eq_getElem?_getD]
    exact K.apart (h j h1) hF hs hk
  · obtain rfl : j = i := by omega
    rw [List.getD_eq_getElem?_getD, List.getElem?_set_self (by omega)]
    exact K.apart (v := .agg #[.bool b, .slice X xm xc, .slice Y ym yc]) hE hF hs hk
theorem Fill.done (h : Fill base E w g n n f) (hg : base ≤ g) (hm : n ≤ 1000000000000) : Ofl E base w (.slice (some ⟨g, 0, none⟩) n n) (mk n f) := by
  obtain ⟨ts, hF, hl, hE⟩ := h
  refine .inr ⟨g, ts, by rw [mk_length, hl], hg, hF, by rw [mk_length]; omega, by unfold maxLen; omega, fun j hj => ?_⟩
  rw [mk_length] at hj
  have : (mk n f).getD j 0 = f j := by have := cf_mk n f j; rw [if_pos hj] at this; exact this
  rw [this]
  exact hE j hj
theorem Ofl.cast {v : Value} {ps qs : List Rat} (h : Ofl E base w v ps) (e : ps = qs) : Ofl E base w v qs := e ▸ h
end

section
variable {w : World} {v : Value} {qs : List Rat} {k : Nat}
set_option maxHeartbeats 4000000 in
theorem normalize_p (h : Fls (FV k) w v qs) (hk : k ≤ 400000) (h2 : 2 ≤ k) (hl : qs.length ≤ 1000000000) : Calls Try.prog 13 #[v] w (RPol w (tr qs) k) := by
  have T := Lib.hid (trim_p h (keeps_FV k) (reads_FV k) hk)
  have hl := Nat.le_trans (tr_le qs) hl
  generalize tr qs = ps at *
  clear h
  go_enter Try.func13, Try.ntmps13
  go_wp2_with fail
  refine (T.out).mono ?_
  rintro e w1 ⟨A, c, rfl, rfl, hF, hB1⟩
  obtain ⟨_, hc, hm⟩ := hF.lens
  obtain ⟨n, hn⟩ : ∃ n, ps.length = n := ⟨_, rfl⟩
  rw [hn] at hc hl
  have HN := Lib.hid hn
  have HF := Lib.hid hF
  rw [hn]
  clear hF hn T
  go_wp2_with (at_make; refine wp_make_f 24 (by kernel_rfl) rfl _ _ rfl _ _ n rfl rfl rfl rfl (by omega) ?_; intro w2 hF2 hB2)
  have hG : w.heap.size ≤ w1.heap.size := hB1.size
  have hI := Fill.start (base := w.heap.size) (E := CV k) (f := cf ps) hF2
  have hW2 := below_then hB1 hB2
  have HW := Lib.hid (fun wr (hr : Below w1.heap.size w1 wr) => (HF.out.below (keeps_FV k) hr).cells (n := ps.length))
  generalize w1.heap.size = g at *
  clear hF2 hB1 HF
  have HK := Lib.hid (keeps_CV k)
  go_loopw [13] (fun i wr => ∃ j : Nat, j ≤ n ∧ i = .int .i64 j ∧ Fill w.heap.size (CV k) wr g n j (cf ps) ∧ Below w.heap.size w wr ∧ Below g w1 wr) (fun i _ => n - (intOf i).toNat)
  case atStart => exact ⟨0, Nat.zero_le _, rfl, hI, hW2, hB2⟩
  case round =>
    obtain ⟨j, hj, rfl, hI, hB, hB2⟩ := hrel
    by_cases hjn : j < n
    · have HI : (j : Int) < n := by omega
      obtain ⟨b, off, rfl, hb, hcell⟩ := HW.out _ hB2 (by rw [HN.out]; omega)
      obtain ⟨tb, X, xm, xc, Y, ym, yc, c0, c1, c2, hv⟩ := hcell j (by rw [HN.out]; exact hjn)
      have NF := Lib.hid (fun w3 (hb3 : Below wr.heap.size wr w3) => normf_v (w := w3) (FracV.below hv hb3) hk h2)
      have FI := Lib.hid hI
      clear hcell hv hI
      go_wp2_with fail
      refine (NF.out _ ((Below.refl _ _).alloc (Nat.le_refl _) _)).mono ?_
      rintro e w4 ⟨u, rfl, hu, hB4⟩
      have hB4 : Below wr.heap.size wr w4 := below_new _ hB4
      obtain ⟨b', C, o, r, C', o', r', rfl, hb', hvx, hvy⟩ := hu.parts
      have hI := FI.out.below HK.out hB4
      obtain ⟨z0, z1, z2, e0, e1, e2⟩ := hI.cells hjn
      have f0 := hI.frozen (j * 3)
      have f1 := hI.frozen (j * 3 + 1)
      have f2 := hI.frozen (j * 3 + 2)
      have HS := Lib.hid (hI.set HK.out hjn (CanF.ofParts hb' hvx hvy : CV k w4 _ _))
      have hB := below_then hB hB4
      have hB2 := hB2.trans (hB4.mono (Nat.le_of_lt FI.out.lt))
      clear c0 c1 c2 hI hu hb' hvx hvy NF
      go_wp2_with fail
      go_roundw
      case rel => exact ⟨j + 1, by omega, by go_num, HS.out, below_stor3o hB hG _ _ _ _, below_stor3o hB2 (Nat.le_refl _) _ _ _ _⟩
      case measure => simp [intOf]; omega
    · have HI : ¬ (j : Int) < n := by omega
      obtain rfl : j = n := by omega
      have HD := Lib.hid (hI.done hG (by omega))
      have HB := Lib.hid hB
      clear hI hB hB2
      go_wp2_with fail
      go_ret
      exact ⟨_, rfl, HD.out.cast (by rw [← HN.out, mk_cf]), HB.out⟩
end
end Go.Proofs.Ytjemnankgjjgcaa

/- The contracts of Add and Scale of package poly. -/
namespace Go.Proofs.Ytjemnankgjjgcaa
open Go.RowKit Dig
set_option linter.unusedVariables false

theorem Ofl.cut {E : World → Value → Rat → Prop} {base : Nat} {w : World} {A : Option Addr} {n c : Nat} {qs : List Rat} (h : Ofl E base w (.slice A n c) qs) : Ofl E base w (.slice A (tr qs).length c) (tr qs) := by
  rcases h with ⟨e, rfl⟩ | ⟨g, ts, e, hb, hF, hl, hm, hE⟩
  · simp only [Value.slice.injEq] at e
    obtain ⟨rfl, rfl, rfl⟩ := e
    exact .inl ⟨rfl, rfl⟩
  · simp only [Value.slice.injEq] at e
    obtain ⟨rfl, rfl, rfl⟩ := e
    have := tr_le qs
    refine .inr ⟨g, ts, rfl, hb, hF, by omega, hm, fun j hj => ?_⟩
    have h := hE j (by omega)
    have e : (tr qs).getD j 0 = qs.getD j 0 := cf_tr qs j
    rw [e]
    exact h
section
variable {w : World} {va vb : Value} {ps qs : List Rat} {k l : Nat}
set_option maxHeartbeats 4000000 in
theorem add_p (ha : Fls (FV k) w va ps) (hb : Fls (FV l) w vb qs) (hk : k ≤ 100000) (hl : l ≤ 100000) (h2 : 2 ≤ k) (h2' : 2 ≤ l) (hm : ps.length ≤ 1000000000) (hm' : qs.length ≤ 1000000000) :
    Calls Try.prog 15 #[va, vb] w (RPol w (padd ps qs) (k + l + 1)) := by
  obtain ⟨A, c, rfl⟩ := ha.form
  obtain ⟨B, d, rfl⟩ := hb.form
  have hN := Lib.hid (show max ps.length qs.length ≤ 1000000000 by omega)
  have AT1 := Lib.hid (fun w1 hB i (hi : i ≤ 9223372036854775807) => at_p (Fls.below (w' := w1) ha (keeps_FV k) hB) (reads_FV k) i hi)
  have AT2 := Lib.hid (fun w1 hB i (hi : i ≤ 9223372036854775807) => at_p (Fls.below (w' := w1) hb (keeps_FV l) hB) (reads_FV l) i hi)
  have TR := Lib.hid (fun w1 v (hv : Ofl (CV (k + l + 1)) w.heap.size w1 v (mk (max ps.length qs.length) fun i => cf ps i + cf qs i)) => trim_p hv.fls (keeps_CV (k + l + 1)) (reads_CV (k + l + 1)) (by omega))
  have ADD := Lib.hid (fun w1 x y p q (hx : FracV w1 x p k) (hy : FracV w1 y q l) => addf_v hx hy hk hl h2 h2')
  have HK := Lib.hid (keeps_CV (k + l + 1))
  have HM := Lib.hid (show max (ps.length : Int) (qs.length : Int) = ((max ps.length qs.length : Nat) : Int) by omega)
  clear ha hb hk hl h2 h2' hm hm'
  unfold padd
  generalize hF : (fun i => cf ps i + cf qs i) = F at *
  have HF := Lib.hid hF
  clear hF
  go_enter Try.func15, Try.ntmps15
  generalize max ps.length qs.length = n at *
  go_wp2_with (at_make; refine wp_make_f 24 (by kernel_rfl) rfl _ _ rfl _ _ n rfl rfl HM.out HM.out (by have := hN.out; omega) ?_; intro w2 hF2 hB2)
  have hI := Fill.start (base := w.heap.size) (E := CV (k + l + 1)) (f := F) hF2
  clear hF2
  generalize hg : w.heap.size = g at *
  have HG := Lib.hid hg
  go_loopw [15] (fun i wr => ∃ j : Nat, j ≤ n ∧ i = .int .i64 j ∧ Fill g (CV (k + l + 1)) wr g n j F ∧ Below g w wr) (fun i _ => n - (intOf i).toNat)
  case atStart => exact ⟨0, Nat.zero_le _, rfl, hI, hB2⟩
  case round =>
    obtain ⟨j, hj, rfl, hI, hB⟩ := hrel
    have FI := Lib.hid hI
    have hlt := hI.lt
    by_cases hjn : j < n
    · have HI : (j : Int) < n := by omega
      have hnn := hN.out
      clear hI
      go_wp2_with fail
      refine (AT1.out _ hB j (by have := hN.out; omega)).mono ?_
      rintro e w3 ⟨x, rfl, hx, hB3⟩
      have hBg : Below g w w3 := hB.trans (hB3.mono (Nat.le_of_lt hlt))
      go_wp2_with fail
      refine (AT2.out _ hBg j (by have := hN.out; omega)).mono ?_
      rintro e w4 ⟨y, rfl, hy, hB4⟩
      have hx := hx.below hB4
      have hB4 := below_then hB3 hB4
      go_wp2_with fail
      refine (ADD.out _ _ _ _ _ hx hy).mono ?_
      rintro e w5 ⟨u, rfl, hu, hB5⟩
      have hB5 := below_then hB4 hB5
      have hB := hB.trans (hB5.mono (Nat.le_of_lt hlt))
      obtain ⟨b', C, o, r, C', o', r', rfl, hb', hvx, hvy⟩ := hu.parts
      have hI := FI.out.below HK.out hB5
      obtain ⟨z0, z1, z2, e0, e1, e2⟩ := hI.cells hjn
      have f0 := hI.frozen (j * 3)
      have f1 := hI.frozen (j * 3 + 1)
      have f2 := hI.frozen (j * 3 + 2)
      have HS := Lib.hid (hI.set HK.out hjn (show CV (k + l + 1) w5 _ (F j) by rw [← HF.out]; exact CanF.ofParts hb' hvx hvy))
      clear hI hu hb' hvx hvy hx hy
      go_wp2_with fail
      go_roundw
      case rel => exact ⟨j + 1, by omega, by go_num, HS.out, below_stor3o hB (Nat.le_refl _) _ _ _ _⟩
      case measure => simp [intOf]; omega
    · have HI : ¬ (j : Int) < n := by omega
      obtain rfl : j = n := by omega
      have HD := Lib.hid (hI.done (Nat.le_refl _) (by have := hN.out; omega))
      clear hI
      go_wp2_with fail
      refine (TR.out _ _ HD.out).mono ?_
      rintro e w5 ⟨A', c', hA, rfl, hf, hB5⟩
      injection hA with hA1 hA2 hA3
      subst hA1
      subst hA3
      clear hA2
      have HB := Lib.hid (hB.trans (hB5.mono (Nat.le_of_lt hlt)))
      have HO := Lib.hid (HD.out.below HK.out hB5).cut
      clear hf
      go_wp2_with fail
      go_ret
      exact ⟨_, rfl, by rw [HG.out]; exact HO.out, by rw [HG.out]; exact HB.out⟩

set_option maxHeartbeats 4000000 in
theorem scale_p {q : Rat} (ha : Fls (FV k) w va ps) (hb : FracV w vb q l) (hk : k ≤ 100000) (hl : l ≤ 100000) (h2 : 2 ≤ l) (hm : ps.length ≤ 1000000000) :
    Calls Try.prog 19 #[va, vb] w (RPol w (pscale ps q) (l + k)) := by
  obtain ⟨A, c, rfl⟩ := ha.form
  obtain ⟨nb, B, i, x, B', i', x', s, t, rfl, hs, ht, hq⟩ := hb.parts
  have hB0 : Below w.heap.size w (w.alloc (.cells #[.bool nb, .slice B i x, .slice B' i' x'] 29)) := (Below.refl _ _).alloc (Nat.le_refl _) _
  have R0 := Fcl.new w nb (.slice B i x) (.slice B' i' x')
  have ha := Fls.below ha (keeps_FV k) hB0
  have hb := FracV.below hb hB0
  have HW0 := Lib.hid hB0
  have hg0 : w.heap.size ≤ (w.alloc (.cells #[.bool nb, .slice B i x, .slice B' i' x'] 29)).heap.size := hB0.size
  obtain ⟨w0, hw0⟩ : ∃ w0, w.alloc (.cells #[.bool nb, .slice B i x, .slice B' i' x'] 29) = w0 := ⟨_, rfl⟩
  rw [hw0] at hB0 R0 ha hb hg0
  have HE := Lib.hid hw0
  clear hw0
  have HA := Lib.hid (fun w1 hB => Fls.cells (w := w1) (n := ps.length) (Fls.below ha (keeps_FV k) hB))
  have RB := Lib.hid (fun w1 hB => Fcl.below (w' := w1) R0 hB)
  have MU := Lib.hid (fun w1 y p hB (hy : FracV w1 y p k) => mulf_v (w := w1) (hb.below hB) hy hl hk h2)
  have TR := Lib.hid (fun w1 v (hv : Ofl (CV (l + k)) w0.heap.size w1 v (mk ps.length fun i => q * cf ps i)) => trim_p hv.fls (keeps_CV (l + k)) (reads_CV (l + k)) (by omega))
  have HK := Lib.hid (keeps_CV (l + k))
  have hE : pscale ps q = tr (mk ps.length fun i => q * cf ps i) := by
    unfold pscale
    congr 1
    apply list_ext
    · rw [mk_length, List.length_map]
    · intro i hi
      rw [List.length_map] at hi
      rw [cf_map _ _ (by grind), cf_mk, if_pos hi]
  rw [hE]
  clear hE ha hb hs ht hq hk hl h2 hB0
  generalize hF : (fun i => q * cf ps i) = F at *
  have HF := Lib.hid hF
  clear hF
  generalize ps.length = n at *
  have HG0 := Lib.hid hg0
  have HM0 := Lib.hid hm
  clear R0 hg0 hm
  go_enter Try.func19, Try.ntmps19
  go_wp2_with (at_make; rw [HE.out]; refine wp_make_f 24 (by kernel_rfl) rfl _ _ rfl _ _ n rfl rfl rfl rfl (by have := HM0.out; omega) ?_; intro w2 hF2 hB2)
  have hI := Fill.start (base := w0.heap.size) (E := CV (l + k)) (f := F) hF2
  clear hF2
  generalize hg1 : w.heap.size = g0 at *
  generalize hg : w0.heap.size = g at *
  have HG := Lib.hid hg1
  clear hg hg1
  go_loopw [13] (fun i wr => ∃ j : Nat, j ≤ n ∧ i = .int .i64 j ∧ Fill g (CV (l + k)) wr g n j F ∧ Below g w0 wr) (fun i _ => n - (intOf i).toNat)
  case atStart => exact ⟨0, Nat.zero_le _, rfl, hI, hB2⟩
  case round =>
    obtain ⟨j, hj, rfl, hI, hB⟩ := hrel
    have FI := Lib.hid hI
    have hlt := hI.lt
    by_cases hjn : j < n
    · have HI : (j : Int) < n := by omega
      have hnn := HM0.out
      obtain ⟨b, off, rfl, hb, hcell⟩ := HA.out _ hB (by omega)
      obtain ⟨tb, X, xm, xc, Y, ym, yc, c0, c1, c2, hv⟩ := hcell j hjn
      have hA4 : Below wr.heap.size wr (wr.alloc (.cells #[.bool tb, .slice X xm xc, .slice Y ym yc] 29)) := (Below.refl _ _).alloc (Nat.le_refl _) _
      have R1 := Fcl.alloc (RB.out _ hB) (.cells #[.bool tb, .slice X xm xc, .slice Y ym yc] 29)
      obtain ⟨k0, k1, k2⟩ := R1.cells
      have M := Lib.hid (MU.out (wr.alloc (.cells #[.bool tb, .slice X xm xc, .slice Y ym yc] 29)) _ _ (hB.trans (hA4.mono (Nat.le_of_lt hlt))) (FracV.below hv hA4))
      clear hI hcell hv R1
      go_wp2_with fail
      refine (M.out).mono ?_
      rintro e w5 ⟨u, rfl, hu, hB5⟩
      have hB5 := below_new _ hB5
      have hB := hB.trans (hB5.mono (Nat.le_of_lt hlt))
      obtain ⟨b', C, o, r, C', o', r', rfl, hb', hvx, hvy⟩ := hu.parts
      have hI := FI.out.below HK.out hB5
      obtain ⟨z0, z1, z2, e0, e1, e2⟩ := hI.cells hjn
      have f0 := hI.frozen (j * 3)
      have f1 := hI.frozen (j * 3 + 1)
      have f2 := hI.frozen (j * 3 + 2)
      have HS := Lib.hid (hI.set HK.out hjn (show CV (l + k) w5 _ (F j) by rw [← HF.out]; exact CanF.ofParts hb' hvx hvy))
      clear hI hu hb' hvx hvy c0 c1 c2 k0 k1 k2
      go_wp2_with fail
      go_roundw
      case rel => exact ⟨j + 1, by omega, by go_num, HS.out, below_stor3o hB (Nat.le_refl _) _ _ _ _⟩
      case measure => simp [intOf]; omega
    · have HI : ¬ (j : Int) < n := by omega
      obtain rfl : j = n := by omega
      have HD := Lib.hid (hI.done (Nat.le_refl _) (by have := HM0.out; omega))
      clear hI
      go_wp2_with fail
      refine (TR.out _ _ HD.out).mono ?_
      rintro e w5 ⟨A', c', hA, rfl, hf, hB5⟩
      injection hA with hA1 hA2 hA3
      subst hA1
      subst hA3
      clear hA2
      have hB9 := hB.trans (hB5.mono (Nat.le_of_lt hlt))
      have HB := Lib.hid hB9
      have HO := Lib.hid ((HD.out.below HK.out hB5).cut.mono HG0.out)
      clear hf hB9
      go_wp2_with fail
      go_ret
      refine ⟨_, rfl, by rw [HG.out]; exact HO.out, ?_⟩
      rw [HG.out]
      exact HW0.out.trans (by rw [HE.out]; exact HB.out.mono HG0.out)
end
end Go.Proofs.Ytjemnankgjjgcaa

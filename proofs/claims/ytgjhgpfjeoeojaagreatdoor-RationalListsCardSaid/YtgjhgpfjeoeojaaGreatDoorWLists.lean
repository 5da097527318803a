/- The walk of the law RationalLists: it returns true and leaves what was there. -/
import Derived.Test.YtgjhgpfjeoeojaaGreatDoorCutf
import Derived.Test.YtgjhgpfjeoeojaaGreatDoorFold
import Derived.Test.YtgjhgpfjeoeojaaGreatDoorBown
import Derived.Test.YtgjhgpfjeoeojaaGreatDoorKnow2
import Derived.Test.YtgjhgpfjeoeojaaGreatDoorPlans
import Derived.Test.YtgjhgpfjeoeojaaGreatDoorInts
namespace Go.Proofs.YtgjhgpfjeoeojaaGreatDoor
set_option linter.unusedSimpArgs false
open Go.RowKit Dig
set_option linter.unusedVariables false

/-- One fraction in a block that was just laid. -/
theorem CanF.lone {w : World} {b : Bool} {A A' : Option Addr} {m c m' c' k : Nat} {q : Rat} (h : CanF w (.agg #[.bool b, .slice A m c, .slice A' m' c']) q k) :
    Fls (CV k) (w.alloc (.cells #[.bool b, .slice A m c, .slice A' m' c'] 25)) (.slice (some ⟨w.heap.size, 0, none⟩) 1 1) [q] := by
  have hB : FBlk (w.alloc (.cells (tcells [⟨b, (A, m, c), (A', m', c')⟩]).toArray 25)) w.heap.size [⟨b, (A, m, c), (A', m', c')⟩] := by
    unfold FBlk
    rw [heap_alloc_new]
  have hA : Below w.heap.size w (w.alloc (.cells (tcells [⟨b, (A, m, c), (A', m', c')⟩]).toArray 25)) := (Below.refl _ _).alloc (Nat.le_refl _) _
  have hv := CanF.below h hA
  have : Ofl (CV k) 0 (w.alloc (.cells #[.bool b, .slice A m c, .slice A' m' c'] 25)) (.slice (some ⟨w.heap.size, 0, none⟩) ([q] : List Rat).length 1) [q] := .inr ⟨w.heap.size, [⟨b, (A, m, c), (A', m', c')⟩], rfl, Nat.zero_le _, hB, by simp, by unfold maxLen; simp, fun j hj => by
    obtain rfl : j = 0 := by simp at hj; omega
    exact hv⟩
  exact this.fls
/-- Two lists lie apart. -/
def Sep (a b : Value) : Prop := ∀ k, a.ownBlock = some k → b.ownBlock ≠ some k
theorem Sep.symm {a b : Value} (h : Sep a b) : Sep b a := fun k e1 e2 => h k e2 e1
theorem Sep.grow {E : World → Value → Rat → Prop} {base : Nat} {w : World} {a a' b : Value} {qs : List Rat} (h : Sep a b) (hb : Ofl E base w b qs) (ho : a'.ownBlock = a.ownBlock ∨ a'.ownBlock = some w.heap.size) : Sep a' b := fun k e1 e2 => by
  rcases ho with ho | ho
  · exact h k (ho ▸ e1) e2
  · rw [ho] at e1
    have := (hb.ownLt e2).2
    cases e1
    omega
theorem sum_w {w : World} {v : Value} {qs : List Rat} (h : Fls (CV 2) w v qs) (hl : qs.length ≤ 8) : Calls Tryz.prog 37 #[v] w (RCanF w (lsum qs) 32) := by
  have hb := fbd_mono (k := 2) hl (by omega)
  have e : fbd 2 8 ≤ 32 := by decide
  refine (sum_r (by omega) (h.weaken fun v q _ h => CanF.fracV h) (by omega) (by omega)).mono ?_
  rintro e w1 ⟨u, rfl, hu, hB⟩
  exact ⟨u, rfl, CanF.le hu (by omega), hB⟩
theorem product_w {w : World} {v : Value} {qs : List Rat} (h : Fls (CV 2) w v qs) (hl : qs.length ≤ 8) : Calls Tryz.prog 38 #[v] w (RCanF w (lprod qs) 32) := by
  have hb := fbd_mono (k := 2) hl (by omega)
  have e : fbd 2 8 ≤ 32 := by decide
  refine (product_r (by omega) (h.weaken fun v q _ h => CanF.fracV h) (by omega) (by omega)).mono ?_
  rintro e w1 ⟨u, rfl, hu, hB⟩
  exact ⟨u, rfl, CanF.le hu (by omega), hB⟩
theorem take_bq {l : List Int} {j : Nat} (h : j < l.length) : (l.map bq).take (j + 1) = (l.map bq).take j ++ [bq (l.getD j 0)] := by
  rw [List.take_succ_eq_append_getElem (by simpa using h), List.getElem_map, List.getD_eq_getElem?_getD, List.getElem?_eq_getElem h]
  rfl
theorem take_rev {l : List Int} {j : Nat} (h : j < l.length) : ((l.map bq).reverse).take (j + 1) = ((l.map bq).reverse).take j ++ [bq (l.getD (l.length - 1 - j) 0)] := by
  have h2 : l.length - 1 - j < l.length := by omega
  rw [List.take_succ_eq_append_getElem (by simpa using h), List.getElem_reverse, List.getElem_map, List.getD_eq_getElem?_getD, List.getElem?_eq_getElem h2]
  simp only [List.length_map, Option.getD_some]
set_option maxRecDepth 20000 in
set_option maxHeartbeats 32000000 in
theorem lists_walk (w : World) (v1 : Value) (l1 : List Int) (n1 : Ints w v1 l1) {z : Int} (hwf : (Lit.int .i64 z).wf = true) (hM : MaxL w) : Calls Tryz.prog 7 #[v1, .int .i64 z] w (RVal w (.bool true)) := by
  obtain ⟨A1, c1, rfl⟩ := n1.form
  have hbd := n1.len.2
  have hz := wf_i64 hwf
  unfold Fits64 at hz
  have HTK := Lib.hid (fun j (hj : j < l1.length) => take_bq hj)
  have HTR := Lib.hid (fun j (hj : j < l1.length) => take_rev hj)
  have HLA := Lib.hid (show (l1.map bq).length = l1.length from List.length_map ..)
  have HLB := Lib.hid (show (l1.map bq).reverse.length = l1.length by rw [List.length_reverse, List.length_map])
  obtain ⟨m, hm⟩ : ∃ m, l1.length = m := ⟨_, rfl⟩
  rw [hm] at n1 hbd HTK HTR HLA HLB ⊢
  clear hm hwf
  by_cases hm8 : 8 < m
  · have h8 : (8 : Int) < m := by omega
    clear n1
    go_enter Tryz.func7, Tryz.ntmps7
    go_wp2_with fail
    go_ret
    exact ⟨rfl, Below.refl _ _⟩
  have h8 : ¬ (8 : Int) < m := by omega
  have HL := Lib.hid (fun w1 (hr : Below w.heap.size w w1) => (n1.below hr).cells)
  have FR := Lib.hid (fun w1 z => baseFrac_v w1 z)
  obtain ⟨As, hAs⟩ : ∃ As, l1.map bq = As := ⟨_, rfl⟩
  rw [hAs] at HTK HTR HLA HLB
  have HE1 := Lib.hid (lsum_reverse As)
  have HE2 := Lib.hid (lprod_reverse As)
  obtain ⟨Bs, hBs⟩ : ∃ Bs, As.reverse = Bs := ⟨_, rfl⟩
  rw [hBs] at HTR HLB HE1 HE2
  clear n1 hAs hBs
  obtain ⟨kk, hkm, ek⟩ : ∃ kk : Nat, kk ≤ m ∧ wrap64 ((IntKind.u64.wrap z).tmod ((m : Int) + 1)) = (kk : Int) := by
    have h0 : 0 ≤ IntKind.u64.wrap z := by rw [IntKind.wrap_u64]; omega
    have h1 := Int.tmod_eq_emod_of_nonneg (b := (m : Int) + 1) h0
    have h2 := Int.emod_nonneg (IntKind.u64.wrap z) (show (m : Int) + 1 ≠ 0 by omega)
    have h3 := Int.emod_lt_of_pos (IntKind.u64.wrap z) (show 0 < (m : Int) + 1 by omega)
    refine ⟨((IntKind.u64.wrap z).tmod ((m : Int) + 1)).toNat, by omega, ?_⟩
    rw [IntWalk.wrap64_in _ ⟨by omega, by omega⟩]
    omega
  go_enter Tryz.func7, Tryz.ntmps7
  go_wp2_with fail
  go_loopw [5, 6, 7] (fun av bv iv wr => ∃ j : Nat, j ≤ m ∧ iv = .int .i64 (j : Int) ∧ Ofl (CV 2) w.heap.size wr av (As.take j) ∧ Ofl (CV 2) w.heap.size wr bv (Bs.take j) ∧ Sep av bv ∧ Below w.heap.size w wr) (fun _ _ iv _ => m - (intOf iv).toNat)
  case atStart => exact ⟨0, Nat.zero_le _, rfl, Ofl.nil _ _ _, Ofl.nil _ _ _, fun k e => by simp [Value.ownBlock] at e, Below.refl _ _⟩
  case round =>
    obtain ⟨j, hj, rfl, hA, hB, hS, hK⟩ := hrel
    obtain ⟨A5, c5, rfl⟩ := hA.fls.form
    obtain ⟨A6, c6, rfl⟩ := hB.fls.form
    have hlA : (As.take j).length = j := by rw [List.length_take, HLA.out]; omega
    have hlB : (Bs.take j).length = j := by rw [List.length_take, HLB.out]; omega
    rw [hlA] at hA hS ⊢
    rw [hlB] at hB hS ⊢
    by_cases hjm : j < m
    · have HI : (j : Int) < m := by omega
      obtain ⟨b0, off, rfl, hbb, hall⟩ := HL.out _ (Below.refl _ _) (by omega)
      obtain ⟨hc, hfit⟩ := hall j hjm
      obtain ⟨hc2, hfit2⟩ := hall (m - 1 - j) (by omega)
      have hc := (hK.cell (p := ⟨b0, off + j, none⟩) hbb).trans hc
      have hc2 := (hK.cell (p := ⟨b0, off + (m - 1 - j), none⟩) hbb).trans hc2
      have hTA := Lib.hid (HTK.out j hjm)
      have hTB := Lib.hid (HTR.out j hjm)
      generalize l1.getD j 0 = z1 at hc hfit hTA
      generalize l1.getD (m - 1 - j) 0 = z2 at hc2 hfit2 hTB
      have hix : ((m : Int) - 1 - (j : Int)) = ((m - 1 - j : Nat) : Int) := by omega
      have HIX := Lib.hid hix
      have HNO := Lib.hid (show Value.ownBlock (.slice A5 j c5) ≠ some b0 from fun e => by have := (hA.ownLt e).1; omega)
      have hbb := Nat.lt_of_lt_of_le hbb hK.size
      clear hall hix
      go_wp2_with fail
      refine (FR.out _ _).mono ?_
      rintro e w2 ⟨u, rfl, hu, hB2⟩
      obtain ⟨b, C, o, r, C', o', r', rfl, hb, hvx, hvy⟩ := hu.parts
      have hAl : Below w2.heap.size w2 (w2.alloc (.cells #[.bool b, .slice C o r, .slice C' o' r'] 25)) := (Below.refl _ _).alloc (Nat.le_refl _) _
      have HE := Lib.hid (CanF.lone hu)
      have HA := Lib.hid ((hA.below (keeps_CV 2) hB2).below (keeps_CV 2) hAl)
      have HB := Lib.hid ((hB.below (keeps_CV 2) hB2).below (keeps_CV 2) hAl)
      have HK := Lib.hid (below_then (below_then hK hB2) hAl)
      have hbb2 : b0 < (w2.alloc (.cells #[.bool b, .slice C o r, .slice C' o' r'] 25)).heap.size := Nat.lt_of_lt_of_le hbb (below_then hB2 hAl).size
      have hc2 := ((below_then hB2 hAl).cell (p := ⟨b0, off + (m - 1 - j), none⟩) hbb).trans hc2
      have HC := Lib.hid (fun y (hg : (w2.alloc (.cells #[.bool b, .slice C o r, .slice C' o' r'] 25)).grownBy y (Value.ownBlock (.slice A5 j c5))) => (World.cell?_of_block (a := ⟨b0, off + (m - 1 - j), none⟩) (hg.block b0 hbb2 (fun e => HNO.out e.symm))).trans hc2)
      have hsz : w.heap.size ≤ w2.heap.size + 1 := by have := hK.size; have := hB2.size; omega
      have HS := Lib.hid hS
      clear hu hb hvx hvy hB2 hA hB hK hAl hc hbb hbb2 hc2 hS
      go_wp2_with (at_builtin; refine wp_append_f (keeps_CV 2) 45 (by kernel_rfl) rfl _ _ rfl w.heap.size _ (As.take j) rfl HA.out (.slice (some ⟨w2.heap.size, 0, none⟩) 1 1) [bq z1] rfl HE.out (by simp) (by rw [hlA]; simp; omega) (by simp; omega) ?_; intro v' y hGr; have hc3 := HC.out _ hGr.2.1)
      obtain ⟨hA, hgb, hown, A9, n9, c9, rfl⟩ := hGr
      have hB := HB.out.grownC HA.out HS.out.symm hgb
      have hS := HS.out.grow HB.out hown
      have hK := HK.out.grown hgb HK.out.size (fun k e => (HA.out.ownLt e).1)
      rw [← hTA.out] at hA
      clear HE HA HB HK HC HS hown hgb hc3 hsz
      refine (FR.out _ _).mono ?_
      rintro e w3 ⟨u, rfl, hu, hB3⟩
      obtain ⟨b, C, o, r, C', o', r', rfl, hb, hvx, hvy⟩ := hu.parts
      have hAl : Below w3.heap.size w3 (w3.alloc (.cells #[.bool b, .slice C o r, .slice C' o' r'] 25)) := (Below.refl _ _).alloc (Nat.le_refl _) _
      have HE := Lib.hid (CanF.lone hu)
      have HA := Lib.hid ((hA.below (keeps_CV 2) hB3).below (keeps_CV 2) hAl)
      have HB := Lib.hid ((hB.below (keeps_CV 2) hB3).below (keeps_CV 2) hAl)
      have HK := Lib.hid (below_then (below_then hK hB3) hAl)
      have hsz : w.heap.size ≤ w3.heap.size + 1 := by have := hK.size; have := hB3.size; omega
      have HS := Lib.hid hS
      clear hu hb hvx hvy hB3 hA hB hK hAl hS
      go_wp2_with (at_builtin; refine wp_append_f (keeps_CV 2) 45 (by kernel_rfl) rfl _ _ rfl w.heap.size _ (Bs.take j) rfl HB.out (.slice (some ⟨w3.heap.size, 0, none⟩) 1 1) [bq z2] rfl HE.out (by simp) (by rw [hlB]; simp; omega) (by simp; omega) ?_; intro v' y2 hGr)
      obtain ⟨hB, hgb, hown, A8, n8, c8, rfl⟩ := hGr
      have hA := HA.out.grownC HB.out HS.out hgb
      have hS := (HS.out.symm.grow HA.out hown).symm
      have hK := HK.out.grown hgb HK.out.size (fun k e => (HB.out.ownLt e).1)
      rw [← hTB.out] at hB
      clear HE HA HB HK HS hown hgb hsz
      go_roundw
      case rel => exact ⟨j + 1, by omega, by go_num, hA, hB, hS, hK⟩
      case measure => simp [intOf]; omega
    · have HI : ¬ (j : Int) < m := by omega
      obtain rfl : j = m := by omega
      generalize wr = w6 at *
      have hTA : As.take j = As := List.take_of_length_le (by rw [HLA.out]; omega)
      have hTB : Bs.take j = Bs := List.take_of_length_le (by rw [HLB.out]; omega)
      rw [hTA] at hA hlA
      rw [hTB] at hB hlB
      have fA := hA.fls
      have fB := hB.fls
      have hmc : j ≤ c5 := by
        obtain ⟨A', c', e, ⟨h1, _⟩, _⟩ := fA
        simp only [Value.slice.injEq] at e
        omega
      have fA' : Fls (CV 2) w6 (.slice A5 As.length c5) As := by rw [hlA]; exact fA
      have fH := fA'.take (n := kk) (by omega)
      have fT := fA'.tail (k := kk) (by omega)
      rw [hlA] at fT
      have SA := Lib.hid (fun w1 (hr : Below w6.heap.size w6 w1) => sum_w (fA.below (keeps_CV 2) hr) (by omega))
      have PA := Lib.hid (fun w1 (hr : Below w6.heap.size w6 w1) => product_w (fA.below (keeps_CV 2) hr) (by omega))
      have SB := Lib.hid (fun w1 (hr : Below w6.heap.size w6 w1) => sum_w (fB.below (keeps_CV 2) hr) (by omega))
      have PB := Lib.hid (fun w1 (hr : Below w6.heap.size w6 w1) => product_w (fB.below (keeps_CV 2) hr) (by omega))
      have SH := Lib.hid (fun w1 (hr : Below w6.heap.size w6 w1) => sum_w (fH.below (keeps_CV 2) hr) (by rw [List.length_take]; omega))
      have PH := Lib.hid (fun w1 (hr : Below w6.heap.size w6 w1) => product_w (fH.below (keeps_CV 2) hr) (by rw [List.length_take]; omega))
      have ST := Lib.hid (fun w1 (hr : Below w6.heap.size w6 w1) => sum_w (fT.below (keeps_CV 2) hr) (by rw [List.length_drop]; omega))
      have PT := Lib.hid (fun w1 (hr : Below w6.heap.size w6 w1) => product_w (fT.below (keeps_CV 2) hr) (by rw [List.length_drop]; omega))
      have E1 := Lib.hid (HE1.out.symm)
      have E2 := Lib.hid (HE2.out.symm)
      have E3 := Lib.hid (show lsum As = lsum (As.take kk) + lsum (As.drop kk) by rw [← lsum_append, List.take_append_drop])
      have E4 := Lib.hid (show lprod As = lprod (As.take kk) * lprod (As.drop kk) by rw [← lprod_append, List.take_append_drop])
      have HB := Lib.hid hK
      have hM := Lib.hid (hM.below hK)
      generalize lsum As = sa at *
      generalize lsum Bs = sb at *
      generalize lprod As = pa at *
      generalize lprod Bs = pb at *
      generalize lsum (As.take kk) = sh at *
      generalize lsum (As.drop kk) = st at *
      generalize lprod (As.take kk) = ph at *
      generalize lprod (As.drop kk) = pt at *
      clear fA fB fA' fH fT hA hB hS hK hTA hTB hlA hlB HTK HTR HLA HLB HE1 HE2 HL FR
      go_wp2_with fail
      refine wp_region_plan (S := fun w' => Below w6.heap.size w6 w') [(0, true), (2, true), (1, false), (3, false), (4, false), (5, true), (6, true), (8, true), (7, false), (9, false), (10, false), (11, true), (12, true), (13, true), (15, true), (16, true), (17, true), (19, true), (20, true), (21, true), (14, false), (18, false), (22, false), (23, false), (24, false), (25, true), (26, true), (27, true), (29, true), (30, true), (31, true), (33, true), (34, true), (35, true), (28, false), (32, false), (36, false), (37, false), (38, false), (39, true), (40, true), (41, false), (42, true), (43, true)] (by kernel_rfl) (by kernel_rfl) (by kernel_rfl) (by kernel_rfl) (fun _ _ d _ _ h => by cases d <;> exact h) (Below.refl _ _).drew ?_
      have hK : Below w6.heap.size w6 w6.drew := (Below.refl _ _).drew
      refine wkS_take (some 46) (.slice A5 j c5) (by kernel_rfl) (by kernel_rfl) (by kernel_rfl) (fun w hS => by kernel_rfl) ?_
      simp only [put_lit, put_non, List.set_cons_zero, List.set_cons_succ]
      refine wkS_take (some 48) (.slice A6 j c6) (by kernel_rfl) (by kernel_rfl) (by kernel_rfl) (fun w hS => by kernel_rfl) ?_
      simp only [put_lit, put_non, List.set_cons_zero, List.set_cons_succ]
      refine wkS_call (some 47) 37 #[.slice A5 j c5] (by kernel_rfl) (by kernel_rfl) (by kernel_rfl) (fun w => by kernel_rfl) ?_
      refine (SA.out _ hK).mono ?_
      rintro e u1 ⟨r1, rfl, hr1, hB⟩
      refine ⟨r1, rfl, below_then hK hB, ?_⟩
      have hK := below_then hK hB
      clear hB
      simp only [put_lit, put_non, List.set_cons_zero, List.set_cons_succ]
      refine wkS_call (some 49) 37 #[.slice A6 j c6] (by kernel_rfl) (by kernel_rfl) (by kernel_rfl) (fun w => by kernel_rfl) ?_
      refine (SB.out _ hK).mono ?_
      rintro e u2 ⟨r2, rfl, hr2, hB⟩
      refine ⟨r2, rfl, below_then hK hB, ?_⟩
      have hK := below_then hK hB
      have hr1 := hr1.below hB
      clear hB
      simp only [put_lit, put_non, List.set_cons_zero, List.set_cons_succ]
      refine wkS_call (some 50) 11 #[r1, r2] (by kernel_rfl) (by kernel_rfl) (by kernel_rfl) (fun w => by kernel_rfl) ?_
      refine (same_ft hr1 hr2 (E1.out)).mono ?_
      rintro e u3 ⟨rfl, hB⟩
      refine ⟨_, rfl, below_then hK hB, ?_⟩
      have hK := below_then hK hB
      have hr1 := hr1.below hB
      have hr2 := hr2.below hB
      clear hB
      simp only [put_lit, put_non, List.set_cons_zero, List.set_cons_succ]
      refine wkS_take (some 51) (.bool true) (by kernel_rfl) (by kernel_rfl) (by kernel_rfl) (fun w hS => by kernel_rfl) ?_
      simp only [put_lit, put_non, List.set_cons_zero, List.set_cons_succ]
      refine wkS_take (some 52) (.slice A5 j c5) (by kernel_rfl) (by kernel_rfl) (by kernel_rfl) (fun w hS => by kernel_rfl) ?_
      simp only [put_lit, put_non, List.set_cons_zero, List.set_cons_succ]
      refine wkS_take (some 54) (.slice A6 j c6) (by kernel_rfl) (by kernel_rfl) (by kernel_rfl) (fun w hS => by kernel_rfl) ?_
      simp only [put_lit, put_non, List.set_cons_zero, List.set_cons_succ]
      clear hr1 hr2
      refine wkS_call (some 53) 38 #[.slice A5 j c5] (by kernel_rfl) (by kernel_rfl) (by kernel_rfl) (fun w => by kernel_rfl) ?_
      refine (PA.out _ hK).mono ?_
      rintro e u4 ⟨r1, rfl, hr1, hB⟩
      refine ⟨r1, rfl, below_then hK hB, ?_⟩
      have hK := below_then hK hB
      clear hB
      simp only [put_lit, put_non, List.set_cons_zero, List.set_cons_succ]
      refine wkS_call (some 55) 38 #[.slice A6 j c6] (by kernel_rfl) (by kernel_rfl) (by kernel_rfl) (fun w => by kernel_rfl) ?_
      refine (PB.out _ hK).mono ?_
      rintro e u5 ⟨r2, rfl, hr2, hB⟩
      refine ⟨r2, rfl, below_then hK hB, ?_⟩
      have hK := below_then hK hB
      have hr1 := hr1.below hB
      clear hB
      simp only [put_lit, put_non, List.set_cons_zero, List.set_cons_succ]
      refine wkS_call (some 56) 11 #[r1, r2] (by kernel_rfl) (by kernel_rfl) (by kernel_rfl) (fun w => by kernel_rfl) ?_
      refine (same_ft hr1 hr2 (E2.out)).mono ?_
      rintro e u6 ⟨rfl, hB⟩
      refine ⟨_, rfl, below_then hK hB, ?_⟩
      have hK := below_then hK hB
      have hr1 := hr1.below hB
      have hr2 := hr2.below hB
      clear hB
      simp only [put_lit, put_non, List.set_cons_zero, List.set_cons_succ]
      refine wkS_take (some 57) (.bool true) (by kernel_rfl) (by kernel_rfl) (by kernel_rfl) (fun w hS => by kernel_rfl) ?_
      simp only [put_lit, put_non, List.set_cons_zero, List.set_cons_succ]
      refine wkS_take (some 58) (.bool true) (by kernel_rfl) (by kernel_rfl) (by kernel_rfl) (fun w hS => by kernel_rfl) ?_
      simp only [put_lit, put_non, List.set_cons_zero, List.set_cons_succ]
      refine wkS_take (some 59) (.slice A5 j c5) (by kernel_rfl) (by kernel_rfl) (by kernel_rfl) (fun w hS => by kernel_rfl) ?_
      simp only [put_lit, put_non, List.set_cons_zero, List.set_cons_succ]
      refine wkS_take (some 61) (.slice A5 j c5) (by kernel_rfl) (by kernel_rfl) (by kernel_rfl) (fun w hS => by kernel_rfl) ?_
      simp only [put_lit, put_non, List.set_cons_zero, List.set_cons_succ]
      refine wkS_take (some 62) (.int .i64 (kk : Int)) (by kernel_rfl) (by kernel_rfl) (by kernel_rfl) (fun w hS => by kernel_rfl) ?_
      simp only [put_lit, put_non, List.set_cons_zero, List.set_cons_succ]
      refine wkS_take (some 63) (.slice A5 kk c5) (by kernel_rfl) (by kernel_rfl) (by kernel_rfl) (fun w hS => exec_rowTo 61 62 (by kernel_rfl) (by kernel_rfl) (by kernel_rfl) hkm hmc) ?_
      simp only [put_lit, put_non, List.set_cons_zero, List.set_cons_succ]
      refine wkS_take (some 65) (.slice A5 j c5) (by kernel_rfl) (by kernel_rfl) (by kernel_rfl) (fun w hS => by kernel_rfl) ?_
      simp only [put_lit, put_non, List.set_cons_zero, List.set_cons_succ]
      refine wkS_take (some 66) (.int .i64 (kk : Int)) (by kernel_rfl) (by kernel_rfl) (by kernel_rfl) (fun w hS => by kernel_rfl) ?_
      simp only [put_lit, put_non, List.set_cons_zero, List.set_cons_succ]
      refine wkS_take (some 67) (.slice (tailA A5 c5 kk) (j - kk) (c5 - kk)) (by kernel_rfl) (by kernel_rfl) (by kernel_rfl) (fun w hS => exec_rowFrom 65 66 (by kernel_rfl) (by kernel_rfl) (by kernel_rfl) hkm hmc) ?_
      simp only [put_lit, put_non, List.set_cons_zero, List.set_cons_succ]
      clear hr1 hr2
      refine wkS_call (some 60) 37 #[.slice A5 j c5] (by kernel_rfl) (by kernel_rfl) (by kernel_rfl) (fun w => by kernel_rfl) ?_
      refine (SA.out _ hK).mono ?_
      rintro e u7 ⟨r1, rfl, hr1, hB⟩
      refine ⟨r1, rfl, below_then hK hB, ?_⟩
      have hK := below_then hK hB
      clear hB
      simp only [put_lit, put_non, List.set_cons_zero, List.set_cons_succ]
      refine wkS_call (some 64) 37 #[.slice A5 kk c5] (by kernel_rfl) (by kernel_rfl) (by kernel_rfl) (fun w => by kernel_rfl) ?_
      refine (SH.out _ hK).mono ?_
      rintro e u8 ⟨r2, rfl, hr2, hB⟩
      refine ⟨r2, rfl, below_then hK hB, ?_⟩
      have hK := below_then hK hB
      have hr1 := hr1.below hB
      clear hB
      simp only [put_lit, put_non, List.set_cons_zero, List.set_cons_succ]
      refine wkS_call (some 68) 37 #[.slice (tailA A5 c5 kk) (j - kk) (c5 - kk)] (by kernel_rfl) (by kernel_rfl) (by kernel_rfl) (fun w => by kernel_rfl) ?_
      refine (ST.out _ hK).mono ?_
      rintro e u9 ⟨r3, rfl, hr3, hB⟩
      refine ⟨r3, rfl, below_then hK hB, ?_⟩
      have hK := below_then hK hB
      have hr1 := hr1.below hB
      have hr2 := hr2.below hB
      clear hB
      simp only [put_lit, put_non, List.set_cons_zero, List.set_cons_succ]
      refine wkS_call (some 69) 20 #[r2, r3] (by kernel_rfl) (by kernel_rfl) (by kernel_rfl) (fun w => by kernel_rfl) ?_
      refine (addf_v hr2.fracV hr3.fracV (by omega) (by omega) (by omega) (by omega)).mono ?_
      rintro e u10 ⟨r4, rfl, hr4, hB⟩
      refine ⟨r4, rfl, below_then hK hB, ?_⟩
      have hK := below_then hK hB
      have hr1 := hr1.below hB
      have hr2 := hr2.below hB
      have hr3 := hr3.below hB
      clear hB
      simp only [put_lit, put_non, List.set_cons_zero, List.set_cons_succ]
      refine wkS_call (some 70) 11 #[r1, r4] (by kernel_rfl) (by kernel_rfl) (by kernel_rfl) (fun w => by kernel_rfl) ?_
      refine (same_ft hr1 hr4 (E3.out)).mono ?_
      rintro e u11 ⟨rfl, hB⟩
      refine ⟨_, rfl, below_then hK hB, ?_⟩
      have hK := below_then hK hB
      have hr1 := hr1.below hB
      have hr2 := hr2.below hB
      have hr3 := hr3.below hB
      have hr4 := hr4.below hB
      clear hB
      simp only [put_lit, put_non, List.set_cons_zero, List.set_cons_succ]
      refine wkS_take (some 71) (.bool true) (by kernel_rfl) (by kernel_rfl) (by kernel_rfl) (fun w hS => by kernel_rfl) ?_
      simp only [put_lit, put_non, List.set_cons_zero, List.set_cons_succ]
      refine wkS_take (some 72) (.bool true) (by kernel_rfl) (by kernel_rfl) (by kernel_rfl) (fun w hS => by kernel_rfl) ?_
      simp only [put_lit, put_non, List.set_cons_zero, List.set_cons_succ]
      refine wkS_take (some 73) (.slice A5 j c5) (by kernel_rfl) (by kernel_rfl) (by kernel_rfl) (fun w hS => by kernel_rfl) ?_
      simp only [put_lit, put_non, List.set_cons_zero, List.set_cons_succ]
      refine wkS_take (some 75) (.slice A5 j c5) (by kernel_rfl) (by kernel_rfl) (by kernel_rfl) (fun w hS => by kernel_rfl) ?_
      simp only [put_lit, put_non, List.set_cons_zero, List.set_cons_succ]
      refine wkS_take (some 76) (.int .i64 (kk : Int)) (by kernel_rfl) (by kernel_rfl) (by kernel_rfl) (fun w hS => by kernel_rfl) ?_
      simp only [put_lit, put_non, List.set_cons_zero, List.set_cons_succ]
      refine wkS_take (some 77) (.slice A5 kk c5) (by kernel_rfl) (by kernel_rfl) (by kernel_rfl) (fun w hS => exec_rowTo 75 76 (by kernel_rfl) (by kernel_rfl) (by kernel_rfl) hkm hmc) ?_
      simp only [put_lit, put_non, List.set_cons_zero, List.set_cons_succ]
      refine wkS_take (some 79) (.slice A5 j c5) (by kernel_rfl) (by kernel_rfl) (by kernel_rfl) (fun w hS => by kernel_rfl) ?_
      simp only [put_lit, put_non, List.set_cons_zero, List.set_cons_succ]
      refine wkS_take (some 80) (.int .i64 (kk : Int)) (by kernel_rfl) (by kernel_rfl) (by kernel_rfl) (fun w hS => by kernel_rfl) ?_
      simp only [put_lit, put_non, List.set_cons_zero, List.set_cons_succ]
      refine wkS_take (some 81) (.slice (tailA A5 c5 kk) (j - kk) (c5 - kk)) (by kernel_rfl) (by kernel_rfl) (by kernel_rfl) (fun w hS => exec_rowFrom 79 80 (by kernel_rfl) (by kernel_rfl) (by kernel_rfl) hkm hmc) ?_
      simp only [put_lit, put_non, List.set_cons_zero, List.set_cons_succ]
      clear hr1 hr2 hr3 hr4
      refine wkS_call (some 74) 38 #[.slice A5 j c5] (by kernel_rfl) (by kernel_rfl) (by kernel_rfl) (fun w => by kernel_rfl) ?_
      refine (PA.out _ hK).mono ?_
      rintro e u12 ⟨r1, rfl, hr1, hB⟩
      refine ⟨r1, rfl, below_then hK hB, ?_⟩
      have hK := below_then hK hB
      clear hB
      simp only [put_lit, put_non, List.set_cons_zero, List.set_cons_succ]
      refine wkS_call (some 78) 38 #[.slice A5 kk c5] (by kernel_rfl) (by kernel_rfl) (by kernel_rfl) (fun w => by kernel_rfl) ?_
      refine (PH.out _ hK).mono ?_
      rintro e u13 ⟨r2, rfl, hr2, hB⟩
      refine ⟨r2, rfl, below_then hK hB, ?_⟩
      have hK := below_then hK hB
      have hr1 := hr1.below hB
      clear hB
      simp only [put_lit, put_non, List.set_cons_zero, List.set_cons_succ]
      refine wkS_call (some 82) 38 #[.slice (tailA A5 c5 kk) (j - kk) (c5 - kk)] (by kernel_rfl) (by kernel_rfl) (by kernel_rfl) (fun w => by kernel_rfl) ?_
      refine (PT.out _ hK).mono ?_
      rintro e u14 ⟨r3, rfl, hr3, hB⟩
      refine ⟨r3, rfl, below_then hK hB, ?_⟩
      have hK := below_then hK hB
      have hr1 := hr1.below hB
      have hr2 := hr2.below hB
      clear hB
      simp only [put_lit, put_non, List.set_cons_zero, List.set_cons_succ]
      refine wkS_call (some 83) 24 #[r2, r3] (by kernel_rfl) (by kernel_rfl) (by kernel_rfl) (fun w => by kernel_rfl) ?_
      refine (mulf_v hr2.fracV hr3.fracV (by omega) (by omega) (by omega)).mono ?_
      rintro e u15 ⟨r4, rfl, hr4, hB⟩
      refine ⟨r4, rfl, below_then hK hB, ?_⟩
      have hK := below_then hK hB
      have hr1 := hr1.below hB
      have hr2 := hr2.below hB
      have hr3 := hr3.below hB
      clear hB
      simp only [put_lit, put_non, List.set_cons_zero, List.set_cons_succ]
      refine wkS_call (some 84) 11 #[r1, r4] (by kernel_rfl) (by kernel_rfl) (by kernel_rfl) (fun w => by kernel_rfl) ?_
      refine (same_ft hr1 hr4 (E4.out)).mono ?_
      rintro e u16 ⟨rfl, hB⟩
      refine ⟨_, rfl, below_then hK hB, ?_⟩
      have hK := below_then hK hB
      have hr1 := hr1.below hB
      have hr2 := hr2.below hB
      have hr3 := hr3.below hB
      have hr4 := hr4.below hB
      clear hB
      simp only [put_lit, put_non, List.set_cons_zero, List.set_cons_succ]
      refine wkS_take (some 85) (.bool true) (by kernel_rfl) (by kernel_rfl) (by kernel_rfl) (fun w hS => by kernel_rfl) ?_
      simp only [put_lit, put_non, List.set_cons_zero, List.set_cons_succ]
      refine wkS_take (some 86) (.bool true) (by kernel_rfl) (by kernel_rfl) (by kernel_rfl) (fun w hS => by kernel_rfl) ?_
      simp only [put_lit, put_non, List.set_cons_zero, List.set_cons_succ]
      clear hr1 hr2 hr3 hr4
      refine wkS_call (some 87) 30 #[] (by kernel_rfl) (by kernel_rfl) (by kernel_rfl) (fun w => by kernel_rfl) ?_
      refine (known2_v _ (hM.out.below hK)).mono ?_
      rintro e u17 ⟨rfl, hB⟩
      refine ⟨_, rfl, below_then hK hB, ?_⟩
      have hK := below_then hK hB
      clear hB
      simp only [put_lit, put_non, List.set_cons_zero, List.set_cons_succ]
      refine wkS_take (some 88) (.bool true) (by kernel_rfl) (by kernel_rfl) (by kernel_rfl) (fun w hS => by kernel_rfl) ?_
      simp only [put_lit, put_non, List.set_cons_zero, List.set_cons_succ]
      refine wkS_take (some 4) (.bool true) (by kernel_rfl) (by kernel_rfl) (by kernel_rfl) (fun w hS => by kernel_rfl) ?_
      simp only [put_lit, put_non, List.set_cons_zero, List.set_cons_succ]
      refine wkS_done ?_
      go_wp2_with fail
      go_ret
      exact ⟨rfl, below_then HB.out hK⟩
end Go.Proofs.YtgjhgpfjeoeojaaGreatDoor

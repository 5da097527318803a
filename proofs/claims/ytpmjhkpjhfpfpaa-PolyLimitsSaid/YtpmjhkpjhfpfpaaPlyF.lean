/- The contract of Derivative of package poly. -/
import Derived.Test.YtpmjhkpjhfpfpaaPlyC
import Derived.Test.YtpmjhkpjhfpfpaaRatF
namespace Go.Proofs.Ytpmjhkpjhfpfpaa
open Go.RowKit Dig
set_option linter.unusedVariables false

namespace Dig
theorem pder_eq (ps : List Rat) : mk ((tr ps).length - 1) (der (cf (tr ps))) = pder ps := by
  rw [← pder_tr ps, pder]
  symm
  apply tr_id
  rw [mk_length]
  rcases tr_last ps with h | h
  · left; omega
  · rcases Nat.eq_zero_or_pos ((tr ps).length - 1) with h0 | h0
    · exact .inl h0
    · right
      rw [cf_mk, if_pos (by omega), der, ← natCast_succ, show (tr ps).length - 1 - 1 + 1 = (tr ps).length - 1 by omega]
      have h1 : (((tr ps).length - 1 : Nat) : Rat) ≠ 0 := fun e => by
        have : (tr ps).length - 1 = 0 := by exact_mod_cast e
        omega
      exact fun e => (Rat.mul_eq_zero.1 e).elim h1 h
theorem frz_one (i : Nat) : frz ((i : Int) + 1) 1 = (i : Rat) + 1 := by
  unfold frz
  have h1 : (decide ((i : Int) + 1 < 0) != decide ((1 : Int) < 0)) = false := by
    have : ¬ ((i : Int) + 1 < 0) := by omega
    simp [this]
  have h2 : ((i : Int) + 1).natAbs = i + 1 := by omega
  rw [h1, h2, show (1 : Int).natAbs = 1 from rfl]
  unfold fr
  rw [show sg false (i + 1) = ((i : Int) + 1) from rfl, Rat.mkRat_one]
  push_cast
  rfl
end Dig
theorem cell_far {w : World} {g b : Nat} (hb : b ≠ g) (o i : Nat) (x y z : Value) : (stor3o w g o x y z).cell? ⟨b, i, none⟩ = w.cell? ⟨b, i, none⟩ := by
  simp only [World.cell?, stor3o_heap w g o x y z b hb]
section
variable {w : World} {va : Value} {ps : List Rat} {k : Nat}
set_option maxHeartbeats 8000000 in
theorem derivative_p (ha : Fls (FV k) w va ps) (hk : k ≤ 100000) (h2 : 2 ≤ k) (hm : ps.length ≤ 1000000000) :
    Calls Try.prog 21 #[va] w (RPol w (pder ps) (2 + k)) := by
  have T := Lib.hid (trim_p ha (keeps_FV k) (reads_FV k) (by omega))
  have hl := Nat.le_trans (tr_le ps) hm
  rw [← pder_eq]
  generalize tr ps = rs at *
  clear ha
  go_enter Try.func21, Try.ntmps21
  go_wp2_with fail
  refine (T.out).mono ?_
  rintro e w1 ⟨A, c, rfl, rfl, hF, hB1⟩
  by_cases h0 : rs.length = 0
  · have HB := Lib.hid hB1
    have E : Hid (mk (rs.length - 1) (der (cf rs)) = []) := Lib.hid (by rw [h0]; rfl)
    have HI : ((rs.length : Int) == 0) = true := by rw [beq_iff_eq]; omega
    clear T hF hB1 h0
    generalize rs.length = n at *
    go_wp2_with fail
    go_ret
    exact ⟨_, rfl, by rw [E.out]; exact Ofl.nil _ _ _, HB.out⟩
  · obtain ⟨n, hn⟩ : ∃ n, rs.length = n + 1 := ⟨rs.length - 1, by omega⟩
    have HC := Lib.hid (fun hp => Fls.cells (w := w1) (n := rs.length) hF hp)
    have HVV := Lib.hid (fun w2 (hr : Below w1.heap.size w1 w2) v q (hv : FV k w1 v q) => FracV.below hv hr)
    have HK := Lib.hid (keeps_CV (2 + k))
    have MU := Lib.hid (fun w1 x y p q (hx : CanF w1 x p 2) (hy : FracV w1 y q k) => mulf_v (w := w1) hx.fracV hy (by omega) hk (by omega))
    have HI := Lib.hid (show ((rs.length : Int) == 0) = false by rw [beq_eq_false_iff_ne]; omega)
    have HJ := Lib.hid (show ((rs.length : Int) - 1) = (n : Int) by omega)
    have HN := Lib.hid hn
    have hg0 : w.heap.size ≤ w1.heap.size := hB1.size
    rw [show rs.length - 1 = n by omega]
    have HW := Lib.hid hB1
    generalize hF' : der (cf rs) = F at *
    have HF := Lib.hid hF'
    have hi0 := HI.out
    clear T hF hF' h0 hn hB1
    generalize rs.length = m at *
    go_wp2_with (at_make; refine wp_make_f 24 (by kernel_rfl) rfl _ _ rfl _ _ n rfl rfl HJ.out HJ.out (by have := HN.out; omega) ?_; intro w2 hF2 hB2)
    have hI := Fill.start (base := w1.heap.size) (E := CV (2 + k)) (f := F) hF2
    clear hF2 hi0
    generalize w1.heap.size = g at *
    have hnn : n ≤ 1000000000 := by have := HN.out; omega
    go_loopw [18] (fun i wr => ∃ j : Nat, j ≤ n ∧ i = .int .i64 j ∧ Fill g (CV (2 + k)) wr g n j F ∧ Below g w1 wr) (fun i _ => n - (intOf i).toNat)
    case atStart => exact ⟨0, Nat.zero_le _, rfl, hI, hB2⟩
    case round =>
      obtain ⟨j, hj, rfl, hI, hB⟩ := hrel
      have FI := Lib.hid hI
      have hlt := hI.lt
      by_cases hjn : j < n
      · have HI : (j : Int) < n := by omega
        obtain ⟨b, off, rfl, hb, hcell⟩ := HC.out (by have := HN.out; omega)
        obtain ⟨tb, X, xm, xc, Y, ym, yc, c0, c1, c2, hv⟩ := hcell (j + 1) (by have := HN.out; omega)
        have et : off + (j + 1) * 3 = off + ((j : Int) + 1).toNat * 3 := by omega
        rw [et] at c0 c1 c2
        have HV := Lib.hid (fun w1 hr => HVV.out w1 hr _ _ hv)
        have q1 : (j : Int) + 1 < (m : Int) := by have := HN.out; omega
        have NW := Lib.hid (new_v wr ((j : Int) + 1) 1 (by unfold Fits64; omega) (by unfold Fits64; omega) (by omega))
        clear hI hcell hv
        go_wp2_with fail
        refine (NW.out).mono ?_
        rintro e w4 ⟨u, rfl, hu, hB4⟩
        obtain ⟨b', C, o, r, C', o', r', rfl, hb', hvx, hvy⟩ := hu.parts
        have R5 := Fcl.new w4 b' (.slice C o r) (.slice C' o' r')
        have hB5 : Below wr.heap.size wr (w4.alloc (.cells #[.bool b', .slice C o r, .slice C' o' r'] 29)) := below_then hB4 ((Below.refl _ _).alloc (Nat.le_refl _) _)
        have hgt : g < w4.heap.size := Nat.lt_of_lt_of_le hlt hB4.size
        have hBg := hB.trans (hB5.mono (Nat.le_of_lt hlt))
        go_wp2_with fail
        have HS0 := Lib.hid (fun w' (hr : Below (w4.alloc (.cells #[.bool b', .slice C o r, .slice C' o' r'] 29)).heap.size (w4.alloc (.cells #[.bool b', .slice C o r, .slice C' o' r'] 29)) w') => R5.below hr)
        have HB5 := Lib.hid hB5
        generalize hw5 : w4.alloc (.cells #[.bool b', .slice C o r, .slice C' o' r'] 29) = w5 at *
        generalize hg5 : w4.heap.size = g5 at *
        have hne : g5 ≠ g := by omega
        have hbg : b ≠ g := by omega
        have hK : Below w5.heap.size w5 w5 := Below.refl _ _
        have hlt5 : g < w5.heap.size := Nat.lt_of_lt_of_le hlt HB5.out.size
        have SB := Lib.hid (fun w' (hr : Below w5.heap.size w5 w') => (show w'.cell? ⟨b, off + ((j : Int) + 1).toNat * 3, none⟩ = some (.bool tb) ∧ w'.cell? ⟨b, off + ((j : Int) + 1).toNat * 3 + 1, none⟩ = some (.slice X xm xc) ∧ w'.cell? ⟨b, off + ((j : Int) + 1).toNat * 3 + 2, none⟩ = some (.slice Y ym yc) ∧
          w'.cell? ⟨g5, 0, none⟩ = some (.bool b') ∧ w'.cell? ⟨g5, 1, none⟩ = some (.slice C o r) ∧ w'.cell? ⟨g5, 2, none⟩ = some (.slice C' o' r') from
          have hh := hBg.trans (hr.mono (Nat.le_of_lt hlt5))
          ⟨(hh.cell (p := ⟨b, _, none⟩) hb).trans c0, (hh.cell (p := ⟨b, _, none⟩) hb).trans c1, (hh.cell (p := ⟨b, _, none⟩) hb).trans c2, (HS0.out _ hr).cells⟩))
        have SC := Lib.hid (fun w' (hr : Below w5.heap.size w5 w') x y z => (show (stor3o w' g (j * 3) x y z).cell? ⟨b, off + ((j : Int) + 1).toNat * 3, none⟩ = some (.bool tb) ∧ (stor3o w' g (j * 3) x y z).cell? ⟨b, off + ((j : Int) + 1).toNat * 3 + 1, none⟩ = some (.slice X xm xc) ∧ (stor3o w' g (j * 3) x y z).cell? ⟨b, off + ((j : Int) + 1).toNat * 3 + 2, none⟩ = some (.slice Y ym yc) ∧
          (stor3o w' g (j * 3) x y z).cell? ⟨g5, 0, none⟩ = some (.bool b') ∧ (stor3o w' g (j * 3) x y z).cell? ⟨g5, 1, none⟩ = some (.slice C o r) ∧ (stor3o w' g (j * 3) x y z).cell? ⟨g5, 2, none⟩ = some (.slice C' o' r') from by
          simp only [cell_far hbg, cell_far hne]; exact SB.out _ hr))
        have HU := Lib.hid (fun w' (hr : Below w5.heap.size w5 w') => CanF.below (CanF.below hu (show Below w4.heap.size w4 w5 by rw [← hw5]; exact (Below.refl _ _).alloc (Nat.le_refl _) _)) hr)
        have q0 : (0 : Int) ≤ (j : Int) + 1 := by omega
        have q2 : IntKind.i64.wrap ((j : Int) + 1) = (j : Int) + 1 := IntWalk.i64_in _ (by omega)
        clear hw5 hB5 hB4 hu hb' hvx hvy R5 c0 c1 c2
        go_region_held3 (fun w' => w'.cell? ⟨b, off + ((j : Int) + 1).toNat * 3, none⟩ = some (.bool tb) ∧ w'.cell? ⟨b, off + ((j : Int) + 1).toNat * 3 + 1, none⟩ = some (.slice X xm xc) ∧ w'.cell? ⟨b, off + ((j : Int) + 1).toNat * 3 + 2, none⟩ = some (.slice Y ym yc) ∧ w'.cell? ⟨g5, 0, none⟩ = some (.bool b') ∧ w'.cell? ⟨g5, 1, none⟩ = some (.slice C o r) ∧ w'.cell? ⟨g5, 2, none⟩ = some (.slice C' o' r')) (first | with_reducible exact SB.out _ hK | exact SB.out _ hK.drew | exact SC.out _ hK _ _ _) (first | (go_at_call 39; refine (MU.out _ _ _ _ _ (HU.out _ hK.drew) (HV.out _ (hBg.trans (hK.drew.mono (Nat.le_of_lt hlt5))))).mono ?_; rintro e w6 ⟨z, rfl, hz, hB6⟩; have hK := below_undrew hB6; obtain ⟨b6, D, d1, d2, D', d1', d2', rfl, hb6, hvx, hvy⟩ := hz.parts; have hI := FI.out.below HK.out (below_then HB5.out hK); obtain ⟨z0, z1, z2, e0, e1, e2⟩ := hI.cells hjn; have f0 := hI.frozen (j * 3); have f1 := hI.frozen (j * 3 + 1); have f2 := hI.frozen (j * 3 + 2)))
        have hBB := hBg.trans (hK.mono (Nat.le_of_lt hlt5))
        have HS := Lib.hid (hI.set HK.out hjn (show CV (2 + k) w6 _ (F j) by rw [← HF.out, der, ← frz_one]; exact CanF.ofParts hb6 hvx hvy))
        clear hI hz hb6 hvx hvy
        go_wp2_with fail
        go_roundw
        case rel => exact ⟨j + 1, by omega, by go_num, HS.out, below_stor3o hBB (Nat.le_refl _) _ _ _ _⟩
        case measure => simp [intOf]; omega
      · have HI : ¬ (j : Int) < n := by omega
        obtain rfl : j = n := by omega
        have HD := Lib.hid (hI.done (Nat.le_refl _) (by omega))
        have HB := Lib.hid hB
        clear hI hB
        go_wp2_with fail
        go_ret
        exact ⟨_, rfl, (HD.out.mono hg0).cast (by rw [HN.out]; rfl), HW.out.trans (HB.out.mono hg0)⟩
end
end Go.Proofs.Ytpmjhkpjhfpfpaa

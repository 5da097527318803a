/- The contract of evalPair of package poly. -/
import Derived.Test.YtjemnankgjjgcaaRatD
import Derived.Test.YtjemnankgjjgcaaPlyb
import Derived.Test.YtjemnankgjjgcaaRatF
namespace Go.Proofs.Ytjemnankgjjgcaa
open Go.RowKit Dig
set_option linter.unusedVariables false

theorem Fcl.new4 (w : World) (o o2 o3 : Obj) (b : Bool) (x y : Value) : Fcl ((((w.alloc o).alloc o2).alloc o3).alloc (.cells #[.bool b, x, y] 29)) (w.heap.size + 1 + 1 + 1) b x y := by
  have := Fcl.new (((w.alloc o).alloc o2).alloc o3) b x y
  rwa [show (((w.alloc o).alloc o2).alloc o3).heap.size = w.heap.size + 1 + 1 + 1 by show (Array.push (Array.push (Array.push _ _) _) _).size = _; simp] at this
theorem below_alloc4 (w : World) (o o2 o3 o4 : Obj) : Below w.heap.size w ((((w.alloc o).alloc o2).alloc o3).alloc o4) := (below_alloc3 w o o2 o3).alloc (by show w.heap.size ≤ (Array.push (Array.push (Array.push _ _) _) _).size; simp; omega) o4
theorem conj_rrr {w : World} {g0 g1 g2 : Nat} {b0 b1 b2 : Bool} {x0 x1 x2 y0 y1 y2 : Value} (h0 : Fcl w g0 b0 x0 y0) (h1 : Fcl w g1 b1 x1 y1) (h2 : Fcl w g2 b2 x2 y2) :
    w.cell? ⟨g0, 0, none⟩ = some (.bool b0) ∧ w.cell? ⟨g0, 1, none⟩ = some x0 ∧ w.cell? ⟨g0, 2, none⟩ = some y0 ∧
    w.cell? ⟨g1, 0, none⟩ = some (.bool b1) ∧ w.cell? ⟨g1, 1, none⟩ = some x1 ∧ w.cell? ⟨g1, 2, none⟩ = some y1 ∧
    w.cell? ⟨g2, 0, none⟩ = some (.bool b2) ∧ w.cell? ⟨g2, 1, none⟩ = some x2 ∧ w.cell? ⟨g2, 2, none⟩ = some y2 :=
  ⟨h0.cells.1, h0.cells.2.1, h0.cells.2.2, h1.cells.1, h1.cells.2.1, h1.cells.2.2, h2.cells.1, h2.cells.2.1, h2.cells.2.2⟩
theorem four_boxes (w : World) (b0 b1 b2 : Bool) (x0 y0 x1 y1 x2 y2 : Value) :
    ∃ w2 g0 g1 g2 g3, (((w.alloc (.cells #[.bool b0, x0, y0] 29)).alloc (.cells #[.bool b1, x1, y1] 29)).alloc (.cells #[.bool b2, x2, y2] 29)).alloc (.cells #[.bool false, .slice none 0 0, .slice none 0 0] 29) = w2 ∧
      w.heap.size = g0 ∧ g0 + 1 = g1 ∧ g1 + 1 = g2 ∧ g2 + 1 = g3 ∧ Below w.heap.size w w2 ∧ Fcl w2 g0 b0 x0 y0 ∧ Fcl w2 g1 b1 x1 y1 ∧ Fcl w2 g2 b2 x2 y2 ∧ Fcl w2 g3 false (.slice none 0 0) (.slice none 0 0) :=
  ⟨_, _, _, _, _, rfl, rfl, rfl, rfl, rfl, below_alloc4 w _ _ _ _, (((Fcl.new w b0 x0 y0).alloc _).alloc _).alloc _, ((Fcl.new2 w _ b1 x1 y1).alloc _).alloc _, (Fcl.new3 w _ _ b2 x2 y2).alloc _, Fcl.new4 w _ _ _ false _ _⟩

section
variable {w : World} {va vb vx : Value} {p q x : Rat} {k l m : Nat}
set_option maxHeartbeats 8000000 in
theorem evalPair_p (ha : FracV w va p k) (hb : FracV w vb q l) (hx : FracV w vx x m) (hk : k ≤ 100000) (hl : l + m ≤ 100000) (h1 : 2 ≤ k) (h2 : 2 ≤ l) : Calls Try.prog 60 #[va, vb, vx] w (RCanF w (p + q * x) (k + (l + m) + 1)) := by
  have MU := Lib.hid (fun w1 hB => mulf_v (w := w1) (hb.below hB) (hx.below hB) (by omega) (by omega) h2)
  have AD := Lib.hid (fun w1 y hB (hy : CanF w1 y (q * x) (l + m)) => addf_v (w := w1) (ha.below hB) hy.fracV hk hl h1 (by omega))
  obtain ⟨na, A, ma, ca, A', ma', ca', n, d, rfl, hn, hd, hp⟩ := ha.parts
  obtain ⟨nb, B, i, j, B', i', j', s, t, rfl, hs, ht, hq⟩ := hb.parts
  obtain ⟨nc, C, r, u, C', r', u', y, z, rfl, hy, hz, hx'⟩ := hx.parts
  obtain ⟨w2, g0, g1, g2, g3, ew, eg0, eg1, eg2, eg3, hB0, hF0, hF1, hF2, hF3⟩ := four_boxes w na nb nc (.slice A ma ca) (.slice A' ma' ca') (.slice B i j) (.slice B' i' j') (.slice C r u) (.slice C' r' u')
  have HG := Lib.hid (show w.heap.size ≤ g3 by omega)
  clear hn hd hs ht hp hq hy hz hx' ha hb hx hk hl h1 h2
  go_enter Try.func60, Try.ntmps60
  go_wp2_with fail
  have hK : Below w2.heap.size w2 w2 := Below.refl _ _
  have hS0 := conj_rrr hF0 hF1 hF2
  have hne0 : g0 ≠ g3 := by omega
  have hne1 : g1 ≠ g3 := by omega
  have hne2 : g2 ≠ g3 := by omega
  go_region_held3 (fun w' => w'.cell? ⟨g0, 0, none⟩ = some (.bool na) ∧ w'.cell? ⟨g0, 1, none⟩ = some (.slice A ma ca) ∧ w'.cell? ⟨g0, 2, none⟩ = some (.slice A' ma' ca') ∧ w'.cell? ⟨g1, 0, none⟩ = some (.bool nb) ∧ w'.cell? ⟨g1, 1, none⟩ = some (.slice B i j) ∧ w'.cell? ⟨g1, 2, none⟩ = some (.slice B' i' j') ∧ w'.cell? ⟨g2, 0, none⟩ = some (.bool nc) ∧ w'.cell? ⟨g2, 1, none⟩ = some (.slice C r u) ∧ w'.cell? ⟨g2, 2, none⟩ = some (.slice C' r' u')) (first | with_reducible exact conj_rrr hF0 hF1 hF2 | with_reducible exact conj_rrr (hF0.below hK) (hF1.below hK) (hF2.below hK) | exact hS0 | exact conj_rrr ((hF0.below hK).far hne0 _ _ _) ((hF1.below hK).far hne1 _ _ _) ((hF2.below hK).far hne2 _ _ _)) (first | (go_at_call 39; refine (MU.out _ hB0.drew).mono ?_; rintro e w3 ⟨x, rfl, hx, hB3⟩; have hK := below_undrew hB3) | (go_at_call 40; refine (AD.out _ _ (below_then hB0 hK) hx).mono ?_; rintro e w5 ⟨v, rfl, hv, hB5⟩; obtain ⟨b, D, o, f, D', o', f', rfl, hb, hvx, hvy⟩ := hv.parts; have hK := below_then hK hB5; obtain ⟨c0, c1, c2⟩ := (hF3.below hK).cells; obtain ⟨f0, f1, f2⟩ := (hF3.below hK).frozen))
  go_wp2_with fail
  refine bodyPost_ret (v := .agg #[.bool b, .slice D o f, .slice D' o' f']) (by rw [results_one rfl]; go_simp) rfl ?_
  exact RCanF.stored hb hvx hvy (hF3.below hK) (below_then hB0 hK) HG.out _
end
end Go.Proofs.Ytjemnankgjjgcaa

/- The contracts of evalPairs and Eval of package poly. -/
namespace Go.Proofs.Ytjemnankgjjgcaa
open Go.RowKit Dig
set_option linter.unusedVariables false

section
variable {w : World} {va vb : Value} {ps qs : List Rat} {k l : Nat}
theorem eqnat {z : Int} {i : Nat} {P : Value → Prop} (h : P (.int .i64 (i : Int))) (e : (i : Int) = z) : P (.int .i64 z) := e ▸ h
set_option maxHeartbeats 8000000 in
theorem evalPairs_p {q : Rat} (ha : Fls (FV k) w va ps) (hb : FracV w vb q l) (hk : k + l ≤ 100000) (h2 : 2 ≤ k) (h2' : 2 ≤ l) (hm : ps.length ≤ 1000000000) :
    Calls Try.prog 59 #[va, vb] w (RPol w (mk ((ps.length + 1) / 2) fun i => cf ps (2 * i) + cf ps (2 * i + 1) * q) (k + (k + l) + 1)) := by
  obtain ⟨A, c, rfl⟩ := ha.form
  obtain ⟨nb, B, i, x, B', i', x', s, t, rfl, hs, ht, hq⟩ := hb.parts
  have hB0 : Below w.heap.size w (w.alloc (.cells #[.bool nb, .slice B i x, .slice B' i' x'] 29)) := (Below.refl _ _).alloc (Nat.le_refl _) _
  have R0 := Fcl.new w nb (.slice B i x) (.slice B' i' x')
  have ha := Fls.below ha (keeps_FV k) hB0
  have hb := FracV.below hb hB0
  have HW0 := Lib.hid hB0
  have hg0 : w.heap.size < (w.alloc (.cells #[.bool nb, .slice B i x, .slice B' i' x'] 29)).heap.size := R0.lt
  obtain ⟨w0, hw0⟩ : ∃ w0, w.alloc (.cells #[.bool nb, .slice B i x, .slice B' i' x'] 29) = w0 := ⟨_, rfl⟩
  rw [hw0] at hB0 R0 ha hb hg0
  have HE := Lib.hid hw0
  clear hw0
  have HG0 := Lib.hid hg0
  have HM0 := Lib.hid hm
  have HC := Lib.hid (fun hp => Fls.cells (w := w0) (n := ps.length) ha hp)
  have EV := Lib.hid (fun w1 y z a b hB (hy : FracV w1 y a k) (hz : FracV w1 z b k) => evalPair_p (w := w1) hy hz (hb.below hB) (by omega) hk h2 h2)
  have AT := Lib.hid (fun w1 hB i (hi : i ≤ 9223372036854775807) => at_p (Fls.below (w' := w1) ha (keeps_FV k) hB) (reads_FV k) i hi)
  have RB := Lib.hid R0
  have HVV := Lib.hid (fun w1 (hr : Below w0.heap.size w0 w1) v q (hv : FV k w0 v q) => FracV.below hv hr)
  have HK := Lib.hid (keeps_CV (k + (k + l) + 1))
  clear ha hb hs ht hq hk h2 h2' hB0 R0 hg0 hm
  generalize hF : (fun i => cf ps (2 * i) + cf ps (2 * i + 1) * q) = F at *
  have HF := Lib.hid hF
  clear hF
  generalize ps.length = n at *
  obtain ⟨h, hh⟩ : ∃ h, (n + 1) / 2 = h := ⟨_, rfl⟩
  rw [hh]
  have HQ := Lib.hid (show ((n : Int) + 1) / 2 = (h : Int) by omega)
  have HH := Lib.hid hh
  clear hh
  have hnn := HM0.out
  go_enter Try.func59, Try.ntmps59
  go_wp2_with (at_make; rw [HE.out]; refine wp_make_f 24 (by kernel_rfl) rfl _ _ rfl _ _ h rfl rfl HQ.out HQ.out (by have := HH.out; omega) ?_; intro w2 hF2 hB2)
  have hI := Fill.start (base := w0.heap.size) (E := CV (k + (k + l) + 1)) (f := F) hF2
  clear hF2
  generalize hg1 : w.heap.size = g0 at *
  generalize hg : w0.heap.size = g at *
  have HG := Lib.hid hg1
  clear hg hg1
  go_loopw [14] (fun i wr => ∃ j : Nat, j ≤ h ∧ i = .int .i64 j ∧ Fill g (CV (k + (k + l) + 1)) wr g h j F ∧ Below g w0 wr) (fun i _ => h - (intOf i).toNat)
  case atStart => exact ⟨0, Nat.zero_le _, rfl, hI, hB2⟩
  case round =>
    obtain ⟨j, hj, rfl, hI, hB⟩ := hrel
    have FI := Lib.hid hI
    have hlt := hI.lt
    by_cases hjn : j < h
    · have HI : (j : Int) < h := by omega
      have hjl : 2 * j < n := by have := HH.out; omega
      have hhn : h ≤ n := by have := HH.out; omega
      obtain ⟨b, off, rfl, hb, hcell⟩ := HC.out (by omega)
      obtain ⟨tb, X, xm, xc, Y, ym, yc, c0, c1, c2, hv⟩ := hcell (2 * j) hjl
      have et : off + 2 * j * 3 = off + (2 * (j : Int)).toNat * 3 := by omega
      rw [et] at c0 c1 c2
      have SB := Lib.hid (fun w1 (hr : Below g w0 w1) => (⟨(hr.cell (p := ⟨b, _, none⟩) hb).trans c0, (hr.cell (p := ⟨b, _, none⟩) hb).trans c1, (hr.cell (p := ⟨b, _, none⟩) hb).trans c2,
        (hr.cell (p := ⟨g0, _, none⟩) HG0.out).trans RB.out.cells.1, (hr.cell (p := ⟨g0, _, none⟩) HG0.out).trans RB.out.cells.2.1, (hr.cell (p := ⟨g0, _, none⟩) HG0.out).trans RB.out.cells.2.2⟩ :
        w1.cell? ⟨b, off + (2 * (j : Int)).toNat * 3, none⟩ = some (.bool tb) ∧ w1.cell? ⟨b, off + (2 * (j : Int)).toNat * 3 + 1, none⟩ = some (.slice X xm xc) ∧ w1.cell? ⟨b, off + (2 * (j : Int)).toNat * 3 + 2, none⟩ = some (.slice Y ym yc) ∧
        w1.cell? ⟨g0, 0, none⟩ = some (.bool nb) ∧ w1.cell? ⟨g0, 1, none⟩ = some (.slice B i x) ∧ w1.cell? ⟨g0, 2, none⟩ = some (.slice B' i' x')))
      have ATJ := fun w1 hB => AT.out w1 hB (2 * j + 1) (by omega)
      rw [show ((2 * j + 1 : Nat) : Int) = 2 * (j : Int) + 1 by omega] at ATJ
      have AJ := Lib.hid ATJ
      have HV := Lib.hid (fun w1 (hr : Below g w0 w1) => HVV.out w1 hr _ _ hv)
      clear hI hcell hv c0 c1 c2 ATJ
      obtain ⟨c0, c1, c2, k0, k1, k2⟩ := SB.out _ hB
      go_wp2_with fail
      have hK : Below g w0 wr := hB
      have q0 : (0 : Int) ≤ 2 * (j : Int) := by omega
      have q1 : 2 * (j : Int) < (n : Int) := by omega
      have q2 : IntKind.i64.wrap (2 * (j : Int)) = 2 * (j : Int) := IntWalk.i64_in _ (by omega)
      have q3 : IntKind.i64.wrap (2 * (j : Int) + 1) = 2 * (j : Int) + 1 := IntWalk.i64_in _ (by omega)
      go_region_held3 (fun w1 => w1.cell? ⟨b, off + (2 * (j : Int)).toNat * 3, none⟩ = some (.bool tb) ∧ w1.cell? ⟨b, off + (2 * (j : Int)).toNat * 3 + 1, none⟩ = some (.slice X xm xc) ∧ w1.cell? ⟨b, off + (2 * (j : Int)).toNat * 3 + 2, none⟩ = some (.slice Y ym yc) ∧ w1.cell? ⟨g0, 0, none⟩ = some (.bool nb) ∧ w1.cell? ⟨g0, 1, none⟩ = some (.slice B i x) ∧ w1.cell? ⟨g0, 2, none⟩ = some (.slice B' i' x')) (first | with_reducible exact SB.out _ hB | with_reducible exact SB.out _ hK | exact SB.out _ hB.drew | exact SB.out _ (below_stor3o hK (Nat.le_refl _) _ _ _ _)) (first | (go_at_call 50; refine (AJ.out _ hB.drew).mono ?_; rintro e w3 ⟨y, rfl, hy, hB3⟩; have hB3 := below_undrew hB3; have hK := hB.trans (hB3.mono (Nat.le_of_lt hlt))) | (go_at_call 60; refine (EV.out _ _ _ _ _ hK (HV.out _ hK) hy).mono ?_; rintro e w5 ⟨u, rfl, hu, hB5⟩; have hB5 := below_then hB3 hB5; have hK := hB.trans (hB5.mono (Nat.le_of_lt hlt)); obtain ⟨b', C, o, r, C', o', r', rfl, hb', hvx, hvy⟩ := hu.parts; have hI := FI.out.below HK.out hB5; obtain ⟨z0, z1, z2, e0, e1, e2⟩ := hI.cells hjn; have f0 := hI.frozen (j * 3); have f1 := hI.frozen (j * 3 + 1); have f2 := hI.frozen (j * 3 + 2)))
      have HS := Lib.hid (hI.set HK.out hjn (show CV (k + (k + l) + 1) w5 _ (F j) by rw [← HF.out]; exact CanF.ofParts hb' hvx hvy))
      clear hI hu hb' hvx hvy hy
      go_wp2_with fail
      go_roundw
      case rel => exact ⟨j + 1, by omega, by go_num, HS.out, below_stor3o hK (Nat.le_refl _) _ _ _ _⟩
      case measure => simp [intOf]; omega
    · have HI : ¬ (j : Int) < h := by omega
      obtain rfl : j = h := by omega
      have HD := Lib.hid (hI.done (Nat.le_refl _) (by have := HM0.out; have := HH.out; omega))
      clear hI
      go_wp2_with fail
      go_ret
      refine ⟨_, rfl, by rw [HG.out]; exact HD.out.mono (Nat.le_of_lt HG0.out), ?_⟩
      rw [HG.out]
      exact HW0.out.trans (by rw [HE.out]; exact hB.mono (Nat.le_of_lt HG0.out))
end

namespace Dig
/-- The rounds that Eval takes. -/
def rem3 (m : Nat) : Nat := if h : m ≤ 2 then 0 else 1 + rem3 ((m + 1) / 2)
termination_by m
decreasing_by omega
theorem rem3_small {m : Nat} (h : m ≤ 2) : rem3 m = 0 := by unfold rem3; rw [dif_pos h]
theorem rem3_step {m : Nat} (h : 2 < m) : rem3 m = rem3 ((m + 1) / 2) + 1 := by rw [rem3, dif_neg (by omega), Nat.add_comm]
theorem eb_step {a b m M : Nat} (h : 2 < m) (hM : (a + 1 + b) * 3 ^ rem3 m ≤ M) : (a + (a + b) + 1 + 1 + (b + b)) * 3 ^ rem3 ((m + 1) / 2) ≤ M := by
  rw [rem3_step h, Nat.pow_succ, Nat.mul_comm (3 ^ _) 3, ← Nat.mul_assoc] at hM
  exact Nat.le_trans (Nat.mul_le_mul_right _ (by omega)) hM
theorem eb_le {a b r M : Nat} (hM : (a + 1 + b) * 3 ^ r ≤ M) : a + 1 + b ≤ M := Nat.le_trans (Nat.le_mul_of_pos_right _ (Nat.pow_pos (by omega))) hM
theorem ev_short {p : List Rat} (x : Rat) (h : p.length ≤ 2) : ev p x = cf p 0 + cf p 1 * x := by
  match p, h with
  | [], _ => simp only [ev, cf_nil]; grind
  | [a], _ => simp only [ev, cf_zero, cf_succ, cf_nil]; grind
  | [a, b], _ => simp only [ev]; rw [show cf [a, b] 0 = a from rfl, show cf [a, b] 1 = b from rfl]; grind
  | a :: b :: c :: r, h => simp at h
end Dig
theorem Fcl.fblk {w : World} {g : Nat} {b : Bool} {X Y : Option Addr} {xm xc ym yc : Nat} (h : Fcl w g b (.slice X xm xc) (.slice Y ym yc)) : FBlk w g [⟨b, (X, xm, xc), (Y, ym, yc)⟩] := h
theorem Ofl.apart {E : World → Value → Rat → Prop} {base : Nat} {w w' : World} {v : Value} {qs : List Rat} {g : Nat} {ts : List Tri} (h : Ofl E base w v qs) (K : Keeps E) (hF : FBlk w g ts) (hg : g < base) (hs : w.heap.size ≤ w'.heap.size) (hk : ∀ j, j ≠ g → w'.heap[j]? = w.heap[j]?) : Ofl E base w' v qs := by
  rcases h with h | ⟨g', us, e, hb, hF', hl, hm, hE⟩
  · exact .inl h
  · exact .inr ⟨g', us, e, hb, hF'.of_block (hk _ (by omega)), hl, hm, fun j hj => K.apart (hE j hj) hF hs hk⟩
def lenV : Value → Nat
  | .slice _ n _ => n
  | _ => 0
def EvRel (w wr : World) (v : Value) (g0 g1 M : Nat) (val : Rat) : Prop := ∃ qs y a b bb X xm xc Y ym yc, Fls (FV a) wr v qs ∧ Fcl wr g0 bb (.slice X xm xc) (.slice Y ym yc) ∧ FracV wr (.agg #[.bool bb, .slice X xm xc, .slice Y ym yc]) y b ∧ Fcl wr g1 false (.slice none 0 0) (.slice none 0 0) ∧ Below w.heap.size w wr ∧
  ev qs y = val ∧ qs.length ≤ 1000000000 ∧ 2 ≤ a ∧ 2 ≤ b ∧ (a + 1 + b) * 3 ^ rem3 qs.length ≤ M

section
variable {w : World} {va vb : Value} {ps qs : List Rat} {k l M : Nat}
set_option maxHeartbeats 8000000 in
theorem eval_p {q : Rat} (ha : Fls (FV k) w va ps) (hb : FracV w vb q l) (h2 : 2 ≤ k) (h2' : 2 ≤ l) (hM : (k + 1 + l) * 3 ^ rem3 (tr ps).length ≤ M) (hM2 : M ≤ 40000) (hm : ps.length ≤ 1000000000) :
    Calls Try.prog 24 #[va, vb] w (RCanF w (ev ps q) (2 * M)) := by
  have hkl := eb_le hM
  obtain ⟨nb, B, i, x, B', i', x', s, t, rfl, hs, ht, hq⟩ := hb.parts
  obtain ⟨w0, g0, g1, ew, eg0, eg1, hB0, hF0, hF1⟩ := two_boxes w nb (.slice B i x) (.slice B' i' x')
  have T := Lib.hid (trim_p (Fls.below ha (keeps_FV k) hB0) (keeps_FV k) (reads_FV k) (by omega))
  have hb := FracV.below hb hB0
  have hgl : g0 < w0.heap.size := hF0.lt
  have hl := Nat.le_trans (tr_le ps) hm
  have hev := ev_tr ps q
  generalize tr ps = rs at *
  clear ha hs ht hq
  have HW := Lib.hid ew
  go_enter Try.func24, Try.ntmps24
  go_wp2_with fail
  refine (T.out).mono ?_
  rintro e w1 ⟨A, c, rfl, rfl, hF, hB1⟩
  have hI : EvRel w w1 (.slice A rs.length c) g0 g1 M (ev ps q) := ⟨rs, q, k, l, _, _, _, _, _, _, _, hF, hF0.below hB1, hb.below hB1, hF1.below hB1, below_then hB0 hB1, hev, hl, h2, h2', hM⟩
  clear T hF hF0 hF1 hb hev hM hB0 hB1
  have HM := Lib.hid hM2
  generalize ev ps q = R at *
  go_wp2_with fail
  go_loopw [0] (fun v wr => EvRel w wr v g0 g1 M R) (fun v _ => lenV v)
  case atStart => exact hI
  case round =>
    obtain ⟨qs, y, a, b, bb, X, xm, xc, Y, ym, yc, hP, hF0, hy, hF1, hB, hev, hl, h2, h2', hM⟩ := hrel
    obtain ⟨A, c, rfl⟩ := hP.form
    have hab := eb_le hM
    have hM2 := HM.out
    by_cases hlen : 2 < qs.length
    · have HI : (2 : Int) < qs.length := by omega
      have hE3 := eb_step hlen hM
      have EP := Lib.hid (fun z (hz : FracV wr z y b) => evalPairs_p hP hz (by omega) h2 h2' hl)
      have HMU := Lib.hid (fun w3 z (hz : FracV w3 z y b) => mulf_v (w := w3) hz hz (by omega) (by omega) h2')
      obtain ⟨c0, c1, c2⟩ := hF0.cells
      have hg0 := hF0.lt
      have HY := Lib.hid hy
      generalize hml : qs.length = m at *
      have HML := Lib.hid hml
      clear hml
      go_wp2_with fail
      refine (EP.out _ HY.out).mono ?_
      rintro e w3 ⟨v, rfl, hv, hB3⟩
      have hF0 := hF0.below hB3
      have hF1 := hF1.below hB3
      have hy := HY.out.below hB3
      have hlt := hF0.lt
      clear c0 c1 c2
      obtain ⟨c0, c1, c2⟩ := hF0.cells
      go_wp2_with fail
      refine (HMU.out _ _ hy).mono ?_
      rintro e w5 ⟨u, rfl, hu, hB5⟩
      have hv := hv.below (keeps_CV _) hB5
      obtain ⟨b', C, o, r, C', o', r', rfl, hb', hvx, hvy⟩ := hu.parts
      have hF0 := hF0.below hB5
      have hF1 := hF1.below hB5
      have hB5 := below_then hB3 hB5
      clear c0 c1 c2
      obtain ⟨c0, c1, c2⟩ := hF0.cells
      obtain ⟨f0, f1, f2⟩ := hF0.frozen
      have hvf := hv.fls.form
      rw [mk_length] at hvf
      obtain ⟨A2, c2', rfl⟩ := hvf
      have hs : w5.heap.size ≤ (stor3 w5 g0 (.bool b') (.slice C o r) (.slice C' o' r')).heap.size := Nat.le_of_eq (put3_size _ _ _ _ _).symm
      have hk := put3_heap w5 g0 (.bool b') (.slice C o r) (.slice C' o' r')
      have hO := ((hv.apart (keeps_CV _) hF0.fblk hg0 hs hk).fls).weaken (E' := FV (a + (a + b) + 1)) (fun v q _ h => CanF.fracV h)
      have hy2 := (keeps_FV (b + b)).apart (CanF.fracV hu) hF0.fblk hs hk
      have e1 := (ev_pairs qs y).trans hev
      rw [HML.out] at e1
      have HS : Hid (EvRel w (stor3 w5 g0 (.bool b') (.slice C o r) (.slice C' o' r')) (.slice A2 ((m + 1) / 2) c2') g0 g1 M R) := Lib.hid ⟨_, y * y, a + (a + b) + 1, b + b, b', C, o, r, C', o', r', hO, hF0.put3 _ _ _, hy2, hF1.far (by omega) _ _ _, below_put3 (below_then hB hB5) (by omega) _ _ _, e1, by rw [mk_length]; omega, by omega, by omega, by rw [mk_length]; exact hE3⟩
      clear hO hy2 e1 hs hk hv hu hb' hvx hvy hy hF0 hF1
      go_wp2_with fail
      go_roundw
      case rel => exact HS.out
      case measure => simp [lenV]; omega
    · have HI : ¬ (2 : Int) < qs.length := by omega
      have hr0 := rem3_small (m := qs.length) (by omega)
      rw [hr0, Nat.pow_zero, Nat.mul_one] at hM
      have hes := ev_short y (show qs.length ≤ 2 by omega)
      rw [hev] at hes
      have ZA := Lib.hid (fun w1 (hr : Below wr.heap.size wr w1) (i : Int) (h0 : 0 ≤ i ∧ i ≤ 1) => (show Calls Try.prog 50 #[.slice A qs.length c, .int .i64 i] w1 (RFV w1 (cf qs i.toNat) a) from by
        have := at_p (Fls.below (w' := w1) hP (keeps_FV a) hr) (reads_FV a) i.toNat (by omega)
        rwa [Int.toNat_of_nonneg h0.1] at this))
      have EP := fun w1 u v (hr : Below wr.heap.size wr w1) (hu : ∃ w2, FracV w2 u (cf qs (0 : Int).toNat) a ∧ Below w2.heap.size w2 w1) (hv : FracV w1 v (cf qs (1 : Int).toNat) a) => evalPair_p (w := w1) (p := cf qs 0) (q := cf qs 1) (hu.elim fun w2 h => h.1.below h.2) hv (hy.below hr) (by omega) (by omega) h2 h2
      rw [← hes] at EP
      have E := Lib.hid EP
      have S0 := Lib.hid (fun w1 hr => conj_r (hF0.below (w' := w1) hr))
      have hne : g0 ≠ g1 := by omega
      have S1 := Lib.hid (fun w1 hr a b c => conj_r ((hF0.below (w' := w1) hr).far hne a b c))
      have hK : Below wr.heap.size wr wr := Below.refl _ _
      have HEG := Lib.hid (show w.heap.size ≤ g1 by omega)
      have HLE := Lib.hid (show a + (a + b) + 1 ≤ 2 * M by omega)
      clear EP hes hev hy hP hr0 hM hl hI ew eg0 eg1 hM2 hab
      generalize qs.length = m at *
      obtain ⟨c0, c1, c2⟩ := hF0.cells
      go_wp2_with fail
      go_region_held3 (fun w' => w'.cell? ⟨g0, 0, none⟩ = some (.bool bb) ∧ w'.cell? ⟨g0, 1, none⟩ = some (.slice X xm xc) ∧ w'.cell? ⟨g0, 2, none⟩ = some (.slice Y ym yc)) (first | with_reducible exact S0.out _ hK | exact S0.out _ hK.drew | exact S1.out _ hK _ _ _) (first | (go_at_call 50; refine (ZA.out _ (by first | exact hK.drew | exact hK) _ (by decide)).mono ?_; rintro e w3 ⟨z, rfl, hz, hB3⟩; have hK : Below wr.heap.size wr w3 := by first | exact below_undrew hB3 | exact below_then hK hB3) | (go_at_call 60; refine (E.out _ _ _ hK ⟨_, by assumption, by assumption⟩ hz).mono ?_; rintro e w5 ⟨v, rfl, hv, hB5⟩; obtain ⟨b', D, o, f, D', o', f', rfl, hb, hvx, hvy⟩ := hv.parts; have hK := below_then hK hB5; obtain ⟨k0, k1, k2⟩ := (hF1.below hK).cells; obtain ⟨f0, f1, f2⟩ := (hF1.below hK).frozen))
      go_wp2_with fail
      refine bodyPost_ret (v := .agg #[.bool b', .slice D o f, .slice D' o' f']) (by rw [results_one rfl]; go_simp) rfl ?_
      exact RCanF.le (RCanF.stored hb hvx hvy (hF1.below hK) (below_then hB hK) HEG.out _) HLE.out
end
end Go.Proofs.Ytjemnankgjjgcaa

/- The contract of Derivative of package poly. -/
namespace Go.Proofs.Ytjemnankgjjgcaa
open Go.RowKit Dig
set_option linter.unusedVariables false

namespace Dig
theorem pder_eq (ps : List Rat) : mk ((tr ps).length - 1) (der (cf (tr ps))) = pder ps := by
  rw [← pder_tr ps, pder]
  symm
  apply tr_id
  rw [mk_length]
  rcases tr_last ps with h | h
  · left; omega
  · rcases Nat.eq_zero_or_pos ((tr ps).length - 1) with h0 | h0
    · exact .inl h0
    · right
      rw [cf_mk, if_pos (by omega), der, ← natCast_succ, show (tr ps).length - 1 - 1 + 1 = (tr ps).length - 1 by omega]
      have h1 : (((tr ps).length - 1 : Nat) : Rat) ≠ 0 := fun e => by
        have : (tr ps).length - 1 = 0 := by exact_mod_cast e
        omega
      exact fun e => (Rat.mul_eq_zero.1 e).elim h1 h
theorem frz_one (i : Nat) : frz ((i : Int) + 1) 1 = (i : Rat) + 1 := by
  unfold frz
  have h1 : (decide ((i : Int) + 1 < 0) != decide ((1 : Int) < 0)) = false := by
    have : ¬ ((i : Int) + 1 < 0) := by omega
    simp [this]
  have h2 : ((i : Int) + 1).natAbs = i + 1 := by omega
  rw [h1, h2, show (1 : Int).natAbs = 1 from rfl]
  unfold fr
  rw [show sg false (i + 1) = ((i : Int) + 1) from rfl, Rat.mkRat_one]
  push_cast
  rfl
end Dig
theorem cell_far {w : World} {g b : Nat} (hb : b ≠ g) (o i : Nat) (x y z : Value) : (stor3o w g o x y z).cell? ⟨b, i, none⟩ = w.cell? ⟨b, i, none⟩ := by
  simp only [World.cell?, stor3o_heap w g o x y z b hb]
section
variable {w : World} {va : Value} {ps : List Rat} {k : Nat}
set_option maxHeartbeats 8000000 in
theorem derivative_p (ha : Fls (FV k) w va ps) (hk : k ≤ 100000) (h2 : 2 ≤ k) (hm : ps.length ≤ 1000000000) :
    Calls Try.prog 21 #[va] w (RPol w (pder ps) (2 + k)) := by
  have T := Lib.hid (trim_p ha (keeps_FV k) (reads_FV k) (by omega))
  have hl := Nat.le_trans (tr_le ps) hm
  rw [← pder_eq]
  generalize tr ps = rs at *
  clear ha
  go_enter Try.func21, Try.ntmps21
  go_wp2_with fail
  refine (T.out).mono ?_
  rintro e w1 ⟨A, c, rfl, rfl, hF, hB1⟩
  by_cases h0 : rs.length = 0
  · have HB := Lib.hid hB1
    have E : Hid (mk (rs.length - 1) (der (cf rs)) = []) := Lib.hid (by rw [h0]; rfl)
    have HI : ((rs.length : Int) == 0) = true := by rw [beq_iff_eq]; omega
    clear T hF hB1 h0
    generalize rs.length = n at *
    go_wp2_with fail
    go_ret
    exact ⟨_, rfl, by rw [E.out]; exact Ofl.nil _ _ _, HB.out⟩
  · obtain ⟨n, hn⟩ : ∃ n, rs.length = n + 1 := ⟨rs.length - 1, by omega⟩
    have HC := Lib.hid (fun hp => Fls.cells (w := w1) (n := rs.length) hF hp)
    have HVV := Lib.hid (fun w2 (hr : Below w1.heap.size w1 w2) v q (hv : FV k w1 v q) => FracV.below hv hr)
    have HK := Lib.hid (keeps_CV (2 + k))
    have MU := Lib.hid (fun w1 x y p q (hx : CanF w1 x p 2) (hy : FracV w1 y q k) => mulf_v (w := w1) hx.fracV hy (by omega) hk (by omega))
    have HI := Lib.hid (show ((rs.length : Int) == 0) = false by rw [beq_eq_false_iff_ne]; omega)
    have HJ := Lib.hid (show ((rs.length : Int) - 1) = (n : Int) by omega)
    have HN := Lib.hid hn
    have hg0 : w.heap.size ≤ w1.heap.size := hB1.size
    rw [show rs.length - 1 = n by omega]
    have HW := Lib.hid hB1
    generalize hF' : der (cf rs) = F at *
    have HF := Lib.hid hF'
    have hi0 := HI.out
    clear T hF hF' h0 hn hB1
    generalize rs.length = m at *
    go_wp2_with (at_make; refine wp_make_f 24 (by kernel_rfl) rfl _ _ rfl _ _ n rfl rfl HJ.out HJ.out (by have := HN.out; omega) ?_; intro w2 hF2 hB2)
    have hI := Fill.start (base := w1.heap.size) (E := CV (2 + k)) (f := F) hF2
    clear hF2 hi0
    generalize w1.heap.size = g at *
    have hnn : n ≤ 1000000000 := by have := HN.out; omega
    go_loopw [18] (fun i wr => ∃ j : Nat, j ≤ n ∧ i = .int .i64 j ∧ Fill g (CV (2 + k)) wr g n j F ∧ Below g w1 wr) (fun i _ => n - (intOf i).toNat)
    case atStart => exact ⟨0, Nat.zero_le _, rfl, hI, hB2⟩
    case round =>
      obtain ⟨j, hj, rfl, hI, hB⟩ := hrel
      have FI := Lib.hid hI
      have hlt := hI.lt
      by_cases hjn : j < n
      · have HI : (j : Int) < n := by omega
        obtain ⟨b, off, rfl, hb, hcell⟩ := HC.out (by have := HN.out; omega)
        obtain ⟨tb, X, xm, xc, Y, ym, yc, c0, c1, c2, hv⟩ := hcell (j + 1) (by have := HN.out; omega)
        have et : off + (j + 1) * 3 = off + ((j : Int) + 1).toNat * 3 := by omega
        rw [et] at c0 c1 c2
        have HV := Lib.hid (fun w1 hr => HVV.out w1 hr _ _ hv)
        have q1 : (j : Int) + 1 < (m : Int) := by have := HN.out; omega
        have NW := Lib.hid (new_v wr ((j : Int) + 1) 1 (by unfold Fits64; omega) (by unfold Fits64; omega) (by omega))
        clear hI hcell hv
        go_wp2_with fail
        refine (NW.out).mono ?_
        rintro e w4 ⟨u, rfl, hu, hB4⟩
        obtain ⟨b', C, o, r, C', o', r', rfl, hb', hvx, hvy⟩ := hu.parts
        have R5 := Fcl.new w4 b' (.slice C o r) (.slice C' o' r')
        have hB5 : Below wr.heap.size wr (w4.alloc (.cells #[.bool b', .slice C o r, .slice C' o' r'] 29)) := below_then hB4 ((Below.refl _ _).alloc (Nat.le_refl _) _)
        have hgt : g < w4.heap.size := Nat.lt_of_lt_of_le hlt hB4.size
        have hBg := hB.trans (hB5.mono (Nat.le_of_lt hlt))
        go_wp2_with fail
        have HS0 := Lib.hid (fun w' (hr : Below (w4.alloc (.cells #[.bool b', .slice C o r, .slice C' o' r'] 29)).heap.size (w4.alloc (.cells #[.bool b', .slice C o r, .slice C' o' r'] 29)) w') => R5.below hr)
        have HB5 := Lib.hid hB5
        generalize hw5 : w4.alloc (.cells #[.bool b', .slice C o r, .slice C' o' r'] 29) = w5 at *
        generalize hg5 : w4.heap.size = g5 at *
        have hne : g5 ≠ g := by omega
        have hbg : b ≠ g := by omega
        have hK : Below w5.heap.size w5 w5 := Below.refl _ _
        have hlt5 : g < w5.heap.size := Nat.lt_of_lt_of_le hlt HB5.out.size
        have SB := Lib.hid (fun w' (hr : Below w5.heap.size w5 w') => (show w'.cell? ⟨b, off + ((j : Int) + 1).toNat * 3, none⟩ = some (.bool tb) ∧ w'.cell? ⟨b, off + ((j : Int) + 1).toNat * 3 + 1, none⟩ = some (.slice X xm xc) ∧ w'.cell? ⟨b, off + ((j : Int) + 1).toNat * 3 + 2, none⟩ = some (.slice Y ym yc) ∧
          w'.cell? ⟨g5, 0, none⟩ = some (.bool b') ∧ w'.cell? ⟨g5, 1, none⟩ = some (.slice C o r) ∧ w'.cell? ⟨g5, 2, none⟩ = some (.slice C' o' r') from
          have hh := hBg.trans (hr.mono (Nat.le_of_lt hlt5))
          ⟨(hh.cell (p := ⟨b, _, none⟩) hb).trans c0, (hh.cell (p := ⟨b, _, none⟩) hb).trans c1, (hh.cell (p := ⟨b, _, none⟩) hb).trans c2, (HS0.out _ hr).cells⟩))
        have SC := Lib.hid (fun w' (hr : Below w5.heap.size w5 w') x y z => (show (stor3o w' g (j * 3) x y z).cell? ⟨b, off + ((j : Int) + 1).toNat * 3, none⟩ = some (.bool tb) ∧ (stor3o w' g (j * 3) x y z).cell? ⟨b, off + ((j : Int) + 1).toNat * 3 + 1, none⟩ = some (.slice X xm xc) ∧ (stor3o w' g (j * 3) x y z).cell? ⟨b, off + ((j : Int) + 1).toNat * 3 + 2, none⟩ = some (.slice Y ym yc) ∧
          (stor3o w' g (j * 3) x y z).cell? ⟨g5, 0, none⟩ = some (.bool b') ∧ (stor3o w' g (j * 3) x y z).cell? ⟨g5, 1, none⟩ = some (.slice C o r) ∧ (stor3o w' g (j * 3) x y z).cell? ⟨g5, 2, none⟩ = some (.slice C' o' r') from by
          simp only [cell_far hbg, cell_far hne]; exact SB.out _ hr))
        have HU := Lib.hid (fun w' (hr : Below w5.heap.size w5 w') => CanF.below (CanF.below hu (show Below w4.heap.size w4 w5 by rw [← hw5]; exact (Below.refl _ _).alloc (Nat.le_refl _) _)) hr)
        have q0 : (0 : Int) ≤ (j : Int) + 1 := by omega
        have q2 : IntKind.i64.wrap ((j : Int) + 1) = (j : Int) + 1 := IntWalk.i64_in _ (by omega)
        clear hw5 hB5 hB4 hu hb' hvx hvy R5 c0 c1 c2
        go_region_held3 (fun w' => w'.cell? ⟨b, off + ((j : Int) + 1).toNat * 3, none⟩ = some (.bool tb) ∧ w'.cell? ⟨b, off + ((j : Int) + 1).toNat * 3 + 1, none⟩ = some (.slice X xm xc) ∧ w'.cell? ⟨b, off + ((j : Int) + 1).toNat * 3 + 2, none⟩ = some (.slice Y ym yc) ∧ w'.cell? ⟨g5, 0, none⟩ = some (.bool b') ∧ w'.cell? ⟨g5, 1, none⟩ = some (.slice C o r) ∧ w'.cell? ⟨g5, 2, none⟩ = some (.slice C' o' r')) (first | with_reducible exact SB.out _ hK | exact SB.out _ hK.drew | exact SC.out _ hK _ _ _) (first | (go_at_call 39; refine (MU.out _ _ _ _ _ (HU.out _ hK.drew) (HV.out _ (hBg.trans (hK.drew.mono (Nat.le_of_lt hlt5))))).mono ?_; rintro e w6 ⟨z, rfl, hz, hB6⟩; have hK := below_undrew hB6; obtain ⟨b6, D, d1, d2, D', d1', d2', rfl, hb6, hvx, hvy⟩ := hz.parts; have hI := FI.out.below HK.out (below_then HB5.out hK); obtain ⟨z0, z1, z2, e0, e1, e2⟩ := hI.cells hjn; have f0 := hI.frozen (j * 3); have f1 := hI.frozen (j * 3 + 1); have f2 := hI.frozen (j * 3 + 2)))
        have hBB := hBg.trans (hK.mono (Nat.le_of_lt hlt5))
        have HS := Lib.hid (hI.set HK.out hjn (show CV (2 + k) w6 _ (F j) by rw [← HF.out, der, ← frz_one]; exact CanF.ofParts hb6 hvx hvy))
        clear hI hz hb6 hvx hvy
        go_wp2_with fail
        go_roundw
        case rel => exact ⟨j + 1, by omega, by go_num, HS.out, below_stor3o hBB (Nat.le_refl _) _ _ _ _⟩
        case measure => simp [intOf]; omega
      · have HI : ¬ (j : Int) < n := by omega
        obtain rfl : j = n := by omega
        have HD := Lib.hid (hI.done (Nat.le_refl _) (by omega))
        have HB := Lib.hid hB
        clear hI hB
        go_wp2_with fail
        go_ret
        exact ⟨_, rfl, (HD.out.mono hg0).cast (by rw [HN.out]; rfl), HW.out.trans (HB.out.mono hg0)⟩
end
end Go.Proofs.Ytjemnankgjjgcaa

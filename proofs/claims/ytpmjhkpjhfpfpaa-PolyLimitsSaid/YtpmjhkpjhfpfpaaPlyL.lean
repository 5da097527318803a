/- The contract of Mul of package poly. -/
import Derived.Test.YtpmjhkpjhfpfpaaPlyK
namespace Go.Proofs.Ytpmjhkpjhfpfpaa
open Go.RowKit Dig
set_option linter.unusedVariables false

namespace Dig
/-- A common denominator D of at most K digits; with it the coefficients have at most M digits. -/
def Szd (rs : List Rat) (D K M : Nat) : Prop := 0 < D ∧ D < 4294967296 ^ K ∧ (∀ i, (cf rs i).den ∣ D) ∧ (∀ i, (cf rs i).num.natAbs * D < 4294967296 ^ M)
/-- zs above d is the list rs. -/
def Over (rs : List Rat) (zs : List Int) (d : Nat) : Prop := zs.length = rs.length ∧ 0 < d ∧ ∀ i, cf rs i = (zf zs i : Rat) / (d : Rat)
theorem Over.mul {rs ss : List Rat} {zs ys : List Int} {d e : Nat} (h : Over rs zs d) (h' : Over ss ys e) (i : Nat) : conv (cf rs) (cf ss) i = (zf (zmul zs ys) i : Rat) / ((d * e : Nat) : Rat) := by
  obtain ⟨h1, h2, h3⟩ := h
  obtain ⟨g1, g2, g3⟩ := h'
  have hd : (d : Rat) ≠ 0 := by exact_mod_cast (by omega : d ≠ 0)
  have he : (e : Rat) ≠ 0 := by exact_mod_cast (by omega : e ≠ 0)
  have key : conv (cf rs) (cf ss) i = (sumZ (i + 1) (fun t => zf zs t * zf ys (i - t)) : Rat) / ((d * e : Nat) : Rat) := by
    rw [conv_sumZ (cf rs) (cf ss) (zf zs) (zf ys) (1 / (d : Rat)) (1 / (e : Rat)) i (fun i => by rw [h3]; grind) (fun i => by rw [g3]; grind)]
    push_cast
    grind
  unfold zmul
  by_cases h0 : zs.length = 0 ∨ ys.length = 0
  · rw [if_pos h0]
    have : zf [] i = 0 := by simp [zf]
    rw [this]
    have hz : conv (cf rs) (cf ss) i = 0 := by
      rcases h0 with h0 | h0
      · exact conv_zero_l _ _ _ fun j => by rw [h3, zf_over (by omega)]; simp [Rat.div_def]
      · rw [conv_comm]
        exact conv_zero_l _ _ _ fun j => by rw [g3, zf_over (by omega)]; simp [Rat.div_def]
    rw [hz]
    simp [Rat.div_def]
  · rw [if_neg h0, zf_mkz]
    split
    · exact key
    · rw [conv_over (cf rs) (cf ss) rs.length ss.length i (fun _ h => cf_over h) (fun _ h => cf_over h) (by omega)]
      simp [Rat.div_def]
theorem Over.last {rs : List Rat} {zs : List Int} {d : Nat} (h : Over rs zs d) (ht : tr rs = rs) : zs.length = 0 ∨ cf rs (zs.length - 1) ≠ 0 := by
  have := tr_last rs
  rw [ht] at this
  rw [h.1]
  exact this
theorem zmul_length (zs ys : List Int) : (zmul zs ys).length = if zs.length = 0 ∨ ys.length = 0 then 0 else zs.length + ys.length - 1 := by
  unfold zmul
  split
  · rfl
  · rw [mkz_length]
theorem zmul_list {rs ss : List Rat} {zs ys : List Int} {d e : Nat} (h : Over rs zs d) (h' : Over ss ys e) (ht : tr rs = rs) (ht' : tr ss = ss) :
    (mk (zmul zs ys).length fun i => (zf (zmul zs ys) i : Rat) / ((d * e : Nat) : Rat)) = pmul rs ss := by
  apply norm_ext
  · apply tr_id
    rw [mk_length]
    by_cases h0 : zs.length = 0 ∨ ys.length = 0
    · left; rw [zmul_length, if_pos h0]
    · right
      have hl := zmul_length zs ys
      rw [if_neg h0] at hl
      rw [cf_mk, if_pos (by omega), ← h.mul h', hl, show zs.length + ys.length - 1 - 1 = (zs.length - 1) + (ys.length - 1) by omega]
      rw [conv_top (cf rs) (cf ss) (zs.length - 1) (ys.length - 1) (fun i hi => cf_over (by have := h.1; omega)) (fun i hi => cf_over (by have := h'.1; omega))]
      have a1 := (h.last ht).resolve_left (fun e => h0 (.inl e))
      have a2 := (h'.last ht').resolve_left (fun e => h0 (.inr e))
      exact fun e => (Rat.mul_eq_zero.1 e).elim a1 a2
  · exact tr_pmul _ _
  · intro i
    rw [cf_pmul, h.mul h', cf_mk]
    split
    · rfl
    · rename_i hi
      rw [zf_over (by omega)]
      simp [Rat.div_def]
theorem Over.zmul {rs ss : List Rat} {zs ys : List Int} {d e : Nat} (h : Over rs zs d) (h' : Over ss ys e) (ht : tr rs = rs) (ht' : tr ss = ss) : Over (pmul rs ss) (zmul zs ys) (d * e) := by
  refine ⟨?_, Nat.mul_pos h.2.1 h'.2.1, fun i => by rw [cf_pmul, h.mul h']⟩
  rw [← zmul_list h h' ht ht', mk_length]
end Dig
section
variable {w : World} {va vb v : Value} {ps qs : List Rat} {k l K M L N D E : Nat}
theorem scale_o (hF : Fls (FV k) w v ps) (hk : k ≤ 400000) (h2 : 2 ≤ k) (hK : K ≤ 100000) (hn : ps.length ≤ 1000000) (hs : Szd (tr ps) D K M) :
    Calls Try.prog 55 #[v] w fun e w' => ∃ v zs d, e = .returned v ∧ SclV w' v zs d K M ∧ Over (tr ps) zs d ∧ Below w.heap.size w w' :=
  (scale_q hF hk h2 hK hn hs.1 hs.2.1 hs.2.2.1 hs.2.2.2).mono fun e w' ⟨v, zs, d, h1, h2, h3, h4, h5, h6, h7⟩ => ⟨v, zs, d, h1, h2, ⟨h3, h4, h6⟩, h7⟩
theorem reduce_o {rs : List Rat} {zs : List Int} {d : Nat} (ha : SclV w v zs d K M) (hO : Over rs zs d) (hK : K ≤ M) (hM : M ≤ 400000) (h2 : 2 ≤ M) (hn : zs.length ≤ 1000000000) :
    Calls Try.prog 53 #[v] w (RPol w rs M) := by
  have h := reduce_q ha hK hM h2 hn
  have e : (mk zs.length fun i => (zf zs i : Rat) / (d : Rat)) = rs := by
    rw [hO.1, ← mk_cf rs, mk_length]
    apply mk_congr
    intro i _
    exact (hO.2.2 i).symm
  rwa [e] at h
set_option maxHeartbeats 4000000 in
theorem mul_p (ha : Fls (FV k) w va ps) (hb : Fls (FV l) w vb qs) (hk : k ≤ 400000) (hl : l ≤ 400000) (h2 : 2 ≤ k) (h2' : 2 ≤ l) (hK : K ≤ 100000) (hL : L ≤ 100000) (hs : Szd (tr ps) D K M) (hs' : Szd (tr qs) E L N)
    (hKL : K + L ≤ M + N + 1) (hM : M + N + 1 ≤ 400000) (hM2 : 1 ≤ M + N) (hn : ps.length ≤ 1000000) (hm : qs.length ≤ 1000000) :
    Calls Try.prog 17 #[va, vb] w (RPol w (pmul ps qs) (M + N + 1)) := by
  have S1 := Lib.hid (scale_o ha hk h2 hK hn hs)
  have S2 := Lib.hid (fun w1 (hr : Below w.heap.size w w1) => scale_o (w := w1) (Fls.below hb (keeps_FV l) hr) hl h2' hL hm hs')
  have MU := Lib.hid (fun w1 x y zs ys d e (hx : SclV w1 x zs d K M) (hy : SclV w1 y ys e L N) (o1 : Over (tr ps) zs d) (o2 : Over (tr qs) ys e) => multiply_z (w := w1) hx hy hK hL (by omega) (by have := o1.1; have := tr_le ps; omega) (by have := o2.1; have := tr_le qs; omega))
  have RE := Lib.hid (fun w1 x zs ys d e (hx : SclV w1 x (zmul zs ys) (d * e) (K + L) (M + N + 1)) (o1 : Over (tr ps) zs d) (o2 : Over (tr qs) ys e) => reduce_o (w := w1) hx (o1.zmul o2 (tr_tr _) (tr_tr _)) hKL hM (by omega) (by
    have := o1.1; have := tr_le ps; have := o2.1; have := tr_le qs
    rw [zmul_length]
    split <;> omega))
  rw [← pmul_tr ps qs]
  generalize tr ps = rs at *
  generalize tr qs = ss at *
  clear ha hb hs hs'
  go_enter Try.func17, Try.ntmps17
  go_wp2_with fail
  refine (S1.out).mono ?_
  rintro e w1 ⟨x, zs, d, rfl, hx, o1, hB1⟩
  go_wp2_with fail
  refine (S2.out _ hB1).mono ?_
  rintro e w2 ⟨y, ys, d2, rfl, hy, o2, hB2⟩
  have hx := hx.below hB2
  have hB2 := below_then hB1 hB2
  go_wp2_with fail
  refine (MU.out _ _ _ _ _ _ _ hx hy o1 o2).mono ?_
  rintro e w3 ⟨z, rfl, hz, hB3⟩
  have hB3 := below_then hB2 hB3
  go_wp2_with fail
  refine (RE.out _ _ _ _ _ _ hz o1 o2).mono ?_
  rintro e w4 ⟨u, rfl, hu, hB4⟩
  have HU := Lib.hid (hu.mono hB3.size)
  have HB := Lib.hid (below_then hB3 hB4)
  clear hu
  go_wp2_with fail
  go_ret
  exact ⟨_, rfl, HU.out, HB.out⟩
end
end Go.Proofs.Ytpmjhkpjhfpfpaa

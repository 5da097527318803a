/- The contract of Format of package rational. -/
import Derived.Test.YtgjhgpfjeoeojaaDoorRatF
import Derived.Test.YtgjhgpfjeoeojaaDoorReft
namespace Go.Proofs.YtgjhgpfjeoeojaaDoor
open Go.RowKit Dig
set_option linter.unusedVariables false

namespace Dig
/-- The text of a number. -/
def ftext (q : Rat) : List UInt8 := (if q.num < 0 then [45] else []) ++ (dtext q.num.natAbs ++ (if q.den = 1 then [] else 47 :: dtext q.den))
theorem ftext_eq {q : Rat} {b : Bool} (hb : decide (q.num < 0) = b) : ftext q = (if b = true then [45] else []) ++ (dtext q.num.natAbs ++ (if q.den = 1 then [] else 47 :: dtext q.den)) := by
  unfold ftext
  rw [← hb]
  simp
end Dig
theorem mk_app (l r : List UInt8) : (⟨l.toArray⟩ : ByteArray) ++ ⟨r.toArray⟩ = ⟨(l ++ r).toArray⟩ := ByteArray.mk_append_mk l r
theorem CanF.fit {w : World} {v : Value} {q : Rat} {k l : Nat} (h : CanF w v q k) (h1 : q.num.natAbs < 4294967296 ^ l) (h2 : q.den < 4294967296 ^ l) : CanF w v q l := by
  obtain ⟨vn, vd, e, a, b⟩ := h
  exact ⟨vn, vd, e, ⟨a.1, h1⟩, ⟨b.1, h2⟩⟩
set_option maxHeartbeats 2000000 in
theorem formatf_v {w : World} {v : Value} {q : Rat} {k : Nat} (h : FracV w v q k) (hk : k ≤ 5) (h1 : 2 ≤ k) : Calls Tryd.prog 27 #[v] w (RVal w (.string ⟨(ftext q).toArray⟩)) := by
  have NM := Lib.hid (fun w1 hB => normf_v (w := w1) (h.below hB) (by omega) h1)
  obtain ⟨neg, A, m, c, A', m', c', n, d, rfl, hn, hd, hq⟩ := h.parts
  have S0 := Lib.hid (Fcl.new w neg (.slice A m c) (.slice A' m' c'))
  have hB0 : Below w.heap.size w (w.alloc (.cells #[.bool neg, .slice A m c, .slice A' m' c'] 25)) := (Below.refl _ _).alloc (Nat.le_refl _) _
  clear hn hd hq h
  go_enter Tryd.func27, Tryd.ntmps27
  go_wp2_with fail
  refine (NM.out _ hB0).mono ?_
  rintro e w1 ⟨v, rfl, hv, hB1⟩
  have S1 := S0.out.below hB1
  have hB1 := below_then hB0 hB1
  obtain ⟨b, B, i, j, B', i', j', rfl, hb, hx, hy⟩ := hv.parts
  have S2 := S1.put3 b (.slice B i j) (.slice B' i' j')
  have hx2 := hx.put3 S1 (.bool b) (.slice B i j) (.slice B' i' j')
  have hy2 := hy.put3 S1 (.bool b) (.slice B i j) (.slice B' i' j')
  have hB2 := below_put3 hB1 (Nat.le_refl _) (.bool b) (.slice B i j) (.slice B' i' j')
  obtain ⟨k0, k1, k2⟩ := S1.cells
  obtain ⟨f0, f1, f2⟩ := S1.frozen
  have F1 := Lib.hid (fun (w3 : World) (hB : Below (stor3 w1 w.heap.size (.bool b) (.slice B i j) (.slice B' i' j')).heap.size (stor3 w1 w.heap.size (.bool b) (.slice B i j) (.slice B' i' j')) w3) => format_v (hx2.below hB).numV (by omega))
  have HN := Lib.hid hb
  have I1 := Lib.hid (fun (w3 : World) (hB : Below (stor3 w1 w.heap.size (.bool b) (.slice B i j) (.slice B' i' j')).heap.size (stor3 w1 w.heap.size (.bool b) (.slice B i j) (.slice B' i' j')) w3) => isOne_v (hy2.below hB).numV (by omega))
  have F2 := Lib.hid (fun (w3 : World) (hB : Below (stor3 w1 w.heap.size (.bool b) (.slice B i j) (.slice B' i' j')).heap.size (stor3 w1 w.heap.size (.bool b) (.slice B i j) (.slice B' i' j')) w3) => format_v (hy2.below hB).numV (by omega))
  have hlen := dtext_length q.num.natAbs k hx.2 (by omega)
  have hlen2 := dtext_length q.den k hy.2 (by omega)
  have HF := Lib.hid (ftext_eq hb)
  clear hx hy hv hb hx2 hy2 hB1
  generalize q.num.natAbs = N at *
  generalize q.den = D at *
  go_wp2_with fail
  refine (F1.out _ (Below.refl _ _)).mono ?_
  rintro e w3 ⟨rfl, hB3⟩
  have S3 := S2.below hB3
  have HK := Lib.hid hB3
  have hBw := below_then hB2 hB3
  obtain ⟨tl, htl⟩ : ∃ t, dtext N = t := ⟨_, rfl⟩
  rw [htl] at hlen HF ⊢
  clear htl k0 k1 k2 f0 f1 f2
  obtain ⟨d0, d1, d2⟩ := S3.cells
  have htli : (tl.length : Int) ≤ 50 := by omega
  by_cases hone : D = 1
  · subst hone
    have HF2 := Lib.hid (HF.out.trans (by rw [if_pos (rfl : (1 : Nat) = 1), List.append_nil]))
    clear HF
    cases b with
    | true =>
      go_wp2_with fail
      refine (I1.out _ HK.out).mono ?_
      rintro e w4 ⟨rfl, hB4⟩
      go_wp2_with fail
      go_ret
      exact ⟨ret_eq (show Value.string ((⟨[45].toArray⟩ : ByteArray) ++ ⟨tl.toArray⟩) = _ by rw [mk_app, HF2.out]; rfl), below_then hBw hB4⟩
    | false =>
      go_wp2_with fail
      refine (I1.out _ HK.out).mono ?_
      rintro e w4 ⟨rfl, hB4⟩
      go_wp2_with fail
      go_ret
      exact ⟨ret_eq (show Value.string ⟨tl.toArray⟩ = _ by rw [HF2.out]; rfl), below_then hBw hB4⟩
  · have HF2 := Lib.hid (HF.out.trans (by rw [if_neg hone]))
    have hdec : decide (D = 1) = false := by simpa using hone
    clear HF hone
    obtain ⟨dl, hdl⟩ : ∃ t, dtext D = t := ⟨_, rfl⟩
    have HDL := Lib.hid hdl
    rw [hdl] at hlen2 HF2
    have hdli : (dl.length : Int) ≤ 50 := by omega
    clear hdl
    cases b with
    | true =>
      go_wp2_with fail
      refine (I1.out _ HK.out).mono ?_
      rintro e w4 ⟨rfl, hB4⟩
      have S4 := S3.below hB4
      have HK4 := Lib.hid (below_then HK.out hB4)
      have hBx := below_then hBw hB4
      clear d0 d1 d2
      obtain ⟨d0, d1, d2⟩ := S4.cells
      go_wp2_with fail
      refine (F2.out _ HK4.out).mono ?_
      rintro e w5 ⟨rfl, hB5⟩
      rw [HDL.out]
      go_wp2_with fail
      go_ret
      exact ⟨ret_eq (show Value.string ((⟨[45].toArray⟩ : ByteArray) ++ ⟨tl.toArray⟩ ++ ⟨[47].toArray⟩ ++ ⟨dl.toArray⟩) = _ by rw [mk_app, mk_app, mk_app, HF2.out]; simp), below_then hBx hB5⟩
    | false =>
      go_wp2_with fail
      refine (I1.out _ HK.out).mono ?_
      rintro e w4 ⟨rfl, hB4⟩
      have S4 := S3.below hB4
      have HK4 := Lib.hid (below_then HK.out hB4)
      have hBx := below_then hBw hB4
      clear d0 d1 d2
      obtain ⟨d0, d1, d2⟩ := S4.cells
      go_wp2_with fail
      refine (F2.out _ HK4.out).mono ?_
      rintro e w5 ⟨rfl, hB5⟩
      rw [HDL.out]
      go_wp2_with fail
      go_ret
      exact ⟨ret_eq (show Value.string ((⟨tl.toArray⟩ : ByteArray) ++ ⟨[47].toArray⟩ ++ ⟨dl.toArray⟩) = _ by rw [mk_app, mk_app, HF2.out]; simp), below_then hBx hB5⟩
end Go.Proofs.YtgjhgpfjeoeojaaDoor

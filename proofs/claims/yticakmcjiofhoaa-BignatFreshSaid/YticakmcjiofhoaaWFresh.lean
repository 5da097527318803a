/- The walk of the law BignatFresh: it returns true and leaves what was there. -/
import Derived.Test.YticakmcjiofhoaaLawf
namespace Go.Proofs.Yticakmcjiofhoaa
open Go.RowKit Dig
set_option linter.unusedVariables false

set_option maxHeartbeats 4000000 in
theorem fresh_zero (w : World) (v0 v1 : Value) (l0 l1 : List Nat) (n0 : Num w v0 l0) (n1 : Num w v1 l1) (h0 : val (mkn l1) = 0) :
    Calls Try.prog 11 #[v0, v1] w fun e w' => e = .returned (.bool true) ∧ Below w.heap.size w w' := by
  go_enter Try.func11, Try.ntmps11
  go_wp2_with fail
  refine (base_c (w := w) _ _ n0).mono ?_
  rintro e w1 ⟨a, rfl, oa, hB⟩
  have n0 := n0.below hB
  have n1 := n1.below hB
  have ra := oa.num
  have HB := hB
  clear hB oa
  go_wp2_with fail
  refine (base_c (w := w1) _ _ n1).mono ?_
  rintro e w2 ⟨b, rfl, ob, hB⟩
  have n0 := n0.below hB
  have n1 := n1.below hB
  have ra := ra.below hB
  have rb := ob.num
  have HB := below_step HB hB
  clear hB ob
  have HB2 := HB
  have hZ : Below w2.heap.size w2 w2 := Below.refl _ _
  have ha : NumV w2 a (val (mkn l0)) 8 := ⟨_, ra, rfl, mkn_length l0⟩
  have hb : NumV w2 b (val (mkn l1)) 8 := ⟨_, rb, rfl, mkn_length l1⟩
  have RA := Lib.hid ra
  have RB := Lib.hid rb
  have N0 := Lib.hid n0
  have N1 := Lib.hid n1
  clear ra rb n0 n1
  rw [h0] at hb
  generalize hxx : val (mkn l0) = x at ha
  go_wp2_with fail
  refine (div0_v (w := w2) ha hb).mono ?_
  rintro e w3 ⟨rfl, hB⟩
  have hZ := below_step hZ hB
  have ha := ha.below hB
  have hb := hb.below hB
  have HB := below_step HB hB
  clear hB
  have hWq : Wrt w2.heap.size w3 (.slice none 0 0) := Wrt.nil _ _
  have hWr : Wrt w2.heap.size w3 (.slice none 0 0) := Wrt.nil _ _
  go_wp2_with fail
  refine (norm_v (w := w3) ha (by omega)).mono ?_
  rintro e w4 ⟨n1, rfl, hn10, on1, hB⟩
  have hWn10 := Wrt.of on1 hZ.size
  have hZ := below_step hZ hB
  have ha := ha.below hB
  have hb := hb.below hB
  have hWq := hWq.below hB
  have hWr := hWr.below hB
  have HB := below_step HB hB
  clear hB
  have hWn1 := hWn10
  clear hWn10 on1
  have hn1 := hn10
  clear hn10
  clear hn1
  have hF := hWn1
  obtain ⟨An1, ln1, cn1, rfl, _⟩ := hF
  go_wp2_with fail
  refine (add_v (w := w4) ha (NumV.nil _) (by omega) (by omega)).mono ?_
  rintro e w5 ⟨n2, rfl, hn20, on2, hB⟩
  have hWn20 := Wrt.of on2 hZ.size
  have hZ := below_step hZ hB
  have ha := ha.below hB
  have hb := hb.below hB
  have hWq := hWq.below hB
  have hWr := hWr.below hB
  have hWn1 := hWn1.below hB
  have HB := below_step HB hB
  clear hB
  have hWn2 := hWn20
  clear hWn20 on2
  have hn2 := hn20
  clear hn20
  clear hn2
  have hF := hWn2
  obtain ⟨An2, ln2, cn2, rfl, _⟩ := hF
  go_wp2_with fail
  refine (from_v (w := w5) 1 (by omega)).mono ?_
  rintro e w6 ⟨f, rfl, hf0, of, hB⟩
  have hWf0 := Wrt.of of hZ.size
  have hZ := below_step hZ hB
  have ha := ha.below hB
  have hb := hb.below hB
  have hWq := hWq.below hB
  have hWr := hWr.below hB
  have hWn1 := hWn1.below hB
  have hWn2 := hWn2.below hB
  have HB := below_step HB hB
  clear hB
  have hWf := hWf0
  clear hWf0 of
  have hf := hf0
  clear hf0
  go_wp2_with fail
  refine (mul_v (w := w6) ha hf.numV (by omega) (by omega) (by omega)).mono ?_
  rintro e w7 ⟨n3, rfl, hn30, on3, hB⟩
  have hWn30 := Wrt.of on3 hZ.size
  have hZ := below_step hZ hB
  have ha := ha.below hB
  have hb := hb.below hB
  have hWq := hWq.below hB
  have hWr := hWr.below hB
  have hWn1 := hWn1.below hB
  have hWn2 := hWn2.below hB
  have hWf := hWf.below hB
  have hf := hf.below hB
  have HB := below_step HB hB
  clear hB
  have hWn3 := hWn30
  clear hWn30 on3
  have hn3 := hn30
  clear hn30
  clear hn3
  have hF := hWn3
  obtain ⟨An3, ln3, cn3, rfl, _⟩ := hF
  clear hf
  clear hWf
  go_wp2_with fail
  refine (gcd0_v (w := w7) ha (NumV.nil _) (by omega)).mono ?_
  rintro e w8 ⟨n4, rfl, hn40, on4, hB⟩
  have hWn40 := Wrt.of on4 hZ.size
  have hZ := below_step hZ hB
  have ha := ha.below hB
  have hb := hb.below hB
  have hWq := hWq.below hB
  have hWr := hWr.below hB
  have hWn1 := hWn1.below hB
  have hWn2 := hWn2.below hB
  have hWn3 := hWn3.below hB
  have HB := below_step HB hB
  clear hB
  have hWn4 := hWn40
  clear hWn40 on4
  have hn4 := hn40
  clear hn40
  clear hn4
  have hF := hWn4
  obtain ⟨An4, ln4, cn4, rfl, _⟩ := hF
  go_wp2_with fail
  obtain ⟨L, hLe⟩ : ∃ L : List Value, L = [.slice An1 ln1 cn1, .slice An2 ln2 cn2, .slice An3 ln3 cn3, .slice An4 ln4 cn4, .slice none 0 0, .slice none 0 0] := ⟨_, rfl⟩
  have hL : ∀ v ∈ L, Wrt w2.heap.size w8 v := by
    subst hLe
    intro v hv
    simp only [List.mem_cons, List.not_mem_nil, or_false] at hv
    rcases hv with rfl | rfl | rfl | rfl | rfl | rfl <;> assumption
  have hlen : L.length = 6 := by subst hLe; rfl
  obtain ⟨gl, hgl⟩ : ∃ gl, w8.heap.size = gl := ⟨_, rfl⟩
  have hBA : Below w8.heap.size w8 (w8.alloc (.cells #[.slice An1 ln1 cn1, .slice An2 ln2 cn2, .slice An3 ln3 cn3, .slice An4 ln4 cn4, .slice none 0 0, .slice none 0 0] 24)) := (Below.refl _ _).alloc (Nat.le_refl _) _
  have hLst : Lst gl L (w8.alloc (.cells #[.slice An1 ln1 cn1, .slice An2 ln2 cn2, .slice An3 ln3 cn3, .slice An4 ln4 cn4, .slice none 0 0, .slice none 0 0] 24)) := by
    unfold Lst
    rw [← hgl, heap_alloc_new, hLe]
  have hAll := AllW.of hL hgl hBA
  have hZ2 := below_step hZ hBA
  rw [hgl]
  have HBb := Lib.hid HB2
  clear HB hZ hBA hL hgl ha hb hWn1 hWn2 hWn3 hWn4 hWq hWr
  generalize w8.alloc (.cells #[.slice An1 ln1 cn1, .slice An2 ln2 cn2, .slice An3 ln3 cn3, .slice An4 ln4 cn4, .slice none 0 0, .slice none 0 0] 24) = wA at *
  clear hLe
  go_loopw [11, 12] (fun i _ wr => ∃ m : Nat, m ≤ 6 ∧ i = .int .i64 m ∧ Lst gl L wr ∧ AllW w2.heap.size gl L wr ∧ Below w2.heap.size w2 wr) (fun i _ _ => 6 - (intOf i).toNat)
  case atStart => exact ⟨0, by omega, rfl, hLst, hAll, hZ2⟩
  case round =>
    clear hLst hAll hZ2
    obtain ⟨m, hm, rfl, hl, hw, hz⟩ := hrel
    by_cases hm6 : m < 6
    · obtain ⟨A, n, c, hv, hnc, hcm⟩ := hw.form (show m < L.length by omega)
      have hmi : (m : Int) < 6 := by omega
      have HV := Lib.hid hv
      have HL1 := Lib.hid hl
      have HW1 := Lib.hid hw
      clear hl hw hv
      go_wp2_with fail
      go_loopw [12] (fun k wr => ∃ q : Nat, q ≤ n ∧ k = .int .i64 q ∧ Lst gl L wr ∧ AllW w2.heap.size gl L wr ∧ Below w2.heap.size w2 wr) (fun k _ => n - (intOf k).toNat)
      case atStart => exact ⟨0, Nat.zero_le _, rfl, HL1.out, HW1.out, hz⟩
      case round =>
        clear hz
        obtain ⟨q, hq, rfl, hl, hw, hz⟩ := hrel
        have hcl := hl.cell HV.out
        by_cases hqn : q < n
        · obtain ⟨b0, u, rfl, hb0, hbg, hcu, hfu⟩ := hw.spot HV.out hqn
          have hqi : (q : Int) < n := by omega
          have HL2 := Lib.hid (hl.set hbg q (.int .u32 77))
          have HW2 := Lib.hid (hw.set b0 q (.int .u32 77))
          have HZ2 := Lib.hid (hz.setCell (p := ⟨b0, q, none⟩) hb0 (.int .u32 77))
          clear hl hw hz
          go_wp2_with fail
          go_roundw
          case rel => exact ⟨q + 1, by omega, by go_num, HL2.out, HW2.out, HZ2.out⟩
          case measure => simp [intOf]; omega
        · have : q = n := by omega
          subst this
          have HL2 := Lib.hid hl
          have HW2 := Lib.hid hw
          clear hl hw
          go_wp2_with fail
          go_roundw
          case rel => exact ⟨m + 1, by omega, by go_num, HL2.out, HW2.out, hz⟩
          case measure => simp [intOf]; omega
    · have : m = 6 := by omega
      subst this
      have ra := RA.out.below hz
      have rb := RB.out.below hz
      have n0 := N0.out.below hz
      have n1 := N1.out.below hz
      have HB := below_step HBb.out hz
      have ha : NumV wr a x 8 := ⟨_, ra, hxx, mkn_length l0⟩
      have hb : NumV wr b (val (mkn l1)) 8 := ⟨_, rb, rfl, mkn_length l1⟩
      clear hl hw hz HBb
      rw [h0] at hb
      go_wp2_with fail
      refine (div0_v (w := wr) ha hb).mono ?_
      rintro e w9 ⟨rfl, hB⟩
      have ha := ha.below hB
      have hb := hb.below hB
      have ra := ra.below hB
      have rb := rb.below hB
      have n0 := n0.below hB
      have n1 := n1.below hB
      have HB := below_step HB hB
      clear hB
      go_wp2_with fail
      refine (natDiv0_v (w := w9) ha hb (by omega) (by omega)).mono ?_
      rintro e w10 ⟨rfl, hB⟩
      have ha := ha.below hB
      have hb := hb.below hB
      have ra := ra.below hB
      have rb := rb.below hB
      have n0 := n0.below hB
      have n1 := n1.below hB
      have HB := below_step HB hB
      clear hB
      go_wp2_with fail
      refine (baseNum_v (w := w10) n0).mono ?_
      rintro e w11 ⟨p, rfl, rp, hB⟩
      have ha := ha.below hB
      have hb := hb.below hB
      have ra := ra.below hB
      have rb := rb.below hB
      have n0 := n0.below hB
      have n1 := n1.below hB
      have HB := below_step HB hB
      clear hB
      go_wp2_with fail
      refine (sameNum_v (w := w11) ra rp).mono ?_
      rintro e w12 ⟨rfl, hB⟩
      have ha := ha.below hB
      have hb := hb.below hB
      have ra := ra.below hB
      have rb := rb.below hB
      have n0 := n0.below hB
      have n1 := n1.below hB
      have rp := rp.below hB
      have HB := below_step HB hB
      clear hB
      go_wp2_with fail
      refine (baseNum_v (w := w12) n1).mono ?_
      rintro e w13 ⟨o, rfl, ro, hB⟩
      have ha := ha.below hB
      have hb := hb.below hB
      have ra := ra.below hB
      have rb := rb.below hB
      have n0 := n0.below hB
      have n1 := n1.below hB
      have rp := rp.below hB
      have HB := below_step HB hB
      clear hB
      go_wp2_with fail
      refine (sameNum_v (w := w13) rb ro).mono ?_
      rintro e w14 ⟨rfl, hB⟩
      have ha := ha.below hB
      have hb := hb.below hB
      have ra := ra.below hB
      have rb := rb.below hB
      have n0 := n0.below hB
      have n1 := n1.below hB
      have rp := rp.below hB
      have ro := ro.below hB
      have HB := below_step HB hB
      clear hB
      go_wp2_with fail
      refine (sameNum_v (w := w14) (Num.nil _) (Num.nil _)).mono ?_
      rintro e w15 ⟨rfl, hB⟩
      have ha := ha.below hB
      have hb := hb.below hB
      have ra := ra.below hB
      have rb := rb.below hB
      have n0 := n0.below hB
      have n1 := n1.below hB
      have rp := rp.below hB
      have ro := ro.below hB
      have HB := below_step HB hB
      clear hB
      go_wp2_with fail
      refine (sameNum_v (w := w15) (Num.nil _) (Num.nil _)).mono ?_
      rintro e w16 ⟨rfl, hB⟩
      have ha := ha.below hB
      have hb := hb.below hB
      have ra := ra.below hB
      have rb := rb.below hB
      have n0 := n0.below hB
      have n1 := n1.below hB
      have rp := rp.below hB
      have ro := ro.below hB
      have HB := below_step HB hB
      clear hB
      go_wp2_with fail
      refine (known_v w16).mono ?_
      rintro e w17 ⟨rfl, hB⟩
      have ha := ha.below hB
      have hb := hb.below hB
      have ra := ra.below hB
      have rb := rb.below hB
      have n0 := n0.below hB
      have n1 := n1.below hB
      have rp := rp.below hB
      have ro := ro.below hB
      have HB := below_step HB hB
      clear hB
      go_wp2_with fail
      go_ret
      exact ⟨rfl, HB⟩

set_option maxHeartbeats 4000000 in
theorem fresh_pos (w : World) (v0 v1 : Value) (l0 l1 : List Nat) (n0 : Num w v0 l0) (n1 : Num w v1 l1) (h0 : 0 < val (mkn l1)) :
    Calls Try.prog 11 #[v0, v1] w fun e w' => e = .returned (.bool true) ∧ Below w.heap.size w w' := by
  go_enter Try.func11, Try.ntmps11
  go_wp2_with fail
  refine (base_c (w := w) _ _ n0).mono ?_
  rintro e w1 ⟨a, rfl, oa, hB⟩
  have n0 := n0.below hB
  have n1 := n1.below hB
  have ra := oa.num
  have HB := hB
  clear hB oa
  go_wp2_with fail
  refine (base_c (w := w1) _ _ n1).mono ?_
  rintro e w2 ⟨b, rfl, ob, hB⟩
  have n0 := n0.below hB
  have n1 := n1.below hB
  have ra := ra.below hB
  have rb := ob.num
  have HB := below_step HB hB
  clear hB ob
  have HB2 := HB
  have hZ : Below w2.heap.size w2 w2 := Below.refl _ _
  have ha : NumV w2 a (val (mkn l0)) 8 := ⟨_, ra, rfl, mkn_length l0⟩
  have hb : NumV w2 b (val (mkn l1)) 8 := ⟨_, rb, rfl, mkn_length l1⟩
  have RA := Lib.hid ra
  have RB := Lib.hid rb
  have N0 := Lib.hid n0
  have N1 := Lib.hid n1
  clear ra rb n0 n1
  generalize hxx : val (mkn l0) = x at ha
  generalize hyy : val (mkn l1) = y at hb h0
  go_wp2_with fail
  refine (div_v (w := w2) ha hb (by omega) h0).mono ?_
  rintro e w3 ⟨q, r, rfl, hq0, hr0, oq, or, hB⟩
  have hWq0 := Wrt.of oq hZ.size
  have hWr0 := Wrt.of or hZ.size
  have hZ := below_step hZ hB
  have ha := ha.below hB
  have hb := hb.below hB
  have HB := below_step HB hB
  clear hB
  have hWq := hWq0
  clear hWq0 oq
  have hWr := hWr0
  clear hWr0 or
  have hq := hq0
  clear hq0
  have hr := hr0
  clear hr0
  clear hq
  clear hr
  have hF := hWq
  obtain ⟨Aq, lq, cq, rfl, _⟩ := hF
  have hF := hWr
  obtain ⟨Ar, lr, cr, rfl, _⟩ := hF
  go_wp2_with fail
  refine (norm_v (w := w3) ha (by omega)).mono ?_
  rintro e w4 ⟨n1, rfl, hn10, on1, hB⟩
  have hWn10 := Wrt.of on1 hZ.size
  have hZ := below_step hZ hB
  have ha := ha.below hB
  have hb := hb.below hB
  have hWq := hWq.below hB
  have hWr := hWr.below hB
  have HB := below_step HB hB
  clear hB
  have hWn1 := hWn10
  clear hWn10 on1
  have hn1 := hn10
  clear hn10
  clear hn1
  have hF := hWn1
  obtain ⟨An1, ln1, cn1, rfl, _⟩ := hF
  go_wp2_with fail
  refine (add_v (w := w4) ha (NumV.nil _) (by omega) (by omega)).mono ?_
  rintro e w5 ⟨n2, rfl, hn20, on2, hB⟩
  have hWn20 := Wrt.of on2 hZ.size
  have hZ := below_step hZ hB
  have ha := ha.below hB
  have hb := hb.below hB
  have hWq := hWq.below hB
  have hWr := hWr.below hB
  have hWn1 := hWn1.below hB
  have HB := below_step HB hB
  clear hB
  have hWn2 := hWn20
  clear hWn20 on2
  have hn2 := hn20
  clear hn20
  clear hn2
  have hF := hWn2
  obtain ⟨An2, ln2, cn2, rfl, _⟩ := hF
  go_wp2_with fail
  refine (from_v (w := w5) 1 (by omega)).mono ?_
  rintro e w6 ⟨f, rfl, hf0, of, hB⟩
  have hWf0 := Wrt.of of hZ.size
  have hZ := below_step hZ hB
  have ha := ha.below hB
  have hb := hb.below hB
  have hWq := hWq.below hB
  have hWr := hWr.below hB
  have hWn1 := hWn1.below hB
  have hWn2 := hWn2.below hB
  have HB := below_step HB hB
  clear hB
  have hWf := hWf0
  clear hWf0 of
  have hf := hf0
  clear hf0
  go_wp2_with fail
  refine (mul_v (w := w6) ha hf.numV (by omega) (by omega) (by omega)).mono ?_
  rintro e w7 ⟨n3, rfl, hn30, on3, hB⟩
  have hWn30 := Wrt.of on3 hZ.size
  have hZ := below_step hZ hB
  have ha := ha.below hB
  have hb := hb.below hB
  have hWq := hWq.below hB
  have hWr := hWr.below hB
  have hWn1 := hWn1.below hB
  have hWn2 := hWn2.below hB
  have hWf := hWf.below hB
  have hf := hf.below hB
  have HB := below_step HB hB
  clear hB
  have hWn3 := hWn30
  clear hWn30 on3
  have hn3 := hn30
  clear hn30
  clear hn3
  have hF := hWn3
  obtain ⟨An3, ln3, cn3, rfl, _⟩ := hF
  clear hf
  clear hWf
  go_wp2_with fail
  refine (gcd0_v (w := w7) ha (NumV.nil _) (by omega)).mono ?_
  rintro e w8 ⟨n4, rfl, hn40, on4, hB⟩
  have hWn40 := Wrt.of on4 hZ.size
  have hZ := below_step hZ hB
  have ha := ha.below hB
  have hb := hb.below hB
  have hWq := hWq.below hB
  have hWr := hWr.below hB
  have hWn1 := hWn1.below hB
  have hWn2 := hWn2.below hB
  have hWn3 := hWn3.below hB
  have HB := below_step HB hB
  clear hB
  have hWn4 := hWn40
  clear hWn40 on4
  have hn4 := hn40
  clear hn40
  clear hn4
  have hF := hWn4
  obtain ⟨An4, ln4, cn4, rfl, _⟩ := hF
  go_wp2_with fail
  obtain ⟨L, hLe⟩ : ∃ L : List Value, L = [.slice An1 ln1 cn1, .slice An2 ln2 cn2, .slice An3 ln3 cn3, .slice An4 ln4 cn4, .slice Aq lq cq, .slice Ar lr cr] := ⟨_, rfl⟩
  have hL : ∀ v ∈ L, Wrt w2.heap.size w8 v := by
    subst hLe
    intro v hv
    simp only [List.mem_cons, List.not_mem_nil, or_false] at hv
    rcases hv with rfl | rfl | rfl | rfl | rfl | rfl <;> assumption
  have hlen : L.length = 6 := by subst hLe; rfl
  obtain ⟨gl, hgl⟩ : ∃ gl, w8.heap.size = gl := ⟨_, rfl⟩
  have hBA : Below w8.heap.size w8 (w8.alloc (.cells #[.slice An1 ln1 cn1, .slice An2 ln2 cn2, .slice An3 ln3 cn3, .slice An4 ln4 cn4, .slice Aq lq cq, .slice Ar lr cr] 24)) := (Below.refl _ _).alloc (Nat.le_refl _) _
  have hLst : Lst gl L (w8.alloc (.cells #[.slice An1 ln1 cn1, .slice An2 ln2 cn2, .slice An3 ln3 cn3, .slice An4 ln4 cn4, .slice Aq lq cq, .slice Ar lr cr] 24)) := by
    unfold Lst
    rw [← hgl, heap_alloc_new, hLe]
  have hAll := AllW.of hL hgl hBA
  have hZ2 := below_step hZ hBA
  rw [hgl]
  have HBb := Lib.hid HB2
  clear HB hZ hBA hL hgl ha hb hWn1 hWn2 hWn3 hWn4 hWq hWr
  generalize w8.alloc (.cells #[.slice An1 ln1 cn1, .slice An2 ln2 cn2, .slice An3 ln3 cn3, .slice An4 ln4 cn4, .slice Aq lq cq, .slice Ar lr cr] 24) = wA at *
  clear hLe
  go_loopw [11, 12] (fun i _ wr => ∃ m : Nat, m ≤ 6 ∧ i = .int .i64 m ∧ Lst gl L wr ∧ AllW w2.heap.size gl L wr ∧ Below w2.heap.size w2 wr) (fun i _ _ => 6 - (intOf i).toNat)
  case atStart => exact ⟨0, by omega, rfl, hLst, hAll, hZ2⟩
  case round =>
    clear hLst hAll hZ2
    obtain ⟨m, hm, rfl, hl, hw, hz⟩ := hrel
    by_cases hm6 : m < 6
    · obtain ⟨A, n, c, hv, hnc, hcm⟩ := hw.form (show m < L.length by omega)
      have hmi : (m : Int) < 6 := by omega
      have HV := Lib.hid hv
      have HL1 := Lib.hid hl
      have HW1 := Lib.hid hw
      clear hl hw hv
      go_wp2_with fail
      go_loopw [12] (fun k wr => ∃ q : Nat, q ≤ n ∧ k = .int .i64 q ∧ Lst gl L wr ∧ AllW w2.heap.size gl L wr ∧ Below w2.heap.size w2 wr) (fun k _ => n - (intOf k).toNat)
      case atStart => exact ⟨0, Nat.zero_le _, rfl, HL1.out, HW1.out, hz⟩
      case round =>
        clear hz
        obtain ⟨q, hq, rfl, hl, hw, hz⟩ := hrel
        have hcl := hl.cell HV.out
        by_cases hqn : q < n
        · obtain ⟨b0, u, rfl, hb0, hbg, hcu, hfu⟩ := hw.spot HV.out hqn
          have hqi : (q : Int) < n := by omega
          have HL2 := Lib.hid (hl.set hbg q (.int .u32 77))
          have HW2 := Lib.hid (hw.set b0 q (.int .u32 77))
          have HZ2 := Lib.hid (hz.setCell (p := ⟨b0, q, none⟩) hb0 (.int .u32 77))
          clear hl hw hz
          go_wp2_with fail
          go_roundw
          case rel => exact ⟨q + 1, by omega, by go_num, HL2.out, HW2.out, HZ2.out⟩
          case measure => simp [intOf]; omega
        · have : q = n := by omega
          subst this
          have HL2 := Lib.hid hl
          have HW2 := Lib.hid hw
          clear hl hw
          go_wp2_with fail
          go_roundw
          case rel => exact ⟨m + 1, by omega, by go_num, HL2.out, HW2.out, hz⟩
          case measure => simp [intOf]; omega
    · have : m = 6 := by omega
      subst this
      have ra := RA.out.below hz
      have rb := RB.out.below hz
      have n0 := N0.out.below hz
      have n1 := N1.out.below hz
      have HB := below_step HBb.out hz
      have ha : NumV wr a x 8 := ⟨_, ra, hxx, mkn_length l0⟩
      have hb : NumV wr b y 8 := ⟨_, rb, hyy, mkn_length l1⟩
      clear hl hw hz HBb
      go_wp2_with fail
      refine (div_v (w := wr) ha hb (by omega) h0).mono ?_
      rintro e w9 ⟨s, t, rfl, hs0, ht0, os, ot, hB⟩
      have ha := ha.below hB
      have hb := hb.below hB
      have ra := ra.below hB
      have rb := rb.below hB
      have n0 := n0.below hB
      have n1 := n1.below hB
      have HB := below_step HB hB
      clear hB
      have hs := hs0
      clear hs0
      have ht := ht0
      clear ht0
      go_wp2_with fail
      refine (natDiv_v (w := w9) ha hb (by omega) (by omega) h0).mono ?_
      rintro e w10 ⟨u, v, rfl, hu0, hv0, ou, ov, hB⟩
      have ha := ha.below hB
      have hb := hb.below hB
      have hs := hs.below hB
      have ht := ht.below hB
      have ra := ra.below hB
      have rb := rb.below hB
      have n0 := n0.below hB
      have n1 := n1.below hB
      have HB := below_step HB hB
      clear hB
      have hu := hu0
      clear hu0
      have hv := hv0
      clear hv0
      go_wp2_with fail
      refine (baseNum_v (w := w10) n0).mono ?_
      rintro e w11 ⟨p, rfl, rp, hB⟩
      have ha := ha.below hB
      have hb := hb.below hB
      have hs := hs.below hB
      have ht := ht.below hB
      have hu := hu.below hB
      have hv := hv.below hB
      have ra := ra.below hB
      have rb := rb.below hB
      have n0 := n0.below hB
      have n1 := n1.below hB
      have HB := below_step HB hB
      clear hB
      go_wp2_with fail
      refine (sameNum_v (w := w11) ra rp).mono ?_
      rintro e w12 ⟨rfl, hB⟩
      have ha := ha.below hB
      have hb := hb.below hB
      have hs := hs.below hB
      have ht := ht.below hB
      have hu := hu.below hB
      have hv := hv.below hB
      have ra := ra.below hB
      have rb := rb.below hB
      have n0 := n0.below hB
      have n1 := n1.below hB
      have rp := rp.below hB
      have HB := below_step HB hB
      clear hB
      go_wp2_with fail
      refine (baseNum_v (w := w12) n1).mono ?_
      rintro e w13 ⟨o, rfl, ro, hB⟩
      have ha := ha.below hB
      have hb := hb.below hB
      have hs := hs.below hB
      have ht := ht.below hB
      have hu := hu.below hB
      have hv := hv.below hB
      have ra := ra.below hB
      have rb := rb.below hB
      have n0 := n0.below hB
      have n1 := n1.below hB
      have rp := rp.below hB
      have HB := below_step HB hB
      clear hB
      go_wp2_with fail
      refine (sameNum_v (w := w13) rb ro).mono ?_
      rintro e w14 ⟨rfl, hB⟩
      have ha := ha.below hB
      have hb := hb.below hB
      have hs := hs.below hB
      have ht := ht.below hB
      have hu := hu.below hB
      have hv := hv.below hB
      have ra := ra.below hB
      have rb := rb.below hB
      have n0 := n0.below hB
      have n1 := n1.below hB
      have rp := rp.below hB
      have ro := ro.below hB
      have HB := below_step HB hB
      clear hB
      go_wp2_with fail
      refine (same_v (w := w14) hs hu (rfl)).mono ?_
      rintro e w15 ⟨rfl, hB⟩
      have ha := ha.below hB
      have hb := hb.below hB
      have hs := hs.below hB
      have ht := ht.below hB
      have hu := hu.below hB
      have hv := hv.below hB
      have ra := ra.below hB
      have rb := rb.below hB
      have n0 := n0.below hB
      have n1 := n1.below hB
      have rp := rp.below hB
      have ro := ro.below hB
      have HB := below_step HB hB
      clear hB
      go_wp2_with fail
      refine (same_v (w := w15) ht hv (rfl)).mono ?_
      rintro e w16 ⟨rfl, hB⟩
      have ha := ha.below hB
      have hb := hb.below hB
      have hs := hs.below hB
      have ht := ht.below hB
      have hu := hu.below hB
      have hv := hv.below hB
      have ra := ra.below hB
      have rb := rb.below hB
      have n0 := n0.below hB
      have n1 := n1.below hB
      have rp := rp.below hB
      have ro := ro.below hB
      have HB := below_step HB hB
      clear hB
      go_wp2_with fail
      refine (known_v w16).mono ?_
      rintro e w17 ⟨rfl, hB⟩
      have ha := ha.below hB
      have hb := hb.below hB
      have hs := hs.below hB
      have ht := ht.below hB
      have hu := hu.below hB
      have hv := hv.below hB
      have ra := ra.below hB
      have rb := rb.below hB
      have n0 := n0.below hB
      have n1 := n1.below hB
      have rp := rp.below hB
      have ro := ro.below hB
      have HB := below_step HB hB
      clear hB
      go_wp2_with fail
      go_ret
      exact ⟨rfl, HB⟩

theorem fresh_walk (w : World) (v0 v1 : Value) (l0 l1 : List Nat) (n0 : Num w v0 l0) (n1 : Num w v1 l1) :
    Calls Try.prog 11 #[v0, v1] w fun e w' => e = .returned (.bool true) ∧ Below w.heap.size w w' := by
  rcases Nat.eq_zero_or_pos (val (mkn l1)) with h | h
  · exact fresh_zero w v0 v1 l0 l1 n0 n1 h
  · exact fresh_pos w v0 v1 l0 l1 n0 n1 h
end Go.Proofs.Yticakmcjiofhoaa

/- The walk of DiskFresh. -/
import Derived.Test.YthknlimhenbhfaaDkj
import Derived.Test.YthknlimhenbhfaaExb
namespace Go.Proofs.Ythknlimhenbhfaa
set_option linter.unusedSimpArgs false
open Go.RowKit Dig
set_option linter.unusedVariables false
/-- A cell of an own row. -/
theorem row6_at {w : World} {g k : Nat} {ts : List UInt8} {rest : List Value} (h : w.heap[g]? = some (.cells (Y ts ++ rest).toArray 5 (0, 0))) (hk : k < ts.length) : w.cell? ⟨g, k, none⟩ = some (.int .u8 ((ts.getD k 0).toNat : Int)) ∧ w.frozen? ⟨g, k, none⟩ = false := by
  refine ⟨?_, by simp [World.frozen?, h]⟩
  rw [cell_of_row w g k _ _ (0, 0) h, List.getElem?_toArray, List.getElem?_append_left (by rw [Y_length]; exact hk)]
  exact Y_get ts k hk
/-- A byte of an own row is replaced. -/
theorem row6_put {w : World} {g k : Nat} {ts : List UInt8} {rest : List Value} (h : w.heap[g]? = some (.cells (Y ts ++ rest).toArray 5 (0, 0))) (hk : k < ts.length) (u : UInt8) (q : Int) (hq : q = (u.toNat : Int)) :
    (w.setCell ⟨g, k, none⟩ (.int .u8 q)).heap[g]? = some (.cells (Y (ts.set k u) ++ rest).toArray 5 (0, 0)) := by
  subst hq
  simp only [World.setCell, Array.getElem?_modify, h]
  simp [Y, List.map_set, hk]
/-! The states of DiskFresh. -/
def gs1 (ts : List UInt8) : DS := { newS 2 with pend := [(1, padS ts)] }
def gs2 (ts : List UInt8) : DS := { newS 2 with dur := [List.replicate 64 0, padS ts] }
theorem gs_write {ts : List UInt8} (ht : ts.length ≤ 64) : writeS (newS 2) 1 ts = (0, gs1 ts) := by
  have hb : badS (newS 2) 1 ts.length = 0 := by
    unfold badS
    rw [if_neg (by show ¬ (false = true); simp), if_neg (by rw [new_len]; omega), if_neg (by omega)]
  have hf : failsS (newS 2) = (false, newS 2) := by
    unfold failsS
    rw [if_pos (show (newS 2).armed = false from rfl)]
  unfold writeS
  rw [hb, if_neg (by simp), hf, if_neg (by simp)]
  rfl
theorem gs_secs (ts : List UInt8) : secs (gs1 ts) = [List.replicate 64 0, padS ts] := rfl
theorem gs_read (ts : List UInt8) : readS (gs1 ts) 1 = (0, padS ts) := by
  have hb : badS (gs1 ts) 1 0 = 0 := rfl
  unfold readS
  rw [hb, if_neg (by simp), gs_secs]
  rfl
theorem gs_flush (ts : List UInt8) : flushS (gs1 ts) = (0, gs2 ts) := by
  have hf : failsS (gs1 ts) = (false, gs1 ts) := by
    unfold failsS
    rw [if_pos (show (gs1 ts).armed = false from rfl)]
  unfold flushS
  rw [if_neg (by show ¬ (false = true); simp), hf, if_neg (by simp), gs_secs]
  rfl
theorem gs_read2 (ts : List UInt8) : readS (gs2 ts) 1 = (0, padS ts) := by
  have hb : badS (gs2 ts) 1 0 = 0 := rfl
  unfold readS
  rw [hb, if_neg (by simp)]
  rfl
theorem gs_few (ts : List UInt8) : fewD (newS 2) ∧ fewD (gs1 ts) ∧ fewD (gs2 ts) := ⟨fewD_of (m := 2) (n := 0) rfl rfl (by omega) (by omega), fewD_of (m := 2) (n := 1) rfl rfl (by omega) (by omega), fewD_of (m := 2) (n := 0) rfl rfl (by omega) (by omega)⟩
theorem padS_take (ts : List UInt8) : (padS ts).take ts.length = ts := by
  unfold padS
  rw [List.take_append_of_le_length (Nat.le_refl _), List.take_length]
section
variable {D : World → Nat → DS → Prop} {fp : World → Nat → Nat → Prop} {w : World} {v : Value} {ts : List UInt8} {g B : Nat} {s : DS}
/-- A store beside the disk. -/
theorem One.poke (P : Prog6 D fp) (h : One D fp w B g s) {b : Nat} (i : Nat) (u : Value) (hb : ¬ fp w g b) : One D fp (w.setCell ⟨b, i, none⟩ u) B g s ∧ ¬ fp (w.setCell ⟨b, i, none⟩ u) g b := by
  have hk := P.keep (w' := w.setCell ⟨b, i, none⟩ u) h.1 (by rw [size_set]; exact Nat.le_refl _) (fun k _ hF => Below.heap_setCell w ⟨b, i, none⟩ u k (fun e => hb (by rw [← show k = b from e]; exact hF)))
  exact ⟨⟨hk.1, fun k hF => h.2 k (hk.2 k hF)⟩, fun hF => hb (hk.2 b hF)⟩
set_option maxRecDepth 20000 in
set_option maxHeartbeats 8000000 in
theorem fresh_walk (P : Prog6 D fp) (hv : Byt w v ts) (q : Int) : Calls Try.prog 8 #[v, .int .u8 q] w (RVal w (.bool true)) := by
  have HV := Lib.hid hv
  have hP := Lib.hid P
  obtain ⟨A, c, rfl⟩ := hv.form
  by_cases h64 : 64 < ts.length ∨ ts.length < 1
  · rcases h64 with h64 | h64
    · have h65 : (ts.length : Int) > 64 := by omega
      clear hv P HV hP h64
      go_enter Try.func8, Try.ntmps8
      go_wp2_with fail
      go_ret
      exact ⟨rfl, Below.refl _ _⟩
    · have h65 : ¬ (ts.length : Int) > 64 := by omega
      have h66 : (ts.length : Int) < 1 := by omega
      clear hv P HV hP h64
      go_enter Try.func8, Try.ntmps8
      go_wp2_with fail
      go_ret
      exact ⟨rfl, Below.refl _ _⟩
  · have h65 : ¬ (ts.length : Int) > 64 := by omega
    have h66 : ¬ (ts.length : Int) < 1 := by omega
    have HT := Lib.hid (show ts.length ≤ 64 by omega)
    have H1 := Lib.hid (show 0 < ts.length by omega)
    have GF := Lib.hid (gs_few ts)
    clear hv P h64
    go_enter Try.func8, Try.ntmps8
    go_wp2_with fail
    refine (hP.out.new w 2 (by omega) (by omega)).mono ?_
    rintro e w1 ⟨g, rfl, hD, hB1, hF⟩
    have O1 := Lib.hid (show One D fp w1 w.heap.size g (newS 2) from ⟨hD, hF⟩)
    have B1 := Lib.hid hB1
    have HV1 := Lib.hid (HV.out.below hB1)
    clear hD hF hB1
    go_wp2_with (first | ((with_reducible refine wp_noneB rfl rfl ?_); intro w2 hS hB2; have o1 := Lib.hid hS; have B2 := Lib.hid hB2; clear hS hB2) | (at_builtin; refine wp_appendB rfl _ _ rfl w1.heap.size _ [] rfl o1.out _ ts rfl (HV1.out.below B2.out) (by have := HT.out; simp; omega) B2.out.size ?_; intro v3 w3 hv3 hg3; have hB3 := below_ownB B2.out hg3 o1.out (Nat.le_refl _); clear o1 hg3; rw [List.nil_append] at hv3; have AB := Lib.hid (Asd.own hP.out O1.out.1 hB3 hv3); have O3 := Lib.hid (O1.out.below hP.out hB3); have B3 := Lib.hid (below_then B1.out hB3); have BY3 := Lib.hid hv3.byt; have hs3 := B1.out.size; rcases hv3 with ⟨_, he⟩ | ⟨gb, rest, rfl, hgb, -, hrow⟩; (have h1 := H1.out; rw [he] at h1; simp at h1); have hrow := Lib.hid hrow; have hgb := Lib.hid (Nat.le_trans hs3 hgb); clear hB3 hs3 O1 B1 HV1))
    have C := hP.out.write O3.out.1 GF.out.1 1 _ ts BY3.out (by have := HT.out; omega) (fun _ b hb => (AB.out b hb).2)
    rw [gs_write HT.out] at C
    refine C.mono ?_
    rintro e w4 hd
    have AB4 := Lib.hid (AB.out.prog hd)
    have hrow4 : w4.heap[gb]? = w3.heap[gb]? := hd.2.2.1.2.2.2.2 gb (AB.out gb rfl).1 (AB.out gb rfl).2
    rw [hrow.out] at hrow4
    obtain ⟨hcell, hfz⟩ := row6_at hrow4 H1.out
    generalize ((ts.getD 0 0).toNat : Int) = x0 at hcell
    obtain ⟨rfl, hO, hB⟩ := O3.out.prog B3.out.size hd
    have O4 := Lib.hid (show One D fp w4 w.heap.size g (gs1 ts) from hO)
    have B4 := Lib.hid (B3.out.trans hB)
    have hpk := Lib.hid (AB4.out gb rfl).2
    have h1c : (0 : Int) < ts.length := by have := H1.out; omega
    clear hd hO hB C O3 B3 AB BY3 hrow hrow4 AB4
    go_wp2_with fail
    obtain ⟨hO5, hpk5⟩ := O4.out.poke hP.out 0 (.int .u8 (bits .xor .u8 x0 (bits .or .u8 q 1))) hpk.out
    have B5 := Lib.hid (B4.out.setCell (p := ⟨gb, 0, none⟩) hgb.out (.int .u8 (bits .xor .u8 x0 (bits .or .u8 q 1))))
    have O5 := Lib.hid hO5
    clear hO5 hpk5 hcell hfz hpk O4 B4
    generalize w4.setCell ⟨gb, 0, none⟩ (.int .u8 (bits .xor .u8 x0 (bits .or .u8 q 1))) = w5 at *
    have C := hP.out.read O5.out.1 GF.out.2.1 1
    rw [gs_read] at C
    refine C.mono ?_
    rintro e w6 ⟨r, rfl, hr, hB⟩
    dsimp only at hr
    have AR := Lib.hid (Asd.own hP.out O5.out.1 hB hr)
    have O6 := Lib.hid (O5.out.below hP.out hB)
    have B6 := Lib.hid (below_then B5.out hB)
    have hs5 := B5.out.size
    have PL := Lib.hid (padS_length HT.out)
    rcases hr with ⟨_, he⟩ | ⟨gc, rs, rfl, hgc, hcm, hrow⟩
    · have h1 := PL.out
      rw [he] at h1
      simp at h1
    have HGC := Lib.hid (Nat.le_trans hs5 hgc)
    obtain ⟨cs, ecs⟩ : ∃ cs, padS ts = cs := ⟨_, rfl⟩
    rw [ecs] at hrow PL
    rw [ecs, PL.out]
    have HROW := Lib.hid hrow
    clear hrow hgc hcm hs5 C hB O5 B5 ecs
    go_wp2_with fail
    go_loopw [10] (fun i wr => ∃ (j : Nat) (cs : List UInt8), j ≤ 64 ∧ i = .int .i64 j ∧ cs.length = 64 ∧ wr.heap[gc]? = some (.cells (Y cs ++ rs).toArray 5 (0, 0)) ∧ ¬ fp wr g gc ∧ One D fp wr w.heap.size g (gs1 ts) ∧ Below w.heap.size w wr) (fun i _ => 64 - (intOf i).toNat)
    case atStart => exact ⟨0, cs, Nat.zero_le _, rfl, PL.out, HROW.out, (AR.out gc rfl).2, O6.out, B6.out⟩
    case round =>
      clear PL HROW AR O6 B6
      obtain ⟨j, cs, hj, rfl, hl, hrow, hnf, hO, hB⟩ := hrel
      have HB := Lib.hid hB
      have HO := Lib.hid hO
      have HNF := Lib.hid hnf
      clear hB hO hnf
      by_cases hj64 : j < 64
      · have HI : (j : Int) < 64 := by omega
        obtain ⟨hcell, hfz⟩ := row6_at hrow (show j < cs.length by omega)
        have hput := Lib.hid (row6_put hrow (show j < cs.length by omega) 99 99 (by rfl))
        obtain ⟨hO2, hN2⟩ := HO.out.poke hP.out j (.int .u8 99) HNF.out
        have HO2 := Lib.hid hO2
        have HN2 := Lib.hid hN2
        have HB2 := Lib.hid (HB.out.setCell (p := ⟨gc, j, none⟩) HGC.out (.int .u8 99))
        have HL2 := Lib.hid (show (cs.set j 99).length = 64 by rw [List.length_set]; exact hl)
        generalize ((cs.getD j 0).toNat : Int) = x1 at hcell
        clear hrow hO2 hN2 HO HNF HB hl
        go_wp2_with fail
        go_roundw
        case rel => exact ⟨j + 1, cs.set j 99, by omega, by go_num, HL2.out, hput.out, HN2.out, HO2.out, HB2.out⟩
        case measure => simp [intOf]; omega
      · have HI : ¬ (j : Int) < 64 := by omega
        clear hrow hl HNF
        have C := hP.out.flush HO.out.1 GF.out.2.1
        rw [gs_flush] at C
        have C := Lib.hid C
        go_wp2_with fail
        refine (C.out).mono ?_
        rintro e w7 hd
        obtain ⟨rfl, hO, hB⟩ := HO.out.prog HB.out.size hd
        have O7 := Lib.hid (show One D fp w7 w.heap.size g (gs2 ts) from hO)
        have B7 := Lib.hid (HB.out.trans hB)
        clear hd hO hB C HO HB
        have C := hP.out.read O7.out.1 GF.out.2.2 1
        rw [gs_read2] at C
        have C := Lib.hid C
        go_wp2_with fail
        refine (C.out).mono ?_
        rintro e w8 ⟨r, rfl, hr, hB⟩
        have B8 := Lib.hid (below_then B7.out hB)
        have hby := hr.byt
        clear hr hB C O7 B7
        obtain ⟨A2, c2, er⟩ := hby.form
        have PL := padS_length HT.out
        rw [PL] at er
        subst er
        obtain ⟨-, hcc, -⟩ := hby.bounds
        have hc2 := Lib.hid hcc
        have hcut := hby.cut HT.out
        rw [padS_take] at hcut
        clear hby hcc PL
        go_wp2_with fail
        have hdw : Below w8.heap.size w8 w8.drew := (Below.refl _ _).drew
        have HCUT := Lib.hid (hcut.below hdw)
        have HVZ := Lib.hid (HV.out.below (below_then B8.out hdw))
        have BZ := Lib.hid (below_then B8.out hdw)
        clear hdw hcut B8
        have hKZ := Lib.hid (Below.refl w8.drew.heap.size w8.drew)
        refine wp_region_plan (S := fun W => Below w8.drew.heap.size w8.drew W) [(0, true), (1, true), (2, true), (3, true), (4, true), (5, true), (6, true), (7, true), (8, true), (9, true), (10, true), (11, true), (12, true), (13, true), (14, true), (15, true), (16, true), (17, true), (18, false), (19, true), (20, true)] (by kernel_rfl) (by kernel_rfl) (by kernel_rfl) (by kernel_rfl) (fun _ _ d _ _ h => by cases d <;> exact h) hKZ.out ?_
        generalize w8.drew = u0 at *
        refine wkS_take (some 74) (.int .i64 0) (by kernel_rfl) (by kernel_rfl) (by kernel_rfl) (fun W hS => by kernel_rfl) ?_
        simp only [put_lit, put_non, List.set_cons_zero, List.set_cons_succ]
        refine wkS_take (some 75) (.bool true) (by kernel_rfl) (by kernel_rfl) (by kernel_rfl) (fun W hS => by kernel_rfl) ?_
        simp only [put_lit, put_non, List.set_cons_zero, List.set_cons_succ]
        refine wkS_take (some 76) (.bool true) (by kernel_rfl) (by kernel_rfl) (by kernel_rfl) (fun W hS => by kernel_rfl) ?_
        simp only [put_lit, put_non, List.set_cons_zero, List.set_cons_succ]
        refine wkS_take (some 77) (.slice A2 64 c2) (by kernel_rfl) (by kernel_rfl) (by kernel_rfl) (fun W hS => by kernel_rfl) ?_
        simp only [put_lit, put_non, List.set_cons_zero, List.set_cons_succ]
        refine wkS_take (some 78) (.int .i64 64) (by kernel_rfl) (by kernel_rfl) (by kernel_rfl) (fun W hS => by kernel_rfl) ?_
        simp only [put_lit, put_non, List.set_cons_zero, List.set_cons_succ]
        refine wkS_take (some 79) (.bool true) (by kernel_rfl) (by kernel_rfl) (by kernel_rfl) (fun W hS => by kernel_rfl) ?_
        simp only [put_lit, put_non, List.set_cons_zero, List.set_cons_succ]
        refine wkS_take (some 80) (.bool true) (by kernel_rfl) (by kernel_rfl) (by kernel_rfl) (fun W hS => by kernel_rfl) ?_
        simp only [put_lit, put_non, List.set_cons_zero, List.set_cons_succ]
        refine wkS_take (some 81) (.bool true) (by kernel_rfl) (by kernel_rfl) (by kernel_rfl) (fun W hS => by kernel_rfl) ?_
        simp only [put_lit, put_non, List.set_cons_zero, List.set_cons_succ]
        refine wkS_take (some 82) (.slice A2 64 c2) (by kernel_rfl) (by kernel_rfl) (by kernel_rfl) (fun W hS => by kernel_rfl) ?_
        simp only [put_lit, put_non, List.set_cons_zero, List.set_cons_succ]
        refine wkS_take (some 83) (.slice A ts.length c) (by kernel_rfl) (by kernel_rfl) (by kernel_rfl) (fun W hS => by kernel_rfl) ?_
        simp only [put_lit, put_non, List.set_cons_zero, List.set_cons_succ]
        refine wkS_take (some 84) (.int .i64 (ts.length : Int)) (by kernel_rfl) (by kernel_rfl) (by kernel_rfl) (fun W hS => by kernel_rfl) ?_
        simp only [put_lit, put_non, List.set_cons_zero, List.set_cons_succ]
        refine wkS_take (some 85) (.slice A2 ts.length c2) (by kernel_rfl) (by kernel_rfl) (by kernel_rfl) (fun W hS => exec_cutB 82 84 (by kernel_rfl) (by kernel_rfl) (by kernel_rfl) HT.out hc2.out) ?_
        simp only [put_lit, put_non, List.set_cons_zero, List.set_cons_succ]
        refine wkS_take (some 86) (.string ⟨ts.toArray⟩) (by kernel_rfl) (by kernel_rfl) (by kernel_rfl) (fun W hS => exec_strB 85 (HCUT.out.below hS) (by kernel_rfl) (by kernel_rfl)) ?_
        simp only [put_lit, put_non, List.set_cons_zero, List.set_cons_succ]
        refine wkS_take (some 87) (.slice A ts.length c) (by kernel_rfl) (by kernel_rfl) (by kernel_rfl) (fun W hS => by kernel_rfl) ?_
        simp only [put_lit, put_non, List.set_cons_zero, List.set_cons_succ]
        refine wkS_take (some 88) (.string ⟨ts.toArray⟩) (by kernel_rfl) (by kernel_rfl) (by kernel_rfl) (fun W hS => exec_strB 87 (HVZ.out.below hS) (by kernel_rfl) (by kernel_rfl)) ?_
        simp only [put_lit, put_non, List.set_cons_zero, List.set_cons_succ]
        refine wkS_take (some 89) (.bool true) (by kernel_rfl) (by kernel_rfl) (by kernel_rfl) (fun W hS => exec_eqStr 86 88 ⟨ts.toArray⟩ (by kernel_rfl) (by kernel_rfl) (by kernel_rfl)) ?_
        simp only [put_lit, put_non, List.set_cons_zero, List.set_cons_succ]
        refine wkS_take (some 90) (.bool true) (by kernel_rfl) (by kernel_rfl) (by kernel_rfl) (fun W hS => by kernel_rfl) ?_
        simp only [put_lit, put_non, List.set_cons_zero, List.set_cons_succ]
        refine wkS_take (some 91) (.bool true) (by kernel_rfl) (by kernel_rfl) (by kernel_rfl) (fun W hS => by kernel_rfl) ?_
        simp only [put_lit, put_non, List.set_cons_zero, List.set_cons_succ]
        refine wkS_call (some 92) 14 #[] (by kernel_rfl) (by kernel_rfl) (by kernel_rfl) (fun w => (by kernel_rfl)) ?_
        refine (known6_c hP.out _).mono ?_
        rintro e u4 ⟨rfl, hB⟩
        have hK4 := Lib.hid (below_then hKZ.out hB)
        refine ⟨.bool true, rfl, hK4.out, ?_⟩
        clear hB
        simp only [put_lit, put_non, List.set_cons_zero, List.set_cons_succ]
        refine wkS_take (some 93) (.bool true) (by kernel_rfl) (by kernel_rfl) (by kernel_rfl) (fun W hS => by kernel_rfl) ?_
        simp only [put_lit, put_non, List.set_cons_zero, List.set_cons_succ]
        refine wkS_take (some 4) (.bool true) (by kernel_rfl) (by kernel_rfl) (by kernel_rfl) (fun W hS => by kernel_rfl) ?_
        simp only [put_lit, put_non, List.set_cons_zero, List.set_cons_succ]
        refine wkS_done ?_
        go_wp2_with fail
        go_ret
        exact ⟨rfl, below_then BZ.out hK4.out⟩
end
end Go.Proofs.Ythknlimhenbhfaa

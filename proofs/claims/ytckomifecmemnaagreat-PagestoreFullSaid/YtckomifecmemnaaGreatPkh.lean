/- The walk of PagestoreFull. -/
import Derived.Test.YtckomifecmemnaaGreatPkfg
namespace Go.Proofs.YtckomifecmemnaaGreat
open Go.RowKit Dig
set_option linter.unusedVariables false

theorem and63 (n : Int) : bits .and .i64 n 63 = n % 64 := and_low n 6 63 (by decide) (by omega)
section
variable {G : Type} {Obj : ObjP G} {Fit : FitP G} {w : World} {v : Value} {l : List Op7}
set_option maxRecDepth 20000 in
set_option maxHeartbeats 16000000 in
theorem full7_walk (P : Prog7 Obj Fit) (h : Ops7 w v l) (size : Int) : Calls Tryz.prog 4 #[v, .int .i64 size] w (RVal w (.bool true)) := by
  obtain ⟨r, hr, F⟩ := fits7_c h 20 (by omega)
  have F := Lib.hid F
  have H := Lib.hid h
  have hP := Lib.hid P
  have KN := Lib.hid (fun w => known7_c P w)
  obtain ⟨A, c, rfl⟩ := h.form
  cases r with
  | false =>
    clear h hr P
    go_enter Tryz.func4, Tryz.ntmps4
    go_wp2_with fail
    refine (F.out).mono ?_
    rintro e wz ⟨rfl, rfl⟩
    go_wp2_with fail
    go_ret
    exact ⟨rfl, Below.refl _ _⟩
  | true =>
    obtain ⟨hl, hd⟩ := hr.1 rfl
    have HL := Lib.hid hl
    have HD := Lib.hid hd
    have hl2 : (l.length : Int) ≤ 20 := by omega
    have p1 := and63 size
    have q0 := Int.emod_nonneg size (show (64 : Int) ≠ 0 by decide)
    have q1 := Int.emod_lt_of_pos size (show (0 : Int) < 64 by decide)
    generalize size % 64 = q at p1 q0 q1
    obtain ⟨c1, rfl⟩ := Int.eq_ofNat_of_zero_le q0
    obtain ⟨N, eN⟩ : ∃ N, 32 + c1 = N := ⟨_, rfl⟩
    have hN : 32 ≤ N ∧ N ≤ 95 := by omega
    have hNi : (N : Int) ≤ 95 := by omega
    have HN := Lib.hid hN
    have EB := Lib.hid (show (32 : Int) + (c1 : Int) = (N : Int) by omega)
    have HDIV := Lib.hid (show Int.tdiv (N : Int) 2 = ((N / 2 : Nat) : Int) by rw [Int.tdiv_eq_ediv_of_nonneg (by omega)]; omega)
    obtain ⟨g0, hz⟩ := P.zero N hN.1 (by omega)
    have HZ := Lib.hid hz
    clear h hr P hl hd hz eN hN
    go_enter Tryz.func4, Tryz.ntmps4
    go_wp2_with fail
    refine (F.out).mono ?_
    rintro e wz ⟨rfl, rfl⟩
    clear F
    go_wp2_with fail
    rw [EB.out]
    clear p1 q0 q1 EB
    refine (qnew_c w N (by have := HN.out; omega) (by have := HN.out; omega)).mono ?_
    rintro e w1 ⟨d, rfl, hD, hB1⟩
    have A1 := Lib.hid (show Alone w1 w.heap.size _ d (newS N) from ⟨hD, fun k hk => hk.1, calm_newS N⟩)
    have B1 := Lib.hid hB1
    clear hD hB1
    go_wp2_with fail
    refine (hP.out.open' A1.out.1 0 N (by have := HN.out; omega) (by rw [newS_len]; omega) A1.out.2.2 (by rw [cut_newS (by omega)]; exact HZ.out)).mono ?_
    rintro e w2 ⟨m, F2, Fd2, g2, ds2, rfl, hO, hD, h1, h2, h3, ht, hc, hs, hf⟩
    obtain ⟨hS, hon⟩ := Sit.made hP.out A1.out B1.out.size (by rw [newS_len]; omega) hO hD h1 h2 h3 ht hc hs hf
    have S2 := Lib.hid (show Sit Obj Fit w2 w.heap.size F2 Fd2 m d 0 N g2 emptyS ds2 from hS)
    have B2 := Lib.hid (show Below w.heap.size w w2 from B1.out.trans hon.1)
    clear hO hD h1 h2 h3 ht hc hs hf hS hon A1 B1 HZ
    go_wp2_with fail
    refine (rnewStore_c w2).mono ?_
    rintro e w3 ⟨x, rfl, hR, hB3⟩
    have T3 := Lib.hid (S2.out.trio hP.out B2.out.size hB3 hR)
    have B3 := Lib.hid (below_then B2.out hB3)
    clear hR hB3 S2 B2
    go_wp2_with fail
    go_loopw [11] (fun iv wr => ∃ (j : Nat) (s : SS) (F Fd R : Nat → Prop) (g : G) (ds : DS), j ≤ l.length ∧ iv = .int .i64 j ∧ s.last ≤ j ∧ Trio Obj Fit wr w.heap.size F Fd R m d 0 N g x s s ds ∧ Below w.heap.size w wr) (fun iv _ => l.length - (intOf iv).toNat)
    case atStart => exact ⟨0, emptyS, _, _, _, _, _, Nat.zero_le _, rfl, Nat.le_refl _, T3.out, B3.out⟩
    case round =>
      clear T3 B3
      obtain ⟨j, s, F, Fd, R, g, ds, hj, rfl, hsj, hT, hB⟩ := hrel
      have HT := Lib.hid hT
      have HB := Lib.hid hB
      have HSJ := Lib.hid hsj
      clear hT hsj
      generalize wr = w4 at *
      by_cases hjn : j < l.length
      · have HI : (j : Int) < l.length := by omega
        have HOK := Lib.hid (H.out.ok hjn)
        have HDJ := Lib.hid (HD.out _ (List.getElem_mem hjn))
        obtain ⟨b, off, rfl, hb, a0, a1, a2, a4, a5, a6, u, a3, hu⟩ := H.out.cells hjn
        have c0 := (hB.cell (p := ⟨b, off + j * 7, none⟩) hb).trans a0
        have c1 := (hB.cell (p := ⟨b, off + j * 7 + 1, none⟩) hb).trans a1
        have c2 := (hB.cell (p := ⟨b, off + j * 7 + 2, none⟩) hb).trans a2
        have c3 := (hB.cell (p := ⟨b, off + j * 7 + 3, none⟩) hb).trans a3
        have c4 := (hB.cell (p := ⟨b, off + j * 7 + 4, none⟩) hb).trans a4
        have c5 := (hB.cell (p := ⟨b, off + j * 7 + 5, none⟩) hb).trans a5
        have c6 := (hB.cell (p := ⟨b, off + j * 7 + 6, none⟩) hb).trans a6
        have HLO := Lib.hid hu.low7
        have HU := Lib.hid (hu.below hB)
        generalize l[j] = o at *
        have hkk := kind10 (k := o.kind)
        have hkb : o.kind % 10 < 10 := Nat.mod_lt _ (by omega)
        have hk0 := HOK.out.1
        clear a0 a1 a2 a3 a4 a5 a6 hb hB hu
        by_cases hk5 : o.kind % 10 = 5
        · rw [hk5] at hkk
          clear c1 c2 c3 c4 c5 c6 HOK HDJ HLO HU
          go_wp2_with fail
          refine (rneed_c HT.out.1.2.1 (commit_few (hP.out.ok HT.out.1.1).2)).mono ?_
          rintro e w5 ⟨rfl, hB5⟩
          have T5 := Lib.hid (HT.out.below hP.out hB5)
          have B5 := Lib.hid (below_then HB.out hB5)
          clear hB5 HT HB c0
          obtain ⟨nd, end_⟩ : ∃ nd, needS s = nd := ⟨_, rfl⟩
          have HND := Lib.hid end_
          rw [end_]
          clear end_
          go_wp2_with fail
          refine (hP.out.commit T5.out.1.1 T5.out.2.1.1 T5.out.2.2.1 T5.out.2.1.2.2 T5.out.2.2.2.2.1 T5.out.2.2.2.2.2 (by have := HSJ.out; have := HL.out; omega)).mono ?_
          rintro e w6 ⟨F6, Fd6, g6, ds6, s6, hO, hD, h1, h2, ht, hc, hs, hf, hres⟩
          obtain ⟨hT6, hon⟩ := T5.out.put B5.out.size hO hD h1 h2 ht hc hs hf
          have T6 := Lib.hid hT6
          have B6 := Lib.hid (B5.out.trans hon.1)
          clear hO hD h1 h2 ht hc hs hf hT6 hon T5 B5
          rcases hres with ⟨rfl, rfl⟩ | ⟨rfl, hn2, rfl⟩
          · have CM := Lib.hid (rcommit_c T6.out.1.2.1 (by have := HSJ.out; have := HL.out; omega))
            have HL1 := Lib.hid (show (commitS s).last = s.last + 1 from rfl)
            generalize commitS s = s' at *
            generalize ((s.last + 1 : Nat) : Int) = z at *
            go_wp2_with fail
            refine (CM.out).mono ?_
            rintro e w7 hd7
            obtain ⟨rfl, hT7, hon⟩ := T6.out.ref hP.out B6.out.size hd7
            have T7 := Lib.hid hT7
            have B7 := Lib.hid (B6.out.trans hon.1)
            have HS7 := Lib.hid (show s'.last ≤ j + 1 by rw [HL1.out]; have := HSJ.out; omega)
            clear hd7 hT7 hon T6 B6 CM HL1
            go_wp2_with fail
            refine (agree7_c hP.out T7.out.1 B7.out.size (by have := HS7.out; have := HL.out; omega)).mono ?_
            rintro e w9 hd9
            obtain ⟨rfl, ⟨F9, R9, hT9⟩, hon9⟩ := T7.out.both rfl rfl hd9
            have T9 := Lib.hid hT9
            have B9 := Lib.hid (B7.out.trans hon9.1)
            clear hd9 hT9 hon9 T7 B7
            go_wp2_with fail
            go_roundw
            case rel => exact ⟨j + 1, _, _, _, _, _, _, by omega, by go_num, by have := HS7.out; omega, T9.out, B9.out⟩
            case measure => simp [intOf]; omega
          · have hdv := HDIV.out
            have hnn : N / 2 < nd := by have := HND.out; omega
            obtain ⟨N2, eN2⟩ : ∃ N2, N / 2 = N2 := ⟨_, rfl⟩
            have hN2 : (N2 : Int) ≤ 95 := by have := HN.out; omega
            rw [eN2] at hdv hnn
            have hle : ¬ (nd : Int) ≤ (N2 : Int) := by omega
            have HS6 := Lib.hid (Nat.le_succ_of_le HSJ.out)
            clear hn2 eN2 hnn
            go_wp2_with fail
            refine (agree7_c hP.out T6.out.1 B6.out.size (by have := HS6.out; have := HL.out; omega)).mono ?_
            rintro e w9 hd9
            obtain ⟨rfl, ⟨F9, R9, hT9⟩, hon9⟩ := T6.out.both rfl rfl hd9
            have T9 := Lib.hid hT9
            have B9 := Lib.hid (B6.out.trans hon9.1)
            clear hd9 hT9 hon9 T6 B6
            go_wp2_with fail
            go_roundw
            case rel => exact ⟨j + 1, _, _, _, _, _, _, by omega, by go_num, by have := HS6.out; omega, T9.out, B9.out⟩
            case measure => simp [intOf]; omega
        by_cases hk6 : o.kind % 10 = 6
        · rw [hk6] at hkk
          clear c1 c2 c3 c4 c5 c6 HOK HDJ HLO HU
          go_wp2_with fail
          refine (rneed_c HT.out.1.2.1 (commit_few (hP.out.ok HT.out.1.1).2)).mono ?_
          rintro e w5 ⟨rfl, hB5⟩
          have T5 := Lib.hid (HT.out.below hP.out hB5)
          have B5 := Lib.hid (below_then HB.out hB5)
          clear hB5 HT HB c0
          obtain ⟨nd, end_⟩ : ∃ nd, needS s = nd := ⟨_, rfl⟩
          have HND := Lib.hid end_
          rw [end_]
          clear end_
          go_wp2_with fail
          refine (hP.out.commit T5.out.1.1 T5.out.2.1.1 T5.out.2.2.1 T5.out.2.1.2.2 T5.out.2.2.2.2.1 T5.out.2.2.2.2.2 (by have := HSJ.out; have := HL.out; omega)).mono ?_
          rintro e w6 ⟨F6, Fd6, g6, ds6, s6, hO, hD, h1, h2, ht, hc, hs, hf, hres⟩
          obtain ⟨hT6, hon⟩ := T5.out.put B5.out.size hO hD h1 h2 ht hc hs hf
          have T6 := Lib.hid hT6
          have B6 := Lib.hid (B5.out.trans hon.1)
          clear hO hD h1 h2 ht hc hs hf hT6 hon T5 B5
          rcases hres with ⟨rfl, rfl⟩ | ⟨rfl, hn2, rfl⟩
          · have CM := Lib.hid (rcommit_c T6.out.1.2.1 (by have := HSJ.out; have := HL.out; omega))
            have HL1 := Lib.hid (show (commitS s).last = s.last + 1 from rfl)
            generalize commitS s = s' at *
            generalize ((s.last + 1 : Nat) : Int) = z at *
            go_wp2_with fail
            refine (CM.out).mono ?_
            rintro e w7 hd7
            obtain ⟨rfl, hT7, hon⟩ := T6.out.ref hP.out B6.out.size hd7
            have T7 := Lib.hid hT7
            have B7 := Lib.hid (B6.out.trans hon.1)
            have HS7 := Lib.hid (show s'.last ≤ j + 1 by rw [HL1.out]; have := HSJ.out; omega)
            clear hd7 hT7 hon T6 B6 CM HL1
            go_wp2_with fail
            refine (agree7_c hP.out T7.out.1 B7.out.size (by have := HS7.out; have := HL.out; omega)).mono ?_
            rintro e w9 hd9
            obtain ⟨rfl, ⟨F9, R9, hT9⟩, hon9⟩ := T7.out.both rfl rfl hd9
            have T9 := Lib.hid hT9
            have B9 := Lib.hid (B7.out.trans hon9.1)
            clear hd9 hT9 hon9 T7 B7
            go_wp2_with fail
            go_roundw
            case rel => exact ⟨j + 1, _, _, _, _, _, _, by omega, by go_num, by have := HS7.out; omega, T9.out, B9.out⟩
            case measure => simp [intOf]; omega
          · have hdv := HDIV.out
            have hnn : N / 2 < nd := by have := HND.out; omega
            obtain ⟨N2, eN2⟩ : ∃ N2, N / 2 = N2 := ⟨_, rfl⟩
            have hN2 : (N2 : Int) ≤ 95 := by have := HN.out; omega
            rw [eN2] at hdv hnn
            have hle : ¬ (nd : Int) ≤ (N2 : Int) := by omega
            have HS6 := Lib.hid (Nat.le_succ_of_le HSJ.out)
            clear hn2 eN2 hnn
            go_wp2_with fail
            refine (agree7_c hP.out T6.out.1 B6.out.size (by have := HS6.out; have := HL.out; omega)).mono ?_
            rintro e w9 hd9
            obtain ⟨rfl, ⟨F9, R9, hT9⟩, hon9⟩ := T6.out.both rfl rfl hd9
            have T9 := Lib.hid hT9
            have B9 := Lib.hid (B6.out.trans hon9.1)
            clear hd9 hT9 hon9 T6 B6
            go_wp2_with fail
            go_roundw
            case rel => exact ⟨j + 1, _, _, _, _, _, _, by omega, by go_num, by have := HS6.out; omega, T9.out, B9.out⟩
            case measure => simp [intOf]; omega
        obtain ⟨kq, ekq⟩ : ∃ q, o.kind % 10 = q := ⟨_, rfl⟩
        rw [ekq] at hkk hkb hk5 hk6
        have q5 : ((kq : Int) == 5) = false := by rw [beq_eq_false_iff_ne]; omega
        have q6 : ((kq : Int) == 6) = false := by rw [beq_eq_false_iff_ne]; omega
        have q5b : ¬ (kq : Int) = 5 := by omega
        have q6b : ¬ (kq : Int) = 6 := by omega
        have q5c : ((kq : Int) != 5) = true := by simp [bne, q5]
        have q6c : ((kq : Int) != 6) = true := by simp [bne, q6]
        clear ekq hk5 hk6
        have HA := Lib.hid (edit_c hP.out HT.out.1 HB.out.size HOK.out HU.out HLO.out HDJ.out)
        have HE := Lib.hid (edit_last s o)
        clear HU HLO HDJ HOK
        go_wp2_with fail
        refine (HA.out).mono ?_
        rintro e w5 hd5
        obtain ⟨rfl, ⟨F5, R5, hT5⟩, hon⟩ := HT.out.both HE.out.1 HE.out.2 hd5
        have T5 := Lib.hid hT5
        have B5 := Lib.hid (HB.out.trans hon.1)
        have HS5 := Lib.hid (show (editS s o).last ≤ j + 1 by rw [HE.out.1]; exact Nat.le_succ_of_le HSJ.out)
        clear hd5 hT5 hon HT HB HA HE c0 c1 c2 c3 c4 c5 c6
        generalize editS s o = s' at *
        go_wp2_with fail
        go_roundw
        case rel => exact ⟨j + 1, s', _, _, _, _, _, by omega, by go_num, HS5.out, T5.out, B5.out⟩
        case measure => simp [intOf]; omega
      · have HI : ¬ (j : Int) < l.length := by omega
        clear hB
        go_wp2_with fail
        refine (hP.out.open' HT.out.2.1.1 0 N (by have := HN.out; omega) HT.out.2.2.2.2.1 HT.out.2.1.2.2 HT.out.2.2.2.2.2).mono ?_
        rintro e w5 ⟨m5, F5, Fd5, g5, ds5, rfl, hO, hD, h1, h2, h3, ht, hc, hs, hf⟩
        obtain ⟨hT5, hon⟩ := Trio.made hP.out HT.out.2.1 HT.out.1.2.1 HT.out.1.2.2.2.1 HT.out.2.2.2.1 HB.out.size HT.out.2.2.2.2.1 hO hD h1 h2 h3 ht hc hs hf
        have T5 := Lib.hid hT5
        have B5 := Lib.hid (HB.out.trans hon.1)
        clear hO hD h1 h2 h3 ht hc hs hf hT5 hon HT HB
        go_wp2_with fail
        refine (rrollback_c T5.out.1.2.1).mono ?_
        rintro e w6 hd6
        obtain ⟨rfl, hT6, hon⟩ := T5.out.ref hP.out B5.out.size hd6
        have T6 := Lib.hid (show Trio Obj Fit w6 w.heap.size F5 Fd5 _ m5 d 0 N g5 x (rollbackS s) (rollbackS s) ds5 from hT6)
        have B6 := Lib.hid (B5.out.trans hon.1)
        have HS6 := Lib.hid (show (rollbackS s).last ≤ j + 1 from Nat.le_succ_of_le HSJ.out)
        clear hd6 hT6 hon T5 B5
        generalize rollbackS s = s' at *
        go_wp2_with fail
        refine (agree7_c hP.out T6.out.1 B6.out.size (by have := HS6.out; have := HL.out; omega)).mono ?_
        rintro e w9 hd9
        obtain ⟨rfl, -, hon9⟩ := T6.out.both rfl rfl hd9
        have B9 := Lib.hid (B6.out.trans hon9.1)
        clear hd9 hon9 T6 B6
        go_wp2_with fail
        refine (KN.out _).mono ?_
        rintro e wk ⟨rfl, hBk⟩
        have BK := Lib.hid (below_then B9.out hBk)
        clear hBk
        go_wp2_with fail
        go_ret
        exact ⟨rfl, BK.out⟩
end
end Go.Proofs.YtckomifecmemnaaGreat

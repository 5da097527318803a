/- The walk of PagestoreApart. -/
import Derived.Test.YtckomifecmemnaaGreatPkj
namespace Go.Proofs.YtckomifecmemnaaGreat
open Go.RowKit Dig
set_option linter.unusedVariables false
section
variable {G : Type} {Obj : ObjP G} {Fit : FitP G} {w : World} {v : Value} {l : List Op7}
set_option maxRecDepth 20000 in
set_option maxHeartbeats 16000000 in
theorem apart7_walk (P : Prog7 Obj Fit) (h : Ops7 w v l) : Calls Tryz.prog 6 #[v] w (RVal w (.bool true)) := by
  obtain ⟨r, hr, F⟩ := fits7_c h 16 (by omega)
  have F := Lib.hid F
  have H := Lib.hid h
  have hP := Lib.hid P
  have KN := Lib.hid (fun w => known7_c P w)
  obtain ⟨A, c, rfl⟩ := h.form
  cases r with
  | false =>
    clear h hr P
    go_enter Tryz.func6, Tryz.ntmps6
    go_wp2_with fail
    refine (F.out).mono ?_
    rintro e wz ⟨rfl, rfl⟩
    go_wp2_with fail
    go_ret
    exact ⟨rfl, Below.refl _ _⟩
  | true =>
    obtain ⟨hl, hd⟩ := hr.1 rfl
    have HL := Lib.hid hl
    have HD := Lib.hid hd
    have hl2 : (l.length : Int) ≤ 16 := by omega
    obtain ⟨g0, hz⟩ := P.zero 600 (by omega) (by omega)
    have HZ := Lib.hid hz
    clear h hr P hl hd hz
    go_enter Tryz.func6, Tryz.ntmps6
    go_wp2_with fail
    refine (F.out).mono ?_
    rintro e wz ⟨rfl, rfl⟩
    clear F
    go_wp2_with fail
    refine (qnew_c w 1200 (by omega) (by omega)).mono ?_
    rintro e w1 ⟨d, rfl, hD, hB1⟩
    have A1 := Lib.hid (show Alone w1 w.heap.size _ d (newS 1200) from ⟨hD, fun k hk => hk.1, calm_newS 1200⟩)
    have B1 := Lib.hid hB1
    clear hD hB1
    go_wp2_with fail
    refine (hP.out.open' A1.out.1 0 600 (by omega) (by rw [newS_len]; omega) A1.out.2.2 (by rw [cut_newS (by omega)]; exact HZ.out)).mono ?_
    rintro e w2 ⟨m, F2, Fd2, g2, ds2, rfl, hO, hD, h1, h2, h3, ht, hc, hs, hf⟩
    obtain ⟨hS, hon⟩ := Sit.made hP.out A1.out B1.out.size (by rw [newS_len]; omega) hO hD h1 h2 h3 ht hc hs hf
    have S2 := Lib.hid (show Sit Obj Fit w2 w.heap.size F2 Fd2 m d 0 600 g2 emptyS ds2 from hS)
    have B2 := Lib.hid (show Below w.heap.size w w2 from B1.out.trans hon.1)
    have HZ2 := Lib.hid (show Fit (cutD ds2 600 1200) g0 0 [[]] by rw [cutD_same hs (.inl (Nat.le_refl _)), cut_newS (by omega)]; exact HZ.out)
    have HN2 := Lib.hid (show ds2.dur.length = 1200 by rw [hs.1, newS_len])
    clear hO hD h1 h2 h3 ht hc hs hf hS hon A1 B1 HZ
    go_wp2_with fail
    refine (hP.out.open' S2.out.2.1.1 600 1200 (by omega) (by rw [HN2.out]; omega) S2.out.2.1.2.2 HZ2.out).mono ?_
    rintro e w3 ⟨n, F3, Fd3, g3, ds3, rfl, hO, hD, h1, h2, h3, ht, hc, hs, hf⟩
    obtain ⟨hSa, hSb, hdj, hon⟩ := S2.out.second hP.out B2.out.size (.inl (Nat.le_refl _)) (by rw [HN2.out]; omega) hO hD h1 h2 h3 ht hc hs hf
    have SA := Lib.hid hSa
    have SB := Lib.hid (show Sit Obj Fit w3 w.heap.size F3 Fd3 n d 600 1200 g3 emptyS ds3 from hSb)
    have SD := Lib.hid hdj
    have B3 := Lib.hid (B2.out.trans hon.1)
    clear hO hD h1 h2 h3 ht hc hs hf hSa hSb hdj hon S2 B2 HZ2 HN2
    go_wp2_with fail
    refine (rnewStore_c w3).mono ?_
    rintro e w4 ⟨x, rfl, hR, hB4⟩
    have R4 := Lib.hid hB4
    have Q4 := Lib.hid hR
    have B4 := Lib.hid (below_then B3.out hB4)
    clear hR hB4
    go_wp2_with fail
    refine (rnewStore_c w4).mono ?_
    rintro e w5 ⟨y, rfl, hR, hB5⟩
    have T5 := Lib.hid (Two7.start hP.out SA.out SB.out SD.out (.inl (Nat.le_refl _)) B3.out.size R4.out Q4.out hB5 hR)
    have B5 := Lib.hid (below_then B4.out hB5)
    clear hR hB5 SA SB SD B3 R4 Q4 B4
    go_wp2_with fail
    go_loopw [11] (fun iv wr => ∃ (j : Nat) (s1 s2 : SS) (F1 R1 F2 R2 Fd : Nat → Prop) (g1 g2 : G) (ds : DS), j ≤ l.length ∧ iv = .int .i64 j ∧ s1.last ≤ j ∧ s2.last ≤ j ∧ Two7 Obj Fit wr w.heap.size F1 R1 F2 R2 Fd m n d 0 600 600 1200 g1 g2 x y s1 s1 s2 s2 ds ∧ Below w.heap.size w wr) (fun iv _ => l.length - (intOf iv).toNat)
    case atStart => exact ⟨0, emptyS, emptyS, _, _, _, _, _, _, _, _, Nat.zero_le _, rfl, Nat.le_refl _, Nat.le_refl _, T5.out, B5.out⟩
    case round =>
      clear T5 B5
      obtain ⟨j, s1, s2, F1, R1, F2, R2, Fd, g1, g2, ds, hj, rfl, hs1, hs2, hT, hB⟩ := hrel
      have HT := Lib.hid hT
      have HB := Lib.hid hB
      have HS1 := Lib.hid hs1
      have HS2 := Lib.hid hs2
      clear hT hs1 hs2
      generalize wr = w4 at *
      by_cases hjn : j < l.length
      · have HI : (j : Int) < l.length := by omega
        have HOK := Lib.hid (H.out.ok hjn)
        have HDJ := Lib.hid (HD.out _ (List.getElem_mem hjn))
        obtain ⟨b, off, rfl, hb, a0, a1, a2, a4, a5, a6, u, a3, hu⟩ := H.out.cells hjn
        have c0 := (hB.cell (p := ⟨b, off + j * 7, none⟩) hb).trans a0
        have c1 := (hB.cell (p := ⟨b, off + j * 7 + 1, none⟩) hb).trans a1
        have c2 := (hB.cell (p := ⟨b, off + j * 7 + 2, none⟩) hb).trans a2
        have c3 := (hB.cell (p := ⟨b, off + j * 7 + 3, none⟩) hb).trans a3
        have c4 := (hB.cell (p := ⟨b, off + j * 7 + 4, none⟩) hb).trans a4
        have c5 := (hB.cell (p := ⟨b, off + j * 7 + 5, none⟩) hb).trans a5
        have c6 := (hB.cell (p := ⟨b, off + j * 7 + 6, none⟩) hb).trans a6
        have HLO := Lib.hid hu.low7
        have HU := Lib.hid (hu.below hB)
        generalize l[j] = o at *
        have hkk := kind10 (k := o.kind)
        have hkb : o.kind % 10 < 10 := Nat.mod_lt _ (by omega)
        have hk0 := HOK.out.1
        have hfl := and1 o.fail
        have hf01 : o.fail % 2 = 0 ∨ o.fail % 2 = 1 := by omega
        clear a0 a1 a2 a3 a4 a5 a6 hb hB hu
        rcases hf01 with hf01 | hf01
        · rw [hf01] at hfl
          clear hf01
          have HQ := Lib.hid HT.out
          clear HT
          by_cases hk5 : o.kind % 10 = 5
          · rw [hk5] at hkk
            clear c1 c2 c3 c5 c6 HOK HDJ HLO HU
            go_wp2_with fail
            refine (rneed_c HQ.out.1.1.2.1 (commit_few (hP.out.ok HQ.out.1.1.1).2)).mono ?_
            rintro e w5 ⟨rfl, hB5⟩
            have T5 := Lib.hid (HQ.out.below hP.out hB5)
            have B5 := Lib.hid (below_then HB.out hB5)
            clear hB5 HQ HB c0 c4
            obtain ⟨nd, end_⟩ : ∃ nd, needS s1 = nd := ⟨_, rfl⟩
            have HND := Lib.hid end_
            rw [end_]
            clear end_
            by_cases hn : nd ≤ 300
            · have hni : ¬ (nd : Int) > 300 := by omega
              go_wp2_with fail
              refine (hP.out.commit T5.out.1.1.1 T5.out.1.2.1.1 T5.out.1.2.2.1 T5.out.1.2.1.2.2 T5.out.1.2.2.2.2.1 T5.out.1.2.2.2.2.2 (by have := HS1.out; have := HL.out; omega)).mono ?_
              rintro e w6 ⟨F6, Fd6, g6, ds6, s6, hO, hD, h1, h2, ht, hc, hs, hf, hres⟩
              obtain ⟨rfl, rfl⟩ : s6 = commitS s1 ∧ e = .returned (.tuple #[.int .i64 ((s1.last + 1 : Nat) : Int), .int .i64 0]) := by
                rcases hres with h | ⟨-, hn2, -⟩
                · exact h
                · have := HND.out
                  omega
              obtain ⟨hT6, hon⟩ := T5.out.put hP.out B5.out.size hO hD h1 h2 ht hc hs hf
              have T6 := Lib.hid hT6
              have B6 := Lib.hid (B5.out.trans hon.1)
              clear hO hD h1 h2 ht hc hs hf hres hT6 hon T5 B5
              have CM := Lib.hid (rcommit_c T6.out.1.1.2.1 (by have := HS1.out; have := HL.out; omega))
              have HL1 := Lib.hid (show (commitS s1).last = s1.last + 1 from rfl)
              generalize commitS s1 = s' at *
              generalize ((s1.last + 1 : Nat) : Int) = z at *
              go_wp2_with fail
              refine (CM.out).mono ?_
              rintro e w7 hd7
              obtain ⟨rfl, hT7, hon⟩ := T6.out.ref hP.out B6.out.size hd7
              have T7 := Lib.hid hT7
              have B7 := Lib.hid (B6.out.trans hon.1)
              have HS7 := Lib.hid (show s'.last ≤ j + 1 by rw [HL1.out]; have := HS1.out; omega)
              clear hd7 hT7 hon T6 B6 CM HL1
              go_wp2_with fail
              go_roundw
              case rel => exact ⟨j + 1, _, _, _, _, _, _, _, _, _, _, by omega, by go_num, HS7.out, (by have := HS2.out; omega), T7.out, B7.out⟩
              case measure => simp [intOf]; omega
            · have hni : (nd : Int) > 300 := by omega
              go_wp2_with fail
              refine (KN.out _).mono ?_
              rintro e wk ⟨rfl, hBk⟩
              have BK := Lib.hid (below_then B5.out hBk)
              clear hBk
              go_wp2_with fail
              go_ret
              exact ⟨rfl, BK.out⟩
          by_cases hk6 : o.kind % 10 = 6
          · rw [hk6] at hkk
            clear c1 c2 c3 c5 c6 HOK HDJ HLO HU
            go_wp2_with fail
            refine (rneed_c HQ.out.1.1.2.1 (commit_few (hP.out.ok HQ.out.1.1.1).2)).mono ?_
            rintro e w5 ⟨rfl, hB5⟩
            have T5 := Lib.hid (HQ.out.below hP.out hB5)
            have B5 := Lib.hid (below_then HB.out hB5)
            clear hB5 HQ HB c0 c4
            obtain ⟨nd, end_⟩ : ∃ nd, needS s1 = nd := ⟨_, rfl⟩
            have HND := Lib.hid end_
            rw [end_]
            clear end_
            by_cases hn : nd ≤ 300
            · have hni : ¬ (nd : Int) > 300 := by omega
              go_wp2_with fail
              refine (hP.out.commit T5.out.1.1.1 T5.out.1.2.1.1 T5.out.1.2.2.1 T5.out.1.2.1.2.2 T5.out.1.2.2.2.2.1 T5.out.1.2.2.2.2.2 (by have := HS1.out; have := HL.out; omega)).mono ?_
              rintro e w6 ⟨F6, Fd6, g6, ds6, s6, hO, hD, h1, h2, ht, hc, hs, hf, hres⟩
              obtain ⟨rfl, rfl⟩ : s6 = commitS s1 ∧ e = .returned (.tuple #[.int .i64 ((s1.last + 1 : Nat) : Int), .int .i64 0]) := by
                rcases hres with h | ⟨-, hn2, -⟩
                · exact h
                · have := HND.out
                  omega
              obtain ⟨hT6, hon⟩ := T5.out.put hP.out B5.out.size hO hD h1 h2 ht hc hs hf
              have T6 := Lib.hid hT6
              have B6 := Lib.hid (B5.out.trans hon.1)
              clear hO hD h1 h2 ht hc hs hf hres hT6 hon T5 B5
              have CM := Lib.hid (rcommit_c T6.out.1.1.2.1 (by have := HS1.out; have := HL.out; omega))
              have HL1 := Lib.hid (show (commitS s1).last = s1.last + 1 from rfl)
              generalize commitS s1 = s' at *
              generalize ((s1.last + 1 : Nat) : Int) = z at *
              go_wp2_with fail
              refine (CM.out).mono ?_
              rintro e w7 hd7
              obtain ⟨rfl, hT7, hon⟩ := T6.out.ref hP.out B6.out.size hd7
              have T7 := Lib.hid hT7
              have B7 := Lib.hid (B6.out.trans hon.1)
              have HS7 := Lib.hid (show s'.last ≤ j + 1 by rw [HL1.out]; have := HS1.out; omega)
              clear hd7 hT7 hon T6 B6 CM HL1
              go_wp2_with fail
              go_roundw
              case rel => exact ⟨j + 1, _, _, _, _, _, _, _, _, _, _, by omega, by go_num, HS7.out, (by have := HS2.out; omega), T7.out, B7.out⟩
              case measure => simp [intOf]; omega
            · have hni : (nd : Int) > 300 := by omega
              go_wp2_with fail
              refine (KN.out _).mono ?_
              rintro e wk ⟨rfl, hBk⟩
              have BK := Lib.hid (below_then B5.out hBk)
              clear hBk
              go_wp2_with fail
              go_ret
              exact ⟨rfl, BK.out⟩
          obtain ⟨kq, ekq⟩ : ∃ q, o.kind % 10 = q := ⟨_, rfl⟩
          rw [ekq] at hkk hkb hk5 hk6
          have q5 : ((kq : Int) == 5) = false := by rw [beq_eq_false_iff_ne]; omega
          have q6 : ((kq : Int) == 6) = false := by rw [beq_eq_false_iff_ne]; omega
          have q5b : ¬ (kq : Int) = 5 := by omega
          have q6b : ¬ (kq : Int) = 6 := by omega
          have q5c : ((kq : Int) != 5) = true := by simp [bne, q5]
          have q6c : ((kq : Int) != 6) = true := by simp [bne, q6]
          clear ekq hk5 hk6
          have HA := Lib.hid (edit_c hP.out HQ.out.1.1 HB.out.size HOK.out HU.out HLO.out HDJ.out)
          have HE := Lib.hid (edit_last s1 o)
          clear HU HLO HDJ HOK
          go_wp2_with fail
          refine (HA.out).mono ?_
          rintro e w5 hd5
          obtain ⟨rfl, ⟨F5, R5, hT5⟩, hon⟩ := HQ.out.both hP.out HE.out.1 HE.out.2 hd5
          have T5 := Lib.hid hT5
          have B5 := Lib.hid (HB.out.trans hon.1)
          have HS5 := Lib.hid (show (editS s1 o).last ≤ j + 1 by rw [HE.out.1]; exact Nat.le_succ_of_le HS1.out)
          clear hd5 hT5 hon HQ HB HA HE c0 c1 c2 c3 c4 c5 c6
          generalize editS s1 o = s' at *
          go_wp2_with fail
          go_roundw
          case rel => exact ⟨j + 1, _, _, _, _, _, _, _, _, _, _, by omega, by go_num, HS5.out, (by have := HS2.out; omega), T5.out, B5.out⟩
          case measure => simp [intOf]; omega
        · rw [hf01] at hfl
          clear hf01
          have HQ := Lib.hid HT.out.symm
          clear HT
          by_cases hk5 : o.kind % 10 = 5
          · rw [hk5] at hkk
            clear c1 c2 c3 c5 c6 HOK HDJ HLO HU
            go_wp2_with fail
            refine (rneed_c HQ.out.1.1.2.1 (commit_few (hP.out.ok HQ.out.1.1.1).2)).mono ?_
            rintro e w5 ⟨rfl, hB5⟩
            have T5 := Lib.hid (HQ.out.below hP.out hB5)
            have B5 := Lib.hid (below_then HB.out hB5)
            clear hB5 HQ HB c0 c4
            obtain ⟨nd, end_⟩ : ∃ nd, needS s2 = nd := ⟨_, rfl⟩
            have HND := Lib.hid end_
            rw [end_]
            clear end_
            by_cases hn : nd ≤ 300
            · have hni : ¬ (nd : Int) > 300 := by omega
              go_wp2_with fail
              refine (hP.out.commit T5.out.1.1.1 T5.out.1.2.1.1 T5.out.1.2.2.1 T5.out.1.2.1.2.2 T5.out.1.2.2.2.2.1 T5.out.1.2.2.2.2.2 (by have := HS2.out; have := HL.out; omega)).mono ?_
              rintro e w6 ⟨F6, Fd6, g6, ds6, s6, hO, hD, h1, h2, ht, hc, hs, hf, hres⟩
              obtain ⟨rfl, rfl⟩ : s6 = commitS s2 ∧ e = .returned (.tuple #[.int .i64 ((s2.last + 1 : Nat) : Int), .int .i64 0]) := by
                rcases hres with h | ⟨-, hn2, -⟩
                · exact h
                · have := HND.out
                  omega
              obtain ⟨hT6, hon⟩ := T5.out.put hP.out B5.out.size hO hD h1 h2 ht hc hs hf
              have T6 := Lib.hid hT6
              have B6 := Lib.hid (B5.out.trans hon.1)
              clear hO hD h1 h2 ht hc hs hf hres hT6 hon T5 B5
              have CM := Lib.hid (rcommit_c T6.out.1.1.2.1 (by have := HS2.out; have := HL.out; omega))
              have HL1 := Lib.hid (show (commitS s2).last = s2.last + 1 from rfl)
              generalize commitS s2 = s' at *
              generalize ((s2.last + 1 : Nat) : Int) = z at *
              go_wp2_with fail
              refine (CM.out).mono ?_
              rintro e w7 hd7
              obtain ⟨rfl, hT7, hon⟩ := T6.out.ref hP.out B6.out.size hd7
              have T7 := Lib.hid hT7
              have B7 := Lib.hid (B6.out.trans hon.1)
              have HS7 := Lib.hid (show s'.last ≤ j + 1 by rw [HL1.out]; have := HS2.out; omega)
              clear hd7 hT7 hon T6 B6 CM HL1
              go_wp2_with fail
              go_roundw
              case rel => exact ⟨j + 1, _, _, _, _, _, _, _, _, _, _, by omega, by go_num, (by have := HS1.out; omega), HS7.out, T7.out.symm, B7.out⟩
              case measure => simp [intOf]; omega
            · have hni : (nd : Int) > 300 := by omega
              go_wp2_with fail
              refine (KN.out _).mono ?_
              rintro e wk ⟨rfl, hBk⟩
              have BK := Lib.hid (below_then B5.out hBk)
              clear hBk
              go_wp2_with fail
              go_ret
              exact ⟨rfl, BK.out⟩
          by_cases hk6 : o.kind % 10 = 6
          · rw [hk6] at hkk
            clear c1 c2 c3 c5 c6 HOK HDJ HLO HU
            go_wp2_with fail
            refine (rneed_c HQ.out.1.1.2.1 (commit_few (hP.out.ok HQ.out.1.1.1).2)).mono ?_
            rintro e w5 ⟨rfl, hB5⟩
            have T5 := Lib.hid (HQ.out.below hP.out hB5)
            have B5 := Lib.hid (below_then HB.out hB5)
            clear hB5 HQ HB c0 c4
            obtain ⟨nd, end_⟩ : ∃ nd, needS s2 = nd := ⟨_, rfl⟩
            have HND := Lib.hid end_
            rw [end_]
            clear end_
            by_cases hn : nd ≤ 300
            · have hni : ¬ (nd : Int) > 300 := by omega
              go_wp2_with fail
              refine (hP.out.commit T5.out.1.1.1 T5.out.1.2.1.1 T5.out.1.2.2.1 T5.out.1.2.1.2.2 T5.out.1.2.2.2.2.1 T5.out.1.2.2.2.2.2 (by have := HS2.out; have := HL.out; omega)).mono ?_
              rintro e w6 ⟨F6, Fd6, g6, ds6, s6, hO, hD, h1, h2, ht, hc, hs, hf, hres⟩
              obtain ⟨rfl, rfl⟩ : s6 = commitS s2 ∧ e = .returned (.tuple #[.int .i64 ((s2.last + 1 : Nat) : Int), .int .i64 0]) := by
                rcases hres with h | ⟨-, hn2, -⟩
                · exact h
                · have := HND.out
                  omega
              obtain ⟨hT6, hon⟩ := T5.out.put hP.out B5.out.size hO hD h1 h2 ht hc hs hf
              have T6 := Lib.hid hT6
              have B6 := Lib.hid (B5.out.trans hon.1)
              clear hO hD h1 h2 ht hc hs hf hres hT6 hon T5 B5
              have CM := Lib.hid (rcommit_c T6.out.1.1.2.1 (by have := HS2.out; have := HL.out; omega))
              have HL1 := Lib.hid (show (commitS s2).last = s2.last + 1 from rfl)
              generalize commitS s2 = s' at *
              generalize ((s2.last + 1 : Nat) : Int) = z at *
              go_wp2_with fail
              refine (CM.out).mono ?_
              rintro e w7 hd7
              obtain ⟨rfl, hT7, hon⟩ := T6.out.ref hP.out B6.out.size hd7
              have T7 := Lib.hid hT7
              have B7 := Lib.hid (B6.out.trans hon.1)
              have HS7 := Lib.hid (show s'.last ≤ j + 1 by rw [HL1.out]; have := HS2.out; omega)
              clear hd7 hT7 hon T6 B6 CM HL1
              go_wp2_with fail
              go_roundw
              case rel => exact ⟨j + 1, _, _, _, _, _, _, _, _, _, _, by omega, by go_num, (by have := HS1.out; omega), HS7.out, T7.out.symm, B7.out⟩
              case measure => simp [intOf]; omega
            · have hni : (nd : Int) > 300 := by omega
              go_wp2_with fail
              refine (KN.out _).mono ?_
              rintro e wk ⟨rfl, hBk⟩
              have BK := Lib.hid (below_then B5.out hBk)
              clear hBk
              go_wp2_with fail
              go_ret
              exact ⟨rfl, BK.out⟩
          obtain ⟨kq, ekq⟩ : ∃ q, o.kind % 10 = q := ⟨_, rfl⟩
          rw [ekq] at hkk hkb hk5 hk6
          have q5 : ((kq : Int) == 5) = false := by rw [beq_eq_false_iff_ne]; omega
          have q6 : ((kq : Int) == 6) = false := by rw [beq_eq_false_iff_ne]; omega
          have q5b : ¬ (kq : Int) = 5 := by omega
          have q6b : ¬ (kq : Int) = 6 := by omega
          have q5c : ((kq : Int) != 5) = true := by simp [bne, q5]
          have q6c : ((kq : Int) != 6) = true := by simp [bne, q6]
          clear ekq hk5 hk6
          have HA := Lib.hid (edit_c hP.out HQ.out.1.1 HB.out.size HOK.out HU.out HLO.out HDJ.out)
          have HE := Lib.hid (edit_last s2 o)
          clear HU HLO HDJ HOK
          go_wp2_with fail
          refine (HA.out).mono ?_
          rintro e w5 hd5
          obtain ⟨rfl, ⟨F5, R5, hT5⟩, hon⟩ := HQ.out.both hP.out HE.out.1 HE.out.2 hd5
          have T5 := Lib.hid hT5
          have B5 := Lib.hid (HB.out.trans hon.1)
          have HS5 := Lib.hid (show (editS s2 o).last ≤ j + 1 by rw [HE.out.1]; exact Nat.le_succ_of_le HS2.out)
          clear hd5 hT5 hon HQ HB HA HE c0 c1 c2 c3 c4 c5 c6
          generalize editS s2 o = s' at *
          go_wp2_with fail
          go_roundw
          case rel => exact ⟨j + 1, _, _, _, _, _, _, _, _, _, _, by omega, by go_num, (by have := HS1.out; omega), HS5.out, T5.out.symm, B5.out⟩
          case measure => simp [intOf]; omega
      · have HI : ¬ (j : Int) < l.length := by omega
        clear hB
        go_wp2_with fail
        refine (agree7_c hP.out HT.out.1.1 HB.out.size (by have := HS1.out; have := HL.out; omega)).mono ?_
        rintro e w9 hd9
        obtain ⟨rfl, ⟨F9, R9, hT9⟩, hon9⟩ := HT.out.both hP.out rfl rfl hd9
        have T9 := Lib.hid hT9.symm
        have B9 := Lib.hid (HB.out.trans hon9.1)
        clear hd9 hT9 hon9 HT HB
        go_wp2_with fail
        refine (agree7_c hP.out T9.out.1.1 B9.out.size (by have := HS2.out; have := HL.out; omega)).mono ?_
        rintro e w10 hd10
        obtain ⟨rfl, -, hon10⟩ := T9.out.both hP.out rfl rfl hd10
        have B10 := Lib.hid (B9.out.trans hon10.1)
        clear hd10 hon10 T9 B9
        go_wp2_with fail
        refine (KN.out _).mono ?_
        rintro e wk ⟨rfl, hBk⟩
        have BK := Lib.hid (below_then B10.out hBk)
        clear hBk
        go_wp2_with fail
        go_ret
        exact ⟨rfl, BK.out⟩
end
end Go.Proofs.YtckomifecmemnaaGreat

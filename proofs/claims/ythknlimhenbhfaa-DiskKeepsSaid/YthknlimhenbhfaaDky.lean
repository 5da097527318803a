/- The reference's disk: Crash. -/
import Derived.Test.YthknlimhenbhfaaDkx
namespace Go.Proofs.Ythknlimhenbhfaa
set_option linter.unusedSimpArgs false
open Go.RowKit Dig
set_option linter.unusedVariables false
theorem crash_take (keep last : Nat) (torn : Int) {P : List (Nat × List UInt8)} (L : List (List UInt8)) {j : Nat} (hj : j < P.length) : crashL keep last torn L 0 (P.take (j + 1)) = crash1 keep last torn (crashL keep last torn L 0 (P.take j)) j P[j] := by
  rw [List.take_add_one, List.getElem?_eq_getElem hj]
  show crashL keep last torn L 0 (P.take j ++ [P[j]]) = _
  rw [crashL_snoc, List.length_take, Nat.zero_add, Nat.min_eq_left (by omega)]
section
variable {w w' : World} {g : Nat} {s : DS}
/-- What a crash leaves. -/
theorem DskR.crashed {w2 : World} {r : Value} {L : List (List UInt8)} (h : DskR w g s) (hB : Below w.heap.size w w2) (ho : w2.ownsRow w.heap.size 72 64 r s.dur.length (secC L)) (hl : L.length = s.dur.length) (h64 : ∀ x ∈ L, x.length = 64) :
    DskR ((((w2.setCell ⟨g, 0, none⟩ r).setCell ⟨g, 1, none⟩ (.slice none 0 0)).setCell ⟨g, 2, none⟩ (.bool true)).setCell ⟨g, 3, none⟩ (.bool false)) g { dur := L, pend := [], off := true, armed := false, left := s.left } ∧ w.grownBy ((((w2.setCell ⟨g, 0, none⟩ r).setCell ⟨g, 1, none⟩ (.slice none 0 0)).setCell ⟨g, 2, none⟩ (.bool true)).setCell ⟨g, 3, none⟩ (.bool false)) (some g) ∧ Feet w ((((w2.setCell ⟨g, 0, none⟩ r).setCell ⟨g, 1, none⟩ (.slice none 0 0)).setCell ⟨g, 2, none⟩ (.bool true)).setCell ⟨g, 3, none⟩ (.bool false)) g := by
  obtain ⟨h1, h2, h3⟩ := h.flushed hB ho hl h64
  have hf := h1.fields (off := true) (armed := false) (z := s.left) (fun v1 v2 hc => (hc.put2 true).put3 false) (grown_set (grown_put' _ _ _ _) _ _) h.1.2.2
  exact ⟨hf.1, grown_set (grown_set h2 _ _) _ _, h3.trans hf.2 h2.size⟩
set_option maxRecDepth 20000 in
set_option maxHeartbeats 8000000 in
theorem rcrash_c (h : DskR w g s) (hn : s.dur.length ≤ 10000) (hp : s.pend.length ≤ 1000) (keep : Nat) (hk : keep < 18446744073709551616) (torn : Int) : Calls Try.prog 27 #[.pointer (some ⟨g, 0, none⟩), .int .u64 (keep : Int), .int .i64 torn] w (RDk w g (.tuple #[]) (crashS s keep torn)) := by
  have H := Lib.hid h
  have SV := Lib.hid (fun (w1 : World) (i : Nat) (hi : i ≤ 1000000) => rsurv_c (w := w1) keep hk i hi)
  obtain ⟨hok, v1, v2, hc, hd, hpn, _, _⟩ := h
  have hgl := hc.lt
  obtain ⟨c0, c1, -, -, -⟩ := hc.cells
  obtain ⟨A1, c1', rfl⟩ := hd.form
  obtain ⟨A2, c2, rfl⟩ := hpn.form
  obtain ⟨z, hI, hz⟩ := zero_sec
  have HD := Lib.hid hd
  have HP := Lib.hid hpn
  have HOK := Lib.hid hok
  have HI := Lib.hid hI
  have HGL := Lib.hid hgl
  have HC1 := Lib.hid c1
  have hpi : (s.pend.length : Int) ≤ 1000 := by omega
  obtain ⟨n, en⟩ : ∃ n, s.dur.length = n := ⟨_, rfl⟩
  obtain ⟨m, em⟩ : ∃ m, s.pend.length = m := ⟨_, rfl⟩
  have EN := Lib.hid en
  have EM := Lib.hid em
  rw [en] at HD hn c0
  rw [em] at HP hpi hp c1 HC1
  have HN := Lib.hid hn
  have HPM := Lib.hid hp
  clear hc hd hpn hok hI hn hp en em hk
  go_enter Try.func27, Try.ntmps27
  go_wp2_with fail
  go_loopw [6, 7] (fun l i wr => ∃ j : Nat, j ≤ m ∧ i = .int .i64 j ∧ l = .int .i64 ((lastS keep j : Int) - 1) ∧ w = wr) (fun l i _ => m - (intOf i).toNat)
  case atStart => exact ⟨0, Nat.zero_le _, rfl, rfl, rfl⟩
  case round =>
    obtain ⟨j, hj, rfl, rfl, rfl⟩ := hrel
    by_cases hjm : j < m
    · have HJ : (j : Int) < m := by omega
      have hm : m ≤ 1000 := HPM.out
      have SJ := Lib.hid (SV.out w j (by omega))
      have hls : lastS keep (j + 1) = if survS keep j = true then j + 1 else lastS keep j := rfl
      cases hsv : survS keep j with
      | true =>
        rw [hsv] at SJ hls
        rw [if_pos rfl] at hls
        have HLS := Lib.hid hls
        clear hls hsv hm
        go_wp2_with fail
        refine (SJ.out).mono ?_
        rintro e w1 ⟨rfl, rfl⟩
        go_wp2_with fail
        go_roundw
        case rel => exact ⟨j + 1, by omega, by go_num, by rw [HLS.out]; go_num, by trivial⟩
        case measure => simp [intOf]; omega
      | false =>
        rw [hsv] at SJ hls
        rw [if_neg (by decide)] at hls
        have HLS := Lib.hid hls
        clear hls hsv hm
        go_wp2_with fail
        refine (SJ.out).mono ?_
        rintro e w1 ⟨rfl, rfl⟩
        go_wp2_with fail
        go_roundw
        case rel => exact ⟨j + 1, by omega, by go_num, by rw [HLS.out], by trivial⟩
        case measure => simp [intOf]; omega
    · have HJ : ¬ (j : Int) < m := by omega
      have ejm : j = m := by omega
      have hlm := lastS_le keep m
      rw [ejm]
      obtain ⟨lst, el⟩ : ∃ l, lastS keep m = l := ⟨_, rfl⟩
      have EL := Lib.hid el
      rw [el] at hlm ⊢
      have hli : (lst : Int) ≤ m := by omega
      clear hj hjm HJ ejm hlm el
      go_wp2_with (first | ((with_reducible refine wp_noneC Try.underlying61 HI.out rfl rfl ?_); intro w1 hS hB; have o1 := Lib.hid hS; have B1 := Lib.hid hB; have d0 : w1.cell? ⟨g, 0, none⟩ = some (.slice A1 n c1') := (by rw [hB.cell (p := ⟨g, 0, none⟩) HGL.out]; exact c0); clear hS hB) | (at_builtin; refine wp_appendC Try.underlying61 HI.out hz (by omega) rfl _ _ rfl w.heap.size _ 0 [] rfl o1.out _ n _ rfl (HD.out.below B1.out) (secC_one _) (by have := HN.out; omega) (by omega) B1.out.size ?_; intro v2 w2 hv2 hg2; have B2 := Lib.hid (below_own B1.out hg2 o1.out (Nat.le_refl _)); clear o1 hg2; rw [List.nil_append, Nat.zero_add] at hv2; have o2 := Lib.hid hv2; clear hv2 d0))
      go_loopw [9] (fun i wr => ∃ j : Nat, j ≤ m ∧ i = .int .i64 j ∧ wr.ownsRow w.heap.size 72 64 v2 n (secC (crashL keep lst torn s.dur 0 (s.pend.take j))) ∧ Below w.heap.size w wr) (fun i _ => m - (intOf i).toNat)
      case atStart => exact ⟨0, Nat.zero_le _, rfl, o2.out, B2.out⟩
      case round =>
        obtain ⟨j, hj, rfl, hO, hB⟩ := hrel
        have d1 : wr.cell? ⟨g, 1, none⟩ = some (.slice A2 m c2) := by rw [hB.cell (p := ⟨g, 1, none⟩) hgl]; exact c1
        by_cases hjm : j < m
        · have HJ : (j : Int) < m := by omega
          have hm : m ≤ 1000 := HPM.out
          have SJ := Lib.hid (SV.out wr j (by omega))
          have hjp : j < s.pend.length := by rw [EM.out]; exact hjm
          have hct := crash_take keep lst torn s.dur hjp
          have hpj := HOK.out.2.1 s.pend[j] (List.getElem_mem hjp)
          have hLL := crashL_ok keep lst torn (s.pend.take j) s.dur 0 HOK.out.1 (fun p hp => HOK.out.2.1 p (List.mem_of_mem_take hp))
          have HCT := Lib.hid hct
          have HPJ := Lib.hid hpj
          have HLL := Lib.hid hLL
          have HO := Lib.hid hO
          have HBR := Lib.hid hB
          clear hct hpj hLL hO hB
          cases hsv : survS keep j with
          | false =>
            rw [hsv] at SJ
            have hc1 : crashL keep lst torn s.dur 0 (s.pend.take (j + 1)) = crashL keep lst torn s.dur 0 (s.pend.take j) := by
              rw [HCT.out]
              unfold crash1
              rw [hsv, if_neg (by decide)]
            have HC1' := Lib.hid hc1
            clear hc1 hsv hm
            go_wp2_with fail
            refine (SJ.out).mono ?_
            rintro e w3 ⟨rfl, rfl⟩
            go_wp2_with fail
            go_roundw
            case rel => exact ⟨j + 1, by omega, by go_num, by rw [HC1'.out]; exact HO.out, HBR.out⟩
            case measure => simp [intOf]; omega
          | true =>
            -- SURVIVES
            rw [hsv] at SJ
            obtain ⟨gr, cr, rfl⟩ := own_block HO.out (by have := EN.out; have := HPJ.out; omega)
            obtain ⟨b2, ob, rfl, hb2, hrg⟩ := HP.out.range (by omega)
            have hpart := penC_part hjp (fun p hp => (HOK.out.2.1 p hp).2)
            have hrp := range_part hrg (j * 65) 65
            rw [hpart] at hrp
            have hfin := HCT.out
            have hpj := HPJ.out
            obtain ⟨p1, ep1⟩ : ∃ p, s.pend[j].1 = p := ⟨_, rfl⟩
            obtain ⟨p2, ep2⟩ : ∃ p, s.pend[j].2 = p := ⟨_, rfl⟩
            obtain ⟨LL, eL⟩ : ∃ L, crashL keep lst torn s.dur 0 (s.pend.take j) = L := ⟨_, rfl⟩
            have hLL := HLL.out
            rw [eL] at hLL hfin HO
            rw [ep1, ep2] at hrp hpj
            rw [EN.out] at hLL hpj
            unfold crash1 at hfin
            rw [hsv, if_pos rfl, ep1, ep2] at hfin
            have hpL : p1 < LL.length := by rw [hLL.2]; exact hpj.1
            have hgd : LL.getD p1 [] = LL[p1] := by simp [List.getD_eq_getElem?_getD, hpL]
            rw [hgd] at hfin
            obtain ⟨X, eX⟩ : ∃ X, LL[p1] = X := ⟨_, rfl⟩
            have hX64 : X.length = 64 := by rw [← eX]; exact hLL.1 _ (List.getElem_mem hpL)
            rw [eX] at hfin
            have hLX : LL.set p1 X = LL := by rw [← eX]; exact List.set_getElem_self hpL
            have hfin : crashL keep lst torn s.dur 0 (s.pend.take (j + 1)) = LL.set p1 (mixS p2 X (tornS lst torn j)) := hfin
            have ct : w.cell? ⟨b2, ob + j * 65, none⟩ = some (.int .i64 (p1 : Int)) := by
              have := hrp 0 _ rfl
              rwa [Nat.add_zero] at this
            have rt : w.rangeAt b2 (ob + j * 65 + 1) (Y p2) := fun k u hk => by
              have := hrp (k + 1) u (by simpa using hk)
              rwa [show ob + j * 65 + (k + 1) = ob + j * 65 + 1 + k by omega] at this
            have HFIN := Lib.hid hfin
            have HLX := Lib.hid hLX
            have CT := Lib.hid ct
            have RT := Lib.hid rt
            have HPN := Lib.hid hpj.1
            have HSZ := Lib.hid (show X.length = 64 ∧ p2.length = 64 ∧ LL.length = n ∧ ∀ x ∈ LL, x.length = 64 from ⟨hX64, hpj.2, hLL.2, hLL.1⟩)
            clear hfin hLX ct rt hpj hLL hpL hgd eX hX64 hrp hpart hrg eL ep1 ep2 HCT HLL HPJ
            by_cases h1 : j + 1 = lst
            · have h1i : ((j : Int) == (lst : Int) - 1) = true := by rw [beq_iff_eq]; omega
              by_cases h2 : 0 ≤ torn
              · by_cases h3 : torn < 64
                · obtain ⟨N, rfl⟩ := Int.eq_ofNat_of_zero_le h2
                  have hN : tornS lst (N : Int) j = N := by unfold tornS; rw [if_pos ⟨h1, h2, h3⟩]; exact Int.toNat_natCast N
                  have hN64 : N ≤ 64 := by omega
                  have h2i : (N : Int) ≥ 0 := by omega
                  clear h1 h2
                  have HNN := Lib.hid hN
                  clear hsv hm hN
                  go_wp2_with fail
                  refine (SJ.out).mono ?_
                  rintro e w3 ⟨rfl, rfl⟩
                  go_wp2_with fail
                  have hO := HO.out
                  have hB := HBR.out
                  generalize wr = w4 at *
                  go_loopw [11] (fun k wr => ∃ q : Nat, q ≤ N ∧ k = .int .i64 q ∧ wr.ownsRow w.heap.size 72 64 (.slice (some ⟨gr, 0, none⟩) n cr) n (secC (LL.set p1 (mixS p2 X q))) ∧ Below w.heap.size w wr) (fun k _ => N - (intOf k).toNat)
                  case atStart => exact ⟨0, Nat.zero_le _, rfl, by rw [mixS_zero, HLX.out]; exact hO, hB⟩
                  case round =>
                    clear hO hB
                    obtain ⟨q, hq, rfl, hO, hB⟩ := hrel
                    have e1 : wr.cell? ⟨g, 1, none⟩ = some (.slice (some ⟨b2, ob, none⟩) m c2) := by rw [hB.cell (p := ⟨g, 1, none⟩) hgl]; exact c1
                    by_cases hqn : q < N
                    · have HQ' : (q : Int) < N := by omega
                      have HO2 := Lib.hid hO
                      have HB2 := Lib.hid hB
                      clear hO hB
                      go_wp2_with fail
                      refine hk_begin (S := fun w' => Below w.heap.size w w') 23 (by kernel_rfl) (by kernel_rfl) ?_
                      have hOd := own_below HO2.out ((Below.refl wr.heap.size wr).drew) (Nat.le_refl _)
                      have BY := HB2.out.drew
                      generalize wr.drew = yd at hOd BY ⊢
                      obtain ⟨hX64, hp64, hLn, hL64⟩ := HSZ.out
                      have hq64 : q < 64 := by omega
                      have hpn := HPN.out
                      have ct := CT.out
                      have cq : w.cell? ⟨b2, ob + j * 65 + 1 + q, none⟩ = some (.int .u8 ((p2.getD q 0).toNat : Int)) := RT.out q _ (Y_get p2 q (by omega))
                      have hsetL : (LL.set p1 (mixS p2 X q)).length = n := by rw [List.length_set]; exact hLn
                      have hM64 : ∀ x ∈ LL.set p1 (mixS p2 X q), x.length = 64 := fun x hx => by
                        rcases List.mem_or_eq_of_mem_set hx with h1 | h1
                        · exact hL64 x h1
                        · rw [h1]; exact mixS_length hp64 hX64 (by omega)
                      have hbyte := secC_byte (L := LL.set p1 (mixS p2 X q)) (i := p1) (k := q) (c := p2.getD q 0) (by omega) hq64 hM64
                      rw [List.getElem_set_self, List.set_set, mixS_set hp64 hX64 hq64] at hbyte
                      obtain ⟨hON, hgb, hfz, u0, hcu⟩ := own_put hOd (o := 0 + p1 * 64 + q) (by omega) (.int .u8 ((p2.getD q 0).toNat : Int))
                      have hs : (secC (LL.set p1 (mixS p2 X q))).set (0 + p1 * 64 + q) (.int .u8 ((p2.getD q 0).toNat : Int)) = secC (LL.set p1 (mixS p2 X (q + 1))) := by rw [Nat.zero_add]; exact hbyte
                      rw [hs] at hON
                      have BN := BY.setCell (p := ⟨gr, 0 + p1 * 64 + q, none⟩) hgb (.int .u8 ((p2.getD q 0).toNat : Int))
                      generalize (p2.getD q 0).toNat = cb at hON BN cq
                      have HON := Lib.hid hON
                      have HBN := Lib.hid BN
                      clear hON hs hbyte hM64 hsetL hL64 hOd
                      refine hk_take (i := 0) (some 61) (.slice (some ⟨gr, 0, none⟩) n cr) (by kernel_rfl) (by kernel_rfl) (by kernel_rfl) (by kernel_rfl) (by kernel_rfl) (by kernel_rfl) (fun W hS => by kernel_rfl) (fun _ _ d _ _ h => by cases d <;> exact h) BY ?_
                      simp only [put_lit, put_non, List.set_cons_zero, List.set_cons_succ]
                      refine hk_take (i := 1) (some 62) (.pointer (some ⟨g, 0, none⟩)) (by kernel_rfl) (by kernel_rfl) (by kernel_rfl) (by kernel_rfl) (by kernel_rfl) (by kernel_rfl) (fun W hS => by kernel_rfl) (fun _ _ d _ _ h => by cases d <;> exact h) BY ?_
                      simp only [put_lit, put_non, List.set_cons_zero, List.set_cons_succ]
                      refine hk_take (i := 2) (some 63) (.pointer (some ⟨g, 0, none⟩)) (by kernel_rfl) (by kernel_rfl) (by kernel_rfl) (by kernel_rfl) (by kernel_rfl) (by kernel_rfl) (fun W hS => by kernel_rfl) (fun _ _ d _ _ h => by cases d <;> exact h) BY ?_
                      simp only [put_lit, put_non, List.set_cons_zero, List.set_cons_succ]
                      refine hk_take (i := 3) (some 64) (.pointer (some ⟨g, 1, none⟩)) (by kernel_rfl) (by kernel_rfl) (by kernel_rfl) (by kernel_rfl) (by kernel_rfl) (by kernel_rfl) (fun W hS => by kernel_rfl) (fun _ _ d _ _ h => by cases d <;> exact h) BY ?_
                      simp only [put_lit, put_non, List.set_cons_zero, List.set_cons_succ]
                      refine hk_take (i := 4) (some 65) (.slice (some ⟨b2, ob, none⟩) m c2) (by kernel_rfl) (by kernel_rfl) (by kernel_rfl) (by kernel_rfl) (by kernel_rfl) (by kernel_rfl) (fun W hS => exec_loadCell 62 (.tmp 64) ⟨g, 1, none⟩ _ _ (by kernel_rfl) (by kernel_rfl) (by rw [hS.cell (p := ⟨g, 1, none⟩) hgl]; exact c1) Try.underlying62 rfl) (fun _ _ d _ _ h => by cases d <;> exact h) BY ?_
                      simp only [put_lit, put_non, List.set_cons_zero, List.set_cons_succ]
                      refine hk_take (i := 5) (some 66) (.int .i64 (j : Int)) (by kernel_rfl) (by kernel_rfl) (by kernel_rfl) (by kernel_rfl) (by kernel_rfl) (by kernel_rfl) (fun W hS => by kernel_rfl) (fun _ _ d _ _ h => by cases d <;> exact h) BY ?_
                      simp only [put_lit, put_non, List.set_cons_zero, List.set_cons_succ]
                      refine hk_take (i := 6) (some 67) (.pointer (some ⟨b2, ob + j * 65, none⟩)) (by kernel_rfl) (by kernel_rfl) (by kernel_rfl) (by kernel_rfl) (by kernel_rfl) (by kernel_rfl) (fun W hS => exec_indexC Try.underlying62 info_pen 65 66 (n := m) (c := c2) (by kernel_rfl) (by kernel_rfl) (by kernel_rfl) hjm) (fun _ _ d _ _ h => by cases d <;> exact h) BY ?_
                      simp only [put_lit, put_non, List.set_cons_zero, List.set_cons_succ]
                      refine hk_take (i := 7) (some 68) (.pointer (some ⟨b2, ob + j * 65, none⟩)) (by kernel_rfl) (by kernel_rfl) (by kernel_rfl) (by kernel_rfl) (by kernel_rfl) (by kernel_rfl) (fun W hS => exec_pen0 67 (by kernel_rfl) (by kernel_rfl)) (fun _ _ d _ _ h => by cases d <;> exact h) BY ?_
                      simp only [put_lit, put_non, List.set_cons_zero, List.set_cons_succ]
                      refine hk_take (i := 8) (some 69) (.int .i64 (p1 : Int)) (by kernel_rfl) (by kernel_rfl) (by kernel_rfl) (by kernel_rfl) (by kernel_rfl) (by kernel_rfl) (fun W hS => exec_loadCell 3 (.tmp 68) ⟨b2, ob + j * 65, none⟩ _ _ (by kernel_rfl) (by kernel_rfl) (by rw [hS.cell (p := ⟨b2, ob + j * 65, none⟩) hb2]; exact ct) Try.underlying3 rfl) (fun _ _ d _ _ h => by cases d <;> exact h) BY ?_
                      simp only [put_lit, put_non, List.set_cons_zero, List.set_cons_succ]
                      refine hk_take (i := 9) (some 70) (.int .i64 (q : Int)) (by kernel_rfl) (by kernel_rfl) (by kernel_rfl) (by kernel_rfl) (by kernel_rfl) (by kernel_rfl) (fun W hS => by kernel_rfl) (fun _ _ d _ _ h => by cases d <;> exact h) BY ?_
                      simp only [put_lit, put_non, List.set_cons_zero, List.set_cons_succ]
                      refine hk_take (i := 10) (some 71) (.pointer (some ⟨g, 0, none⟩)) (by kernel_rfl) (by kernel_rfl) (by kernel_rfl) (by kernel_rfl) (by kernel_rfl) (by kernel_rfl) (fun W hS => by kernel_rfl) (fun _ _ d _ _ h => by cases d <;> exact h) BY ?_
                      simp only [put_lit, put_non, List.set_cons_zero, List.set_cons_succ]
                      refine hk_take (i := 11) (some 72) (.pointer (some ⟨g, 0, none⟩)) (by kernel_rfl) (by kernel_rfl) (by kernel_rfl) (by kernel_rfl) (by kernel_rfl) (by kernel_rfl) (fun W hS => by kernel_rfl) (fun _ _ d _ _ h => by cases d <;> exact h) BY ?_
                      simp only [put_lit, put_non, List.set_cons_zero, List.set_cons_succ]
                      refine hk_take (i := 12) (some 73) (.pointer (some ⟨g, 1, none⟩)) (by kernel_rfl) (by kernel_rfl) (by kernel_rfl) (by kernel_rfl) (by kernel_rfl) (by kernel_rfl) (fun W hS => by kernel_rfl) (fun _ _ d _ _ h => by cases d <;> exact h) BY ?_
                      simp only [put_lit, put_non, List.set_cons_zero, List.set_cons_succ]
                      refine hk_take (i := 13) (some 74) (.slice (some ⟨b2, ob, none⟩) m c2) (by kernel_rfl) (by kernel_rfl) (by kernel_rfl) (by kernel_rfl) (by kernel_rfl) (by kernel_rfl) (fun W hS => exec_loadCell 62 (.tmp 73) ⟨g, 1, none⟩ _ _ (by kernel_rfl) (by kernel_rfl) (by rw [hS.cell (p := ⟨g, 1, none⟩) hgl]; exact c1) Try.underlying62 rfl) (fun _ _ d _ _ h => by cases d <;> exact h) BY ?_
                      simp only [put_lit, put_non, List.set_cons_zero, List.set_cons_succ]
                      refine hk_take (i := 14) (some 75) (.int .i64 (j : Int)) (by kernel_rfl) (by kernel_rfl) (by kernel_rfl) (by kernel_rfl) (by kernel_rfl) (by kernel_rfl) (fun W hS => by kernel_rfl) (fun _ _ d _ _ h => by cases d <;> exact h) BY ?_
                      simp only [put_lit, put_non, List.set_cons_zero, List.set_cons_succ]
                      refine hk_take (i := 15) (some 76) (.int .i64 (q : Int)) (by kernel_rfl) (by kernel_rfl) (by kernel_rfl) (by kernel_rfl) (by kernel_rfl) (by kernel_rfl) (fun W hS => by kernel_rfl) (fun _ _ d _ _ h => by cases d <;> exact h) BY ?_
                      simp only [put_lit, put_non, List.set_cons_zero, List.set_cons_succ]
                      refine hk_take (i := 16) (some 77) (.pointer (some ⟨b2, ob + j * 65, none⟩)) (by kernel_rfl) (by kernel_rfl) (by kernel_rfl) (by kernel_rfl) (by kernel_rfl) (by kernel_rfl) (fun W hS => exec_indexC Try.underlying62 info_pen 74 75 (n := m) (c := c2) (by kernel_rfl) (by kernel_rfl) (by kernel_rfl) hjm) (fun _ _ d _ _ h => by cases d <;> exact h) BY ?_
                      simp only [put_lit, put_non, List.set_cons_zero, List.set_cons_succ]
                      refine hk_take (i := 17) (some 78) (.pointer (some ⟨b2, ob + j * 65 + 1, none⟩)) (by kernel_rfl) (by kernel_rfl) (by kernel_rfl) (by kernel_rfl) (by kernel_rfl) (by kernel_rfl) (fun W hS => exec_pen1 77 (by kernel_rfl) (by kernel_rfl)) (fun _ _ d _ _ h => by cases d <;> exact h) BY ?_
                      simp only [put_lit, put_non, List.set_cons_zero, List.set_cons_succ]
                      refine hk_take (i := 18) (some 79) (.pointer (some ⟨b2, ob + j * 65 + 1 + q, none⟩)) (by kernel_rfl) (by kernel_rfl) (by kernel_rfl) (by kernel_rfl) (by kernel_rfl) (by kernel_rfl) (fun W hS => exec_indexA 78 76 (by kernel_rfl) (by kernel_rfl) (by kernel_rfl) hq64) (fun _ _ d _ _ h => by cases d <;> exact h) BY ?_
                      simp only [put_lit, put_non, List.set_cons_zero, List.set_cons_succ]
                      refine hk_take (i := 19) (some 80) (.int .u8 (cb : Int)) (by kernel_rfl) (by kernel_rfl) (by kernel_rfl) (by kernel_rfl) (by kernel_rfl) (by kernel_rfl) (fun W hS => exec_loadB 79 (by rw [hS.cell (p := ⟨b2, ob + j * 65 + 1 + q, none⟩) hb2]; exact cq) (by kernel_rfl) (by kernel_rfl)) (fun _ _ d _ _ h => by cases d <;> exact h) BY ?_
                      simp only [put_lit, put_non, List.set_cons_zero, List.set_cons_succ]
                      refine hk_take (i := 20) (some 81) (.pointer (some ⟨gr, 0 + p1 * 64, none⟩)) (by kernel_rfl) (by kernel_rfl) (by kernel_rfl) (by kernel_rfl) (by kernel_rfl) (by kernel_rfl) (fun W hS => exec_indexC Try.underlying61 info_sec 61 69 (n := n) (c := cr) (by kernel_rfl) (by kernel_rfl) (by kernel_rfl) hpn) (fun _ _ d _ _ h => by cases d <;> exact h) BY ?_
                      simp only [put_lit, put_non, List.set_cons_zero, List.set_cons_succ]
                      refine hk_take (i := 21) (some 82) (.pointer (some ⟨gr, 0 + p1 * 64 + q, none⟩)) (by kernel_rfl) (by kernel_rfl) (by kernel_rfl) (by kernel_rfl) (by kernel_rfl) (by kernel_rfl) (fun W hS => exec_indexA 81 70 (by kernel_rfl) (by kernel_rfl) (by kernel_rfl) hq64) (fun _ _ d _ _ h => by cases d <;> exact h) BY ?_
                      simp only [put_lit, put_non, List.set_cons_zero, List.set_cons_succ]
                      refine hk_one (i := 22) (by kernel_rfl) ?_
                      refine op_skip none (yd.setCell ⟨gr, 0 + p1 * 64 + q, none⟩ (.int .u8 (cb : Int))) (by kernel_rfl) (by kernel_rfl) (by kernel_rfl) (exec_storeB 82 80 (by kernel_rfl) (by kernel_rfl) (by kernel_rfl) hfz hcu) ?_
                      refine ⟨BN, ?_⟩
                      simp only [put_lit, put_non, List.set_cons_zero, List.set_cons_succ]
                      refine hk_done (by kernel_rfl) ?_
                      clear BN BY hfz hcu ct cq
                      generalize yd.setCell ⟨gr, 0 + p1 * 64 + q, none⟩ (.int .u8 (cb : Int)) = w5 at HON HBN ⊢
                      go_wp2_with fail
                      go_roundw
                      case rel => exact ⟨q + 1, by omega, by go_num, HON.out, HBN.out⟩
                      case measure => simp [intOf]; omega
                    · have HQ' : ¬ (q : Int) < N := by omega
                      have eq : q = N := by omega
                      have hO' : wr.ownsRow w.heap.size 72 64 (.slice (some ⟨gr, 0, none⟩) n cr) n (secC (crashL keep lst (N : Int) s.dur 0 (s.pend.take (j + 1)))) := by
                        rw [HFIN.out, HNN.out]
                        rw [eq] at hO
                        exact hO
                      have HO3 := Lib.hid hO'
                      have HB3 := Lib.hid hB
                      clear hO hO' hB eq
                      go_wp2_with fail
                      go_roundw
                      case rel => exact ⟨j + 1, by omega, by go_num, HO3.out, HB3.out⟩
                      case measure => simp [intOf]; omega
                · have hN : tornS lst torn j = 64 := by unfold tornS; rw [if_neg (fun h => h3 h.2.2)]
                  have h2i : torn ≥ 0 := h2
                  clear h1 h2
                  have HNN := Lib.hid hN
                  clear hsv hm hN
                  go_wp2_with fail
                  refine (SJ.out).mono ?_
                  rintro e w3 ⟨rfl, rfl⟩
                  go_wp2_with fail
                  have hO := HO.out
                  have hB := HBR.out
                  generalize wr = w4 at *
                  go_loopw [11] (fun k wr => ∃ q : Nat, q ≤ 64 ∧ k = .int .i64 q ∧ wr.ownsRow w.heap.size 72 64 (.slice (some ⟨gr, 0, none⟩) n cr) n (secC (LL.set p1 (mixS p2 X q))) ∧ Below w.heap.size w wr) (fun k _ => 64 - (intOf k).toNat)
                  case atStart => exact ⟨0, Nat.zero_le _, rfl, by rw [mixS_zero, HLX.out]; exact hO, hB⟩
                  case round =>
                    clear hO hB
                    obtain ⟨q, hq, rfl, hO, hB⟩ := hrel
                    have e1 : wr.cell? ⟨g, 1, none⟩ = some (.slice (some ⟨b2, ob, none⟩) m c2) := by rw [hB.cell (p := ⟨g, 1, none⟩) hgl]; exact c1
                    by_cases hqn : q < 64
                    · have HQ' : (q : Int) < 64 := by omega
                      have HO2 := Lib.hid hO
                      have HB2 := Lib.hid hB
                      clear hO hB
                      go_wp2_with fail
                      refine hk_begin (S := fun w' => Below w.heap.size w w') 23 (by kernel_rfl) (by kernel_rfl) ?_
                      have hOd := own_below HO2.out ((Below.refl wr.heap.size wr).drew) (Nat.le_refl _)
                      have BY := HB2.out.drew
                      generalize wr.drew = yd at hOd BY ⊢
                      obtain ⟨hX64, hp64, hLn, hL64⟩ := HSZ.out
                      have hq64 : q < 64 := by omega
                      have hpn := HPN.out
                      have ct := CT.out
                      have cq : w.cell? ⟨b2, ob + j * 65 + 1 + q, none⟩ = some (.int .u8 ((p2.getD q 0).toNat : Int)) := RT.out q _ (Y_get p2 q (by omega))
                      have hsetL : (LL.set p1 (mixS p2 X q)).length = n := by rw [List.length_set]; exact hLn
                      have hM64 : ∀ x ∈ LL.set p1 (mixS p2 X q), x.length = 64 := fun x hx => by
                        rcases List.mem_or_eq_of_mem_set hx with h1 | h1
                        · exact hL64 x h1
                        · rw [h1]; exact mixS_length hp64 hX64 (by omega)
                      have hbyte := secC_byte (L := LL.set p1 (mixS p2 X q)) (i := p1) (k := q) (c := p2.getD q 0) (by omega) hq64 hM64
                      rw [List.getElem_set_self, List.set_set, mixS_set hp64 hX64 hq64] at hbyte
                      obtain ⟨hON, hgb, hfz, u0, hcu⟩ := own_put hOd (o := 0 + p1 * 64 + q) (by omega) (.int .u8 ((p2.getD q 0).toNat : Int))
                      have hs : (secC (LL.set p1 (mixS p2 X q))).set (0 + p1 * 64 + q) (.int .u8 ((p2.getD q 0).toNat : Int)) = secC (LL.set p1 (mixS p2 X (q + 1))) := by rw [Nat.zero_add]; exact hbyte
                      rw [hs] at hON
                      have BN := BY.setCell (p := ⟨gr, 0 + p1 * 64 + q, none⟩) hgb (.int .u8 ((p2.getD q 0).toNat : Int))
                      generalize (p2.getD q 0).toNat = cb at hON BN cq
                      have HON := Lib.hid hON
                      have HBN := Lib.hid BN
                      clear hON hs hbyte hM64 hsetL hL64 hOd
                      refine hk_take (i := 0) (some 61) (.slice (some ⟨gr, 0, none⟩) n cr) (by kernel_rfl) (by kernel_rfl) (by kernel_rfl) (by kernel_rfl) (by kernel_rfl) (by kernel_rfl) (fun W hS => by kernel_rfl) (fun _ _ d _ _ h => by cases d <;> exact h) BY ?_
                      simp only [put_lit, put_non, List.set_cons_zero, List.set_cons_succ]
                      refine hk_take (i := 1) (some 62) (.pointer (some ⟨g, 0, none⟩)) (by kernel_rfl) (by kernel_rfl) (by kernel_rfl) (by kernel_rfl) (by kernel_rfl) (by kernel_rfl) (fun W hS => by kernel_rfl) (fun _ _ d _ _ h => by cases d <;> exact h) BY ?_
                      simp only [put_lit, put_non, List.set_cons_zero, List.set_cons_succ]
                      refine hk_take (i := 2) (some 63) (.pointer (some ⟨g, 0, none⟩)) (by kernel_rfl) (by kernel_rfl) (by kernel_rfl) (by kernel_rfl) (by kernel_rfl) (by kernel_rfl) (fun W hS => by kernel_rfl) (fun _ _ d _ _ h => by cases d <;> exact h) BY ?_
                      simp only [put_lit, put_non, List.set_cons_zero, List.set_cons_succ]
                      refine hk_take (i := 3) (some 64) (.pointer (some ⟨g, 1, none⟩)) (by kernel_rfl) (by kernel_rfl) (by kernel_rfl) (by kernel_rfl) (by kernel_rfl) (by kernel_rfl) (fun W hS => by kernel_rfl) (fun _ _ d _ _ h => by cases d <;> exact h) BY ?_
                      simp only [put_lit, put_non, List.set_cons_zero, List.set_cons_succ]
                      refine hk_take (i := 4) (some 65) (.slice (some ⟨b2, ob, none⟩) m c2) (by kernel_rfl) (by kernel_rfl) (by kernel_rfl) (by kernel_rfl) (by kernel_rfl) (by kernel_rfl) (fun W hS => exec_loadCell 62 (.tmp 64) ⟨g, 1, none⟩ _ _ (by kernel_rfl) (by kernel_rfl) (by rw [hS.cell (p := ⟨g, 1, none⟩) hgl]; exact c1) Try.underlying62 rfl) (fun _ _ d _ _ h => by cases d <;> exact h) BY ?_
                      simp only [put_lit, put_non, List.set_cons_zero, List.set_cons_succ]
                      refine hk_take (i := 5) (some 66) (.int .i64 (j : Int)) (by kernel_rfl) (by kernel_rfl) (by kernel_rfl) (by kernel_rfl) (by kernel_rfl) (by kernel_rfl) (fun W hS => by kernel_rfl) (fun _ _ d _ _ h => by cases d <;> exact h) BY ?_
                      simp only [put_lit, put_non, List.set_cons_zero, List.set_cons_succ]
                      refine hk_take (i := 6) (some 67) (.pointer (some ⟨b2, ob + j * 65, none⟩)) (by kernel_rfl) (by kernel_rfl) (by kernel_rfl) (by kernel_rfl) (by kernel_rfl) (by kernel_rfl) (fun W hS => exec_indexC Try.underlying62 info_pen 65 66 (n := m) (c := c2) (by kernel_rfl) (by kernel_rfl) (by kernel_rfl) hjm) (fun _ _ d _ _ h => by cases d <;> exact h) BY ?_
                      simp only [put_lit, put_non, List.set_cons_zero, List.set_cons_succ]
                      refine hk_take (i := 7) (some 68) (.pointer (some ⟨b2, ob + j * 65, none⟩)) (by kernel_rfl) (by kernel_rfl) (by kernel_rfl) (by kernel_rfl) (by kernel_rfl) (by kernel_rfl) (fun W hS => exec_pen0 67 (by kernel_rfl) (by kernel_rfl)) (fun _ _ d _ _ h => by cases d <;> exact h) BY ?_
                      simp only [put_lit, put_non, List.set_cons_zero, List.set_cons_succ]
                      refine hk_take (i := 8) (some 69) (.int .i64 (p1 : Int)) (by kernel_rfl) (by kernel_rfl) (by kernel_rfl) (by kernel_rfl) (by kernel_rfl) (by kernel_rfl) (fun W hS => exec_loadCell 3 (.tmp 68) ⟨b2, ob + j * 65, none⟩ _ _ (by kernel_rfl) (by kernel_rfl) (by rw [hS.cell (p := ⟨b2, ob + j * 65, none⟩) hb2]; exact ct) Try.underlying3 rfl) (fun _ _ d _ _ h => by cases d <;> exact h) BY ?_
                      simp only [put_lit, put_non, List.set_cons_zero, List.set_cons_succ]
                      refine hk_take (i := 9) (some 70) (.int .i64 (q : Int)) (by kernel_rfl) (by kernel_rfl) (by kernel_rfl) (by kernel_rfl) (by kernel_rfl) (by kernel_rfl) (fun W hS => by kernel_rfl) (fun _ _ d _ _ h => by cases d <;> exact h) BY ?_
                      simp only [put_lit, put_non, List.set_cons_zero, List.set_cons_succ]
                      refine hk_take (i := 10) (some 71) (.pointer (some ⟨g, 0, none⟩)) (by kernel_rfl) (by kernel_rfl) (by kernel_rfl) (by kernel_rfl) (by kernel_rfl) (by kernel_rfl) (fun W hS => by kernel_rfl) (fun _ _ d _ _ h => by cases d <;> exact h) BY ?_
                      simp only [put_lit, put_non, List.set_cons_zero, List.set_cons_succ]
                      refine hk_take (i := 11) (some 72) (.pointer (some ⟨g, 0, none⟩)) (by kernel_rfl) (by kernel_rfl) (by kernel_rfl) (by kernel_rfl) (by kernel_rfl) (by kernel_rfl) (fun W hS => by kernel_rfl) (fun _ _ d _ _ h => by cases d <;> exact h) BY ?_
                      simp only [put_lit, put_non, List.set_cons_zero, List.set_cons_succ]
                      refine hk_take (i := 12) (some 73) (.pointer (some ⟨g, 1, none⟩)) (by kernel_rfl) (by kernel_rfl) (by kernel_rfl) (by kernel_rfl) (by kernel_rfl) (by kernel_rfl) (fun W hS => by kernel_rfl) (fun _ _ d _ _ h => by cases d <;> exact h) BY ?_
                      simp only [put_lit, put_non, List.set_cons_zero, List.set_cons_succ]
                      refine hk_take (i := 13) (some 74) (.slice (some ⟨b2, ob, none⟩) m c2) (by kernel_rfl) (by kernel_rfl) (by kernel_rfl) (by kernel_rfl) (by kernel_rfl) (by kernel_rfl) (fun W hS => exec_loadCell 62 (.tmp 73) ⟨g, 1, none⟩ _ _ (by kernel_rfl) (by kernel_rfl) (by rw [hS.cell (p := ⟨g, 1, none⟩) hgl]; exact c1) Try.underlying62 rfl) (fun _ _ d _ _ h => by cases d <;> exact h) BY ?_
                      simp only [put_lit, put_non, List.set_cons_zero, List.set_cons_succ]
                      refine hk_take (i := 14) (some 75) (.int .i64 (j : Int)) (by kernel_rfl) (by kernel_rfl) (by kernel_rfl) (by kernel_rfl) (by kernel_rfl) (by kernel_rfl) (fun W hS => by kernel_rfl) (fun _ _ d _ _ h => by cases d <;> exact h) BY ?_
                      simp only [put_lit, put_non, List.set_cons_zero, List.set_cons_succ]
                      refine hk_take (i := 15) (some 76) (.int .i64 (q : Int)) (by kernel_rfl) (by kernel_rfl) (by kernel_rfl) (by kernel_rfl) (by kernel_rfl) (by kernel_rfl) (fun W hS => by kernel_rfl) (fun _ _ d _ _ h => by cases d <;> exact h) BY ?_
                      simp only [put_lit, put_non, List.set_cons_zero, List.set_cons_succ]
                      refine hk_take (i := 16) (some 77) (.pointer (some ⟨b2, ob + j * 65, none⟩)) (by kernel_rfl) (by kernel_rfl) (by kernel_rfl) (by kernel_rfl) (by kernel_rfl) (by kernel_rfl) (fun W hS => exec_indexC Try.underlying62 info_pen 74 75 (n := m) (c := c2) (by kernel_rfl) (by kernel_rfl) (by kernel_rfl) hjm) (fun _ _ d _ _ h => by cases d <;> exact h) BY ?_
                      simp only [put_lit, put_non, List.set_cons_zero, List.set_cons_succ]
                      refine hk_take (i := 17) (some 78) (.pointer (some ⟨b2, ob + j * 65 + 1, none⟩)) (by kernel_rfl) (by kernel_rfl) (by kernel_rfl) (by kernel_rfl) (by kernel_rfl) (by kernel_rfl) (fun W hS => exec_pen1 77 (by kernel_rfl) (by kernel_rfl)) (fun _ _ d _ _ h => by cases d <;> exact h) BY ?_
                      simp only [put_lit, put_non, List.set_cons_zero, List.set_cons_succ]
                      refine hk_take (i := 18) (some 79) (.pointer (some ⟨b2, ob + j * 65 + 1 + q, none⟩)) (by kernel_rfl) (by kernel_rfl) (by kernel_rfl) (by kernel_rfl) (by kernel_rfl) (by kernel_rfl) (fun W hS => exec_indexA 78 76 (by kernel_rfl) (by kernel_rfl) (by kernel_rfl) hq64) (fun _ _ d _ _ h => by cases d <;> exact h) BY ?_
                      simp only [put_lit, put_non, List.set_cons_zero, List.set_cons_succ]
                      refine hk_take (i := 19) (some 80) (.int .u8 (cb : Int)) (by kernel_rfl) (by kernel_rfl) (by kernel_rfl) (by kernel_rfl) (by kernel_rfl) (by kernel_rfl) (fun W hS => exec_loadB 79 (by rw [hS.cell (p := ⟨b2, ob + j * 65 + 1 + q, none⟩) hb2]; exact cq) (by kernel_rfl) (by kernel_rfl)) (fun _ _ d _ _ h => by cases d <;> exact h) BY ?_
                      simp only [put_lit, put_non, List.set_cons_zero, List.set_cons_succ]
                      refine hk_take (i := 20) (some 81) (.pointer (some ⟨gr, 0 + p1 * 64, none⟩)) (by kernel_rfl) (by kernel_rfl) (by kernel_rfl) (by kernel_rfl) (by kernel_rfl) (by kernel_rfl) (fun W hS => exec_indexC Try.underlying61 info_sec 61 69 (n := n) (c := cr) (by kernel_rfl) (by kernel_rfl) (by kernel_rfl) hpn) (fun _ _ d _ _ h => by cases d <;> exact h) BY ?_
                      simp only [put_lit, put_non, List.set_cons_zero, List.set_cons_succ]
                      refine hk_take (i := 21) (some 82) (.pointer (some ⟨gr, 0 + p1 * 64 + q, none⟩)) (by kernel_rfl) (by kernel_rfl) (by kernel_rfl) (by kernel_rfl) (by kernel_rfl) (by kernel_rfl) (fun W hS => exec_indexA 81 70 (by kernel_rfl) (by kernel_rfl) (by kernel_rfl) hq64) (fun _ _ d _ _ h => by cases d <;> exact h) BY ?_
                      simp only [put_lit, put_non, List.set_cons_zero, List.set_cons_succ]
                      refine hk_one (i := 22) (by kernel_rfl) ?_
                      refine op_skip none (yd.setCell ⟨gr, 0 + p1 * 64 + q, none⟩ (.int .u8 (cb : Int))) (by kernel_rfl) (by kernel_rfl) (by kernel_rfl) (exec_storeB 82 80 (by kernel_rfl) (by kernel_rfl) (by kernel_rfl) hfz hcu) ?_
                      refine ⟨BN, ?_⟩
                      simp only [put_lit, put_non, List.set_cons_zero, List.set_cons_succ]
                      refine hk_done (by kernel_rfl) ?_
                      clear BN BY hfz hcu ct cq
                      generalize yd.setCell ⟨gr, 0 + p1 * 64 + q, none⟩ (.int .u8 (cb : Int)) = w5 at HON HBN ⊢
                      go_wp2_with fail
                      go_roundw
                      case rel => exact ⟨q + 1, by omega, by go_num, HON.out, HBN.out⟩
                      case measure => simp [intOf]; omega
                    · have HQ' : ¬ (q : Int) < 64 := by omega
                      have eq : q = 64 := by omega
                      have hO' : wr.ownsRow w.heap.size 72 64 (.slice (some ⟨gr, 0, none⟩) n cr) n (secC (crashL keep lst torn s.dur 0 (s.pend.take (j + 1)))) := by
                        rw [HFIN.out, HNN.out]
                        rw [eq] at hO
                        exact hO
                      have HO3 := Lib.hid hO'
                      have HB3 := Lib.hid hB
                      clear hO hO' hB eq
                      go_wp2_with fail
                      go_roundw
                      case rel => exact ⟨j + 1, by omega, by go_num, HO3.out, HB3.out⟩
                      case measure => simp [intOf]; omega
              · have hN : tornS lst torn j = 64 := by unfold tornS; rw [if_neg (fun h => h2 h.2.1)]
                have h2i : ¬ torn ≥ 0 := h2
                clear h1 h2
                have HNN := Lib.hid hN
                clear hsv hm hN
                go_wp2_with fail
                refine (SJ.out).mono ?_
                rintro e w3 ⟨rfl, rfl⟩
                go_wp2_with fail
                have hO := HO.out
                have hB := HBR.out
                generalize wr = w4 at *
                go_loopw [11] (fun k wr => ∃ q : Nat, q ≤ 64 ∧ k = .int .i64 q ∧ wr.ownsRow w.heap.size 72 64 (.slice (some ⟨gr, 0, none⟩) n cr) n (secC (LL.set p1 (mixS p2 X q))) ∧ Below w.heap.size w wr) (fun k _ => 64 - (intOf k).toNat)
                case atStart => exact ⟨0, Nat.zero_le _, rfl, by rw [mixS_zero, HLX.out]; exact hO, hB⟩
                case round =>
                  clear hO hB
                  obtain ⟨q, hq, rfl, hO, hB⟩ := hrel
                  have e1 : wr.cell? ⟨g, 1, none⟩ = some (.slice (some ⟨b2, ob, none⟩) m c2) := by rw [hB.cell (p := ⟨g, 1, none⟩) hgl]; exact c1
                  by_cases hqn : q < 64
                  · have HQ' : (q : Int) < 64 := by omega
                    have HO2 := Lib.hid hO
                    have HB2 := Lib.hid hB
                    clear hO hB
                    go_wp2_with fail
                    refine hk_begin (S := fun w' => Below w.heap.size w w') 23 (by kernel_rfl) (by kernel_rfl) ?_
                    have hOd := own_below HO2.out ((Below.refl wr.heap.size wr).drew) (Nat.le_refl _)
                    have BY := HB2.out.drew
                    generalize wr.drew = yd at hOd BY ⊢
                    obtain ⟨hX64, hp64, hLn, hL64⟩ := HSZ.out
                    have hq64 : q < 64 := by omega
                    have hpn := HPN.out
                    have ct := CT.out
                    have cq : w.cell? ⟨b2, ob + j * 65 + 1 + q, none⟩ = some (.int .u8 ((p2.getD q 0).toNat : Int)) := RT.out q _ (Y_get p2 q (by omega))
                    have hsetL : (LL.set p1 (mixS p2 X q)).length = n := by rw [List.length_set]; exact hLn
                    have hM64 : ∀ x ∈ LL.set p1 (mixS p2 X q), x.length = 64 := fun x hx => by
                      rcases List.mem_or_eq_of_mem_set hx with h1 | h1
                      · exact hL64 x h1
                      · rw [h1]; exact mixS_length hp64 hX64 (by omega)
                    have hbyte := secC_byte (L := LL.set p1 (mixS p2 X q)) (i := p1) (k := q) (c := p2.getD q 0) (by omega) hq64 hM64
                    rw [List.getElem_set_self, List.set_set, mixS_set hp64 hX64 hq64] at hbyte
                    obtain ⟨hON, hgb, hfz, u0, hcu⟩ := own_put hOd (o := 0 + p1 * 64 + q) (by omega) (.int .u8 ((p2.getD q 0).toNat : Int))
                    have hs : (secC (LL.set p1 (mixS p2 X q))).set (0 + p1 * 64 + q) (.int .u8 ((p2.getD q 0).toNat : Int)) = secC (LL.set p1 (mixS p2 X (q + 1))) := by rw [Nat.zero_add]; exact hbyte
                    rw [hs] at hON
                    have BN := BY.setCell (p := ⟨gr, 0 + p1 * 64 + q, none⟩) hgb (.int .u8 ((p2.getD q 0).toNat : Int))
                    generalize (p2.getD q 0).toNat = cb at hON BN cq
                    have HON := Lib.hid hON
                    have HBN := Lib.hid BN
                    clear hON hs hbyte hM64 hsetL hL64 hOd
                    refine hk_take (i := 0) (some 61) (.slice (some ⟨gr, 0, none⟩) n cr) (by kernel_rfl) (by kernel_rfl) (by kernel_rfl) (by kernel_rfl) (by kernel_rfl) (by kernel_rfl) (fun W hS => by kernel_rfl) (fun _ _ d _ _ h => by cases d <;> exact h) BY ?_
                    simp only [put_lit, put_non, List.set_cons_zero, List.set_cons_succ]
                    refine hk_take (i := 1) (some 62) (.pointer (some ⟨g, 0, none⟩)) (by kernel_rfl) (by kernel_rfl) (by kernel_rfl) (by kernel_rfl) (by kernel_rfl) (by kernel_rfl) (fun W hS => by kernel_rfl) (fun _ _ d _ _ h => by cases d <;> exact h) BY ?_
                    simp only [put_lit, put_non, List.set_cons_zero, List.set_cons_succ]
                    refine hk_take (i := 2) (some 63) (.pointer (some ⟨g, 0, none⟩)) (by kernel_rfl) (by kernel_rfl) (by kernel_rfl) (by kernel_rfl) (by kernel_rfl) (by kernel_rfl) (fun W hS => by kernel_rfl) (fun _ _ d _ _ h => by cases d <;> exact h) BY ?_
                    simp only [put_lit, put_non, List.set_cons_zero, List.set_cons_succ]
                    refine hk_take (i := 3) (some 64) (.pointer (some ⟨g, 1, none⟩)) (by kernel_rfl) (by kernel_rfl) (by kernel_rfl) (by kernel_rfl) (by kernel_rfl) (by kernel_rfl) (fun W hS => by kernel_rfl) (fun _ _ d _ _ h => by cases d <;> exact h) BY ?_
                    simp only [put_lit, put_non, List.set_cons_zero, List.set_cons_succ]
                    refine hk_take (i := 4) (some 65) (.slice (some ⟨b2, ob, none⟩) m c2) (by kernel_rfl) (by kernel_rfl) (by kernel_rfl) (by kernel_rfl) (by kernel_rfl) (by kernel_rfl) (fun W hS => exec_loadCell 62 (.tmp 64) ⟨g, 1, none⟩ _ _ (by kernel_rfl) (by kernel_rfl) (by rw [hS.cell (p := ⟨g, 1, none⟩) hgl]; exact c1) Try.underlying62 rfl) (fun _ _ d _ _ h => by cases d <;> exact h) BY ?_
                    simp only [put_lit, put_non, List.set_cons_zero, List.set_cons_succ]
                    refine hk_take (i := 5) (some 66) (.int .i64 (j : Int)) (by kernel_rfl) (by kernel_rfl) (by kernel_rfl) (by kernel_rfl) (by kernel_rfl) (by kernel_rfl) (fun W hS => by kernel_rfl) (fun _ _ d _ _ h => by cases d <;> exact h) BY ?_
                    simp only [put_lit, put_non, List.set_cons_zero, List.set_cons_succ]
                    refine hk_take (i := 6) (some 67) (.pointer (some ⟨b2, ob + j * 65, none⟩)) (by kernel_rfl) (by kernel_rfl) (by kernel_rfl) (by kernel_rfl) (by kernel_rfl) (by kernel_rfl) (fun W hS => exec_indexC Try.underlying62 info_pen 65 66 (n := m) (c := c2) (by kernel_rfl) (by kernel_rfl) (by kernel_rfl) hjm) (fun _ _ d _ _ h => by cases d <;> exact h) BY ?_
                    simp only [put_lit, put_non, List.set_cons_zero, List.set_cons_succ]
                    refine hk_take (i := 7) (some 68) (.pointer (some ⟨b2, ob + j * 65, none⟩)) (by kernel_rfl) (by kernel_rfl) (by kernel_rfl) (by kernel_rfl) (by kernel_rfl) (by kernel_rfl) (fun W hS => exec_pen0 67 (by kernel_rfl) (by kernel_rfl)) (fun _ _ d _ _ h => by cases d <;> exact h) BY ?_
                    simp only [put_lit, put_non, List.set_cons_zero, List.set_cons_succ]
                    refine hk_take (i := 8) (some 69) (.int .i64 (p1 : Int)) (by kernel_rfl) (by kernel_rfl) (by kernel_rfl) (by kernel_rfl) (by kernel_rfl) (by kernel_rfl) (fun W hS => exec_loadCell 3 (.tmp 68) ⟨b2, ob + j * 65, none⟩ _ _ (by kernel_rfl) (by kernel_rfl) (by rw [hS.cell (p := ⟨b2, ob + j * 65, none⟩) hb2]; exact ct) Try.underlying3 rfl) (fun _ _ d _ _ h => by cases d <;> exact h) BY ?_
                    simp only [put_lit, put_non, List.set_cons_zero, List.set_cons_succ]
                    refine hk_take (i := 9) (some 70) (.int .i64 (q : Int)) (by kernel_rfl) (by kernel_rfl) (by kernel_rfl) (by kernel_rfl) (by kernel_rfl) (by kernel_rfl) (fun W hS => by kernel_rfl) (fun _ _ d _ _ h => by cases d <;> exact h) BY ?_
                    simp only [put_lit, put_non, List.set_cons_zero, List.set_cons_succ]
                    refine hk_take (i := 10) (some 71) (.pointer (some ⟨g, 0, none⟩)) (by kernel_rfl) (by kernel_rfl) (by kernel_rfl) (by kernel_rfl) (by kernel_rfl) (by kernel_rfl) (fun W hS => by kernel_rfl) (fun _ _ d _ _ h => by cases d <;> exact h) BY ?_
                    simp only [put_lit, put_non, List.set_cons_zero, List.set_cons_succ]
                    refine hk_take (i := 11) (some 72) (.pointer (some ⟨g, 0, none⟩)) (by kernel_rfl) (by kernel_rfl) (by kernel_rfl) (by kernel_rfl) (by kernel_rfl) (by kernel_rfl) (fun W hS => by kernel_rfl) (fun _ _ d _ _ h => by cases d <;> exact h) BY ?_
                    simp only [put_lit, put_non, List.set_cons_zero, List.set_cons_succ]
                    refine hk_take (i := 12) (some 73) (.pointer (some ⟨g, 1, none⟩)) (by kernel_rfl) (by kernel_rfl) (by kernel_rfl) (by kernel_rfl) (by kernel_rfl) (by kernel_rfl) (fun W hS => by kernel_rfl) (fun _ _ d _ _ h => by cases d <;> exact h) BY ?_
                    simp only [put_lit, put_non, List.set_cons_zero, List.set_cons_succ]
                    refine hk_take (i := 13) (some 74) (.slice (some ⟨b2, ob, none⟩) m c2) (by kernel_rfl) (by kernel_rfl) (by kernel_rfl) (by kernel_rfl) (by kernel_rfl) (by kernel_rfl) (fun W hS => exec_loadCell 62 (.tmp 73) ⟨g, 1, none⟩ _ _ (by kernel_rfl) (by kernel_rfl) (by rw [hS.cell (p := ⟨g, 1, none⟩) hgl]; exact c1) Try.underlying62 rfl) (fun _ _ d _ _ h => by cases d <;> exact h) BY ?_
                    simp only [put_lit, put_non, List.set_cons_zero, List.set_cons_succ]
                    refine hk_take (i := 14) (some 75) (.int .i64 (j : Int)) (by kernel_rfl) (by kernel_rfl) (by kernel_rfl) (by kernel_rfl) (by kernel_rfl) (by kernel_rfl) (fun W hS => by kernel_rfl) (fun _ _ d _ _ h => by cases d <;> exact h) BY ?_
                    simp only [put_lit, put_non, List.set_cons_zero, List.set_cons_succ]
                    refine hk_take (i := 15) (some 76) (.int .i64 (q : Int)) (by kernel_rfl) (by kernel_rfl) (by kernel_rfl) (by kernel_rfl) (by kernel_rfl) (by kernel_rfl) (fun W hS => by kernel_rfl) (fun _ _ d _ _ h => by cases d <;> exact h) BY ?_
                    simp only [put_lit, put_non, List.set_cons_zero, List.set_cons_succ]
                    refine hk_take (i := 16) (some 77) (.pointer (some ⟨b2, ob + j * 65, none⟩)) (by kernel_rfl) (by kernel_rfl) (by kernel_rfl) (by kernel_rfl) (by kernel_rfl) (by kernel_rfl) (fun W hS => exec_indexC Try.underlying62 info_pen 74 75 (n := m) (c := c2) (by kernel_rfl) (by kernel_rfl) (by kernel_rfl) hjm) (fun _ _ d _ _ h => by cases d <;> exact h) BY ?_
                    simp only [put_lit, put_non, List.set_cons_zero, List.set_cons_succ]
                    refine hk_take (i := 17) (some 78) (.pointer (some ⟨b2, ob + j * 65 + 1, none⟩)) (by kernel_rfl) (by kernel_rfl) (by kernel_rfl) (by kernel_rfl) (by kernel_rfl) (by kernel_rfl) (fun W hS => exec_pen1 77 (by kernel_rfl) (by kernel_rfl)) (fun _ _ d _ _ h => by cases d <;> exact h) BY ?_
                    simp only [put_lit, put_non, List.set_cons_zero, List.set_cons_succ]
                    refine hk_take (i := 18) (some 79) (.pointer (some ⟨b2, ob + j * 65 + 1 + q, none⟩)) (by kernel_rfl) (by kernel_rfl) (by kernel_rfl) (by kernel_rfl) (by kernel_rfl) (by kernel_rfl) (fun W hS => exec_indexA 78 76 (by kernel_rfl) (by kernel_rfl) (by kernel_rfl) hq64) (fun _ _ d _ _ h => by cases d <;> exact h) BY ?_
                    simp only [put_lit, put_non, List.set_cons_zero, List.set_cons_succ]
                    refine hk_take (i := 19) (some 80) (.int .u8 (cb : Int)) (by kernel_rfl) (by kernel_rfl) (by kernel_rfl) (by kernel_rfl) (by kernel_rfl) (by kernel_rfl) (fun W hS => exec_loadB 79 (by rw [hS.cell (p := ⟨b2, ob + j * 65 + 1 + q, none⟩) hb2]; exact cq) (by kernel_rfl) (by kernel_rfl)) (fun _ _ d _ _ h => by cases d <;> exact h) BY ?_
                    simp only [put_lit, put_non, List.set_cons_zero, List.set_cons_succ]
                    refine hk_take (i := 20) (some 81) (.pointer (some ⟨gr, 0 + p1 * 64, none⟩)) (by kernel_rfl) (by kernel_rfl) (by kernel_rfl) (by kernel_rfl) (by kernel_rfl) (by kernel_rfl) (fun W hS => exec_indexC Try.underlying61 info_sec 61 69 (n := n) (c := cr) (by kernel_rfl) (by kernel_rfl) (by kernel_rfl) hpn) (fun _ _ d _ _ h => by cases d <;> exact h) BY ?_
                    simp only [put_lit, put_non, List.set_cons_zero, List.set_cons_succ]
                    refine hk_take (i := 21) (some 82) (.pointer (some ⟨gr, 0 + p1 * 64 + q, none⟩)) (by kernel_rfl) (by kernel_rfl) (by kernel_rfl) (by kernel_rfl) (by kernel_rfl) (by kernel_rfl) (fun W hS => exec_indexA 81 70 (by kernel_rfl) (by kernel_rfl) (by kernel_rfl) hq64) (fun _ _ d _ _ h => by cases d <;> exact h) BY ?_
                    simp only [put_lit, put_non, List.set_cons_zero, List.set_cons_succ]
                    refine hk_one (i := 22) (by kernel_rfl) ?_
                    refine op_skip none (yd.setCell ⟨gr, 0 + p1 * 64 + q, none⟩ (.int .u8 (cb : Int))) (by kernel_rfl) (by kernel_rfl) (by kernel_rfl) (exec_storeB 82 80 (by kernel_rfl) (by kernel_rfl) (by kernel_rfl) hfz hcu) ?_
                    refine ⟨BN, ?_⟩
                    simp only [put_lit, put_non, List.set_cons_zero, List.set_cons_succ]
                    refine hk_done (by kernel_rfl) ?_
                    clear BN BY hfz hcu ct cq
                    generalize yd.setCell ⟨gr, 0 + p1 * 64 + q, none⟩ (.int .u8 (cb : Int)) = w5 at HON HBN ⊢
                    go_wp2_with fail
                    go_roundw
                    case rel => exact ⟨q + 1, by omega, by go_num, HON.out, HBN.out⟩
                    case measure => simp [intOf]; omega
                  · have HQ' : ¬ (q : Int) < 64 := by omega
                    have eq : q = 64 := by omega
                    have hO' : wr.ownsRow w.heap.size 72 64 (.slice (some ⟨gr, 0, none⟩) n cr) n (secC (crashL keep lst torn s.dur 0 (s.pend.take (j + 1)))) := by
                      rw [HFIN.out, HNN.out]
                      rw [eq] at hO
                      exact hO
                    have HO3 := Lib.hid hO'
                    have HB3 := Lib.hid hB
                    clear hO hO' hB eq
                    go_wp2_with fail
                    go_roundw
                    case rel => exact ⟨j + 1, by omega, by go_num, HO3.out, HB3.out⟩
                    case measure => simp [intOf]; omega
            · have hN : tornS lst torn j = 64 := by unfold tornS; rw [if_neg (fun h => h1 h.1)]
              have h1i : ((j : Int) == (lst : Int) - 1) = false := by rw [beq_eq_false_iff_ne]; omega
              clear h1
              have HNN := Lib.hid hN
              clear hsv hm hN
              go_wp2_with fail
              refine (SJ.out).mono ?_
              rintro e w3 ⟨rfl, rfl⟩
              go_wp2_with fail
              have hO := HO.out
              have hB := HBR.out
              generalize wr = w4 at *
              go_loopw [11] (fun k wr => ∃ q : Nat, q ≤ 64 ∧ k = .int .i64 q ∧ wr.ownsRow w.heap.size 72 64 (.slice (some ⟨gr, 0, none⟩) n cr) n (secC (LL.set p1 (mixS p2 X q))) ∧ Below w.heap.size w wr) (fun k _ => 64 - (intOf k).toNat)
              case atStart => exact ⟨0, Nat.zero_le _, rfl, by rw [mixS_zero, HLX.out]; exact hO, hB⟩
              case round =>
                clear hO hB
                obtain ⟨q, hq, rfl, hO, hB⟩ := hrel
                have e1 : wr.cell? ⟨g, 1, none⟩ = some (.slice (some ⟨b2, ob, none⟩) m c2) := by rw [hB.cell (p := ⟨g, 1, none⟩) hgl]; exact c1
                by_cases hqn : q < 64
                · have HQ' : (q : Int) < 64 := by omega
                  have HO2 := Lib.hid hO
                  have HB2 := Lib.hid hB
                  clear hO hB
                  go_wp2_with fail
                  refine hk_begin (S := fun w' => Below w.heap.size w w') 23 (by kernel_rfl) (by kernel_rfl) ?_
                  have hOd := own_below HO2.out ((Below.refl wr.heap.size wr).drew) (Nat.le_refl _)
                  have BY := HB2.out.drew
                  generalize wr.drew = yd at hOd BY ⊢
                  obtain ⟨hX64, hp64, hLn, hL64⟩ := HSZ.out
                  have hq64 : q < 64 := by omega
                  have hpn := HPN.out
                  have ct := CT.out
                  have cq : w.cell? ⟨b2, ob + j * 65 + 1 + q, none⟩ = some (.int .u8 ((p2.getD q 0).toNat : Int)) := RT.out q _ (Y_get p2 q (by omega))
                  have hsetL : (LL.set p1 (mixS p2 X q)).length = n := by rw [List.length_set]; exact hLn
                  have hM64 : ∀ x ∈ LL.set p1 (mixS p2 X q), x.length = 64 := fun x hx => by
                    rcases List.mem_or_eq_of_mem_set hx with h1 | h1
                    · exact hL64 x h1
                    · rw [h1]; exact mixS_length hp64 hX64 (by omega)
                  have hbyte := secC_byte (L := LL.set p1 (mixS p2 X q)) (i := p1) (k := q) (c := p2.getD q 0) (by omega) hq64 hM64
                  rw [List.getElem_set_self, List.set_set, mixS_set hp64 hX64 hq64] at hbyte
                  obtain ⟨hON, hgb, hfz, u0, hcu⟩ := own_put hOd (o := 0 + p1 * 64 + q) (by omega) (.int .u8 ((p2.getD q 0).toNat : Int))
                  have hs : (secC (LL.set p1 (mixS p2 X q))).set (0 + p1 * 64 + q) (.int .u8 ((p2.getD q 0).toNat : Int)) = secC (LL.set p1 (mixS p2 X (q + 1))) := by rw [Nat.zero_add]; exact hbyte
                  rw [hs] at hON
                  have BN := BY.setCell (p := ⟨gr, 0 + p1 * 64 + q, none⟩) hgb (.int .u8 ((p2.getD q 0).toNat : Int))
                  generalize (p2.getD q 0).toNat = cb at hON BN cq
                  have HON := Lib.hid hON
                  have HBN := Lib.hid BN
                  clear hON hs hbyte hM64 hsetL hL64 hOd
                  refine hk_take (i := 0) (some 61) (.slice (some ⟨gr, 0, none⟩) n cr) (by kernel_rfl) (by kernel_rfl) (by kernel_rfl) (by kernel_rfl) (by kernel_rfl) (by kernel_rfl) (fun W hS => by kernel_rfl) (fun _ _ d _ _ h => by cases d <;> exact h) BY ?_
                  simp only [put_lit, put_non, List.set_cons_zero, List.set_cons_succ]
                  refine hk_take (i := 1) (some 62) (.pointer (some ⟨g, 0, none⟩)) (by kernel_rfl) (by kernel_rfl) (by kernel_rfl) (by kernel_rfl) (by kernel_rfl) (by kernel_rfl) (fun W hS => by kernel_rfl) (fun _ _ d _ _ h => by cases d <;> exact h) BY ?_
                  simp only [put_lit, put_non, List.set_cons_zero, List.set_cons_succ]
                  refine hk_take (i := 2) (some 63) (.pointer (some ⟨g, 0, none⟩)) (by kernel_rfl) (by kernel_rfl) (by kernel_rfl) (by kernel_rfl) (by kernel_rfl) (by kernel_rfl) (fun W hS => by kernel_rfl) (fun _ _ d _ _ h => by cases d <;> exact h) BY ?_
                  simp only [put_lit, put_non, List.set_cons_zero, List.set_cons_succ]
                  refine hk_take (i := 3) (some 64) (.pointer (some ⟨g, 1, none⟩)) (by kernel_rfl) (by kernel_rfl) (by kernel_rfl) (by kernel_rfl) (by kernel_rfl) (by kernel_rfl) (fun W hS => by kernel_rfl) (fun _ _ d _ _ h => by cases d <;> exact h) BY ?_
                  simp only [put_lit, put_non, List.set_cons_zero, List.set_cons_succ]
                  refine hk_take (i := 4) (some 65) (.slice (some ⟨b2, ob, none⟩) m c2) (by kernel_rfl) (by kernel_rfl) (by kernel_rfl) (by kernel_rfl) (by kernel_rfl) (by kernel_rfl) (fun W hS => exec_loadCell 62 (.tmp 64) ⟨g, 1, none⟩ _ _ (by kernel_rfl) (by kernel_rfl) (by rw [hS.cell (p := ⟨g, 1, none⟩) hgl]; exact c1) Try.underlying62 rfl) (fun _ _ d _ _ h => by cases d <;> exact h) BY ?_
                  simp only [put_lit, put_non, List.set_cons_zero, List.set_cons_succ]
                  refine hk_take (i := 5) (some 66) (.int .i64 (j : Int)) (by kernel_rfl) (by kernel_rfl) (by kernel_rfl) (by kernel_rfl) (by kernel_rfl) (by kernel_rfl) (fun W hS => by kernel_rfl) (fun _ _ d _ _ h => by cases d <;> exact h) BY ?_
                  simp only [put_lit, put_non, List.set_cons_zero, List.set_cons_succ]
                  refine hk_take (i := 6) (some 67) (.pointer (some ⟨b2, ob + j * 65, none⟩)) (by kernel_rfl) (by kernel_rfl) (by kernel_rfl) (by kernel_rfl) (by kernel_rfl) (by kernel_rfl) (fun W hS => exec_indexC Try.underlying62 info_pen 65 66 (n := m) (c := c2) (by kernel_rfl) (by kernel_rfl) (by kernel_rfl) hjm) (fun _ _ d _ _ h => by cases d <;> exact h) BY ?_
                  simp only [put_lit, put_non, List.set_cons_zero, List.set_cons_succ]
                  refine hk_take (i := 7) (some 68) (.pointer (some ⟨b2, ob + j * 65, none⟩)) (by kernel_rfl) (by kernel_rfl) (by kernel_rfl) (by kernel_rfl) (by kernel_rfl) (by kernel_rfl) (fun W hS => exec_pen0 67 (by kernel_rfl) (by kernel_rfl)) (fun _ _ d _ _ h => by cases d <;> exact h) BY ?_
                  simp only [put_lit, put_non, List.set_cons_zero, List.set_cons_succ]
                  refine hk_take (i := 8) (some 69) (.int .i64 (p1 : Int)) (by kernel_rfl) (by kernel_rfl) (by kernel_rfl) (by kernel_rfl) (by kernel_rfl) (by kernel_rfl) (fun W hS => exec_loadCell 3 (.tmp 68) ⟨b2, ob + j * 65, none⟩ _ _ (by kernel_rfl) (by kernel_rfl) (by rw [hS.cell (p := ⟨b2, ob + j * 65, none⟩) hb2]; exact ct) Try.underlying3 rfl) (fun _ _ d _ _ h => by cases d <;> exact h) BY ?_
                  simp only [put_lit, put_non, List.set_cons_zero, List.set_cons_succ]
                  refine hk_take (i := 9) (some 70) (.int .i64 (q : Int)) (by kernel_rfl) (by kernel_rfl) (by kernel_rfl) (by kernel_rfl) (by kernel_rfl) (by kernel_rfl) (fun W hS => by kernel_rfl) (fun _ _ d _ _ h => by cases d <;> exact h) BY ?_
                  simp only [put_lit, put_non, List.set_cons_zero, List.set_cons_succ]
                  refine hk_take (i := 10) (some 71) (.pointer (some ⟨g, 0, none⟩)) (by kernel_rfl) (by kernel_rfl) (by kernel_rfl) (by kernel_rfl) (by kernel_rfl) (by kernel_rfl) (fun W hS => by kernel_rfl) (fun _ _ d _ _ h => by cases d <;> exact h) BY ?_
                  simp only [put_lit, put_non, List.set_cons_zero, List.set_cons_succ]
                  refine hk_take (i := 11) (some 72) (.pointer (some ⟨g, 0, none⟩)) (by kernel_rfl) (by kernel_rfl) (by kernel_rfl) (by kernel_rfl) (by kernel_rfl) (by kernel_rfl) (fun W hS => by kernel_rfl) (fun _ _ d _ _ h => by cases d <;> exact h) BY ?_
                  simp only [put_lit, put_non, List.set_cons_zero, List.set_cons_succ]
                  refine hk_take (i := 12) (some 73) (.pointer (some ⟨g, 1, none⟩)) (by kernel_rfl) (by kernel_rfl) (by kernel_rfl) (by kernel_rfl) (by kernel_rfl) (by kernel_rfl) (fun W hS => by kernel_rfl) (fun _ _ d _ _ h => by cases d <;> exact h) BY ?_
                  simp only [put_lit, put_non, List.set_cons_zero, List.set_cons_succ]
                  refine hk_take (i := 13) (some 74) (.slice (some ⟨b2, ob, none⟩) m c2) (by kernel_rfl) (by kernel_rfl) (by kernel_rfl) (by kernel_rfl) (by kernel_rfl) (by kernel_rfl) (fun W hS => exec_loadCell 62 (.tmp 73) ⟨g, 1, none⟩ _ _ (by kernel_rfl) (by kernel_rfl) (by rw [hS.cell (p := ⟨g, 1, none⟩) hgl]; exact c1) Try.underlying62 rfl) (fun _ _ d _ _ h => by cases d <;> exact h) BY ?_
                  simp only [put_lit, put_non, List.set_cons_zero, List.set_cons_succ]
                  refine hk_take (i := 14) (some 75) (.int .i64 (j : Int)) (by kernel_rfl) (by kernel_rfl) (by kernel_rfl) (by kernel_rfl) (by kernel_rfl) (by kernel_rfl) (fun W hS => by kernel_rfl) (fun _ _ d _ _ h => by cases d <;> exact h) BY ?_
                  simp only [put_lit, put_non, List.set_cons_zero, List.set_cons_succ]
                  refine hk_take (i := 15) (some 76) (.int .i64 (q : Int)) (by kernel_rfl) (by kernel_rfl) (by kernel_rfl) (by kernel_rfl) (by kernel_rfl) (by kernel_rfl) (fun W hS => by kernel_rfl) (fun _ _ d _ _ h => by cases d <;> exact h) BY ?_
                  simp only [put_lit, put_non, List.set_cons_zero, List.set_cons_succ]
                  refine hk_take (i := 16) (some 77) (.pointer (some ⟨b2, ob + j * 65, none⟩)) (by kernel_rfl) (by kernel_rfl) (by kernel_rfl) (by kernel_rfl) (by kernel_rfl) (by kernel_rfl) (fun W hS => exec_indexC Try.underlying62 info_pen 74 75 (n := m) (c := c2) (by kernel_rfl) (by kernel_rfl) (by kernel_rfl) hjm) (fun _ _ d _ _ h => by cases d <;> exact h) BY ?_
                  simp only [put_lit, put_non, List.set_cons_zero, List.set_cons_succ]
                  refine hk_take (i := 17) (some 78) (.pointer (some ⟨b2, ob + j * 65 + 1, none⟩)) (by kernel_rfl) (by kernel_rfl) (by kernel_rfl) (by kernel_rfl) (by kernel_rfl) (by kernel_rfl) (fun W hS => exec_pen1 77 (by kernel_rfl) (by kernel_rfl)) (fun _ _ d _ _ h => by cases d <;> exact h) BY ?_
                  simp only [put_lit, put_non, List.set_cons_zero, List.set_cons_succ]
                  refine hk_take (i := 18) (some 79) (.pointer (some ⟨b2, ob + j * 65 + 1 + q, none⟩)) (by kernel_rfl) (by kernel_rfl) (by kernel_rfl) (by kernel_rfl) (by kernel_rfl) (by kernel_rfl) (fun W hS => exec_indexA 78 76 (by kernel_rfl) (by kernel_rfl) (by kernel_rfl) hq64) (fun _ _ d _ _ h => by cases d <;> exact h) BY ?_
                  simp only [put_lit, put_non, List.set_cons_zero, List.set_cons_succ]
                  refine hk_take (i := 19) (some 80) (.int .u8 (cb : Int)) (by kernel_rfl) (by kernel_rfl) (by kernel_rfl) (by kernel_rfl) (by kernel_rfl) (by kernel_rfl) (fun W hS => exec_loadB 79 (by rw [hS.cell (p := ⟨b2, ob + j * 65 + 1 + q, none⟩) hb2]; exact cq) (by kernel_rfl) (by kernel_rfl)) (fun _ _ d _ _ h => by cases d <;> exact h) BY ?_
                  simp only [put_lit, put_non, List.set_cons_zero, List.set_cons_succ]
                  refine hk_take (i := 20) (some 81) (.pointer (some ⟨gr, 0 + p1 * 64, none⟩)) (by kernel_rfl) (by kernel_rfl) (by kernel_rfl) (by kernel_rfl) (by kernel_rfl) (by kernel_rfl) (fun W hS => exec_indexC Try.underlying61 info_sec 61 69 (n := n) (c := cr) (by kernel_rfl) (by kernel_rfl) (by kernel_rfl) hpn) (fun _ _ d _ _ h => by cases d <;> exact h) BY ?_
                  simp only [put_lit, put_non, List.set_cons_zero, List.set_cons_succ]
                  refine hk_take (i := 21) (some 82) (.pointer (some ⟨gr, 0 + p1 * 64 + q, none⟩)) (by kernel_rfl) (by kernel_rfl) (by kernel_rfl) (by kernel_rfl) (by kernel_rfl) (by kernel_rfl) (fun W hS => exec_indexA 81 70 (by kernel_rfl) (by kernel_rfl) (by kernel_rfl) hq64) (fun _ _ d _ _ h => by cases d <;> exact h) BY ?_
                  simp only [put_lit, put_non, List.set_cons_zero, List.set_cons_succ]
                  refine hk_one (i := 22) (by kernel_rfl) ?_
                  refine op_skip none (yd.setCell ⟨gr, 0 + p1 * 64 + q, none⟩ (.int .u8 (cb : Int))) (by kernel_rfl) (by kernel_rfl) (by kernel_rfl) (exec_storeB 82 80 (by kernel_rfl) (by kernel_rfl) (by kernel_rfl) hfz hcu) ?_
                  refine ⟨BN, ?_⟩
                  simp only [put_lit, put_non, List.set_cons_zero, List.set_cons_succ]
                  refine hk_done (by kernel_rfl) ?_
                  clear BN BY hfz hcu ct cq
                  generalize yd.setCell ⟨gr, 0 + p1 * 64 + q, none⟩ (.int .u8 (cb : Int)) = w5 at HON HBN ⊢
                  go_wp2_with fail
                  go_roundw
                  case rel => exact ⟨q + 1, by omega, by go_num, HON.out, HBN.out⟩
                  case measure => simp [intOf]; omega
                · have HQ' : ¬ (q : Int) < 64 := by omega
                  have eq : q = 64 := by omega
                  have hO' : wr.ownsRow w.heap.size 72 64 (.slice (some ⟨gr, 0, none⟩) n cr) n (secC (crashL keep lst torn s.dur 0 (s.pend.take (j + 1)))) := by
                    rw [HFIN.out, HNN.out]
                    rw [eq] at hO
                    exact hO
                  have HO3 := Lib.hid hO'
                  have HB3 := Lib.hid hB
                  clear hO hO' hB eq
                  go_wp2_with fail
                  go_roundw
                  case rel => exact ⟨j + 1, by omega, by go_num, HO3.out, HB3.out⟩
                  case measure => simp [intOf]; omega
            -- END SURVIVES
        · have HJ : ¬ (j : Int) < m := by omega
          have e : j = s.pend.length := by rw [EM.out]; omega
          rw [e, List.take_length] at hO
          obtain ⟨A9, c9, e9⟩ := (own_cel hO).form
          subst e9
          have hLL := crashL_ok keep lst torn s.pend s.dur 0 HOK.out.1 HOK.out.2.1
          have hfin := H.out.crashed hB (by rw [EN.out]; exact hO) hLL.2 hLL.1
          obtain ⟨_, u1, u2, hdc, _⟩ := H.out.below hB
          obtain ⟨f0, f1, f2, f3, -⟩ := hdc.cells
          have z0 := hdc.thaw 0
          have z1 := hdc.thaw 1
          have z2 := hdc.thaw 2
          have z3 := hdc.thaw 3
          have hcs : crashS s keep torn = { dur := crashL keep lst torn s.dur 0 s.pend, pend := [], off := true, armed := false, left := s.left } := by unfold crashS; rw [EM.out, EL.out]
          have HFN := Lib.hid hfin
          have HCS := Lib.hid hcs
          clear hO hB e hLL hfin hdc hcs
          go_wp2_with fail
          go_end0
          rw [HCS.out]
          exact ⟨rfl, HFN.out.1, HFN.out.2.1, HFN.out.2.2⟩
end
end Go.Proofs.Ythknlimhenbhfaa

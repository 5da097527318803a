/- The reference's disk: survives and Sectors. -/
import Derived.Test.YthknlimhenbhfaaDks
namespace Go.Proofs.Ythknlimhenbhfaa
set_option linter.unusedSimpArgs false
open Go.RowKit Dig
set_option linter.unusedVariables false

theorem info_sec : (Try.prog.info? 72).map (·.size) = some 64 := by kernel_rfl
theorem info_pen : (Try.prog.info? 74).map (·.size) = some 65 := by kernel_rfl
theorem zero_sec : ∃ z, (Try.prog.info? 72).map (fun i => (i.zero, i.size, i.bytes)) = some (some z, 64, 64) ∧ z.cells.size = 64 := ⟨((Try.prog.info? 72).bind (·.zero)).getD undef, by kernel_rfl, by kernel_rfl⟩
theorem zero_pen : ∃ z, (Try.prog.info? 74).map (fun i => (i.zero, i.size, i.bytes)) = some (some z, 65, 72) ∧ z.cells.size = 65 := ⟨((Try.prog.info? 74).bind (·.zero)).getD undef, by kernel_rfl, by kernel_rfl⟩
theorem size_sec {s : List UInt8} (h : s.length = 64) : (Try.prog.info? 72).map (·.size) = some (Y s).length := by
  rw [Y_length, h]
  kernel_rfl
theorem range_below {w W : World} {B b o : Nat} {cs : List Value} (h : w.rangeAt b o cs) (hb : b < B) (hS : Below B w W) : W.rangeAt b o cs := fun j u hj => by
  rw [hS.cell (p := ⟨b, o + j, none⟩) hb]
  exact h j u hj
theorem foldl_snoc (P : List (Nat × List UInt8)) (L : List (List UInt8)) {j : Nat} (hj : j < P.length) : (P.take (j + 1)).foldl put1 L = put1 ((P.take j).foldl put1 L) P[j] := by
  rw [List.take_add_one, List.getElem?_eq_getElem hj, List.foldl_append]
  rfl
theorem fold_take_ok {s : DS} (h : okDS s) (j : Nat) : (∀ x ∈ (s.pend.take j).foldl put1 s.dur, x.length = 64) ∧ ((s.pend.take j).foldl put1 s.dur).length = s.dur.length :=
  fold_ok _ _ h.1 fun p hp => h.2.1 p (List.mem_of_mem_take hp)
section
variable {w : World} {g : Nat} {s : DS}
theorem rsurv_c (keep : Nat) (hk : keep < 18446744073709551616) (i : Nat) (hi : i ≤ 1000000) : Calls Try.prog 40 #[.int .u64 (keep : Int), .int .i64 (i : Int)] w (fun e w' => e = .returned (.bool (survS keep i)) ∧ w = w') := by
  have e := u64_and_nat (keep / 2 ^ (min i 63)) 1 (Nat.lt_of_le_of_lt (Nat.div_le_self _ _) hk) (by omega)
  rw [Nat.and_one_is_mod] at e
  have e2 : ((keep / 2 ^ (min i 63) : Nat) : Int) = (keep : Int) / 2 ^ (min i 63) := by simp
  rw [e2] at e
  have hii : (i : Int) ≤ 1000000 := by omega
  unfold survS
  obtain ⟨r, hr⟩ : ∃ r, keep / 2 ^ (min i 63) % 2 = r := ⟨_, rfl⟩
  have hr2 : r < 2 := by rw [← hr]; exact Nat.mod_lt _ (by omega)
  rw [hr] at e ⊢
  by_cases h : i > 63
  · have hlt : (63 : Int) < i := by omega
    rw [show min i 63 = 63 by omega] at e
    have e : bits .and .u64 ((keep : Int) / 9223372036854775808) 1 = (r : Int) := e
    clear hk hi h hr e2
    rcases (by omega : r = 0 ∨ r = 1) with rfl | rfl
    · go_enter Try.func40, Try.ntmps40
      go_wp2_with fail
      go_ret
      exact ⟨rfl, rfl⟩
    · go_enter Try.func40, Try.ntmps40
      go_wp2_with fail
      go_ret
      exact ⟨rfl, rfl⟩
  · have hlt : ¬ (63 : Int) < i := by omega
    rw [show min i 63 = i by omega] at e
    have e : bits .and .u64 ((keep : Int) / 2 ^ i) 1 = (r : Int) := e
    clear hk hi h hr e2
    rcases (by omega : r = 0 ∨ r = 1) with rfl | rfl
    · go_enter Try.func40, Try.ntmps40
      go_wp2_with fail
      go_ret
      exact ⟨rfl, rfl⟩
    · go_enter Try.func40, Try.ntmps40
      go_wp2_with fail
      go_ret
      exact ⟨rfl, rfl⟩
set_option maxRecDepth 20000 in
set_option maxHeartbeats 8000000 in
theorem rsectors_c (h : DskR w g s) (hn : s.dur.length ≤ 10000) (hp : s.pend.length ≤ 1000) : Calls Try.prog 39 #[.pointer (some ⟨g, 0, none⟩)] w fun e w' => ∃ r, e = .returned r ∧ w'.ownsRow w.heap.size 72 64 r s.dur.length (secC (secs s)) ∧ Below w.heap.size w w' := by
  obtain ⟨hok, v1, v2, hc, hd, hpn, _, _⟩ := h
  have hgl := hc.lt
  obtain ⟨c0, c1, -, -, -⟩ := hc.cells
  obtain ⟨A1, c1', rfl⟩ := hd.form
  obtain ⟨A2, c2, rfl⟩ := hpn.form
  obtain ⟨z, hI, hz⟩ := zero_sec
  have HD := Lib.hid hd
  have HP := Lib.hid hpn
  have HOK := Lib.hid hok
  have HN := Lib.hid hn
  have hpi : (s.pend.length : Int) ≤ 1000 := by omega
  have HI := Lib.hid hI
  have HC1 := Lib.hid c1
  have HGL := Lib.hid hgl
  obtain ⟨n, en⟩ : ∃ n, s.dur.length = n := ⟨_, rfl⟩
  obtain ⟨m, em⟩ : ∃ m, s.pend.length = m := ⟨_, rfl⟩
  have EN := Lib.hid en
  have EM := Lib.hid em
  rw [en] at HD HN
  rw [em] at HP hpi hp
  rw [en]
  rw [en] at c0
  rw [em] at c1 HC1
  have HPM := Lib.hid hp
  clear hc hd hpn hok hI hn hp en em
  go_enter Try.func39, Try.ntmps39
  go_wp2_with (first | ((with_reducible refine wp_noneC Try.underlying61 HI.out rfl rfl ?_); intro w1 hS hB; have o1 := Lib.hid hS; have B1 := Lib.hid hB; have d0 : w1.cell? ⟨g, 0, none⟩ = some (.slice A1 n c1') := (by rw [hB.cell (p := ⟨g, 0, none⟩) HGL.out]; exact c0); clear hS hB) | (at_builtin; refine wp_appendC Try.underlying61 HI.out hz (by omega) rfl _ _ rfl w.heap.size _ 0 [] rfl o1.out _ n _ rfl (HD.out.below B1.out) (secC_one _) (by have := HN.out; omega) (by omega) B1.out.size ?_; intro v2 w2 hv2 hg2; have B2 := Lib.hid (below_own B1.out hg2 o1.out (Nat.le_refl _)); clear o1 hg2; rw [List.nil_append, Nat.zero_add] at hv2; have o2 := Lib.hid hv2; clear hv2 d0))
  go_loopw [4] (fun i wr => ∃ j : Nat, j ≤ m ∧ i = .int .i64 j ∧ wr.ownsRow w.heap.size 72 64 v2 n (secC ((s.pend.take j).foldl put1 s.dur)) ∧ Below w.heap.size w wr) (fun i _ => m - (intOf i).toNat)
  case atStart => exact ⟨0, Nat.zero_le _, rfl, o2.out, B2.out⟩
  case round =>
    obtain ⟨j, hj, rfl, hO, hB⟩ := hrel
    have d1 : wr.cell? ⟨g, 1, none⟩ = some (.slice A2 m c2) := by rw [hB.cell (p := ⟨g, 1, none⟩) hgl]; exact c1
    by_cases hjm : j < m
    · have HJ : (j : Int) < m := by omega
      have hjp : j < s.pend.length := by rw [EM.out]; exact hjm
      have hpj := HOK.out.2.1 s.pend[j] (List.getElem_mem hjp)
      have hL := fold_take_ok HOK.out j
      have hfs := foldl_snoc s.pend s.dur hjp
      have hpart := penC_part hjp (fun p hp => (HOK.out.2.1 p hp).2)
      obtain ⟨gr, cr, rfl⟩ := own_block hO (by have := EN.out; omega)
      obtain ⟨b2, ob, rfl, hb2, hrg⟩ := HP.out.range (by omega)
      have hrp := range_part hrg (j * 65) 65
      rw [hpart] at hrp
      have HO := Lib.hid hO
      have HBR := Lib.hid hB
      have HRP := Lib.hid hrp
      have HPJ := Lib.hid hpj
      have HFS := Lib.hid hfs
      have HHL := Lib.hid hL
      clear hO hB hrp hrg hpart hpj hfs hL
      go_wp2_with fail
      refine hk_begin (S := fun w' => Below w.heap.size w w') 19 (by kernel_rfl) (by kernel_rfl) ?_
      have hOd := own_below HO.out ((Below.refl wr.heap.size wr).drew) (Nat.le_refl _)
      have BY := HBR.out.drew
      generalize wr.drew = yd at hOd BY ⊢
      obtain ⟨cur, hgb, hcur, hncr, hcm, hcs, htk, hvl⟩ := own_cur hOd
      obtain ⟨p1, e1⟩ : ∃ p, s.pend[j].1 = p := ⟨_, rfl⟩
      obtain ⟨p2, e2⟩ : ∃ p, s.pend[j].2 = p := ⟨_, rfl⟩
      have hpj := HPJ.out
      rw [e1, e2, EN.out] at hpj
      obtain ⟨hpn, hp64⟩ := hpj
      have hrp := HRP.out
      rw [e1, e2] at hrp
      have ct : w.cell? ⟨b2, ob + j * 65, none⟩ = some (.int .i64 (p1 : Int)) := by
        have := hrp 0 _ rfl
        rwa [Nat.add_zero] at this
      have rt : w.rangeAt b2 (ob + j * 65 + 1) (Y p2) := fun k u hk => by
        have := hrp (k + 1) u (by simpa using hk)
        rwa [show ob + j * 65 + (k + 1) = ob + j * 65 + 1 + k by omega] at this
      have hsz := size_sec hp64
      have hyl : (Y p2).length = 64 := by rw [Y_length]; exact hp64
      have hfit : 0 + p1 * 64 + (Y p2).length ≤ cur.size := by rw [hyl, hcs]; omega
      have BN := below_spl (o := 0 + p1 * 64) (ys := Y p2) BY hgb
      have hON := own_spl hOd (o := 0 + p1 * 64) (ys := Y p2) (by rw [hyl]; omega)
      have hset := secC_set (L := (s.pend.take j).foldl put1 s.dur) (i := p1) (y := p2) (by rw [HHL.out.2, EN.out]; exact hpn) HHL.out.1 hp64
      rw [Nat.zero_add, hset] at hON
      have hfs := HFS.out
      unfold put1 at hfs
      rw [e1, e2] at hfs
      have hfs : (s.pend.take (j + 1)).foldl put1 s.dur = ((s.pend.take j).foldl put1 s.dur).set p1 p2 := hfs
      rw [← hfs] at hON
      have HON := Lib.hid hON
      have HBN := Lib.hid BN
      clear hON hfs hset hrp htk hvl hOd
      -- REGION 5
      refine hk_take (i := 0) (some 20) (.slice (some ⟨gr, 0, none⟩) n cr) (by kernel_rfl) (by kernel_rfl) (by kernel_rfl) (by kernel_rfl) (by kernel_rfl) (by kernel_rfl) (fun W hS => by kernel_rfl) (fun _ _ d _ _ h => by cases d <;> exact h) BY ?_
      simp only [put_lit, put_non, List.set_cons_zero, List.set_cons_succ]
      refine hk_take (i := 1) (some 21) (.pointer (some ⟨g, 0, none⟩)) (by kernel_rfl) (by kernel_rfl) (by kernel_rfl) (by kernel_rfl) (by kernel_rfl) (by kernel_rfl) (fun W hS => by kernel_rfl) (fun _ _ d _ _ h => by cases d <;> exact h) BY ?_
      simp only [put_lit, put_non, List.set_cons_zero, List.set_cons_succ]
      refine hk_take (i := 2) (some 22) (.pointer (some ⟨g, 0, none⟩)) (by kernel_rfl) (by kernel_rfl) (by kernel_rfl) (by kernel_rfl) (by kernel_rfl) (by kernel_rfl) (fun W hS => by kernel_rfl) (fun _ _ d _ _ h => by cases d <;> exact h) BY ?_
      simp only [put_lit, put_non, List.set_cons_zero, List.set_cons_succ]
      refine hk_take (i := 3) (some 23) (.pointer (some ⟨g, 1, none⟩)) (by kernel_rfl) (by kernel_rfl) (by kernel_rfl) (by kernel_rfl) (by kernel_rfl) (by kernel_rfl) (fun W hS => by kernel_rfl) (fun _ _ d _ _ h => by cases d <;> exact h) BY ?_
      simp only [put_lit, put_non, List.set_cons_zero, List.set_cons_succ]
      refine hk_take (i := 4) (some 24) (.slice (some ⟨b2, ob, none⟩) m c2) (by kernel_rfl) (by kernel_rfl) (by kernel_rfl) (by kernel_rfl) (by kernel_rfl) (by kernel_rfl) (fun W hS => exec_loadCell 62 (.tmp 23) ⟨g, 1, none⟩ _ _ (by kernel_rfl) (by kernel_rfl) (by rw [hS.cell (p := ⟨g, 1, none⟩) hgl]; exact c1) Try.underlying62 rfl) (fun _ _ d _ _ h => by cases d <;> exact h) BY ?_
      simp only [put_lit, put_non, List.set_cons_zero, List.set_cons_succ]
      refine hk_take (i := 5) (some 25) (.int .i64 (j : Int)) (by kernel_rfl) (by kernel_rfl) (by kernel_rfl) (by kernel_rfl) (by kernel_rfl) (by kernel_rfl) (fun W hS => by kernel_rfl) (fun _ _ d _ _ h => by cases d <;> exact h) BY ?_
      simp only [put_lit, put_non, List.set_cons_zero, List.set_cons_succ]
      refine hk_take (i := 6) (some 26) (.pointer (some ⟨b2, ob + j * 65, none⟩)) (by kernel_rfl) (by kernel_rfl) (by kernel_rfl) (by kernel_rfl) (by kernel_rfl) (by kernel_rfl) (fun W hS => exec_indexC Try.underlying62 info_pen 24 25 (n := m) (c := c2) (by kernel_rfl) (by kernel_rfl) (by kernel_rfl) hjm) (fun _ _ d _ _ h => by cases d <;> exact h) BY ?_
      simp only [put_lit, put_non, List.set_cons_zero, List.set_cons_succ]
      refine hk_take (i := 7) (some 27) (.pointer (some ⟨b2, ob + j * 65, none⟩)) (by kernel_rfl) (by kernel_rfl) (by kernel_rfl) (by kernel_rfl) (by kernel_rfl) (by kernel_rfl) (fun W hS => exec_pen0 26 (by kernel_rfl) (by kernel_rfl)) (fun _ _ d _ _ h => by cases d <;> exact h) BY ?_
      simp only [put_lit, put_non, List.set_cons_zero, List.set_cons_succ]
      refine hk_take (i := 8) (some 28) (.int .i64 (p1 : Int)) (by kernel_rfl) (by kernel_rfl) (by kernel_rfl) (by kernel_rfl) (by kernel_rfl) (by kernel_rfl) (fun W hS => exec_loadCell 3 (.tmp 27) ⟨b2, ob + j * 65, none⟩ _ _ (by kernel_rfl) (by kernel_rfl) (by rw [hS.cell (p := ⟨b2, ob + j * 65, none⟩) hb2]; exact ct) Try.underlying3 rfl) (fun _ _ d _ _ h => by cases d <;> exact h) BY ?_
      simp only [put_lit, put_non, List.set_cons_zero, List.set_cons_succ]
      refine hk_take (i := 9) (some 29) (.pointer (some ⟨g, 0, none⟩)) (by kernel_rfl) (by kernel_rfl) (by kernel_rfl) (by kernel_rfl) (by kernel_rfl) (by kernel_rfl) (fun W hS => by kernel_rfl) (fun _ _ d _ _ h => by cases d <;> exact h) BY ?_
      simp only [put_lit, put_non, List.set_cons_zero, List.set_cons_succ]
      refine hk_take (i := 10) (some 30) (.pointer (some ⟨g, 0, none⟩)) (by kernel_rfl) (by kernel_rfl) (by kernel_rfl) (by kernel_rfl) (by kernel_rfl) (by kernel_rfl) (fun W hS => by kernel_rfl) (fun _ _ d _ _ h => by cases d <;> exact h) BY ?_
      simp only [put_lit, put_non, List.set_cons_zero, List.set_cons_succ]
      refine hk_take (i := 11) (some 31) (.pointer (some ⟨g, 1, none⟩)) (by kernel_rfl) (by kernel_rfl) (by kernel_rfl) (by kernel_rfl) (by kernel_rfl) (by kernel_rfl) (fun W hS => by kernel_rfl) (fun _ _ d _ _ h => by cases d <;> exact h) BY ?_
      simp only [put_lit, put_non, List.set_cons_zero, List.set_cons_succ]
      refine hk_take (i := 12) (some 32) (.slice (some ⟨b2, ob, none⟩) m c2) (by kernel_rfl) (by kernel_rfl) (by kernel_rfl) (by kernel_rfl) (by kernel_rfl) (by kernel_rfl) (fun W hS => exec_loadCell 62 (.tmp 31) ⟨g, 1, none⟩ _ _ (by kernel_rfl) (by kernel_rfl) (by rw [hS.cell (p := ⟨g, 1, none⟩) hgl]; exact c1) Try.underlying62 rfl) (fun _ _ d _ _ h => by cases d <;> exact h) BY ?_
      simp only [put_lit, put_non, List.set_cons_zero, List.set_cons_succ]
      refine hk_take (i := 13) (some 33) (.int .i64 (j : Int)) (by kernel_rfl) (by kernel_rfl) (by kernel_rfl) (by kernel_rfl) (by kernel_rfl) (by kernel_rfl) (fun W hS => by kernel_rfl) (fun _ _ d _ _ h => by cases d <;> exact h) BY ?_
      simp only [put_lit, put_non, List.set_cons_zero, List.set_cons_succ]
      refine hk_take (i := 14) (some 34) (.pointer (some ⟨b2, ob + j * 65, none⟩)) (by kernel_rfl) (by kernel_rfl) (by kernel_rfl) (by kernel_rfl) (by kernel_rfl) (by kernel_rfl) (fun W hS => exec_indexC Try.underlying62 info_pen 32 33 (n := m) (c := c2) (by kernel_rfl) (by kernel_rfl) (by kernel_rfl) hjm) (fun _ _ d _ _ h => by cases d <;> exact h) BY ?_
      simp only [put_lit, put_non, List.set_cons_zero, List.set_cons_succ]
      refine hk_take (i := 15) (some 35) (.pointer (some ⟨b2, ob + j * 65 + 1, none⟩)) (by kernel_rfl) (by kernel_rfl) (by kernel_rfl) (by kernel_rfl) (by kernel_rfl) (by kernel_rfl) (fun W hS => exec_pen1 34 (by kernel_rfl) (by kernel_rfl)) (fun _ _ d _ _ h => by cases d <;> exact h) BY ?_
      simp only [put_lit, put_non, List.set_cons_zero, List.set_cons_succ]
      refine hk_take (i := 16) (some 36) (.agg (Y p2).toArray) (by kernel_rfl) (by kernel_rfl) (by kernel_rfl) (by kernel_rfl) (by kernel_rfl) (by kernel_rfl) (fun W hS => exec_loadC 35 Try.underlying72 rfl hsz (range_below rt hb2 hS) (by kernel_rfl) (by kernel_rfl)) (fun _ _ d _ _ h => by cases d <;> exact h) BY ?_
      simp only [put_lit, put_non, List.set_cons_zero, List.set_cons_succ]
      refine hk_take (i := 17) (some 37) (.pointer (some ⟨gr, 0 + p1 * 64, none⟩)) (by kernel_rfl) (by kernel_rfl) (by kernel_rfl) (by kernel_rfl) (by kernel_rfl) (by kernel_rfl) (fun W hS => exec_indexC Try.underlying61 info_sec 20 28 (n := n) (c := cr) (by kernel_rfl) (by kernel_rfl) (by kernel_rfl) hpn) (fun _ _ d _ _ h => by cases d <;> exact h) BY ?_
      simp only [put_lit, put_non, List.set_cons_zero, List.set_cons_succ]
      refine hk_one (i := 18) (by kernel_rfl) ?_
      refine op_skip none (spl yd gr (0 + p1 * 64) (Y p2)) (by kernel_rfl) (by kernel_rfl) (by kernel_rfl) (exec_storeC 37 36 hsz hcur hfit (Y_oneCell p2) (by kernel_rfl) (by kernel_rfl) (by kernel_rfl)) ?_
      refine ⟨BN, ?_⟩
      simp only [put_lit, put_non, List.set_cons_zero, List.set_cons_succ]
      refine hk_done (by kernel_rfl) ?_
      -- END 5
      rw [Nat.zero_add] at *
      generalize spl yd gr (p1 * 64) (Y p2) = w4 at *
      clear ct rt BY hcur
      go_wp2_with fail
      go_roundw
      case rel => exact ⟨j + 1, by omega, by go_num, HON.out, HBN.out⟩
      case measure => simp [intOf]; omega
    · have HJ : ¬ (j : Int) < m := by omega
      have e : j = s.pend.length := by rw [EM.out]; omega
      rw [e, List.take_length] at hO
      have HO := Lib.hid hO
      have HBR := Lib.hid hB
      clear hO hB e
      go_wp2_with fail
      go_ret
      exact ⟨_, rfl, HO.out, HBR.out⟩
end
end Go.Proofs.Ythknlimhenbhfaa

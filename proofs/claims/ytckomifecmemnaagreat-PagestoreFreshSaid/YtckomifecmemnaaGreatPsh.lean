/- The reference's page store: Need. -/
import Derived.Test.YtckomifecmemnaaGreatPsg
namespace Go.Proofs.YtckomifecmemnaaGreat
set_option linter.unusedSimpArgs false
open Go.RowKit Dig
set_option linter.unusedVariables false

theorem sumTake {α : Type} (f : α → Nat) (l : List α) {j : Nat} (hj : j < l.length) : ((l.take (j + 1)).map f).sum = ((l.take j).map f).sum + f l[j] := by
  rw [List.take_add_one, List.getElem?_eq_getElem hj, List.map_append, List.sum_append]
  simp
theorem sumTake_le {α : Type} (f : α → Nat) : ∀ (l : List α) (j : Nat), ((l.take j).map f).sum ≤ (l.map f).sum
  | [], j => by simp
  | x :: l, 0 => by simp
  | x :: l, j + 1 => by
    have := sumTake_le f l j
    simp only [List.take_succ_cons, List.map_cons, List.sum_cons]
    omega
theorem sum_bound {α : Type} (f : α → Nat) (B : Nat) : ∀ (l : List α), (∀ x ∈ l, f x ≤ B) → (l.map f).sum ≤ l.length * B
  | [], _ => by simp
  | x :: l, h => by
    have h1 := sum_bound f B l fun y hy => h y (List.mem_cons_of_mem _ hy)
    have h2 := h x List.mem_cons_self
    simp only [List.map_cons, List.sum_cons, List.length_cons, Nat.add_mul]
    omega
theorem need_bound {L : List (List Pg)} (h4 : L.length ≤ 4) (h : ∀ l ∈ L, l.length ≤ 1000 ∧ ∀ p ∈ l, p.2.length ≤ 2000) : (L.map listNeed).sum ≤ 200000 := by
  have := sum_bound listNeed 50000 L fun l hl => by
    obtain ⟨h1, h2⟩ := h l hl
    have := sum_bound pageNeed 33 l fun p hp => by
      have := h2 p hp
      unfold pageNeed
      omega
    unfold listNeed
    omega
  omega
theorem quo64 (n : Nat) : ((n : Int) + 63).tdiv 64 = (((n + 63) / 64 : Nat) : Int) := by
  rw [Int.tdiv_eq_ediv_of_nonneg (by omega)]
  omega
set_option maxRecDepth 20000 in
set_option maxHeartbeats 8000000 in
theorem rneed_c {w : World} {R : Nat → Prop} {m : Nat} {s : SS} (h : RSto w R m s) (hlen : ∀ l ∈ (commitS s).kept, l.length ≤ 1000) : Calls Tryz.prog 12 #[.pointer (some ⟨m, 0, none⟩)] w fun e w' => e = .returned (.int .i64 ((needS s : Nat) : Int)) ∧ Below w.heap.size w w' := by
  obtain ⟨h0, h1, h2, kv, wv, hc, hK, hW⟩ := h
  obtain ⟨Ak, ck, rfl⟩ := hK.form
  obtain ⟨Aw, cw, rfl⟩ := hW.form
  obtain ⟨us, hul, hcu, hcr, hone, hub⟩ := hK.open
  have hbd : (((commitS s).kept).map listNeed).sum ≤ 200000 := need_bound (commit_ok h0).2.1 fun l hl => ⟨hlen l hl, fun p hp => Nat.le_trans ((commit_ok h0).2.2.2.1 l hl p hp).2 (by omega)⟩
  have HBD := Lib.hid hbd
  have HLE := Lib.hid hlen
  have HC := Lib.hid hc
  have HW := Lib.hid hW
  have HUL := Lib.hid hul
  have HCU := Lib.hid hcu
  have ONE := Lib.hid hone
  have HUB := Lib.hid hub
  have H0 := Lib.hid h0
  clear hc hK hW hul hcu hone hub h0 h1 h2 hcr hbd hlen
  go_enter Tryz.func12, Tryz.ntmps12
  go_wp2_with fail
  refine hk_begin (S := fun W => StoC W m s.last (.slice Ak s.kept.length ck) (.slice Aw s.work.length cw)) 13 (by kernel_rfl) (by kernel_rfl) ?_
  have hBd : Below w.heap.size w w.drew := (Below.refl _ _).drew
  have hcd := HC.out.keepB (w' := w.drew) rfl
  generalize w.drew = yd at hBd hcd ⊢
  have FIN := Lib.hid (fun (y : World) (r : Value) (hB : Below yd.heap.size yd y) (ho : y.ownsRow yd.heap.size 76 1 r (s.kept.length + 1) (us ++ [.slice Aw s.work.length cw])) =>
    show KepV y (fun _ => True) r (s.kept ++ [s.work]) ∧ Below w.heap.size w y from ⟨KepV.snoc HUL.out HUB.out HW.out (below_then hBd hB) ho (fun _ _ => trivial) (fun _ _ => trivial), below_then hBd hB⟩)
  have CU := Lib.hid (HCU.out.below hBd)
  have HP0 := Lib.hid hcd
  have hmy := hcd.lt
  have HLS := Lib.hid (show ∀ (n : Nat), n = s.kept.length + 1 → n = 5 → ∃ x L', s.kept ++ [s.work] = x :: L' ∧ (commitS s).kept = L' from fun n e1 e2 => by
    have h4 : 4 < s.kept.length + 1 := by omega
    cases hk : s.kept with
    | nil => rw [hk] at h4; simp at h4
    | cons x L' => exact ⟨x, L' ++ [s.work], rfl, by unfold commitS; rw [if_pos h4, hk]; rfl⟩)
  have HLN := Lib.hid (show ∀ (n : Nat), n = s.kept.length + 1 → n ≠ 5 → (commitS s).kept = s.kept ++ [s.work] from fun n e1 e2 => by
    have := H0.out.2.1
    unfold commitS
    exact if_neg (by omega))
  have hk4 := H0.out.2.1
  have HNS := Lib.hid (show needS s = 8 + (((commitS s).kept).map listNeed).sum from rfl)
  obtain ⟨k, ek⟩ : ∃ k, s.kept.length = k := ⟨_, rfl⟩
  obtain ⟨nw, ew⟩ : ∃ k, s.work.length = k := ⟨_, rfl⟩
  have HPM := Lib.hid (show k ≤ 4 by omega)
  have HKL := Lib.hid ek
  rw [ek] at CU FIN HLS HLN HP0
  rw [ew] at FIN HP0
  simp only [ek, ew]
  clear hcd hBd ek ew hk4 HC HW HUL HCU HUB
  have BK0 := Below.refl yd.heap.size yd
  refine hk_take (i := 1) (some 8) (.pointer (some ⟨m, 0, none⟩)) (by kernel_rfl) (by kernel_rfl) (by kernel_rfl) (by kernel_rfl) (by kernel_rfl) (by kernel_rfl) (fun W hS => by kernel_rfl) (fun _ _ d _ _ h => by cases d <;> exact h) (HP0.out.keepB (BK0.block _ hmy)) ?_
  simp only [put_lit, put_non, List.set_cons_zero, List.set_cons_succ]
  refine hk_take (i := 2) (some 9) (.pointer (some ⟨m, 0, none⟩)) (by kernel_rfl) (by kernel_rfl) (by kernel_rfl) (by kernel_rfl) (by kernel_rfl) (by kernel_rfl) (fun W hS => by kernel_rfl) (fun _ _ d _ _ h => by cases d <;> exact h) (HP0.out.keepB (BK0.block _ hmy)) ?_
  simp only [put_lit, put_non, List.set_cons_zero, List.set_cons_succ]
  refine hk_take (i := 3) (some 10) (.pointer (some ⟨m, 1, none⟩)) (by kernel_rfl) (by kernel_rfl) (by kernel_rfl) (by kernel_rfl) (by kernel_rfl) (by kernel_rfl) (fun W hS => by kernel_rfl) (fun _ _ d _ _ h => by cases d <;> exact h) (HP0.out.keepB (BK0.block _ hmy)) ?_
  simp only [put_lit, put_non, List.set_cons_zero, List.set_cons_succ]
  refine hk_take (i := 4) (some 11) (.slice Ak k ck) (by kernel_rfl) (by kernel_rfl) (by kernel_rfl) (by kernel_rfl) (by kernel_rfl) (by kernel_rfl) (fun W hS => exec_loadCell 75 (.tmp 10) ⟨m, 1, none⟩ _ _ (by kernel_rfl) (by kernel_rfl) hS.cells.2.1 Tryz.underlying75 rfl) (fun _ _ d _ _ h => by cases d <;> exact h) (HP0.out.keepB (BK0.block _ hmy)) ?_
  simp only [put_lit, put_non, List.set_cons_zero, List.set_cons_succ]
  refine hk_take (i := 6) (some 13) (.pointer (some ⟨m, 0, none⟩)) (by kernel_rfl) (by kernel_rfl) (by kernel_rfl) (by kernel_rfl) (by kernel_rfl) (by kernel_rfl) (fun W hS => by kernel_rfl) (fun _ _ d _ _ h => by cases d <;> exact h) (HP0.out.keepB (BK0.block _ hmy)) ?_
  simp only [put_lit, put_non, List.set_cons_zero, List.set_cons_succ]
  refine hk_take (i := 7) (some 14) (.pointer (some ⟨m, 0, none⟩)) (by kernel_rfl) (by kernel_rfl) (by kernel_rfl) (by kernel_rfl) (by kernel_rfl) (by kernel_rfl) (fun W hS => by kernel_rfl) (fun _ _ d _ _ h => by cases d <;> exact h) (HP0.out.keepB (BK0.block _ hmy)) ?_
  simp only [put_lit, put_non, List.set_cons_zero, List.set_cons_succ]
  refine hk_take (i := 8) (some 15) (.pointer (some ⟨m, 2, none⟩)) (by kernel_rfl) (by kernel_rfl) (by kernel_rfl) (by kernel_rfl) (by kernel_rfl) (by kernel_rfl) (fun W hS => by kernel_rfl) (fun _ _ d _ _ h => by cases d <;> exact h) (HP0.out.keepB (BK0.block _ hmy)) ?_
  simp only [put_lit, put_non, List.set_cons_zero, List.set_cons_succ]
  refine hk_take (i := 9) (some 16) (.slice Aw nw cw) (by kernel_rfl) (by kernel_rfl) (by kernel_rfl) (by kernel_rfl) (by kernel_rfl) (by kernel_rfl) (fun W hS => exec_loadCell 76 (.tmp 15) ⟨m, 2, none⟩ _ _ (by kernel_rfl) (by kernel_rfl) hS.cells.2.2 Tryz.underlying76 rfl) (fun _ _ d _ _ h => by cases d <;> exact h) (HP0.out.keepB (BK0.block _ hmy)) ?_
  simp only [put_lit, put_non, List.set_cons_zero, List.set_cons_succ]
  refine hk_two (i := 0) (j := 10) (by kernel_rfl) ?_ ?_
  · skip
    obtain ⟨y1, e1⟩ : ∃ y, y = yd.alloc (.cells #[] 76) := ⟨_, rfl⟩
    have hBa : Below yd.heap.size yd y1 := by rw [e1]; exact (Below.refl _ _).alloc (Nat.le_refl _) _
    have hlt1 : yd.heap.size < y1.heap.size := by rw [e1]; show _ < (yd.heap.push _).size; simp
    have BK1 := BK0.trans (hBa.mono BK0.size)
    have o1 : y1.ownsRow yd.heap.size 76 1 (.slice (some ⟨yd.heap.size, 0, none⟩) 0 0) 0 [] := by rw [e1]; exact World.ownsRow_made yd #[] 0 BK0.size (by unfold maxLen; omega) (by simp)
    clear hBa
    refine op_do (some 7) (.slice (some ⟨yd.heap.size, 0, none⟩) 0 0) y1 (by kernel_rfl) (by kernel_rfl) (by kernel_rfl) (by rw [e1]; exact exec_noneC Tryz.underlying75 size_kp (by kernel_rfl)) ?_
    refine ⟨(HP0.out.keepB (BK1.block _ hmy)), ?_⟩
    simp only [put_lit, put_non, List.set_cons_zero, List.set_cons_succ]
    refine hk_two (i := 5) (j := 10) (by kernel_rfl) ?_ ?_
    · skip
      refine op_appendC Tryz.underlying75 zero_kp rfl (by omega) (by omega) (some 12) 7 11 (by kernel_rfl) (by kernel_rfl) (by kernel_rfl) (by kernel_rfl) yd.heap.size (.slice (some ⟨yd.heap.size, 0, none⟩) 0 0) 0 [] (by kernel_rfl) o1 (.slice Ak k ck) k us (by kernel_rfl) (CU.out.below BK1) ONE.out (by have := HPM.out; omega) BK1.size ?_
      intro v2 y2 o2 hg
      have BK2 := BK1.grown hg BK1.size (fun k e => (o1.lt k e).1)
      clear hg o1
      refine ⟨(HP0.out.keepB (BK2.block _ hmy)), ?_⟩
      simp only [put_lit, put_non, List.set_cons_zero, List.set_cons_succ]
      refine hk_one (i := 10) (by kernel_rfl) ?_
      obtain ⟨y3, e3⟩ : ∃ y, y = y2.alloc (.cells #[(.slice Aw nw cw)] 76) := ⟨_, rfl⟩
      have hBa : Below y2.heap.size y2 y3 := by rw [e3]; exact (Below.refl _ _).alloc (Nat.le_refl _) _
      have hlt3 : y2.heap.size < y3.heap.size := by rw [e3]; show _ < (y2.heap.push _).size; simp
      have BK3 := BK2.trans (hBa.mono BK2.size)
      have o2 := own_below o2 hBa (Nat.le_refl _)
      have k3 : Cel y3 (.slice (some ⟨y2.heap.size, 0, none⟩) 1 1) 1 1 [(.slice Aw nw cw)] := by rw [e3]; exact cel_one y2 76 rfl
      clear hBa
      refine op_do (some 17) (.slice (some ⟨y2.heap.size, 0, none⟩) 1 1) y3 (by kernel_rfl) (by kernel_rfl) (by kernel_rfl) (by rw [e3]; exact exec_oneS Tryz.underlying75 zero_kp 16 (by kernel_rfl) (by kernel_rfl)) ?_
      refine ⟨(HP0.out.keepB (BK3.block _ hmy)), ?_⟩
      simp only [put_lit, put_non, List.set_cons_zero, List.set_cons_succ]
      refine hk_one (i := 11) (by kernel_rfl) ?_
      refine op_appendC Tryz.underlying75 zero_kp rfl (by omega) (by omega) (some 18) 12 17 (by kernel_rfl) (by kernel_rfl) (by kernel_rfl) (by kernel_rfl) yd.heap.size v2 (0 + k) ([] ++ us) (by kernel_rfl) o2 (.slice (some ⟨y2.heap.size, 0, none⟩) 1 1) 1 [(.slice Aw nw cw)] (by kernel_rfl) k3 (one_kp _ _ _) (by have := HPM.out; omega) BK3.size ?_
      intro v4 y4 o4 hg
      have BK4 := BK3.grown hg BK3.size (fun k e => (o2.lt k e).1)
      clear hg o2
      refine ⟨(HP0.out.keepB (BK4.block _ hmy)), ?_⟩
      simp only [put_lit, put_non, List.set_cons_zero, List.set_cons_succ]
      obtain ⟨g9, c9, e9⟩ := own_block o4 (by omega)
      subst e9
      have hfin := FIN.out y4 (.slice (some ⟨g9, 0, none⟩) (0 + k + 1) c9) BK4 (by rw [List.nil_append] at o4; rw [show k + 1 = 0 + k + 1 by omega]; exact o4)
      refine hk_take (i := 12) (some 4) (.slice (some ⟨g9, 0, none⟩) (0 + k + 1) c9) (by kernel_rfl) (by kernel_rfl) (by kernel_rfl) (by kernel_rfl) (by kernel_rfl) (by kernel_rfl) (fun W hS => by kernel_rfl) (fun _ _ d _ _ h => by cases d <;> exact h) (HP0.out.keepB (BK4.block _ hmy)) ?_
      simp only [put_lit, put_non, List.set_cons_zero, List.set_cons_succ]
      refine hk_done (by kernel_rfl) ?_
      have hcap := (own_cel o4).bounds.2.1
      have HF := Lib.hid hfin.1
      have HBY := Lib.hid hfin.2
      clear FIN CU HP0 ONE hmy hfin o4 BK4 hlt1 e1 BK1 hlt3 k3 e3 BK2 BK3
      generalize y4 = y at *
      obtain ⟨k1, ek1⟩ : ∃ k1, 0 + k + 1 = k1 := ⟨_, rfl⟩
      have HL5 := Lib.hid (HLS.out k1 (by omega))
      have HN5 := Lib.hid (HLN.out k1 (by omega))
      have HK1 := Lib.hid (show k1 = (s.kept ++ [s.work]).length by rw [List.length_append, HKL.out, List.length_singleton]; omega)
      rw [ek1] at HF hcap
      simp only [ek1]
      have hk5 : k1 ≤ 5 := by have := HPM.out; omega
      clear ek1 HLS HLN HPM
      by_cases h5 : k1 = 5
      · subst h5
        obtain ⟨x, L, e1, e2⟩ := HL5.out rfl
        have hc91 : ¬ c9 = 1 := by omega
        have hc92 : ¬ c9 - 1 = 0 := by omega
        have hfin := HF.out
        rw [e1] at hfin
        have HL := Lib.hid (hfin.tail (n := 4) (by omega))
        have HNL := Lib.hid (show 4 = L.length by have := HK1.out; rw [e1, List.length_cons] at this; omega)
        have HLL := Lib.hid (show ∀ l ∈ L, l.length ≤ 1000 by rw [← e2]; exact HLE.out)
        have HLB := Lib.hid (show (L.map listNeed).sum ≤ 200000 by rw [← e2]; exact HBD.out)
        have HNE := Lib.hid (show needS s = 8 + (L.map listNeed).sum by rw [← e2]; exact HNS.out)
        clear hfin e1 e2 HL5 HN5 hk5 HF HK1 HBD HNS
        go_wp2_with fail
        go_loopw [3, 5] (fun n i wr => ∃ j : Nat, j ≤ 4 ∧ i = .int .i64 j ∧ n = .int .i64 ((8 + ((L.take j).map listNeed).sum : Nat) : Int) ∧ y = wr) (fun _ i _ => 4 - (intOf i).toNat)
        case atStart => exact ⟨0, Nat.zero_le _, rfl, rfl, rfl⟩
        case round =>
          obtain ⟨j, hj, rfl, rfl, rfl⟩ := hrel
          by_cases hjm : j < 4
          · have HJ : (j : Int) < 4 := by omega
            have hjL : j < L.length := by rw [← HNL.out]; exact hjm
            obtain ⟨b1, o1, v1, e1, -, hc1, hp1⟩ := HL.out.at' hjL
            injection e1 with e1
            injection e1 with e1 e2
            subst e1 e2
            skip
            have hs := sumTake listNeed L hjL
            have hle := sumTake_le listNeed L (j + 1)
            have hls : listNeed L[j] = 2 + (L[j].map pageNeed).sum := rfl
            have hll := HLL.out _ (List.getElem_mem hjL)
            generalize L[j] = l at *
            generalize ((L.take j).map listNeed).sum = N0 at *
            obtain ⟨N1, eN1⟩ : ∃ N1, ((L.take (j + 1)).map listNeed).sum = N1 := ⟨_, rfl⟩
            rw [eN1] at hs hle
            have HEN := Lib.hid eN1
            clear eN1
            have hN1 : N1 ≤ 200000 := by have := HLB.out; omega
            rw [hls] at hs
            clear hls hle
            obtain ⟨A1, cl1, rfl⟩ := hp1.form
            have HP1 := Lib.hid hp1
            have HS1 := Lib.hid hs
            have hnn : (N0 : Int) ≤ 200000 := by omega
            have HN1 := Lib.hid hN1
            obtain ⟨ln, eln⟩ : ∃ ln, l.length = ln := ⟨_, rfl⟩
            rw [eln] at hc1 hll
            have hlni : (ln : Int) ≤ 1000 := by omega
            have HLN2 := Lib.hid eln
            clear hp1 hs hN1 eln
            go_wp2_with fail
            go_loopw [3, 6] (fun n i wr => ∃ q : Nat, q ≤ ln ∧ i = .int .i64 q ∧ n = .int .i64 ((8 + N0 + 2 + ((l.take q).map pageNeed).sum : Nat) : Int) ∧ y = wr) (fun _ i _ => ln - (intOf i).toNat)
            case atStart => exact ⟨0, Nat.zero_le _, rfl, by simp, rfl⟩
            case round =>
              obtain ⟨q, hq, rfl, rfl, rfl⟩ := hrel
              by_cases hqm : q < ln
              · have HQ : (q : Int) < ln := by omega
                have hql : q < l.length := by rw [HLN2.out]; exact hqm
                obtain ⟨b2, ob, vp, rfl, -, hrp, hpb⟩ := HP1.out.at' hql
                have hs2 := sumTake pageNeed l hql
                have hle2 := sumTake_le pageNeed l (q + 1)
                have hpf : pageNeed l[q] = 1 + (l[q].2.length + 63) / 64 := rfl
                rw [hpf] at hs2
                clear hpf
                generalize l[q] = pg at *
                obtain ⟨p1, p2⟩ := pg
                simp only at hrp hpb hs2
                generalize ((l.take q).map pageNeed).sum = I0 at *
                obtain ⟨I1, eI1⟩ : ∃ I1, ((l.take (q + 1)).map pageNeed).sum = I1 := ⟨_, rfl⟩
                rw [eI1] at hs2 hle2
                have HEI := Lib.hid eI1
                obtain ⟨Ap, cp, rfl⟩ := hpb.1.form
                have kp : y.cell? ⟨b2, ob + q * 2 + 1, none⟩ = some (.slice Ap p2.length cp) := hrp 1 _ rfl
                generalize p2.length = pl at *
                have hls1 := HS1.out
                have hls2 := HN1.out
                have hii : (I0 : Int) ≤ 200000 := by omega
                have hpl : (pl : Int) ≤ 20000000 := by omega
                have hqi : (((pl + 63) / 64 : Nat) : Int) ≤ 200000 := by omega
                have HS2 := Lib.hid hs2
                have hq64 := quo64 pl
                generalize (pl + 63) / 64 = pq at *
                clear hls1 hls2 hs2 hle2 hrp hpb eI1
                go_wp2_with fail
                go_roundw
                case rel => exact ⟨q + 1, by omega, by go_num, by rw [HEI.out, HS2.out]; exact congrArg (Value.int .i64) (by omega), trivial⟩
                case measure => simp [intOf]; omega
              · have HQ : ¬ (q : Int) < ln := by omega
                have eq : q = l.length := by rw [HLN2.out]; omega
                have hpn : ((l.take q).map pageNeed).sum = (l.map pageNeed).sum := by rw [eq, List.take_length]
                rw [hpn]
                have hls1 := HS1.out
                have hls2 := HN1.out
                generalize (l.map pageNeed).sum = I0 at *
                have hii : (I0 : Int) ≤ 200000 := by omega
                clear eq hpn hls1 hls2
                go_wp2_with fail
                go_roundw
                case rel => exact ⟨j + 1, by omega, by go_num, by rw [HEN.out, HS1.out]; exact congrArg (Value.int .i64) (by omega), trivial⟩
                case measure => simp [intOf]; omega
          · have HJ : ¬ (j : Int) < 4 := by omega
            have ej : j = L.length := by rw [← HNL.out]; omega
            have hjn : ((L.take j).map listNeed).sum = (L.map listNeed).sum := by rw [ej, List.take_length]
            rw [hjn]
            have hlb := HLB.out
            have HNEo := HNE.out
            clear ej hjn
            generalize (L.map listNeed).sum = N0 at *
            have HNF := Lib.hid HNEo
            clear HNEo hlb
            go_wp2_with fail
            go_ret
            exact ⟨by rw [HNF.out]; exact congrArg (fun x => Ending.returned (.int .i64 x)) (by omega), HBY.out⟩
      · have hk4 : ¬ ((k1 : Int) > 4) := by omega
        have e2 := HN5.out h5
        obtain ⟨L, e3⟩ : ∃ L, s.kept ++ [s.work] = L := ⟨_, rfl⟩
        rw [e3] at HF HK1 e2
        have HL := HF
        have HNL := HK1
        have HLL := Lib.hid (show ∀ l ∈ L, l.length ≤ 1000 by rw [← e2]; exact HLE.out)
        have HLB := Lib.hid (show (L.map listNeed).sum ≤ 200000 by rw [← e2]; exact HBD.out)
        have HNE := Lib.hid (show needS s = 8 + (L.map listNeed).sum by rw [← e2]; exact HNS.out)
        obtain ⟨nk, enk⟩ : ∃ nk, k1 = nk := ⟨_, rfl⟩
        clear e2 e3 HL5 HN5 HF HK1 HBD HNS
        go_wp2_with fail
        go_loopw [3, 5] (fun n i wr => ∃ j : Nat, j ≤ k1 ∧ i = .int .i64 j ∧ n = .int .i64 ((8 + ((L.take j).map listNeed).sum : Nat) : Int) ∧ y = wr) (fun _ i _ => k1 - (intOf i).toNat)
        case atStart => exact ⟨0, Nat.zero_le _, rfl, rfl, rfl⟩
        case round =>
          obtain ⟨j, hj, rfl, rfl, rfl⟩ := hrel
          by_cases hjm : j < k1
          · have HJ : (j : Int) < k1 := by omega
            have hjL : j < L.length := by rw [← HNL.out]; exact hjm
            obtain ⟨b1, o1, v1, e1, -, hc1, hp1⟩ := HL.out.at' hjL
            injection e1 with e1
            injection e1 with e1 e2
            subst e1 e2
            simp only [Nat.zero_add] at hc1
            have hs := sumTake listNeed L hjL
            have hle := sumTake_le listNeed L (j + 1)
            have hls : listNeed L[j] = 2 + (L[j].map pageNeed).sum := rfl
            have hll := HLL.out _ (List.getElem_mem hjL)
            generalize L[j] = l at *
            generalize ((L.take j).map listNeed).sum = N0 at *
            obtain ⟨N1, eN1⟩ : ∃ N1, ((L.take (j + 1)).map listNeed).sum = N1 := ⟨_, rfl⟩
            rw [eN1] at hs hle
            have HEN := Lib.hid eN1
            clear eN1
            have hN1 : N1 ≤ 200000 := by have := HLB.out; omega
            rw [hls] at hs
            clear hls hle
            obtain ⟨A1, cl1, rfl⟩ := hp1.form
            have HP1 := Lib.hid hp1
            have HS1 := Lib.hid hs
            have hnn : (N0 : Int) ≤ 200000 := by omega
            have HN1 := Lib.hid hN1
            obtain ⟨ln, eln⟩ : ∃ ln, l.length = ln := ⟨_, rfl⟩
            rw [eln] at hc1 hll
            have hlni : (ln : Int) ≤ 1000 := by omega
            have HLN2 := Lib.hid eln
            clear hp1 hs hN1 eln
            go_wp2_with fail
            go_loopw [3, 6] (fun n i wr => ∃ q : Nat, q ≤ ln ∧ i = .int .i64 q ∧ n = .int .i64 ((8 + N0 + 2 + ((l.take q).map pageNeed).sum : Nat) : Int) ∧ y = wr) (fun _ i _ => ln - (intOf i).toNat)
            case atStart => exact ⟨0, Nat.zero_le _, rfl, by simp, rfl⟩
            case round =>
              obtain ⟨q, hq, rfl, rfl, rfl⟩ := hrel
              by_cases hqm : q < ln
              · have HQ : (q : Int) < ln := by omega
                have hql : q < l.length := by rw [HLN2.out]; exact hqm
                obtain ⟨b2, ob, vp, rfl, -, hrp, hpb⟩ := HP1.out.at' hql
                have hs2 := sumTake pageNeed l hql
                have hle2 := sumTake_le pageNeed l (q + 1)
                have hpf : pageNeed l[q] = 1 + (l[q].2.length + 63) / 64 := rfl
                rw [hpf] at hs2
                clear hpf
                generalize l[q] = pg at *
                obtain ⟨p1, p2⟩ := pg
                simp only at hrp hpb hs2
                generalize ((l.take q).map pageNeed).sum = I0 at *
                obtain ⟨I1, eI1⟩ : ∃ I1, ((l.take (q + 1)).map pageNeed).sum = I1 := ⟨_, rfl⟩
                rw [eI1] at hs2 hle2
                have HEI := Lib.hid eI1
                obtain ⟨Ap, cp, rfl⟩ := hpb.1.form
                have kp : y.cell? ⟨b2, ob + q * 2 + 1, none⟩ = some (.slice Ap p2.length cp) := hrp 1 _ rfl
                generalize p2.length = pl at *
                have hls1 := HS1.out
                have hls2 := HN1.out
                have hii : (I0 : Int) ≤ 200000 := by omega
                have hpl : (pl : Int) ≤ 20000000 := by omega
                have hqi : (((pl + 63) / 64 : Nat) : Int) ≤ 200000 := by omega
                have HS2 := Lib.hid hs2
                have hq64 := quo64 pl
                generalize (pl + 63) / 64 = pq at *
                clear hls1 hls2 hs2 hle2 hrp hpb eI1
                go_wp2_with fail
                go_roundw
                case rel => exact ⟨q + 1, by omega, by go_num, by rw [HEI.out, HS2.out]; exact congrArg (Value.int .i64) (by omega), trivial⟩
                case measure => simp [intOf]; omega
              · have HQ : ¬ (q : Int) < ln := by omega
                have eq : q = l.length := by rw [HLN2.out]; omega
                have hpn : ((l.take q).map pageNeed).sum = (l.map pageNeed).sum := by rw [eq, List.take_length]
                rw [hpn]
                have hls1 := HS1.out
                have hls2 := HN1.out
                generalize (l.map pageNeed).sum = I0 at *
                have hii : (I0 : Int) ≤ 200000 := by omega
                clear eq hpn hls1 hls2
                go_wp2_with fail
                go_roundw
                case rel => exact ⟨j + 1, by omega, by go_num, by rw [HEN.out, HS1.out]; exact congrArg (Value.int .i64) (by omega), trivial⟩
                case measure => simp [intOf]; omega
          · have HJ : ¬ (j : Int) < k1 := by omega
            have ej : j = L.length := by rw [← HNL.out]; omega
            have hjn : ((L.take j).map listNeed).sum = (L.map listNeed).sum := by rw [ej, List.take_length]
            rw [hjn]
            have hlb := HLB.out
            have HNEo := HNE.out
            clear ej hjn
            generalize (L.map listNeed).sum = N0 at *
            have HNF := Lib.hid HNEo
            clear HNEo hlb
            go_wp2_with fail
            go_ret
            exact ⟨by rw [HNF.out]; exact congrArg (fun x => Ending.returned (.int .i64 x)) (by omega), HBY.out⟩
    · skip
      obtain ⟨y2, e2⟩ : ∃ y, y = y1.alloc (.cells #[(.slice Aw nw cw)] 76) := ⟨_, rfl⟩
      have hBa : Below y1.heap.size y1 y2 := by rw [e2]; exact (Below.refl _ _).alloc (Nat.le_refl _) _
      have hlt2 : y1.heap.size < y2.heap.size := by rw [e2]; show _ < (y1.heap.push _).size; simp
      have hne18 : (yd.heap.size : Nat) ≠ y1.heap.size := Nat.ne_of_lt (o1.lt _ rfl).2
      have BK2 := BK1.trans (hBa.mono BK1.size)
      have o1 := own_below o1 hBa (Nat.le_refl _)
      have k2 : Cel y2 (.slice (some ⟨y1.heap.size, 0, none⟩) 1 1) 1 1 [(.slice Aw nw cw)] := by rw [e2]; exact cel_one y1 76 rfl
      clear hBa
      refine op_do (some 17) (.slice (some ⟨y1.heap.size, 0, none⟩) 1 1) y2 (by kernel_rfl) (by kernel_rfl) (by kernel_rfl) (by rw [e2]; exact exec_oneS Tryz.underlying75 zero_kp 16 (by kernel_rfl) (by kernel_rfl)) ?_
      refine ⟨(HP0.out.keepB (BK2.block _ hmy)), ?_⟩
      simp only [put_lit, put_non, List.set_cons_zero, List.set_cons_succ]
      refine hk_one (i := 5) (by kernel_rfl) ?_
      refine op_appendC Tryz.underlying75 zero_kp rfl (by omega) (by omega) (some 12) 7 11 (by kernel_rfl) (by kernel_rfl) (by kernel_rfl) (by kernel_rfl) yd.heap.size (.slice (some ⟨yd.heap.size, 0, none⟩) 0 0) 0 [] (by kernel_rfl) o1 (.slice Ak k ck) k us (by kernel_rfl) (CU.out.below BK2) ONE.out (by have := HPM.out; omega) BK2.size ?_
      intro v3 y3 o3 hg
      have BK3 := BK2.grown hg BK2.size (fun k e => (o1.lt k e).1)
      have k2 := k2.grown hg (fun b hb e => hne18 (by simp only [Value.ownBlock, Option.some.injEq] at hb e; omega))
      clear hg o1
      refine ⟨(HP0.out.keepB (BK3.block _ hmy)), ?_⟩
      simp only [put_lit, put_non, List.set_cons_zero, List.set_cons_succ]
      refine hk_one (i := 11) (by kernel_rfl) ?_
      refine op_appendC Tryz.underlying75 zero_kp rfl (by omega) (by omega) (some 18) 12 17 (by kernel_rfl) (by kernel_rfl) (by kernel_rfl) (by kernel_rfl) yd.heap.size v3 (0 + k) ([] ++ us) (by kernel_rfl) o3 (.slice (some ⟨y1.heap.size, 0, none⟩) 1 1) 1 [(.slice Aw nw cw)] (by kernel_rfl) k2 (one_kp _ _ _) (by have := HPM.out; omega) BK3.size ?_
      intro v4 y4 o4 hg
      have BK4 := BK3.grown hg BK3.size (fun k e => (o3.lt k e).1)
      clear hg o3
      refine ⟨(HP0.out.keepB (BK4.block _ hmy)), ?_⟩
      simp only [put_lit, put_non, List.set_cons_zero, List.set_cons_succ]
      obtain ⟨g9, c9, e9⟩ := own_block o4 (by omega)
      subst e9
      have hfin := FIN.out y4 (.slice (some ⟨g9, 0, none⟩) (0 + k + 1) c9) BK4 (by rw [List.nil_append] at o4; rw [show k + 1 = 0 + k + 1 by omega]; exact o4)
      refine hk_take (i := 12) (some 4) (.slice (some ⟨g9, 0, none⟩) (0 + k + 1) c9) (by kernel_rfl) (by kernel_rfl) (by kernel_rfl) (by kernel_rfl) (by kernel_rfl) (by kernel_rfl) (fun W hS => by kernel_rfl) (fun _ _ d _ _ h => by cases d <;> exact h) (HP0.out.keepB (BK4.block _ hmy)) ?_
      simp only [put_lit, put_non, List.set_cons_zero, List.set_cons_succ]
      refine hk_done (by kernel_rfl) ?_
      have hcap := (own_cel o4).bounds.2.1
      have HF := Lib.hid hfin.1
      have HBY := Lib.hid hfin.2
      clear FIN CU HP0 ONE hmy hfin o4 BK4 hlt1 e1 hlt2 hne18 k2 e2 BK1 BK2 BK3
      generalize y4 = y at *
      obtain ⟨k1, ek1⟩ : ∃ k1, 0 + k + 1 = k1 := ⟨_, rfl⟩
      have HL5 := Lib.hid (HLS.out k1 (by omega))
      have HN5 := Lib.hid (HLN.out k1 (by omega))
      have HK1 := Lib.hid (show k1 = (s.kept ++ [s.work]).length by rw [List.length_append, HKL.out, List.length_singleton]; omega)
      rw [ek1] at HF hcap
      simp only [ek1]
      have hk5 : k1 ≤ 5 := by have := HPM.out; omega
      clear ek1 HLS HLN HPM
      by_cases h5 : k1 = 5
      · subst h5
        obtain ⟨x, L, e1, e2⟩ := HL5.out rfl
        have hc91 : ¬ c9 = 1 := by omega
        have hc92 : ¬ c9 - 1 = 0 := by omega
        have hfin := HF.out
        rw [e1] at hfin
        have HL := Lib.hid (hfin.tail (n := 4) (by omega))
        have HNL := Lib.hid (show 4 = L.length by have := HK1.out; rw [e1, List.length_cons] at this; omega)
        have HLL := Lib.hid (show ∀ l ∈ L, l.length ≤ 1000 by rw [← e2]; exact HLE.out)
        have HLB := Lib.hid (show (L.map listNeed).sum ≤ 200000 by rw [← e2]; exact HBD.out)
        have HNE := Lib.hid (show needS s = 8 + (L.map listNeed).sum by rw [← e2]; exact HNS.out)
        clear hfin e1 e2 HL5 HN5 hk5 HF HK1 HBD HNS
        go_wp2_with fail
        go_loopw [3, 5] (fun n i wr => ∃ j : Nat, j ≤ 4 ∧ i = .int .i64 j ∧ n = .int .i64 ((8 + ((L.take j).map listNeed).sum : Nat) : Int) ∧ y = wr) (fun _ i _ => 4 - (intOf i).toNat)
        case atStart => exact ⟨0, Nat.zero_le _, rfl, rfl, rfl⟩
        case round =>
          obtain ⟨j, hj, rfl, rfl, rfl⟩ := hrel
          by_cases hjm : j < 4
          · have HJ : (j : Int) < 4 := by omega
            have hjL : j < L.length := by rw [← HNL.out]; exact hjm
            obtain ⟨b1, o1, v1, e1, -, hc1, hp1⟩ := HL.out.at' hjL
            injection e1 with e1
            injection e1 with e1 e2
            subst e1 e2
            skip
            have hs := sumTake listNeed L hjL
            have hle := sumTake_le listNeed L (j + 1)
            have hls : listNeed L[j] = 2 + (L[j].map pageNeed).sum := rfl
            have hll := HLL.out _ (List.getElem_mem hjL)
            generalize L[j] = l at *
            generalize ((L.take j).map listNeed).sum = N0 at *
            obtain ⟨N1, eN1⟩ : ∃ N1, ((L.take (j + 1)).map listNeed).sum = N1 := ⟨_, rfl⟩
            rw [eN1] at hs hle
            have HEN := Lib.hid eN1
            clear eN1
            have hN1 : N1 ≤ 200000 := by have := HLB.out; omega
            rw [hls] at hs
            clear hls hle
            obtain ⟨A1, cl1, rfl⟩ := hp1.form
            have HP1 := Lib.hid hp1
            have HS1 := Lib.hid hs
            have hnn : (N0 : Int) ≤ 200000 := by omega
            have HN1 := Lib.hid hN1
            obtain ⟨ln, eln⟩ : ∃ ln, l.length = ln := ⟨_, rfl⟩
            rw [eln] at hc1 hll
            have hlni : (ln : Int) ≤ 1000 := by omega
            have HLN2 := Lib.hid eln
            clear hp1 hs hN1 eln
            go_wp2_with fail
            go_loopw [3, 6] (fun n i wr => ∃ q : Nat, q ≤ ln ∧ i = .int .i64 q ∧ n = .int .i64 ((8 + N0 + 2 + ((l.take q).map pageNeed).sum : Nat) : Int) ∧ y = wr) (fun _ i _ => ln - (intOf i).toNat)
            case atStart => exact ⟨0, Nat.zero_le _, rfl, by simp, rfl⟩
            case round =>
              obtain ⟨q, hq, rfl, rfl, rfl⟩ := hrel
              by_cases hqm : q < ln
              · have HQ : (q : Int) < ln := by omega
                have hql : q < l.length := by rw [HLN2.out]; exact hqm
                obtain ⟨b2, ob, vp, rfl, -, hrp, hpb⟩ := HP1.out.at' hql
                have hs2 := sumTake pageNeed l hql
                have hle2 := sumTake_le pageNeed l (q + 1)
                have hpf : pageNeed l[q] = 1 + (l[q].2.length + 63) / 64 := rfl
                rw [hpf] at hs2
                clear hpf
                generalize l[q] = pg at *
                obtain ⟨p1, p2⟩ := pg
                simp only at hrp hpb hs2
                generalize ((l.take q).map pageNeed).sum = I0 at *
                obtain ⟨I1, eI1⟩ : ∃ I1, ((l.take (q + 1)).map pageNeed).sum = I1 := ⟨_, rfl⟩
                rw [eI1] at hs2 hle2
                have HEI := Lib.hid eI1
                obtain ⟨Ap, cp, rfl⟩ := hpb.1.form
                have kp : y.cell? ⟨b2, ob + q * 2 + 1, none⟩ = some (.slice Ap p2.length cp) := hrp 1 _ rfl
                generalize p2.length = pl at *
                have hls1 := HS1.out
                have hls2 := HN1.out
                have hii : (I0 : Int) ≤ 200000 := by omega
                have hpl : (pl : Int) ≤ 20000000 := by omega
                have hqi : (((pl + 63) / 64 : Nat) : Int) ≤ 200000 := by omega
                have HS2 := Lib.hid hs2
                have hq64 := quo64 pl
                generalize (pl + 63) / 64 = pq at *
                clear hls1 hls2 hs2 hle2 hrp hpb eI1
                go_wp2_with fail
                go_roundw
                case rel => exact ⟨q + 1, by omega, by go_num, by rw [HEI.out, HS2.out]; exact congrArg (Value.int .i64) (by omega), trivial⟩
                case measure => simp [intOf]; omega
              · have HQ : ¬ (q : Int) < ln := by omega
                have eq : q = l.length := by rw [HLN2.out]; omega
                have hpn : ((l.take q).map pageNeed).sum = (l.map pageNeed).sum := by rw [eq, List.take_length]
                rw [hpn]
                have hls1 := HS1.out
                have hls2 := HN1.out
                generalize (l.map pageNeed).sum = I0 at *
                have hii : (I0 : Int) ≤ 200000 := by omega
                clear eq hpn hls1 hls2
                go_wp2_with fail
                go_roundw
                case rel => exact ⟨j + 1, by omega, by go_num, by rw [HEN.out, HS1.out]; exact congrArg (Value.int .i64) (by omega), trivial⟩
                case measure => simp [intOf]; omega
          · have HJ : ¬ (j : Int) < 4 := by omega
            have ej : j = L.length := by rw [← HNL.out]; omega
            have hjn : ((L.take j).map listNeed).sum = (L.map listNeed).sum := by rw [ej, List.take_length]
            rw [hjn]
            have hlb := HLB.out
            have HNEo := HNE.out
            clear ej hjn
            generalize (L.map listNeed).sum = N0 at *
            have HNF := Lib.hid HNEo
            clear HNEo hlb
            go_wp2_with fail
            go_ret
            exact ⟨by rw [HNF.out]; exact congrArg (fun x => Ending.returned (.int .i64 x)) (by omega), HBY.out⟩
      · have hk4 : ¬ ((k1 : Int) > 4) := by omega
        have e2 := HN5.out h5
        obtain ⟨L, e3⟩ : ∃ L, s.kept ++ [s.work] = L := ⟨_, rfl⟩
        rw [e3] at HF HK1 e2
        have HL := HF
        have HNL := HK1
        have HLL := Lib.hid (show ∀ l ∈ L, l.length ≤ 1000 by rw [← e2]; exact HLE.out)
        have HLB := Lib.hid (show (L.map listNeed).sum ≤ 200000 by rw [← e2]; exact HBD.out)
        have HNE := Lib.hid (show needS s = 8 + (L.map listNeed).sum by rw [← e2]; exact HNS.out)
        obtain ⟨nk, enk⟩ : ∃ nk, k1 = nk := ⟨_, rfl⟩
        clear e2 e3 HL5 HN5 HF HK1 HBD HNS
        go_wp2_with fail
        go_loopw [3, 5] (fun n i wr => ∃ j : Nat, j ≤ k1 ∧ i = .int .i64 j ∧ n = .int .i64 ((8 + ((L.take j).map listNeed).sum : Nat) : Int) ∧ y = wr) (fun _ i _ => k1 - (intOf i).toNat)
        case atStart => exact ⟨0, Nat.zero_le _, rfl, rfl, rfl⟩
        case round =>
          obtain ⟨j, hj, rfl, rfl, rfl⟩ := hrel
          by_cases hjm : j < k1
          · have HJ : (j : Int) < k1 := by omega
            have hjL : j < L.length := by rw [← HNL.out]; exact hjm
            obtain ⟨b1, o1, v1, e1, -, hc1, hp1⟩ := HL.out.at' hjL
            injection e1 with e1
            injection e1 with e1 e2
            subst e1 e2
            simp only [Nat.zero_add] at hc1
            have hs := sumTake listNeed L hjL
            have hle := sumTake_le listNeed L (j + 1)
            have hls : listNeed L[j] = 2 + (L[j].map pageNeed).sum := rfl
            have hll := HLL.out _ (List.getElem_mem hjL)
            generalize L[j] = l at *
            generalize ((L.take j).map listNeed).sum = N0 at *
            obtain ⟨N1, eN1⟩ : ∃ N1, ((L.take (j + 1)).map listNeed).sum = N1 := ⟨_, rfl⟩
            rw [eN1] at hs hle
            have HEN := Lib.hid eN1
            clear eN1
            have hN1 : N1 ≤ 200000 := by have := HLB.out; omega
            rw [hls] at hs
            clear hls hle
            obtain ⟨A1, cl1, rfl⟩ := hp1.form
            have HP1 := Lib.hid hp1
            have HS1 := Lib.hid hs
            have hnn : (N0 : Int) ≤ 200000 := by omega
            have HN1 := Lib.hid hN1
            obtain ⟨ln, eln⟩ : ∃ ln, l.length = ln := ⟨_, rfl⟩
            rw [eln] at hc1 hll
            have hlni : (ln : Int) ≤ 1000 := by omega
            have HLN2 := Lib.hid eln
            clear hp1 hs hN1 eln
            go_wp2_with fail
            go_loopw [3, 6] (fun n i wr => ∃ q : Nat, q ≤ ln ∧ i = .int .i64 q ∧ n = .int .i64 ((8 + N0 + 2 + ((l.take q).map pageNeed).sum : Nat) : Int) ∧ y = wr) (fun _ i _ => ln - (intOf i).toNat)
            case atStart => exact ⟨0, Nat.zero_le _, rfl, by simp, rfl⟩
            case round =>
              obtain ⟨q, hq, rfl, rfl, rfl⟩ := hrel
              by_cases hqm : q < ln
              · have HQ : (q : Int) < ln := by omega
                have hql : q < l.length := by rw [HLN2.out]; exact hqm
                obtain ⟨b2, ob, vp, rfl, -, hrp, hpb⟩ := HP1.out.at' hql
                have hs2 := sumTake pageNeed l hql
                have hle2 := sumTake_le pageNeed l (q + 1)
                have hpf : pageNeed l[q] = 1 + (l[q].2.length + 63) / 64 := rfl
                rw [hpf] at hs2
                clear hpf
                generalize l[q] = pg at *
                obtain ⟨p1, p2⟩ := pg
                simp only at hrp hpb hs2
                generalize ((l.take q).map pageNeed).sum = I0 at *
                obtain ⟨I1, eI1⟩ : ∃ I1, ((l.take (q + 1)).map pageNeed).sum = I1 := ⟨_, rfl⟩
                rw [eI1] at hs2 hle2
                have HEI := Lib.hid eI1
                obtain ⟨Ap, cp, rfl⟩ := hpb.1.form
                have kp : y.cell? ⟨b2, ob + q * 2 + 1, none⟩ = some (.slice Ap p2.length cp) := hrp 1 _ rfl
                generalize p2.length = pl at *
                have hls1 := HS1.out
                have hls2 := HN1.out
                have hii : (I0 : Int) ≤ 200000 := by omega
                have hpl : (pl : Int) ≤ 20000000 := by omega
                have hqi : (((pl + 63) / 64 : Nat) : Int) ≤ 200000 := by omega
                have HS2 := Lib.hid hs2
                have hq64 := quo64 pl
                generalize (pl + 63) / 64 = pq at *
                clear hls1 hls2 hs2 hle2 hrp hpb eI1
                go_wp2_with fail
                go_roundw
                case rel => exact ⟨q + 1, by omega, by go_num, by rw [HEI.out, HS2.out]; exact congrArg (Value.int .i64) (by omega), trivial⟩
                case measure => simp [intOf]; omega
              · have HQ : ¬ (q : Int) < ln := by omega
                have eq : q = l.length := by rw [HLN2.out]; omega
                have hpn : ((l.take q).map pageNeed).sum = (l.map pageNeed).sum := by rw [eq, List.take_length]
                rw [hpn]
                have hls1 := HS1.out
                have hls2 := HN1.out
                generalize (l.map pageNeed).sum = I0 at *
                have hii : (I0 : Int) ≤ 200000 := by omega
                clear eq hpn hls1 hls2
                go_wp2_with fail
                go_roundw
                case rel => exact ⟨j + 1, by omega, by go_num, by rw [HEN.out, HS1.out]; exact congrArg (Value.int .i64) (by omega), trivial⟩
                case measure => simp [intOf]; omega
          · have HJ : ¬ (j : Int) < k1 := by omega
            have ej : j = L.length := by rw [← HNL.out]; omega
            have hjn : ((L.take j).map listNeed).sum = (L.map listNeed).sum := by rw [ej, List.take_length]
            rw [hjn]
            have hlb := HLB.out
            have HNEo := HNE.out
            clear ej hjn
            generalize (L.map listNeed).sum = N0 at *
            have HNF := Lib.hid HNEo
            clear HNEo hlb
            go_wp2_with fail
            go_ret
            exact ⟨by rw [HNF.out]; exact congrArg (fun x => Ending.returned (.int .i64 x)) (by omega), HBY.out⟩
  · skip
    obtain ⟨y1, e1⟩ : ∃ y, y = yd.alloc (.cells #[(.slice Aw nw cw)] 76) := ⟨_, rfl⟩
    have hBa : Below yd.heap.size yd y1 := by rw [e1]; exact (Below.refl _ _).alloc (Nat.le_refl _) _
    have hlt1 : yd.heap.size < y1.heap.size := by rw [e1]; show _ < (yd.heap.push _).size; simp
    have BK1 := BK0.trans (hBa.mono BK0.size)
    have k1 : Cel y1 (.slice (some ⟨yd.heap.size, 0, none⟩) 1 1) 1 1 [(.slice Aw nw cw)] := by rw [e1]; exact cel_one yd 76 rfl
    clear hBa
    refine op_do (some 17) (.slice (some ⟨yd.heap.size, 0, none⟩) 1 1) y1 (by kernel_rfl) (by kernel_rfl) (by kernel_rfl) (by rw [e1]; exact exec_oneS Tryz.underlying75 zero_kp 16 (by kernel_rfl) (by kernel_rfl)) ?_
    refine ⟨(HP0.out.keepB (BK1.block _ hmy)), ?_⟩
    simp only [put_lit, put_non, List.set_cons_zero, List.set_cons_succ]
    refine hk_one (i := 0) (by kernel_rfl) ?_
    obtain ⟨y2, e2⟩ : ∃ y, y = y1.alloc (.cells #[] 76) := ⟨_, rfl⟩
    have hBa : Below y1.heap.size y1 y2 := by rw [e2]; exact (Below.refl _ _).alloc (Nat.le_refl _) _
    have hlt2 : y1.heap.size < y2.heap.size := by rw [e2]; show _ < (y1.heap.push _).size; simp
    have BK2 := BK1.trans (hBa.mono BK1.size)
    have k1 := k1.below hBa
    have o2 : y2.ownsRow yd.heap.size 76 1 (.slice (some ⟨y1.heap.size, 0, none⟩) 0 0) 0 [] := by rw [e2]; exact World.ownsRow_made y1 #[] 0 BK1.size (by unfold maxLen; omega) (by simp)
    have hne18 : (y1.heap.size : Nat) ≠ yd.heap.size := Nat.ne_of_gt (Nat.lt_of_lt_of_le hlt1 (Nat.le_refl _))
    clear hBa
    refine op_do (some 7) (.slice (some ⟨y1.heap.size, 0, none⟩) 0 0) y2 (by kernel_rfl) (by kernel_rfl) (by kernel_rfl) (by rw [e2]; exact exec_noneC Tryz.underlying75 size_kp (by kernel_rfl)) ?_
    refine ⟨(HP0.out.keepB (BK2.block _ hmy)), ?_⟩
    simp only [put_lit, put_non, List.set_cons_zero, List.set_cons_succ]
    refine hk_one (i := 5) (by kernel_rfl) ?_
    refine op_appendC Tryz.underlying75 zero_kp rfl (by omega) (by omega) (some 12) 7 11 (by kernel_rfl) (by kernel_rfl) (by kernel_rfl) (by kernel_rfl) yd.heap.size (.slice (some ⟨y1.heap.size, 0, none⟩) 0 0) 0 [] (by kernel_rfl) o2 (.slice Ak k ck) k us (by kernel_rfl) (CU.out.below BK2) ONE.out (by have := HPM.out; omega) BK2.size ?_
    intro v3 y3 o3 hg
    have BK3 := BK2.grown hg BK2.size (fun k e => (o2.lt k e).1)
    have k1 := k1.grown hg (fun b hb e => hne18 (by simp only [Value.ownBlock, Option.some.injEq] at hb e; omega))
    clear hg o2
    refine ⟨(HP0.out.keepB (BK3.block _ hmy)), ?_⟩
    simp only [put_lit, put_non, List.set_cons_zero, List.set_cons_succ]
    refine hk_one (i := 11) (by kernel_rfl) ?_
    refine op_appendC Tryz.underlying75 zero_kp rfl (by omega) (by omega) (some 18) 12 17 (by kernel_rfl) (by kernel_rfl) (by kernel_rfl) (by kernel_rfl) yd.heap.size v3 (0 + k) ([] ++ us) (by kernel_rfl) o3 (.slice (some ⟨yd.heap.size, 0, none⟩) 1 1) 1 [(.slice Aw nw cw)] (by kernel_rfl) k1 (one_kp _ _ _) (by have := HPM.out; omega) BK3.size ?_
    intro v4 y4 o4 hg
    have BK4 := BK3.grown hg BK3.size (fun k e => (o3.lt k e).1)
    clear hg o3
    refine ⟨(HP0.out.keepB (BK4.block _ hmy)), ?_⟩
    simp only [put_lit, put_non, List.set_cons_zero, List.set_cons_succ]
    obtain ⟨g9, c9, e9⟩ := own_block o4 (by omega)
    subst e9
    have hfin := FIN.out y4 (.slice (some ⟨g9, 0, none⟩) (0 + k + 1) c9) BK4 (by rw [List.nil_append] at o4; rw [show k + 1 = 0 + k + 1 by omega]; exact o4)
    refine hk_take (i := 12) (some 4) (.slice (some ⟨g9, 0, none⟩) (0 + k + 1) c9) (by kernel_rfl) (by kernel_rfl) (by kernel_rfl) (by kernel_rfl) (by kernel_rfl) (by kernel_rfl) (fun W hS => by kernel_rfl) (fun _ _ d _ _ h => by cases d <;> exact h) (HP0.out.keepB (BK4.block _ hmy)) ?_
    simp only [put_lit, put_non, List.set_cons_zero, List.set_cons_succ]
    refine hk_done (by kernel_rfl) ?_
    have hcap := (own_cel o4).bounds.2.1
    have HF := Lib.hid hfin.1
    have HBY := Lib.hid hfin.2
    clear FIN CU HP0 ONE hmy hfin o4 BK4 hlt1 k1 e1 hlt2 hne18 e2 BK1 BK2 BK3
    generalize y4 = y at *
    obtain ⟨k1, ek1⟩ : ∃ k1, 0 + k + 1 = k1 := ⟨_, rfl⟩
    have HL5 := Lib.hid (HLS.out k1 (by omega))
    have HN5 := Lib.hid (HLN.out k1 (by omega))
    have HK1 := Lib.hid (show k1 = (s.kept ++ [s.work]).length by rw [List.length_append, HKL.out, List.length_singleton]; omega)
    rw [ek1] at HF hcap
    simp only [ek1]
    have hk5 : k1 ≤ 5 := by have := HPM.out; omega
    clear ek1 HLS HLN HPM
    by_cases h5 : k1 = 5
    · subst h5
      obtain ⟨x, L, e1, e2⟩ := HL5.out rfl
      have hc91 : ¬ c9 = 1 := by omega
      have hc92 : ¬ c9 - 1 = 0 := by omega
      have hfin := HF.out
      rw [e1] at hfin
      have HL := Lib.hid (hfin.tail (n := 4) (by omega))
      have HNL := Lib.hid (show 4 = L.length by have := HK1.out; rw [e1, List.length_cons] at this; omega)
      have HLL := Lib.hid (show ∀ l ∈ L, l.length ≤ 1000 by rw [← e2]; exact HLE.out)
      have HLB := Lib.hid (show (L.map listNeed).sum ≤ 200000 by rw [← e2]; exact HBD.out)
      have HNE := Lib.hid (show needS s = 8 + (L.map listNeed).sum by rw [← e2]; exact HNS.out)
      clear hfin e1 e2 HL5 HN5 hk5 HF HK1 HBD HNS
      go_wp2_with fail
      go_loopw [3, 5] (fun n i wr => ∃ j : Nat, j ≤ 4 ∧ i = .int .i64 j ∧ n = .int .i64 ((8 + ((L.take j).map listNeed).sum : Nat) : Int) ∧ y = wr) (fun _ i _ => 4 - (intOf i).toNat)
      case atStart => exact ⟨0, Nat.zero_le _, rfl, rfl, rfl⟩
      case round =>
        obtain ⟨j, hj, rfl, rfl, rfl⟩ := hrel
        by_cases hjm : j < 4
        · have HJ : (j : Int) < 4 := by omega
          have hjL : j < L.length := by rw [← HNL.out]; exact hjm
          obtain ⟨b1, o1, v1, e1, -, hc1, hp1⟩ := HL.out.at' hjL
          injection e1 with e1
          injection e1 with e1 e2
          subst e1 e2
          skip
          have hs := sumTake listNeed L hjL
          have hle := sumTake_le listNeed L (j + 1)
          have hls : listNeed L[j] = 2 + (L[j].map pageNeed).sum := rfl
          have hll := HLL.out _ (List.getElem_mem hjL)
          generalize L[j] = l at *
          generalize ((L.take j).map listNeed).sum = N0 at *
          obtain ⟨N1, eN1⟩ : ∃ N1, ((L.take (j + 1)).map listNeed).sum = N1 := ⟨_, rfl⟩
          rw [eN1] at hs hle
          have HEN := Lib.hid eN1
          clear eN1
          have hN1 : N1 ≤ 200000 := by have := HLB.out; omega
          rw [hls] at hs
          clear hls hle
          obtain ⟨A1, cl1, rfl⟩ := hp1.form
          have HP1 := Lib.hid hp1
          have HS1 := Lib.hid hs
          have hnn : (N0 : Int) ≤ 200000 := by omega
          have HN1 := Lib.hid hN1
          obtain ⟨ln, eln⟩ : ∃ ln, l.length = ln := ⟨_, rfl⟩
          rw [eln] at hc1 hll
          have hlni : (ln : Int) ≤ 1000 := by omega
          have HLN2 := Lib.hid eln
          clear hp1 hs hN1 eln
          go_wp2_with fail
          go_loopw [3, 6] (fun n i wr => ∃ q : Nat, q ≤ ln ∧ i = .int .i64 q ∧ n = .int .i64 ((8 + N0 + 2 + ((l.take q).map pageNeed).sum : Nat) : Int) ∧ y = wr) (fun _ i _ => ln - (intOf i).toNat)
          case atStart => exact ⟨0, Nat.zero_le _, rfl, by simp, rfl⟩
          case round =>
            obtain ⟨q, hq, rfl, rfl, rfl⟩ := hrel
            by_cases hqm : q < ln
            · have HQ : (q : Int) < ln := by omega
              have hql : q < l.length := by rw [HLN2.out]; exact hqm
              obtain ⟨b2, ob, vp, rfl, -, hrp, hpb⟩ := HP1.out.at' hql
              have hs2 := sumTake pageNeed l hql
              have hle2 := sumTake_le pageNeed l (q + 1)
              have hpf : pageNeed l[q] = 1 + (l[q].2.length + 63) / 64 := rfl
              rw [hpf] at hs2
              clear hpf
              generalize l[q] = pg at *
              obtain ⟨p1, p2⟩ := pg
              simp only at hrp hpb hs2
              generalize ((l.take q).map pageNeed).sum = I0 at *
              obtain ⟨I1, eI1⟩ : ∃ I1, ((l.take (q + 1)).map pageNeed).sum = I1 := ⟨_, rfl⟩
              rw [eI1] at hs2 hle2
              have HEI := Lib.hid eI1
              obtain ⟨Ap, cp, rfl⟩ := hpb.1.form
              have kp : y.cell? ⟨b2, ob + q * 2 + 1, none⟩ = some (.slice Ap p2.length cp) := hrp 1 _ rfl
              generalize p2.length = pl at *
              have hls1 := HS1.out
              have hls2 := HN1.out
              have hii : (I0 : Int) ≤ 200000 := by omega
              have hpl : (pl : Int) ≤ 20000000 := by omega
              have hqi : (((pl + 63) / 64 : Nat) : Int) ≤ 200000 := by omega
              have HS2 := Lib.hid hs2
              have hq64 := quo64 pl
              generalize (pl + 63) / 64 = pq at *
              clear hls1 hls2 hs2 hle2 hrp hpb eI1
              go_wp2_with fail
              go_roundw
              case rel => exact ⟨q + 1, by omega, by go_num, by rw [HEI.out, HS2.out]; exact congrArg (Value.int .i64) (by omega), trivial⟩
              case measure => simp [intOf]; omega
            · have HQ : ¬ (q : Int) < ln := by omega
              have eq : q = l.length := by rw [HLN2.out]; omega
              have hpn : ((l.take q).map pageNeed).sum = (l.map pageNeed).sum := by rw [eq, List.take_length]
              rw [hpn]
              have hls1 := HS1.out
              have hls2 := HN1.out
              generalize (l.map pageNeed).sum = I0 at *
              have hii : (I0 : Int) ≤ 200000 := by omega
              clear eq hpn hls1 hls2
              go_wp2_with fail
              go_roundw
              case rel => exact ⟨j + 1, by omega, by go_num, by rw [HEN.out, HS1.out]; exact congrArg (Value.int .i64) (by omega), trivial⟩
              case measure => simp [intOf]; omega
        · have HJ : ¬ (j : Int) < 4 := by omega
          have ej : j = L.length := by rw [← HNL.out]; omega
          have hjn : ((L.take j).map listNeed).sum = (L.map listNeed).sum := by rw [ej, List.take_length]
          rw [hjn]
          have hlb := HLB.out
          have HNEo := HNE.out
          clear ej hjn
          generalize (L.map listNeed).sum = N0 at *
          have HNF := Lib.hid HNEo
          clear HNEo hlb
          go_wp2_with fail
          go_ret
          exact ⟨by rw [HNF.out]; exact congrArg (fun x => Ending.returned (.int .i64 x)) (by omega), HBY.out⟩
    · have hk4 : ¬ ((k1 : Int) > 4) := by omega
      have e2 := HN5.out h5
      obtain ⟨L, e3⟩ : ∃ L, s.kept ++ [s.work] = L := ⟨_, rfl⟩
      rw [e3] at HF HK1 e2
      have HL := HF
      have HNL := HK1
      have HLL := Lib.hid (show ∀ l ∈ L, l.length ≤ 1000 by rw [← e2]; exact HLE.out)
      have HLB := Lib.hid (show (L.map listNeed).sum ≤ 200000 by rw [← e2]; exact HBD.out)
      have HNE := Lib.hid (show needS s = 8 + (L.map listNeed).sum by rw [← e2]; exact HNS.out)
      obtain ⟨nk, enk⟩ : ∃ nk, k1 = nk := ⟨_, rfl⟩
      clear e2 e3 HL5 HN5 HF HK1 HBD HNS
      go_wp2_with fail
      go_loopw [3, 5] (fun n i wr => ∃ j : Nat, j ≤ k1 ∧ i = .int .i64 j ∧ n = .int .i64 ((8 + ((L.take j).map listNeed).sum : Nat) : Int) ∧ y = wr) (fun _ i _ => k1 - (intOf i).toNat)
      case atStart => exact ⟨0, Nat.zero_le _, rfl, rfl, rfl⟩
      case round =>
        obtain ⟨j, hj, rfl, rfl, rfl⟩ := hrel
        by_cases hjm : j < k1
        · have HJ : (j : Int) < k1 := by omega
          have hjL : j < L.length := by rw [← HNL.out]; exact hjm
          obtain ⟨b1, o1, v1, e1, -, hc1, hp1⟩ := HL.out.at' hjL
          injection e1 with e1
          injection e1 with e1 e2
          subst e1 e2
          simp only [Nat.zero_add] at hc1
          have hs := sumTake listNeed L hjL
          have hle := sumTake_le listNeed L (j + 1)
          have hls : listNeed L[j] = 2 + (L[j].map pageNeed).sum := rfl
          have hll := HLL.out _ (List.getElem_mem hjL)
          generalize L[j] = l at *
          generalize ((L.take j).map listNeed).sum = N0 at *
          obtain ⟨N1, eN1⟩ : ∃ N1, ((L.take (j + 1)).map listNeed).sum = N1 := ⟨_, rfl⟩
          rw [eN1] at hs hle
          have HEN := Lib.hid eN1
          clear eN1
          have hN1 : N1 ≤ 200000 := by have := HLB.out; omega
          rw [hls] at hs
          clear hls hle
          obtain ⟨A1, cl1, rfl⟩ := hp1.form
          have HP1 := Lib.hid hp1
          have HS1 := Lib.hid hs
          have hnn : (N0 : Int) ≤ 200000 := by omega
          have HN1 := Lib.hid hN1
          obtain ⟨ln, eln⟩ : ∃ ln, l.length = ln := ⟨_, rfl⟩
          rw [eln] at hc1 hll
          have hlni : (ln : Int) ≤ 1000 := by omega
          have HLN2 := Lib.hid eln
          clear hp1 hs hN1 eln
          go_wp2_with fail
          go_loopw [3, 6] (fun n i wr => ∃ q : Nat, q ≤ ln ∧ i = .int .i64 q ∧ n = .int .i64 ((8 + N0 + 2 + ((l.take q).map pageNeed).sum : Nat) : Int) ∧ y = wr) (fun _ i _ => ln - (intOf i).toNat)
          case atStart => exact ⟨0, Nat.zero_le _, rfl, by simp, rfl⟩
          case round =>
            obtain ⟨q, hq, rfl, rfl, rfl⟩ := hrel
            by_cases hqm : q < ln
            · have HQ : (q : Int) < ln := by omega
              have hql : q < l.length := by rw [HLN2.out]; exact hqm
              obtain ⟨b2, ob, vp, rfl, -, hrp, hpb⟩ := HP1.out.at' hql
              have hs2 := sumTake pageNeed l hql
              have hle2 := sumTake_le pageNeed l (q + 1)
              have hpf : pageNeed l[q] = 1 + (l[q].2.length + 63) / 64 := rfl
              rw [hpf] at hs2
              clear hpf
              generalize l[q] = pg at *
              obtain ⟨p1, p2⟩ := pg
              simp only at hrp hpb hs2
              generalize ((l.take q).map pageNeed).sum = I0 at *
              obtain ⟨I1, eI1⟩ : ∃ I1, ((l.take (q + 1)).map pageNeed).sum = I1 := ⟨_, rfl⟩
              rw [eI1] at hs2 hle2
              have HEI := Lib.hid eI1
              obtain ⟨Ap, cp, rfl⟩ := hpb.1.form
              have kp : y.cell? ⟨b2, ob + q * 2 + 1, none⟩ = some (.slice Ap p2.length cp) := hrp 1 _ rfl
              generalize p2.length = pl at *
              have hls1 := HS1.out
              have hls2 := HN1.out
              have hii : (I0 : Int) ≤ 200000 := by omega
              have hpl : (pl : Int) ≤ 20000000 := by omega
              have hqi : (((pl + 63) / 64 : Nat) : Int) ≤ 200000 := by omega
              have HS2 := Lib.hid hs2
              have hq64 := quo64 pl
              generalize (pl + 63) / 64 = pq at *
              clear hls1 hls2 hs2 hle2 hrp hpb eI1
              go_wp2_with fail
              go_roundw
              case rel => exact ⟨q + 1, by omega, by go_num, by rw [HEI.out, HS2.out]; exact congrArg (Value.int .i64) (by omega), trivial⟩
              case measure => simp [intOf]; omega
            · have HQ : ¬ (q : Int) < ln := by omega
              have eq : q = l.length := by rw [HLN2.out]; omega
              have hpn : ((l.take q).map pageNeed).sum = (l.map pageNeed).sum := by rw [eq, List.take_length]
              rw [hpn]
              have hls1 := HS1.out
              have hls2 := HN1.out
              generalize (l.map pageNeed).sum = I0 at *
              have hii : (I0 : Int) ≤ 200000 := by omega
              clear eq hpn hls1 hls2
              go_wp2_with fail
              go_roundw
              case rel => exact ⟨j + 1, by omega, by go_num, by rw [HEN.out, HS1.out]; exact congrArg (Value.int .i64) (by omega), trivial⟩
              case measure => simp [intOf]; omega
        · have HJ : ¬ (j : Int) < k1 := by omega
          have ej : j = L.length := by rw [← HNL.out]; omega
          have hjn : ((L.take j).map listNeed).sum = (L.map listNeed).sum := by rw [ej, List.take_length]
          rw [hjn]
          have hlb := HLB.out
          have HNEo := HNE.out
          clear ej hjn
          generalize (L.map listNeed).sum = N0 at *
          have HNF := Lib.hid HNEo
          clear HNEo hlb
          go_wp2_with fail
          go_ret
          exact ⟨by rw [HNF.out]; exact congrArg (fun x => Ending.returned (.int .i64 x)) (by omega), HBY.out⟩
end Go.Proofs.YtckomifecmemnaaGreat

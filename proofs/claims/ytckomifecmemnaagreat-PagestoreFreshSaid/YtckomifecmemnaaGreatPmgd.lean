/- isUnused: whether the contents are zeros but for the mark. -/
import Derived.Test.YtckomifecmemnaaGreatShelf
import Derived.Laws.ResultCell
import Derived.Test.YtckomifecmemnaaGreatExb
import Derived.Test.YtckomifecmemnaaGreatPmgc
import Derived.Test.YtckomifecmemnaaGreatPmga
namespace Go.Proofs.YtckomifecmemnaaGreat
set_option linter.unusedSimpArgs false
open Go.RowKit Dig
set_option linter.unusedVariables false

section
variable {ev : Operand → Value} {o : Oper} {w : World}
theorem exec_lssI (x y : Operand) (a b : Int) (h : a < b) (ho : o.op = .binOp .lss 3 x y 3) (hx : ev x = .int .i64 a) (hy : ev y = .int .i64 b) : (execOp ev o).run Tryz.prog w = .ok (.value (.bool true)) w := by
  unfold execOp
  simp only [ho, hx, hy]
  go_simp
theorem exec_eqB (x y : Operand) (a b : Int) (ho : o.op = .binOp .eql 5 x y 5) (hx : ev x = .int .u8 a) (hy : ev y = .int .u8 b) : (execOp ev o).run Tryz.prog w = .ok (.value (.bool (a == b))) w := by
  unfold execOp
  simp only [ho, hx, hy]
  go_simp
end
theorem bytesOf_nums (D : List UInt8) : Lib.bytesOf (D.map fun c => (c.toNat : Int)) = D := by
  unfold Lib.bytesOf
  rw [List.map_map]
  conv => rhs; rw [← List.map_id D]
  apply List.map_congr_left
  intro c _
  simp
section
variable {w : World} {C : List UInt8}
set_option maxRecDepth 20000 in
set_option maxHeartbeats 2000000 in
theorem isUnused_c {b off n c : Nat} (h : Byt w (.slice (some ⟨b, off, none⟩) n c) C) (hn : C.length = n) (h64 : 64 < n) (h6 : n ≤ 600000) (k0 : Nat) (hk0 : k0 ≤ 64) (heq : ∀ i, i < k0 → C.getD i 0 = markS.getD i 0) (hend : k0 = 64 ∨ C.getD k0 0 ≠ markS.getD k0 0) :
    Calls Tryz.prog 53 #[.slice (some ⟨b, off, none⟩) n c] w fun e w' => e = .returned (.bool (decide ((C.drop k0).count 0 = n - k0))) ∧ Below w.heap.size w w' := by
  have hbd := h.bounds
  have hnc := hbd.2.1
  have hmx : c ≤ 9223372036854775807 := hbd.2.2
  have H := Lib.hid h
  have HQ := Lib.hid (show C.length = n ∧ 64 < n ∧ n ≤ 600000 ∧ k0 ≤ 64 ∧ n ≤ c from ⟨hn, h64, h6, hk0, hnc⟩)
  have HE := Lib.hid heq
  have HN := Lib.hid hend
  have hlt := h.cells (by omega)
  obtain ⟨b', off', e, hlb, -⟩ := hlt
  obtain ⟨rfl, rfl⟩ : b = b' ∧ off = off' := by simpa using e
  have LB := Lib.hid hlb
  clear hn h64 hk0 heq hend hbd e h hlb
  go_enter Tryz.func53, Tryz.ntmps53
  go_wp2_with fail
  refine (mark_c _).mono ?_
  rintro e w1 ⟨r, rfl, hr, hB⟩
  have B1 := Lib.hid hB
  have hrl := hr.block
  obtain ⟨g, rest, rfl, hg, hm⟩ : ∃ g rest, r = .slice (some ⟨g, 0, none⟩) 64 (64 + rest.length) ∧ w.heap.size ≤ g ∧ w1.heap[g]? = some (.cells (Y markS ++ rest).toArray 5 (0, 0)) := by
    rcases hr with ⟨_, he⟩ | ⟨g, rest, rfl, hg, -, hh⟩
    · exact absurd he (by decide)
    · exact ⟨g, rest, rfl, hg, hh⟩
  have MB := Lib.hid hm
  have GL := Lib.hid (lt_of_heap hm)
  have H1 := Lib.hid (H.out.below hB)
  clear hr hrl hB hm
  generalize 64 + rest.length = cm at *
  go_wp2_with fail
  go_loopw [4] (fun iv wr => ∃ k : Nat, k ≤ k0 ∧ iv = .int .i64 (k : Int) ∧ Below w1.heap.size w1 wr) (fun iv _ => k0 - (intOf iv).toNat)
  case atStart => exact ⟨0, Nat.zero_le _, rfl, Below.refl _ _⟩
  case round =>
    obtain ⟨k, hk, rfl, hBr⟩ := hrel
    have BR := Lib.hid hBr
    have HK := Lib.hid hk
    have hHr := H1.out.below hBr
    have hmr : wr.heap[g]? = some (.cells (Y markS ++ rest).toArray 5 (0, 0)) := by rw [hBr.block g GL.out]; exact MB.out
    have HR := Lib.hid hHr
    clear hBr
    generalize wr = w4 at *
    by_cases hk64 : k = 64
    · have hk64' := Lib.hid hk64
      have K0 := Lib.hid (show k0 = 64 by have := HQ.out; omega)
      subst hk64
      clear hk hHr hmr
      go_wp2_with fail
      refine wp_region_plan (S := fun W => True) [(0, true), (1, true), (2, true), (3, true), (4, true), (5, true), (6, true), (7, true), (8, true), (9, true), (10, true), (11, true), (12, true), (13, true), (14, true)] (by kernel_rfl) (by kernel_rfl) (by kernel_rfl) (by kernel_rfl) (fun _ _ d _ _ h => by cases d <;> exact h) trivial ?_
      refine wkS_take (some 6) (.int .i64 64) (by kernel_rfl) (by kernel_rfl) (by kernel_rfl) (fun W hS => by kernel_rfl) ?_
      simp only [put_lit, put_non, List.set_cons_zero, List.set_cons_succ]
      refine wkS_take (some 7) (.slice (some ⟨g, 0, none⟩) 64 cm) (by kernel_rfl) (by kernel_rfl) (by kernel_rfl) (fun W hS => by kernel_rfl) ?_
      simp only [put_lit, put_non, List.set_cons_zero, List.set_cons_succ]
      refine wkS_take (some 8) (.int .i64 64) (by kernel_rfl) (by kernel_rfl) (by kernel_rfl) (fun W hS => by kernel_rfl) ?_
      simp only [put_lit, put_non, List.set_cons_zero, List.set_cons_succ]
      refine wkS_take (some 9) (.bool false) (by kernel_rfl) (by kernel_rfl) (by kernel_rfl) (fun W hS => by kernel_rfl) ?_
      simp only [put_lit, put_non, List.set_cons_zero, List.set_cons_succ]
      refine wkS_take (some 10) (.bool false) (by kernel_rfl) (by kernel_rfl) (by kernel_rfl) (fun W hS => by kernel_rfl) ?_
      simp only [put_lit, put_non, List.set_cons_zero, List.set_cons_succ]
      refine wkS_skip (some 11) (by kernel_rfl) (by kernel_rfl) (by kernel_rfl) ?_
      simp only [put_lit, put_non, List.set_cons_zero, List.set_cons_succ]
      refine wkS_skip (some 12) (by kernel_rfl) (by kernel_rfl) (by kernel_rfl) ?_
      simp only [put_lit, put_non, List.set_cons_zero, List.set_cons_succ]
      refine wkS_skip (some 13) (by kernel_rfl) (by kernel_rfl) (by kernel_rfl) ?_
      simp only [put_lit, put_non, List.set_cons_zero, List.set_cons_succ]
      refine wkS_skip (some 14) (by kernel_rfl) (by kernel_rfl) (by kernel_rfl) ?_
      simp only [put_lit, put_non, List.set_cons_zero, List.set_cons_succ]
      refine wkS_skip (some 15) (by kernel_rfl) (by kernel_rfl) (by kernel_rfl) ?_
      simp only [put_lit, put_non, List.set_cons_zero, List.set_cons_succ]
      refine wkS_skip (some 16) (by kernel_rfl) (by kernel_rfl) (by kernel_rfl) ?_
      simp only [put_lit, put_non, List.set_cons_zero, List.set_cons_succ]
      refine wkS_skip (some 17) (by kernel_rfl) (by kernel_rfl) (by kernel_rfl) ?_
      simp only [put_lit, put_non, List.set_cons_zero, List.set_cons_succ]
      refine wkS_skip (some 18) (by kernel_rfl) (by kernel_rfl) (by kernel_rfl) ?_
      simp only [put_lit, put_non, List.set_cons_zero, List.set_cons_succ]
      refine wkS_skip (some 19) (by kernel_rfl) (by kernel_rfl) (by kernel_rfl) ?_
      simp only [put_lit, put_non, List.set_cons_zero, List.set_cons_succ]
      refine wkS_take (some 20) (.bool false) (by kernel_rfl) (by kernel_rfl) (by kernel_rfl) (fun W hS => by kernel_rfl) ?_
      simp only [put_lit, put_non, List.set_cons_zero, List.set_cons_succ]
      refine wkS_done ?_
      have BRD := Lib.hid (BR.out.drew)
      have HD := Lib.hid (show Byt w4.drew (.slice (some ⟨b, off, none⟩) n c) C from HR.out)
      have LB4 := Lib.hid (show b < w4.heap.size by have := LB.out; have := B1.out.size; have := BR.out.size; omega)
      clear BR HR
      generalize w4.drew = w5 at *
      have hkn : 64 ≤ n := by have := HQ.out; omega
      have hkc : ¬ c = 64 := by have := HQ.out; omega
      have hkc2 : 64 < c := by have := HQ.out; omega
      have BA := Lib.hid ((Below.refl w5.heap.size w5).alloc (Nat.le_refl _) (.cells #[.int .u8 0] 5))
      have CT := Lib.hid (Tryz.bytes_Count_one b (off + 64) (n - 64) (c - 64) w5.heap.size 0 1 ((C.drop 64).map fun c => (c.toNat : Int)) 0 (w5.alloc (.cells #[.int .u8 0] 5)) (by rw [List.length_map, List.length_drop, HQ.out.1]) (fun i hi => by
        obtain ⟨b', off', e, -, hc⟩ := (HD.out.below BA.out).cells (by have := HQ.out; omega)
        obtain ⟨rfl, rfl⟩ : b = b' ∧ off = off' := by simpa using e
        rw [Nat.add_assoc, hc (64 + i) (by have := HQ.out; omega)]
        congr 2
        rw [List.getD_eq_getElem?_getD, List.getD_eq_getElem?_getD, List.getElem?_map, List.getElem?_drop, List.getElem?_eq_getElem (by have := HQ.out; omega)]
        rfl) (by rw [cell_of_row _ _ _ _ _ (0, 0) (heap_alloc_new w5 _)]; rfl))
      rw [bytesOf_nums] at CT
      have CQ := Lib.hid (show Lib.countByte (C.drop 64) (0 : Int).toNat.toUInt8 = (C.drop 64).count 0 from rfl)
      rw [CQ.out] at CT
      obtain ⟨q, eq⟩ : ∃ q, (C.drop 64).count 0 = q := ⟨_, rfl⟩
      have EQ := Lib.hid eq
      rw [eq] at CT
      have hqe : ((q : Int) == (n : Int) - 64) = decide (q = n - 64) := by
        by_cases h : q = n - 64
        · rw [decide_eq_true h, beq_iff_eq]; omega
        · rw [decide_eq_false h, beq_eq_false_iff_ne]; omega
      have QE := Lib.hid hqe
      clear eq CQ hqe
      go_wp2_with fail
      refine (CT.out).mono ?_
      rintro e w6 ⟨rfl, rfl⟩
      have BF := Lib.hid (below_then (B1.out.trans (BRD.out.mono B1.out.size)) (BA.out.mono (by have := B1.out.size; have := BRD.out.size; omega)))
      have hqe := QE.out
      clear CT
      go_wp2_with fail
      go_ret
      rw [K0.out, EQ.out]
      exact ⟨rfl, BF.out⟩
    · have hkl : k < 64 := by have := HQ.out; omega
      have hcb : w4.cell? ⟨b, off + k, none⟩ = some (.int .u8 ((C.getD k 0).toNat : Int)) := by
        obtain ⟨b', off', e, -, hc⟩ := hHr.cells (by have := HQ.out; omega)
        obtain ⟨rfl, rfl⟩ : b = b' ∧ off = off' := by simpa using e
        exact hc k (by have := HQ.out; omega)
      have hcm : w4.cell? ⟨g, k, none⟩ = some (.int .u8 ((markS.getD k 0).toNat : Int)) := by
        rw [cell_of_row w4 g k _ _ (0, 0) hmr, List.getElem?_toArray, List.getElem?_append_left (by rw [Y_length, markS_length]; exact hkl)]
        exact Y_get markS k (by rw [markS_length]; exact hkl)
      have CB := Lib.hid hcb
      have CM := Lib.hid hcm
      have HKL := Lib.hid hkl
      have KLI := Lib.hid (show (k : Int) < 64 by omega)
      have KN := Lib.hid (show k < n by have := HQ.out; omega)
      by_cases hkk : k = k0
      · have hne : (((C.getD k 0).toNat : Int) == ((markS.getD k 0).toNat : Int)) = false := by
          rw [beq_eq_false_iff_ne]
          rcases HN.out with e | e
          · omega
          · rw [← hkk] at e
            intro e2
            exact e (UInt8.toNat_inj.1 (by omega))
        have NE := Lib.hid hne
        have K0 := Lib.hid hkk
        generalize ((C.getD k 0).toNat : Int) = x at *
        generalize ((markS.getD k 0).toNat : Int) = y at *
        clear hk hHr hmr hcb hcm hkk hne hkl hk64
        go_wp2_with fail
        refine wp_region_plan (S := fun W => W.cell? ⟨b, off + k, none⟩ = some (.int .u8 x) ∧ W.cell? ⟨g, k, none⟩ = some (.int .u8 y)) [(0, true), (1, true), (2, true), (3, true), (4, true), (5, true), (6, true), (7, true), (8, true), (9, true), (10, true), (11, true), (12, true), (13, true), (14, true)] (by kernel_rfl) (by kernel_rfl) (by kernel_rfl) (by kernel_rfl) (fun _ _ d _ _ h => by cases d <;> exact h) ⟨CB.out, CM.out⟩ ?_
        refine wkS_take (some 6) (.int .i64 (k : Int)) (by kernel_rfl) (by kernel_rfl) (by kernel_rfl) (fun W hS => by kernel_rfl) ?_
        simp only [put_lit, put_non, List.set_cons_zero, List.set_cons_succ]
        refine wkS_take (some 7) (.slice (some ⟨g, 0, none⟩) 64 cm) (by kernel_rfl) (by kernel_rfl) (by kernel_rfl) (fun W hS => by kernel_rfl) ?_
        simp only [put_lit, put_non, List.set_cons_zero, List.set_cons_succ]
        refine wkS_take (some 8) (.int .i64 64) (by kernel_rfl) (by kernel_rfl) (by kernel_rfl) (fun W hS => by kernel_rfl) ?_
        simp only [put_lit, put_non, List.set_cons_zero, List.set_cons_succ]
        refine wkS_take (some 9) (.bool true) (by kernel_rfl) (by kernel_rfl) (by kernel_rfl) (fun W hS => exec_lssI (.tmp 6) (.tmp 8) (k : Int) 64 KLI.out (by kernel_rfl) (by kernel_rfl) (by kernel_rfl)) ?_
        simp only [put_lit, put_non, List.set_cons_zero, List.set_cons_succ]
        refine wkS_take (some 10) (.bool true) (by kernel_rfl) (by kernel_rfl) (by kernel_rfl) (fun W hS => by kernel_rfl) ?_
        simp only [put_lit, put_non, List.set_cons_zero, List.set_cons_succ]
        refine wkS_take (some 11) (.slice (some ⟨b, off, none⟩) n c) (by kernel_rfl) (by kernel_rfl) (by kernel_rfl) (fun W hS => by kernel_rfl) ?_
        simp only [put_lit, put_non, List.set_cons_zero, List.set_cons_succ]
        refine wkS_take (some 12) (.int .i64 (k : Int)) (by kernel_rfl) (by kernel_rfl) (by kernel_rfl) (fun W hS => by kernel_rfl) ?_
        simp only [put_lit, put_non, List.set_cons_zero, List.set_cons_succ]
        refine wkS_take (some 13) (.pointer (some ⟨b, off + k, none⟩)) (by kernel_rfl) (by kernel_rfl) (by kernel_rfl) (fun W hS => exec_indexB (n := n) (c := c) 11 12 (by kernel_rfl) (by kernel_rfl) (by kernel_rfl) KN.out) ?_
        simp only [put_lit, put_non, List.set_cons_zero, List.set_cons_succ]
        refine wkS_take (some 14) (.int .u8 x) (by kernel_rfl) (by kernel_rfl) (by kernel_rfl) (fun W hS => exec_loadB 13 hS.1 (by kernel_rfl) (by kernel_rfl)) ?_
        simp only [put_lit, put_non, List.set_cons_zero, List.set_cons_succ]
        refine wkS_take (some 15) (.slice (some ⟨g, 0, none⟩) 64 cm) (by kernel_rfl) (by kernel_rfl) (by kernel_rfl) (fun W hS => by kernel_rfl) ?_
        simp only [put_lit, put_non, List.set_cons_zero, List.set_cons_succ]
        refine wkS_take (some 16) (.int .i64 (k : Int)) (by kernel_rfl) (by kernel_rfl) (by kernel_rfl) (fun W hS => by kernel_rfl) ?_
        simp only [put_lit, put_non, List.set_cons_zero, List.set_cons_succ]
        refine wkS_take (some 17) (.pointer (some ⟨g, k, none⟩)) (by kernel_rfl) (by kernel_rfl) (by kernel_rfl) (fun W hS => exec_indexB0 (n := 64) (c := cm) 15 16 (by kernel_rfl) (by kernel_rfl) (by kernel_rfl) HKL.out) ?_
        simp only [put_lit, put_non, List.set_cons_zero, List.set_cons_succ]
        refine wkS_take (some 18) (.int .u8 y) (by kernel_rfl) (by kernel_rfl) (by kernel_rfl) (fun W hS => exec_loadB 17 hS.2 (by kernel_rfl) (by kernel_rfl)) ?_
        simp only [put_lit, put_non, List.set_cons_zero, List.set_cons_succ]
        refine wkS_take (some 19) (.bool false) (by kernel_rfl) (by kernel_rfl) (by kernel_rfl) (fun W hS => (exec_eqB (.tmp 14) (.tmp 18) x y (by kernel_rfl) (by kernel_rfl) (by kernel_rfl)).trans (by rw [NE.out])) ?_
        simp only [put_lit, put_non, List.set_cons_zero, List.set_cons_succ]
        refine wkS_take (some 20) (.bool false) (by kernel_rfl) (by kernel_rfl) (by kernel_rfl) (fun W hS => by kernel_rfl) ?_
        simp only [put_lit, put_non, List.set_cons_zero, List.set_cons_succ]
        refine wkS_done ?_
        have BRD := Lib.hid (BR.out.drew)
        have HD := Lib.hid (show Byt w4.drew (.slice (some ⟨b, off, none⟩) n c) C from HR.out)
        have LB4 := Lib.hid (show b < w4.heap.size by have := LB.out; have := B1.out.size; have := BR.out.size; omega)
        clear BR HR
        generalize w4.drew = w5 at *
        have hkn : k ≤ n := by have := HKL.out; have := HQ.out; omega
        have hkc : ¬ c = k := by have := HKL.out; have := HQ.out; omega
        have hkc2 : k < c := by have := HKL.out; have := HQ.out; omega
        have BA := Lib.hid ((Below.refl w5.heap.size w5).alloc (Nat.le_refl _) (.cells #[.int .u8 0] 5))
        have CT := Lib.hid (Tryz.bytes_Count_one b (off + k) (n - k) (c - k) w5.heap.size 0 1 ((C.drop k).map fun c => (c.toNat : Int)) 0 (w5.alloc (.cells #[.int .u8 0] 5)) (by rw [List.length_map, List.length_drop, HQ.out.1]) (fun i hi => by
          obtain ⟨b', off', e, -, hc⟩ := (HD.out.below BA.out).cells (by have := HQ.out; omega)
          obtain ⟨rfl, rfl⟩ : b = b' ∧ off = off' := by simpa using e
          rw [Nat.add_assoc, hc (k + i) (by have := HQ.out; omega)]
          congr 2
          rw [List.getD_eq_getElem?_getD, List.getD_eq_getElem?_getD, List.getElem?_map, List.getElem?_drop, List.getElem?_eq_getElem (by have := HQ.out; omega)]
          rfl) (by rw [cell_of_row _ _ _ _ _ (0, 0) (heap_alloc_new w5 _)]; rfl))
        rw [bytesOf_nums] at CT
        have CQ := Lib.hid (show Lib.countByte (C.drop k) (0 : Int).toNat.toUInt8 = (C.drop k).count 0 from rfl)
        rw [CQ.out] at CT
        obtain ⟨q, eq⟩ : ∃ q, (C.drop k).count 0 = q := ⟨_, rfl⟩
        have EQ := Lib.hid eq
        rw [eq] at CT
        have hqe : ((q : Int) == (n : Int) - (k : Int)) = decide (q = n - k) := by
          by_cases h : q = n - k
          · rw [decide_eq_true h, beq_iff_eq]; omega
          · rw [decide_eq_false h, beq_eq_false_iff_ne]; omega
        have QE := Lib.hid hqe
        clear eq CQ hqe
        go_wp2_with fail
        refine (CT.out).mono ?_
        rintro e w6 ⟨rfl, rfl⟩
        have BF := Lib.hid (below_then (B1.out.trans (BRD.out.mono B1.out.size)) (BA.out.mono (by have := B1.out.size; have := BRD.out.size; omega)))
        have hqe := QE.out
        clear CT
        go_wp2_with fail
        go_ret
        rw [← K0.out, EQ.out]
        exact ⟨rfl, BF.out⟩
      · have hee : (((C.getD k 0).toNat : Int) == ((markS.getD k 0).toNat : Int)) = true := by
          rw [HE.out k (by omega)]
          simp
        have EE := Lib.hid hee
        have KK := Lib.hid (show k < k0 by omega)
        generalize ((C.getD k 0).toNat : Int) = x at *
        generalize ((markS.getD k 0).toNat : Int) = y at *
        clear hk hHr hmr hcb hcm hkk hee hkl hk64
        go_wp2_with fail
        refine wp_region_plan (S := fun W => W.cell? ⟨b, off + k, none⟩ = some (.int .u8 x) ∧ W.cell? ⟨g, k, none⟩ = some (.int .u8 y)) [(0, true), (1, true), (2, true), (3, true), (4, true), (5, true), (6, true), (7, true), (8, true), (9, true), (10, true), (11, true), (12, true), (13, true), (14, true)] (by kernel_rfl) (by kernel_rfl) (by kernel_rfl) (by kernel_rfl) (fun _ _ d _ _ h => by cases d <;> exact h) ⟨CB.out, CM.out⟩ ?_
        refine wkS_take (some 6) (.int .i64 (k : Int)) (by kernel_rfl) (by kernel_rfl) (by kernel_rfl) (fun W hS => by kernel_rfl) ?_
        simp only [put_lit, put_non, List.set_cons_zero, List.set_cons_succ]
        refine wkS_take (some 7) (.slice (some ⟨g, 0, none⟩) 64 cm) (by kernel_rfl) (by kernel_rfl) (by kernel_rfl) (fun W hS => by kernel_rfl) ?_
        simp only [put_lit, put_non, List.set_cons_zero, List.set_cons_succ]
        refine wkS_take (some 8) (.int .i64 64) (by kernel_rfl) (by kernel_rfl) (by kernel_rfl) (fun W hS => by kernel_rfl) ?_
        simp only [put_lit, put_non, List.set_cons_zero, List.set_cons_succ]
        refine wkS_take (some 9) (.bool true) (by kernel_rfl) (by kernel_rfl) (by kernel_rfl) (fun W hS => exec_lssI (.tmp 6) (.tmp 8) (k : Int) 64 KLI.out (by kernel_rfl) (by kernel_rfl) (by kernel_rfl)) ?_
        simp only [put_lit, put_non, List.set_cons_zero, List.set_cons_succ]
        refine wkS_take (some 10) (.bool true) (by kernel_rfl) (by kernel_rfl) (by kernel_rfl) (fun W hS => by kernel_rfl) ?_
        simp only [put_lit, put_non, List.set_cons_zero, List.set_cons_succ]
        refine wkS_take (some 11) (.slice (some ⟨b, off, none⟩) n c) (by kernel_rfl) (by kernel_rfl) (by kernel_rfl) (fun W hS => by kernel_rfl) ?_
        simp only [put_lit, put_non, List.set_cons_zero, List.set_cons_succ]
        refine wkS_take (some 12) (.int .i64 (k : Int)) (by kernel_rfl) (by kernel_rfl) (by kernel_rfl) (fun W hS => by kernel_rfl) ?_
        simp only [put_lit, put_non, List.set_cons_zero, List.set_cons_succ]
        refine wkS_take (some 13) (.pointer (some ⟨b, off + k, none⟩)) (by kernel_rfl) (by kernel_rfl) (by kernel_rfl) (fun W hS => exec_indexB (n := n) (c := c) 11 12 (by kernel_rfl) (by kernel_rfl) (by kernel_rfl) KN.out) ?_
        simp only [put_lit, put_non, List.set_cons_zero, List.set_cons_succ]
        refine wkS_take (some 14) (.int .u8 x) (by kernel_rfl) (by kernel_rfl) (by kernel_rfl) (fun W hS => exec_loadB 13 hS.1 (by kernel_rfl) (by kernel_rfl)) ?_
        simp only [put_lit, put_non, List.set_cons_zero, List.set_cons_succ]
        refine wkS_take (some 15) (.slice (some ⟨g, 0, none⟩) 64 cm) (by kernel_rfl) (by kernel_rfl) (by kernel_rfl) (fun W hS => by kernel_rfl) ?_
        simp only [put_lit, put_non, List.set_cons_zero, List.set_cons_succ]
        refine wkS_take (some 16) (.int .i64 (k : Int)) (by kernel_rfl) (by kernel_rfl) (by kernel_rfl) (fun W hS => by kernel_rfl) ?_
        simp only [put_lit, put_non, List.set_cons_zero, List.set_cons_succ]
        refine wkS_take (some 17) (.pointer (some ⟨g, k, none⟩)) (by kernel_rfl) (by kernel_rfl) (by kernel_rfl) (fun W hS => exec_indexB0 (n := 64) (c := cm) 15 16 (by kernel_rfl) (by kernel_rfl) (by kernel_rfl) HKL.out) ?_
        simp only [put_lit, put_non, List.set_cons_zero, List.set_cons_succ]
        refine wkS_take (some 18) (.int .u8 y) (by kernel_rfl) (by kernel_rfl) (by kernel_rfl) (fun W hS => exec_loadB 17 hS.2 (by kernel_rfl) (by kernel_rfl)) ?_
        simp only [put_lit, put_non, List.set_cons_zero, List.set_cons_succ]
        refine wkS_take (some 19) (.bool true) (by kernel_rfl) (by kernel_rfl) (by kernel_rfl) (fun W hS => (exec_eqB (.tmp 14) (.tmp 18) x y (by kernel_rfl) (by kernel_rfl) (by kernel_rfl)).trans (by rw [EE.out])) ?_
        simp only [put_lit, put_non, List.set_cons_zero, List.set_cons_succ]
        refine wkS_take (some 20) (.bool true) (by kernel_rfl) (by kernel_rfl) (by kernel_rfl) (fun W hS => by kernel_rfl) ?_
        simp only [put_lit, put_non, List.set_cons_zero, List.set_cons_succ]
        refine wkS_done ?_
        have hki := KLI.out
        go_wp2_with fail
        go_roundw
        case rel => exact ⟨k + 1, by have := KK.out; omega, by go_num, BR.out.drew⟩
        case measure => have := KK.out; simp only [intOf]; omega
end
end Go.Proofs.YtckomifecmemnaaGreat

/- What the contents of all sectors say. -/
namespace Go.Proofs.YtckomifecmemnaaGreat
open Go.RowKit Dig
set_option linter.unusedVariables false

section
variable {w w' : World} {C : List UInt8} {A : Option Addr} {n c : Nat} {ts : List UInt8}
theorem Byt.sub {g off n c : Nat} (h : Byt w (.slice (some ⟨g, off, none⟩) n c) C) (lo m : Nat) (hm : lo + m ≤ n) : Byt w (.slice (some ⟨g, off + lo, none⟩) m (c - lo)) ((C.drop lo).take m) := by
  have hbd := h.bounds
  have hl : ((C.drop lo).take m).length = m := by
    rw [List.length_take, List.length_drop]
    omega
  refine ⟨_, _, by rw [hl], ⟨by rw [hl]; omega, fun e => by cases e⟩, by omega, fun hp => ?_⟩
  rw [hl] at hp
  obtain ⟨g', off', e, hlt, hc⟩ := h.cells (by omega)
  obtain ⟨rfl, rfl⟩ : g = g' ∧ off = off' := by simpa using e
  refine ⟨g, off + lo, rfl, hlt, fun j hj => ?_⟩
  rw [hl] at hj
  rw [Nat.add_assoc, hc (lo + j) (by omega), List.getD_eq_getElem?_getD, List.getD_eq_getElem?_getD, List.getElem?_take, if_pos hj, List.getElem?_drop]
theorem byt_in (h : Byt w (.slice A n c) ts) : Lib.BytesIn w A n (ts.map fun c => (c.toNat : Int)) := fun hn => by
  have hbd := h.bounds
  obtain ⟨b, off, e, -, hc⟩ := h.cells (by omega)
  refine ⟨b, off, e, fun i hi => ?_⟩
  rw [hc i (by omega), List.getD_eq_getElem?_getD, List.getD_eq_getElem?_getD, List.getElem?_map, List.getElem?_eq_getElem (by omega)]
  rfl
theorem nums_length (ts : List UInt8) : (ts.map fun c => (c.toNat : Int)).length = ts.length := List.length_map _
theorem results_one {fn : Func} {p : Tmp} {ty : TypeId} (h : fn.results = #[.cell p ty]) (tmps : Array Value) (P : Program) (w : World) :
    (results fn tmps).run P w = ((asAddr (tmps.getD p undef)).run P w).andThen fun a w₁ => (loadVar ty a).run P w₁ := by
  simp only [results, h]
  simp [Sem.run_bind, Result.andThen]
/-- Two new blocks. -/
theorem two_alloc (w : World) (o1 o2 : Obj) : ((w.alloc o1).alloc o2).heap[w.heap.size]? = some o1 ∧ ((w.alloc o1).alloc o2).heap[w.heap.size + 1]? = some o2 ∧ ((w.alloc o1).alloc o2).heap.size = w.heap.size + 2 ∧ Below w.heap.size w ((w.alloc o1).alloc o2) := by
  have h1 := heap_alloc_new w o1
  have hs : (w.alloc o1).heap.size = w.heap.size + 1 := World.size_alloc _ _
  have h2 := heap_alloc_new (w.alloc o1) o2
  rw [hs] at h2
  exact ⟨(Below.heap_alloc _ _ _ (by omega)).trans h1, h2, by rw [World.size_alloc, hs], ((Below.refl _ w).alloc (Nat.le_refl _) _).alloc (by omega) _⟩
theorem KepM.stay {B : Nat} {kv : Value} {bs : List Nat} {K : List (List Pg)} (h : KepM w B kv bs K) (hs : w.heap.size ≤ w'.heap.size) (hk : ∀ k, B ≤ k → k < w.heap.size → w'.heap[k]? = w.heap[k]?) : KepM w' B kv bs K := by
  obtain ⟨h1, h2, h3⟩ := h
  refine ⟨h1.keep fun k e => hk k (h1.block k e).1 (h1.block k e).2, h2, fun i x l hx hl => ?_⟩
  obtain ⟨q1, q2⟩ := h3 i x l hx hl
  exact ⟨q1.keep hs (hk x q2 q1.lt) (fun k hk2 hG => hk k hG hk2) fun _ _ h => h, q2⟩
theorem KepM.mono {B B' : Nat} {kv : Value} {bs : List Nat} {K : List (List Pg)} (h : KepM w B kv bs K) (hB : B' ≤ B) : KepM w B' kv bs K := by
  obtain ⟨h1, h2, h3⟩ := h
  refine ⟨?_, h2, fun i x l hx hl => ?_⟩
  · rcases h1 with h1 | ⟨g, cap, cur, e, q, r⟩
    · exact .inl h1
    · exact .inr ⟨g, cap, cur, e, by omega, r⟩
  · obtain ⟨q1, q2⟩ := h3 i x l hx hl
    exact ⟨q1.wide fun k hk => Nat.le_trans hB hk, by omega⟩
/-- No version yet. -/
theorem noCommits_c (w : World) : Calls Tryz.prog 54 #[] w fun e w' => ∃ kv x, e = .returned (.agg #[.int .i64 0, kv]) ∧ KepM w' w.heap.size kv [x] [[]] ∧ Below w.heap.size w w' := by
  go_enter Tryz.func54, Tryz.ntmps54
  go_wp2_with fail
  rw [run_makeMap]
  simp only [Result.andThen]
  rw [Oper.upon_value]
  go_wp2_with fail
  obtain ⟨W1, eW⟩ : ∃ W, W = w.alloc (.cells #[.int .i64 0, .slice (some ⟨w.heap.size + 1 + 1, 0, none⟩) 1 1] 66) := ⟨_, rfl⟩
  refine bodyPost_ret (v := .agg #[.int .i64 0, .slice (some ⟨w.heap.size + 1 + 1, 0, none⟩) 1 1]) (by rw [results_one rfl]; go_simp) rfl ?_
  rw [← eW]
  have s1 : W1.heap.size = w.heap.size + 1 := by rw [eW]; exact World.size_alloc _ _
  have B1 : Below w.heap.size w W1 := by rw [eW]; exact (Below.refl _ _).alloc (Nat.le_refl _) _
  have M1 := PgM.made W1 (fun k => w.heap.size ≤ k)
  rw [s1] at M1
  have s2 : (W1.alloc (.map #[] 0)).heap.size = w.heap.size + 1 + 1 := by rw [World.size_alloc, s1]
  have B2 : Below w.heap.size w (W1.alloc (.map #[] 0)) := B1.alloc (by omega) _
  generalize W1.alloc (.map #[] 0) = W2 at *
  have hn := heap_alloc_new W2 (.cells #[.map (some (w.heap.size + 1))] 70)
  rw [s2] at hn
  refine ⟨_, w.heap.size + 1, rfl, ⟨.inr ⟨w.heap.size + 1 + 1, 1, _, rfl, by omega, hn, by simp, by unfold maxLen; omega, rfl, rfl, fun c hc => ⟨some (w.heap.size + 1), by simpa using hc⟩⟩, rfl, fun i x l hx hl => ?_⟩, B2.alloc (by omega) _⟩
  match i, hx, hl with
  | 0, hx, hl =>
    obtain rfl : w.heap.size + 1 = x := by simpa using hx
    obtain rfl : [] = l := by simpa using hl
    exact ⟨M1.below ((Below.refl _ _).alloc (Nat.le_refl _) _), by omega⟩
  | i + 1, hx, hl => simp at hx
/-! ### Sectors in the contents -/
theorem flat_sector {L : List (List UInt8)} {i : Nat} {x : List UInt8} (h : ∀ x ∈ L, x.length = 64) (hx : L[i]? = some x) : (L.flatten.drop (i * 64)).take 64 = x := by
  obtain ⟨hi, e⟩ := List.getElem?_eq_some_iff.1 hx
  have := flatB_part (fun x : List UInt8 => x) L i hi h
  rw [e] at this
  simpa using this
theorem flat_len {L : List (List UInt8)} (h : ∀ x ∈ L, x.length = 64) : L.flatten.length = L.length * 64 := by
  have := flatB_length (fun x : List UInt8 => x) L h
  simpa using this
theorem flat_drop : ∀ (L : List (List UInt8)) (p : Nat), (∀ x ∈ L, x.length = 64) → L.flatten.drop (p * 64) = (L.drop p).flatten
  | L, 0, _ => by simp
  | [], p + 1, _ => by simp
  | x :: L, p + 1, h => by
    have hx := h x List.mem_cons_self
    rw [List.flatten_cons, List.drop_succ_cons, ← flat_drop L p fun y hy => h y (List.mem_cons_of_mem _ hy), show (p + 1) * 64 = x.length + p * 64 by rw [hx]; omega, ← List.drop_drop, List.drop_left]
/-- A body in its sectors. -/
theorem flat_body {L : List (List UInt8)} {p : Nat} {body : List UInt8} (h : ∀ x ∈ L, x.length = 64) (hb : ∀ i, i < cntS body → L[p + i]? = some (padS (piece body i))) : (L.flatten.drop (p * 64)).take body.length = body := by
  rw [flat_drop L p h]
  have e : (L.drop p).take (cntS body) = (List.range (cntS body)).map fun i => padS (piece body i) := by
    apply List.ext_getElem?
    intro i
    rw [List.getElem?_take]
    by_cases hi : i < cntS body
    · rw [if_pos hi, List.getElem?_drop, hb i hi, List.getElem?_map, List.getElem?_range hi]
      rfl
    · rw [if_neg hi, List.getElem?_eq_none (by simpa using hi)]
  have hk : body.length ≤ cntS body * 64 := by unfold cntS; omega
  have hlen : (((List.range (cntS body)).map fun i => padS (piece body i)).flatten).length = cntS body * 64 := by
    rw [flatB_length (fun i => padS (piece body i)) (List.range (cntS body)) fun i _ => padS_len (piece_le body i), List.length_range]
  have h1 := pieces_take (cntS body) body hk
  rw [← List.take_append_drop (cntS body) (L.drop p), List.flatten_append, e, List.take_append_of_le_length (by rw [hlen]; exact hk)]
  exact h1
theorem encK_pos {K : List (List Pg)} (h : 1 ≤ K.length) : 0 < (encK K).length := by
  match K, h with
  | l :: K, _ =>
    have := encU_pos l.length
    unfold encK encV
    simp only [List.map_cons, List.flatten_cons, List.length_append]
    omega
/-- What is asked of the contents where a version is read. -/
structure Whole (L : List (List UInt8)) (v : Nat) (K : List (List Pg)) : Prop where
  len : ∀ x ∈ L, x.length = 64
  lo : 32 ≤ L.length
  hi : L.length ≤ 8192
  one : 1 ≤ v
  top : v ≤ 2147483647
  cnt : K.length = min v 3 + 1
  ok : ∀ l ∈ K, Srt l ∧ ∀ p ∈ l, okPg p
  body : Body L v (encK K)
set_option maxRecDepth 20000 in
set_option maxHeartbeats 4000000 in
theorem versions_c {L : List (List UInt8)} {v : Nat} {K : List (List Pg)} (hW : Whole L v K) {g off n c : Nat} (h : Byt w (.slice (some ⟨g, off, none⟩) n c) L.flatten) (hn : n = L.length * 64) (hc : n ≤ 100000000) (d a : Nat) :
    Calls Tryz.prog 60 #[regV d a L.length, .slice (some ⟨g, off, none⟩) n c, .int .i64 (v : Int)] w fun e w' => ∃ kv bs, e = .returned (.tuple #[.agg #[.int .i64 (v : Int), kv], .bool true]) ∧ KepM w' w.heap.size kv bs K ∧ Below w.heap.size w w' := by
  have HW := Lib.hid hW
  have H := Lib.hid h
  have hbd := h.bounds
  have HN := Lib.hid (show n = L.length * 64 ∧ n ≤ c ∧ n ≤ 100000000 from ⟨hn, hbd.2.1, hc⟩)
  obtain ⟨hb1, hb2, hb3⟩ := hW.body
  have ht := hW.top
  have hlo := hW.lo
  have hhi := hW.hi
  have h2 : v % 2 < 2 := Nat.mod_lt _ (by omega)
  have HS := Lib.hid (fun w => headerSector_c w d a L.length v ht)
  have BSC := Lib.hid (fun w => bodySector_c w d a L.length v ht hlo hhi)
  have CAP := Lib.hid (fun w => capacity_c w d a L.length hlo hhi)
  have HB2 := Lib.hid hb2
  have hfit := half_fits (n := v) hlo
  have hh64 : (encK K).length ≤ 262144 := by
    have : halfS L.length ≤ 4096 := by unfold halfS; omega
    omega
  have hvi : (v : Int) ≤ 2147483647 := by omega
  obtain ⟨p, ep⟩ : ∃ p, 3 + v % 2 * halfS L.length = p := ⟨_, rfl⟩
  have EP := Lib.hid ep
  have hsec := flat_sector (i := 1 + v % 2) hW.len hb1
  have hbod := flat_body (p := p) hW.len (by rw [← ep]; exact hb3)
  have SEC := Lib.hid hsec
  have BOD := Lib.hid hbod
  have PF := Lib.hid (show p * 64 + (encK K).length ≤ n by rw [← ep, hn]; rw [ep] at hfit ⊢; omega)
  rw [ep] at BSC
  unfold regV at *
  clear hW h hbd hn hc hb1 hb2 hb3 hfit hsec hbod ep
  have LL := Lib.hid (show L.length ≤ 8192 from hhi)
  go_enter Tryz.func60, Tryz.ntmps60
  go_wp2_with fail
  obtain ⟨hh0, hh1, hsz, hBW⟩ := two_alloc w (.cells #[.pointer (some ⟨d, 0, none⟩), .int .i64 (a : Int), .int .i64 (L.length : Int)] 62) (.cells #[.int .i64 0, .slice none 0 0] 66)
  refine (HS.out _).mono ?_
  rintro e w2 ⟨rfl, hB⟩
  have hg0 : w2.heap[w.heap.size]? = some (.cells #[.pointer (some ⟨d, 0, none⟩), .int .i64 (a : Int), .int .i64 (L.length : Int)] 62 (0, 0)) := (hB.block _ (by rw [hsz]; omega)).trans hh0
  have hg1 : w2.heap[w.heap.size + 1]? = some (.cells #[.int .i64 0, .slice none 0 0] 66 (0, 0)) := (hB.block _ (by rw [hsz]; omega)).trans hh1
  have hB2 : Below w.heap.size w w2 := hBW.trans (hB.mono (by rw [hsz]; omega))
  have hs2 : w.heap.size + 2 ≤ w2.heap.size := by have := hB.size; rw [hsz] at this; exact this
  clear hh0 hh1 hsz hBW hB HS
  have G0 := Lib.hid hg0
  have G1 := Lib.hid hg1
  have B2 := Lib.hid hB2
  have S2 := Lib.hid hs2
  have H2 := Lib.hid (H.out.below hB2)
  obtain ⟨k, ek⟩ : ∃ k, 1 + v % 2 = k := ⟨_, rfl⟩
  have hk2 : k ≤ 2 := by omega
  have KE := Lib.hid (show k ≤ 2 from hk2)
  have HEAD := Lib.hid (H2.out.sub (k * 64) 64 (by have := HN.out; omega))
  rw [ek] at SEC ⊢
  rw [SEC.out] at HEAD
  clear hg0 hg1 hB2 hs2 ek SEC
  go_wp2_with fail
  refine (psector_c w2 g off n c k (by have := HN.out; omega) (by have := HN.out; omega) (by have := HN.out; omega)).mono ?_
  rintro e w3 ⟨rfl, rfl⟩
  obtain ⟨q, eq⟩ : ∃ q, k * 64 = q := ⟨_, rfl⟩
  rw [eq] at HEAD ⊢
  have WC := Lib.hid (word_c HEAD.out (hdrS_length _ _ _) 2 (by omega))
  rw [hdrS_len _ _ _ (by omega)] at WC
  have hb2 := HB2.out
  have hbp := encK_pos (K := K) (by have := HW.out.cnt; omega)
  obtain ⟨bl, ebl⟩ : ∃ bl, (encK K).length = bl := ⟨_, rfl⟩
  have EBL := Lib.hid ebl
  rw [ebl] at WC hh64 hb2 hbp
  have hbi : (bl : Int) ≤ 262144 := by omega
  clear eq ebl
  go_wp2_with fail
  refine (WC.out).mono ?_
  rintro e w3 ⟨rfl, rfl⟩
  have c00 : w2.cell? ⟨w.heap.size, 0, none⟩ = some (.pointer (some ⟨d, 0, none⟩)) := by rw [cell_of_row w2 _ _ _ _ (0, 0) G0.out]; rfl
  have c01 : w2.cell? ⟨w.heap.size, 1, none⟩ = some (.int .i64 (a : Int)) := by rw [cell_of_row w2 _ _ _ _ (0, 0) G0.out]; rfl
  have c02 : w2.cell? ⟨w.heap.size, 2, none⟩ = some (.int .i64 (L.length : Int)) := by rw [cell_of_row w2 _ _ _ _ (0, 0) G0.out]; rfl
  clear WC
  go_wp2_with fail
  refine (CAP.out _).mono ?_
  rintro e w4 ⟨rfl, hB⟩
  have G04 := Lib.hid ((hB.block _ (by have := S2.out; omega)).trans G0.out)
  have G14 := Lib.hid ((hB.block _ (by have := S2.out; omega)).trans G1.out)
  have B4 := Lib.hid (B2.out.trans (hB.mono (by have := S2.out; omega)))
  have S4 := Lib.hid (Nat.le_trans S2.out hB.size)
  have H4 := Lib.hid (H2.out.below hB)
  have HEAD4 := Lib.hid (HEAD.out.below hB)
  obtain ⟨cp, ecp⟩ : ∃ cp, halfS L.length * 64 = cp := ⟨_, rfl⟩
  rw [ecp] at hb2 ⊢
  have hcp : ¬ (bl : Int) > (cp : Int) := by omega
  have hcp2 : (cp : Int) ≤ 262144 := by have : halfS L.length ≤ 4096 := by (unfold halfS; omega)
                                        omega
  clear hB ecp c00 c01 c02 CAP G0 G1 B2 S2 H2 HEAD
  have c00 : w4.cell? ⟨w.heap.size, 0, none⟩ = some (.pointer (some ⟨d, 0, none⟩)) := by rw [cell_of_row w4 _ _ _ _ (0, 0) G04.out]; rfl
  have c01 : w4.cell? ⟨w.heap.size, 1, none⟩ = some (.int .i64 (a : Int)) := by rw [cell_of_row w4 _ _ _ _ (0, 0) G04.out]; rfl
  have c02 : w4.cell? ⟨w.heap.size, 2, none⟩ = some (.int .i64 (L.length : Int)) := by rw [cell_of_row w4 _ _ _ _ (0, 0) G04.out]; rfl
  go_wp2_with fail
  refine (BSC.out _).mono ?_
  rintro e w5 ⟨rfl, hB⟩
  have G05 := Lib.hid ((hB.block _ (by have := S4.out; omega)).trans G04.out)
  have G15 := Lib.hid ((hB.block _ (by have := S4.out; omega)).trans G14.out)
  have B5 := Lib.hid (B4.out.trans (hB.mono (by have := S4.out; omega)))
  have S5 := Lib.hid (Nat.le_trans S4.out hB.size)
  have H5 := Lib.hid (H4.out.below hB)
  have HEAD5 := Lib.hid (HEAD4.out.below hB)
  clear hB c00 c01 c02 BSC G04 G14 B4 S4 H4 HEAD4
  have pf := PF.out
  rw [EBL.out] at pf
  have BODY := Lib.hid (H5.out.sub (p * 64) bl (by omega))
  rw [← EBL.out, BOD.out, EBL.out] at BODY
  obtain ⟨pq, epq⟩ : ∃ pq, p * 64 = pq := ⟨_, rfl⟩
  have hpq : (p : Int) * 64 = (pq : Int) := by omega
  have hpi : (p : Int) ≤ 100000000 := by have := HN.out; omega
  rw [epq] at pf BODY
  have hpn : pq ≤ n := by omega
  have hpc : ¬ c = pq := by have := HN.out; omega
  have hpb : bl ≤ n - pq := by omega
  have hpb2 : bl ≤ c - pq := by have := HN.out; omega
  have c00 : w5.cell? ⟨w.heap.size, 0, none⟩ = some (.pointer (some ⟨d, 0, none⟩)) := by rw [cell_of_row w5 _ _ _ _ (0, 0) G05.out]; rfl
  have c01 : w5.cell? ⟨w.heap.size, 1, none⟩ = some (.int .i64 (a : Int)) := by rw [cell_of_row w5 _ _ _ _ (0, 0) G05.out]; rfl
  have c02 : w5.cell? ⟨w.heap.size, 2, none⟩ = some (.int .i64 (L.length : Int)) := by rw [cell_of_row w5 _ _ _ _ (0, 0) G05.out]; rfl
  clear pf epq
  go_wp2_with fail
  have HDC := header_c BODY.out (by rw [EBL.out]; omega) v L.length HW.out.top HW.out.hi
  refine HDC.mono ?_
  rintro e w6 ⟨r, rfl, hr, hB⟩
  have G06 := Lib.hid ((hB.block _ (by have := S5.out; omega)).trans G05.out)
  have G16 := Lib.hid ((hB.block _ (by have := S5.out; omega)).trans G15.out)
  have B6 := Lib.hid (B5.out.trans (hB.mono (by have := S5.out; omega)))
  have S6 := Lib.hid (Nat.le_trans S5.out hB.size)
  have BODY6 := Lib.hid (BODY.out.below hB)
  have HEAD6 := Lib.hid (HEAD5.out.below hB)
  have R6 := Lib.hid hr.byt
  obtain ⟨Ar, cr, rfl⟩ := hr.byt.form
  rw [hdrS_length] at R6 ⊢
  have EQ := Lib.hid (Tryz.bytes_Equal_all (some ⟨g, off + q, none⟩) Ar 64 (c - q) 64 cr _ _ w6 (by rw [nums_length, hdrS_length]) (by rw [nums_length, hdrS_length]) (byt_in HEAD6.out) (byt_in R6.out))
  rw [bytesOf_nums, beq_self_eq_true] at EQ
  clear hB hr HDC c00 c01 c02 G05 G15 B5 S5 H5 HEAD5 BODY
  go_wp2_with fail
  refine (EQ.out).mono ?_
  rintro e w7 ⟨rfl, rfl⟩
  clear EQ
  go_wp2_with fail
  refine (decodeVersions_c (n := v) BODY6.out HW.out.cnt HW.out.ok (by rw [EBL.out]; omega) HW.out.top).mono ?_
  rintro e w8 ⟨kv, bs, rfl, hK, hB⟩
  have K8 := Lib.hid hK
  have G18 := Lib.hid ((hB.block _ (by have := S6.out; omega)).trans G16.out)
  have B8 := Lib.hid (B6.out.trans (hB.mono (by have := S6.out; omega)))
  have hg1 := G18.out
  have z0 : w8.frozen? ⟨w.heap.size + 1, 0, none⟩ = false := by simp [World.frozen?, hg1]
  have z1 : w8.frozen? ⟨w.heap.size + 1, 1, none⟩ = false := by simp [World.frozen?, hg1]
  have c10 : w8.cell? ⟨w.heap.size + 1, 0, none⟩ = some (.int .i64 0) := by rw [cell_of_row w8 _ _ _ _ (0, 0) hg1]; rfl
  have c11 : w8.cell? ⟨w.heap.size + 1, 1, none⟩ = some (.slice none 0 0) := by rw [cell_of_row w8 _ _ _ _ (0, 0) hg1]; rfl
  have hkf : ∃ A c, kv = .slice A bs.length c := by
    rcases hK.1 with ⟨rfl, rfl⟩ | ⟨g, cap, cur, rfl, _⟩
    · exact ⟨none, 0, rfl⟩
    · exact ⟨_, _, rfl⟩
  obtain ⟨Ak, ck, rfl⟩ := hkf
  clear hK hB hg1 G16 B6 G06
  generalize bs.length = bn at *
  go_wp2_with fail
  refine bodyPost_ret (v := .tuple #[.agg #[.int .i64 (v : Int), .slice Ak bn ck], .bool true]) (by rw [results_cell_tmp rfl]; go_simp) rfl ?_
  refine ⟨_, bs, rfl, (K8.out.stay (by rw [size_set, size_set]; exact Nat.le_refl _) fun k hk _ => ?_).mono (by have := S6.out; omega), ?_⟩
  · have := S6.out
    rw [Below.heap_setCell _ _ _ _ (by show k ≠ w.heap.size + 1; omega), Below.heap_setCell _ _ _ _ (by show k ≠ w.heap.size + 1; omega)]
  · exact (B8.out.setCell (p := ⟨w.heap.size + 1, 0, none⟩) (by show w.heap.size ≤ w.heap.size + 1; omega) _).setCell (p := ⟨w.heap.size + 1, 1, none⟩) (by show w.heap.size ≤ w.heap.size + 1; omega) _
end
end Go.Proofs.YtckomifecmemnaaGreat

/- The versions that the sectors of a store hold. -/
namespace Go.Proofs.YtckomifecmemnaaGreat
open Go.RowKit Dig
set_option linter.unusedVariables false

theorem zeros_flat {n : Nat} : ∀ x ∈ (List.replicate n Z64).flatten, x = 0 := by
  intro x hx
  obtain ⟨l, hl, hx⟩ := List.mem_flatten.1 hx
  rw [List.eq_of_mem_replicate hl] at hx
  exact List.eq_of_mem_replicate hx
theorem zeros_get {C : List UInt8} (h : ∀ x ∈ C, x = 0) (i : Nat) : C.getD i 0 = 0 := by
  rw [List.getD_eq_getElem?_getD]
  cases hx : C[i]? with
  | none => rfl
  | some x => exact h x (List.mem_of_getElem? hx)
theorem mark_zero : ∀ i, i < 48 → markS.getD i 0 = 0 := by decide
theorem mark_first : markS.getD 48 0 = 99 := by decide
section
variable {w w' : World} {L : List (List UInt8)} {n : Nat} {K : List (List Pg)}
theorem fit_whole (h : FitK L () n K) (h1 : 1 ≤ n) : Whole L n K ∧ L[0]? = some markS ∧ ∃ h, L[1 + (n + 1) % 2]? = some h ∧ hvS h < n := by
  obtain ⟨f1, f2, f3, f4, f5, f6, f7⟩ := h
  rcases f7 with ⟨e, _⟩ | ⟨_, g1, g2, g3⟩
  · omega
  · exact ⟨⟨f1, f2, f3, h1, f4, f5, f6, g2⟩, g1, g3⟩
theorem whole_mark (h : Whole L n K) (h0 : L[0]? = some markS) : (∀ i, i < 64 → L.flatten.getD i 0 = markS.getD i 0) ∧ markS <+: L.flatten ∧ (L.flatten.drop 64).count 0 ≠ L.length * 64 - 64 := by
  have e0 := flat_sector h.len h0
  rw [Nat.zero_mul, List.drop_zero] at e0
  refine ⟨fun i hi => ?_, ⟨L.flatten.drop 64, by rw [← e0]; exact List.take_append_drop 64 L.flatten⟩, fun he => ?_⟩
  · rw [← e0, List.getD_eq_getElem?_getD, List.getD_eq_getElem?_getD, List.getElem?_take, if_pos hi]
  · have hl : (L.flatten.drop 64).length = L.length * 64 - 64 := by rw [List.length_drop, flat_len h.len]
    rw [← hl] at he
    have hall := List.count_eq_length.1 he
    obtain ⟨c, hc, hne⟩ := hdr_nonzero (size := L.length) (body := encK K) h.one (by have := h.top; omega)
    have e1 := flat_sector h.len h.body.1
    rw [← e1] at hc
    have hm : c ∈ L.flatten.drop 64 := by
      have h2 := List.mem_of_mem_take hc
      rw [show (1 + n % 2) * 64 = 64 + n % 2 * 64 by omega, ← List.drop_drop] at h2
      exact List.mem_of_mem_drop h2
    exact hne (hall c hm).symm
set_option maxRecDepth 20000 in
set_option maxHeartbeats 4000000 in
theorem parse_zero (h : FitK L () 0 K) {g off m c : Nat} (hC : Byt w (.slice (some ⟨g, off, none⟩) m c) L.flatten) (hm : m = L.length * 64) (d a : Nat) :
    Calls Tryz.prog 27 #[regV d a L.length, .slice (some ⟨g, off, none⟩) m c] w fun e w' => ∃ kv bs, e = .returned (.tuple #[.agg #[.int .i64 0, kv], .bool true]) ∧ KepM w' w.heap.size kv bs K ∧ Below w.heap.size w w' := by
  obtain ⟨f1, f2, f3, f4, f5, f6, f7⟩ := h
  obtain ⟨-, rfl, hz⟩ : 0 = 0 ∧ K = [[]] ∧ L = List.replicate L.length Z64 := by
    rcases f7 with h | ⟨h, _⟩
    · exact h
    · omega
  have hall : ∀ x ∈ L.flatten, x = 0 := by rw [hz]; exact zeros_flat
  have hlen := flat_len f1
  have IU := Lib.hid (fun w2 (hB : Below w.heap.size w w2) => isUnused_c (hC.below hB) (by rw [hlen, hm]) (by omega) (by omega) 48 (by omega) (fun i hi => by rw [zeros_get hall, mark_zero i hi]) (.inr (by rw [zeros_get hall, mark_first]; decide)))
  have hcnt : (L.flatten.drop 48).count 0 = m - 48 := by
    have hl : (L.flatten.drop 48).length = m - 48 := by rw [List.length_drop, hlen, hm]
    rw [← hl]
    exact List.count_eq_length.2 fun x hx => (hall x (List.mem_of_mem_drop hx)).symm
  rw [decide_eq_true hcnt] at IU
  unfold regV
  clear f1 f2 f3 f4 f5 f6 f7 hz hall hlen hcnt hm hC
  go_enter Tryz.func27, Tryz.ntmps27
  go_wp2_with fail
  obtain ⟨hh0, hh1, hsz, hBW⟩ := two_alloc w (.cells #[.pointer (some ⟨d, 0, none⟩), .int .i64 (a : Int), .int .i64 (L.length : Int)] 62) (.cells #[.int .i64 0, .slice none 0 0] 66)
  refine (IU.out _ hBW).mono ?_
  rintro e w2 ⟨rfl, hB⟩
  have G1 := Lib.hid ((hB.block _ (by rw [hsz]; omega)).trans hh1)
  have B2 := Lib.hid (hBW.trans (hB.mono (by rw [hsz]; omega)))
  have S2 := Lib.hid (show w.heap.size + 2 ≤ w2.heap.size by have := hB.size; rw [hsz] at this; exact this)
  clear hh0 hh1 hsz hBW hB IU
  go_wp2_with fail
  refine (noCommits_c _).mono ?_
  rintro e w3 ⟨kv, x, rfl, hK, hB⟩
  have K3 := Lib.hid hK
  have B3 := Lib.hid (B2.out.trans (hB.mono (by have := S2.out; omega)))
  have hg1 := (hB.block _ (by have := S2.out; omega)).trans G1.out
  have z0 : w3.frozen? ⟨w.heap.size + 1, 0, none⟩ = false := by simp [World.frozen?, hg1]
  have z1 : w3.frozen? ⟨w.heap.size + 1, 1, none⟩ = false := by simp [World.frozen?, hg1]
  have c10 : w3.cell? ⟨w.heap.size + 1, 0, none⟩ = some (.int .i64 0) := by rw [cell_of_row w3 _ _ _ _ (0, 0) hg1]; rfl
  have c11 : w3.cell? ⟨w.heap.size + 1, 1, none⟩ = some (.slice none 0 0) := by rw [cell_of_row w3 _ _ _ _ (0, 0) hg1]; rfl
  have hkf : ∃ A c, kv = .slice A 1 c := by
    rcases hK.1 with ⟨_, e⟩ | ⟨g, cap, cur, rfl, _⟩
    · cases e
    · exact ⟨_, _, rfl⟩
  obtain ⟨Ak, ck, rfl⟩ := hkf
  clear hK hB hg1 G1
  go_wp2_with fail
  refine bodyPost_ret (v := .tuple #[.agg #[.int .i64 0, .slice Ak 1 ck], .bool true]) (by rw [results_cell_tmp rfl]; go_simp) rfl ?_
  refine ⟨_, [x], rfl, (K3.out.stay (by rw [size_set, size_set]; exact Nat.le_refl _) fun k hk _ => ?_).mono (by have := S2.out; omega), ?_⟩
  · have := S2.out
    rw [Below.heap_setCell _ _ _ _ (by show k ≠ w.heap.size + 1; omega), Below.heap_setCell _ _ _ _ (by show k ≠ w.heap.size + 1; omega)]
  · exact (B3.out.setCell (p := ⟨w.heap.size + 1, 0, none⟩) (by show w.heap.size ≤ w.heap.size + 1; omega) _).setCell (p := ⟨w.heap.size + 1, 1, none⟩) (by show w.heap.size ≤ w.heap.size + 1; omega) _
/-- The greater of the headers' versions, after j of them. -/
def mxV (h1 h2 : Nat) (j : Nat) : Nat := if j = 0 then 0 else if j = 1 then h1 else max h1 h2
set_option maxRecDepth 20000 in
set_option maxHeartbeats 4000000 in
theorem parse_some (h : FitK L () n K) (h1 : 1 ≤ n) {g off m c : Nat} (hC : Byt w (.slice (some ⟨g, off, none⟩) m c) L.flatten) (hm : m = L.length * 64) (hc : m ≤ 100000000) (d a : Nat) :
    Calls Tryz.prog 27 #[regV d a L.length, .slice (some ⟨g, off, none⟩) m c] w fun e w' => ∃ kv bs, e = .returned (.tuple #[.agg #[.int .i64 (n : Int), kv], .bool true]) ∧ KepM w' w.heap.size kv bs K ∧ Below w.heap.size w w' := by
  obtain ⟨hW, h0, hv, hvx, hvl⟩ := fit_whole h h1
  obtain ⟨m1, m2, m3⟩ := whole_mark hW h0
  have hlen := flat_len hW.len
  have hlo := hW.lo
  have hhi := hW.hi
  have IU := Lib.hid (fun w2 (hB : Below w.heap.size w w2) => isUnused_c (hC.below hB) (by rw [hlen, hm]) (by omega) (by omega) 64 (by omega) m1 (.inl rfl))
  rw [hm, decide_eq_false m3, ← hm] at IU
  obtain ⟨x1, hx1⟩ : ∃ x, L[1]? = some x := ⟨L[1]'(by omega), List.getElem?_eq_getElem _⟩
  obtain ⟨x2, hx2⟩ : ∃ x, L[2]? = some x := ⟨L[2]'(by omega), List.getElem?_eq_getElem _⟩
  have hmax : max (hvS x1) (hvS x2) = n ∧ hvS x1 ≤ 2147483647 ∧ hvS x2 ≤ 2147483647 := by
    have ht := hW.top
    have hb := hW.body.1
    rcases (by omega : n % 2 = 0 ∨ n % 2 = 1) with e | e
    · rw [e] at hb
      rw [show (n + 1) % 2 = 1 by omega] at hvx
      rw [hx1] at hb
      rw [hx2] at hvx
      injection hb with hb
      injection hvx with hvx
      rw [hb, hvx, hvS_hdr ht]
      omega
    · rw [e] at hb
      rw [show (n + 1) % 2 = 0 by omega] at hvx
      rw [hx2] at hb
      rw [hx1] at hvx
      injection hb with hb
      injection hvx with hvx
      rw [hb, hvx, hvS_hdr ht]
      omega
  have HC := Lib.hid hC
  have HN := Lib.hid (show m = L.length * 64 ∧ m ≤ c ∧ m ≤ 100000000 ∧ 32 ≤ L.length from ⟨hm, hC.bounds.2.1, hc, hlo⟩)
  have HS0 := Lib.hid (fun w => (show Calls Tryz.prog 59 #[regV d a L.length, .int .i64 0] w (RVal w (.int .i64 1)) from headerSector_c w d a L.length 0 (by omega)))
  have HS1 := Lib.hid (fun w => (show Calls Tryz.prog 59 #[regV d a L.length, .int .i64 1] w (RVal w (.int .i64 2)) from headerSector_c w d a L.length 1 (by omega)))
  have PS0 := Lib.hid (fun w2 => (show Calls Tryz.prog 58 #[.slice (some ⟨g, off, none⟩) m c, .int .i64 1] w2 fun e w' => e = .returned (.slice (some ⟨g, off + 64, none⟩) 64 (c - 64)) ∧ w2 = w' from psector_c w2 g off m c 1 (by have := hC.bounds; omega) hC.bounds.2.1 hc))
  have PS1 := Lib.hid (fun w2 => (show Calls Tryz.prog 58 #[.slice (some ⟨g, off, none⟩) m c, .int .i64 2] w2 fun e w' => e = .returned (.slice (some ⟨g, off + 128, none⟩) 64 (c - 128)) ∧ w2 = w' from psector_c w2 g off m c 2 (by have := hC.bounds; omega) hC.bounds.2.1 hc))
  have X1 := Lib.hid (show (L.flatten.drop 64).take 64 = x1 ∧ x1.length = 64 from ⟨flat_sector (i := 1) hW.len hx1, hW.len _ (List.mem_of_getElem? hx1)⟩)
  have X2 := Lib.hid (show (L.flatten.drop 128).take 64 = x2 ∧ x2.length = 64 from ⟨flat_sector (i := 2) hW.len hx2, hW.len _ (List.mem_of_getElem? hx2)⟩)
  have HV0 := Lib.hid (fun w2 (hB : Below w.heap.size w w2) => headerVersion_c (ts := x1) (by have h := (hC.below hB).sub 64 64 (by omega); rw [X1.out.1] at h; exact h) X1.out.2)
  have HV1 := Lib.hid (fun w2 (hB : Below w.heap.size w w2) => headerVersion_c (ts := x2) (by have h := (hC.below hB).sub 128 64 (by omega); rw [X2.out.1] at h; exact h) X2.out.2)
  have VC := Lib.hid (fun w2 (hB : Below w.heap.size w w2) => versions_c hW (hC.below hB) hm hc d a)
  have PX := Lib.hid (List.isPrefixOf_iff_prefix.2 m2)
  have HP := Lib.hid (fun w2 (hB : Below w.heap.size w w2) (Ar : Option Addr) (cr : Nat) (hr : Byt w2 (.slice Ar 64 cr) markS) => Tryz.bytes_HasPrefix_all (some ⟨g, off, none⟩) Ar m c 64 cr _ _ w2 (by rw [nums_length, hlen, hm]) (by rw [nums_length, markS_length]) hC.bounds.2.1 (byt_in (hC.below hB)) (byt_in hr))
  have HPX := Lib.hid (show Lib.hasPrefix (Lib.bytesOf (L.flatten.map fun c => (c.toNat : Int))) (Lib.bytesOf (markS.map fun c => (c.toNat : Int))) = true by rw [bytesOf_nums, bytesOf_nums]; exact PX.out)
  rw [HPX.out] at HP
  have N1 := Lib.hid h1
  have TOP := Lib.hid hW.top
  obtain ⟨hmx, hv1, hv2⟩ := hmax
  generalize hvS x1 = v1 at *
  generalize hvS x2 = v2 at *
  have hm0 : max (0 : Int) (v1 : Int) = (v1 : Int) := by omega
  have hm1 : max (v1 : Int) (v2 : Int) = (n : Int) := by omega
  have hni : (n : Int) ≤ 2147483647 := by have := TOP.out; omega
  have hn0 : ((n : Int) == 0) = false := by rw [beq_eq_false_iff_ne]; omega
  have NI := Lib.hid (show ((n : Int) ≤ 2147483647) ∧ ((n : Int) == 0) = false ∧ max (0 : Int) (v1 : Int) = (v1 : Int) ∧ max (v1 : Int) (v2 : Int) = (n : Int) from ⟨hni, hn0, hm0, hm1⟩)
  unfold regV at *
  clear h hm hc hC hW h0 hv hvx hvl m1 m2 m3 hlen hlo hhi hx1 hx2 X1 X2 PX HPX hmx hv1 hv2 hm0 hm1 hni hn0 h1
  go_enter Tryz.func27, Tryz.ntmps27
  go_wp2_with fail
  obtain ⟨hh0, hh1, hsz, hBW⟩ := two_alloc w (.cells #[.pointer (some ⟨d, 0, none⟩), .int .i64 (a : Int), .int .i64 (L.length : Int)] 62) (.cells #[.int .i64 0, .slice none 0 0] 66)
  refine (IU.out _ hBW).mono ?_
  rintro e w2 ⟨rfl, hB⟩
  have G0 := Lib.hid ((hB.block _ (by rw [hsz]; omega)).trans hh0)
  have G1 := Lib.hid ((hB.block _ (by rw [hsz]; omega)).trans hh1)
  have B2 := Lib.hid (hBW.trans (hB.mono (by rw [hsz]; omega)))
  have S2 := Lib.hid (show w.heap.size + 2 ≤ w2.heap.size by have := hB.size; rw [hsz] at this; exact this)
  clear hh0 hh1 hsz hBW hB IU
  go_wp2_with fail
  refine (mark_c _).mono ?_
  rintro e w3 ⟨r, rfl, hr, hB⟩
  have G03 := Lib.hid ((hB.block _ (by have := S2.out; omega)).trans G0.out)
  have G13 := Lib.hid ((hB.block _ (by have := S2.out; omega)).trans G1.out)
  have B3 := Lib.hid (B2.out.trans (hB.mono (by have := S2.out; omega)))
  have S3 := Lib.hid (Nat.le_trans S2.out hB.size)
  obtain ⟨Ar, cr, rfl⟩ := hr.byt.form
  rw [markS_length] at hr ⊢
  have RM := Lib.hid (show Byt w3 (.slice Ar 64 cr) markS from hr.byt)
  clear hr hB G0 G1 B2 S2
  go_wp2_with fail
  refine (HP.out _ B3.out _ _ RM.out).mono ?_
  rintro e w4 ⟨rfl, rfl⟩
  clear HP RM
  go_wp2_with fail
  go_loopw [6, 16] (fun vv jv wr => ∃ j : Nat, j ≤ 2 ∧ jv = .int .i64 (j : Int) ∧ vv = .int .i64 (if j = 0 then 0 else if j = 1 then (v1 : Int) else (n : Int)) ∧ Below w4.heap.size w4 wr) (fun _ jv _ => 2 - (intOf jv).toNat)
  case atStart => exact ⟨0, by omega, rfl, rfl, Below.refl _ _⟩
  case round =>
    obtain ⟨j, hj, rfl, rfl, hBr⟩ := hrel
    have G05 := Lib.hid ((hBr.block _ (by have := S3.out; omega)).trans G03.out)
    have G15 := Lib.hid ((hBr.block _ (by have := S3.out; omega)).trans G13.out)
    have B5 := Lib.hid (B3.out.trans (hBr.mono (by have := S3.out; omega)))
    have BR := Lib.hid hBr
    have S5 := Lib.hid (Nat.le_trans S3.out hBr.size)
    clear hBr
    generalize wr = w5 at *
    have c00 : w5.cell? ⟨w.heap.size, 0, none⟩ = some (.pointer (some ⟨d, 0, none⟩)) := by rw [cell_of_row w5 _ _ _ _ (0, 0) G05.out]; rfl
    have c01 : w5.cell? ⟨w.heap.size, 1, none⟩ = some (.int .i64 (a : Int)) := by rw [cell_of_row w5 _ _ _ _ (0, 0) G05.out]; rfl
    have c02 : w5.cell? ⟨w.heap.size, 2, none⟩ = some (.int .i64 (L.length : Int)) := by rw [cell_of_row w5 _ _ _ _ (0, 0) G05.out]; rfl
    rcases (by omega : j = 0 ∨ j = 1 ∨ j = 2) with rfl | rfl | rfl
    · rw [if_pos rfl]
      clear hj
      go_wp2_with fail
      refine (HS0.out _).mono ?_
      rintro e w6 ⟨rfl, hB⟩
      have B6 := Lib.hid (B5.out.trans (hB.mono (by have := S5.out; omega)))
      have BR6 := Lib.hid (below_then BR.out hB)
      clear hB c00 c01 c02
      go_wp2_with fail
      refine (PS0.out _).mono ?_
      rintro e w7 ⟨rfl, rfl⟩
      go_wp2_with fail
      refine (HV0.out _ B6.out).mono ?_
      rintro e w7 ⟨rfl, rfl⟩
      have hmm := NI.out.2.2.1
      go_wp2_with fail
      go_roundw
      case rel => exact ⟨1, by omega, by go_num, rfl, BR6.out⟩
      case measure => simp [intOf]
    · rw [if_neg (by omega), if_pos rfl]
      clear hj
      go_wp2_with fail
      refine (HS1.out _).mono ?_
      rintro e w6 ⟨rfl, hB⟩
      have B6 := Lib.hid (B5.out.trans (hB.mono (by have := S5.out; omega)))
      have BR6 := Lib.hid (below_then BR.out hB)
      clear hB c00 c01 c02
      go_wp2_with fail
      refine (PS1.out _).mono ?_
      rintro e w7 ⟨rfl, rfl⟩
      go_wp2_with fail
      refine (HV1.out _ B6.out).mono ?_
      rintro e w7 ⟨rfl, rfl⟩
      have hmm := NI.out.2.2.2
      go_wp2_with fail
      go_roundw
      case rel => exact ⟨2, by omega, by go_num, rfl, BR6.out⟩
      case measure => simp [intOf]
    · have hn0 := NI.out.2.1
      rw [if_neg (by omega), if_neg (by omega)]
      clear hj
      go_wp2_with fail
      refine (VC.out _ B5.out).mono ?_
      rintro e w8 ⟨kv, bs, rfl, hK, hB⟩
      have K8 := Lib.hid hK
      have B8 := Lib.hid (B5.out.trans (hB.mono (by have := S5.out; omega)))
      have hg1 := (hB.block _ (by have := S5.out; omega)).trans G15.out
      have z0 : w8.frozen? ⟨w.heap.size + 1, 0, none⟩ = false := by simp [World.frozen?, hg1]
      have z1 : w8.frozen? ⟨w.heap.size + 1, 1, none⟩ = false := by simp [World.frozen?, hg1]
      have c10 : w8.cell? ⟨w.heap.size + 1, 0, none⟩ = some (.int .i64 0) := by rw [cell_of_row w8 _ _ _ _ (0, 0) hg1]; rfl
      have c11 : w8.cell? ⟨w.heap.size + 1, 1, none⟩ = some (.slice none 0 0) := by rw [cell_of_row w8 _ _ _ _ (0, 0) hg1]; rfl
      have hkf : ∃ A c, kv = .slice A bs.length c := by
        rcases hK.1 with ⟨rfl, rfl⟩ | ⟨g, cap, cur, rfl, _⟩
        · exact ⟨none, 0, rfl⟩
        · exact ⟨_, _, rfl⟩
      obtain ⟨Ak, ck, rfl⟩ := hkf
      clear hK hB hg1 c00 c01 c02
      generalize bs.length = bn at *
      go_wp2_with fail
      refine bodyPost_ret (v := .tuple #[.agg #[.int .i64 (n : Int), .slice Ak bn ck], .bool true]) (by rw [results_cell_tmp rfl]; go_simp) rfl ?_
      refine ⟨_, bs, rfl, (K8.out.stay (by rw [size_set, size_set]; exact Nat.le_refl _) fun k hk _ => ?_).mono (by have := S5.out; omega), ?_⟩
      · have := S5.out
        rw [Below.heap_setCell _ _ _ _ (by show k ≠ w.heap.size + 1; omega), Below.heap_setCell _ _ _ _ (by show k ≠ w.heap.size + 1; omega)]
      · exact (B8.out.setCell (p := ⟨w.heap.size + 1, 0, none⟩) (by show w.heap.size ≤ w.heap.size + 1; omega) _).setCell (p := ⟨w.heap.size + 1, 1, none⟩) (by show w.heap.size ≤ w.heap.size + 1; omega) _
end
end Go.Proofs.YtckomifecmemnaaGreat

/- One more version is kept. -/
namespace Go.Proofs.YtckomifecmemnaaGreat
open Go.RowKit Dig Go.Shelf
set_option linter.unusedVariables false

section
variable {w w' : World} {base g c wb last : Nat} {v : Value} {bs : List Nat} {l : List Pg} {G : Nat → Prop}
theorem KpV.of_own (h : w.ownsRow base 70 1 v bs.length (mpsV bs)) (hb : 1 ≤ bs.length) : ∃ g c, v = .slice (some ⟨g, 0, none⟩) bs.length c ∧ base ≤ g ∧ KpV w g c bs ∧ ∀ j, w.frozen? ⟨g, j, none⟩ = false := by
  rcases h.2 with ⟨rfl, h0⟩ | ⟨g, cap, cur, rfl, h1, h2, h3, h4, h5, h6⟩
  · omega
  · refine ⟨g, cap, rfl, h1, ⟨lt_of_heap h2, h3, h4, fun i x hx => ?_⟩, fun j => by simp [World.frozen?, h2]⟩
    have hi := (List.getElem?_eq_some_iff.1 hx).1
    rw [Nat.mul_one] at h6
    have e : (mpsV bs)[i]? = some (.map (some x)) := by unfold mpsV; rw [List.getElem?_map, hx]; rfl
    rw [cell_of_row w g i _ _ (0, 0) h2, ← e, ← h6, List.getElem?_take, if_pos hi, Array.getElem?_toList]
theorem own_mps (h : KpV w g c bs) : ∀ j u, (mpsV bs)[j]? = some u → w.cell? ⟨g, 0 + j, none⟩ = some u := fun j u hj => by
  unfold mpsV at hj
  rw [List.getElem?_map] at hj
  cases hx : bs[j]? with
  | none => rw [hx] at hj; cases hj
  | some x =>
    rw [hx] at hj
    obtain rfl : Value.map (some x) = u := by simpa using hj
    rw [Nat.zero_add]
    exact h.2.2.2 j x hx
/-- A copy of the row. -/
theorem rclone_c (h : KpV w g c bs) (hl : bs.length ≤ 1000) : Calls Tryz.prog 63 #[.slice (some ⟨g, 0, none⟩) bs.length c] w fun e w' => ∃ v', e = .returned v' ∧ w'.ownsRow w.heap.size 70 1 v' bs.length (mpsV bs) ∧ v' ≠ .slice none 0 0 ∧ Below w.heap.size w w' := by
  obtain ⟨i0, hi, hz0, hz1, hz2⟩ := info_parts info_pgs
  exact AnyE.slices_Clone Tryz.cloneS i0 (.map none) 1 8 hi hz0 hz1 hz2 rfl (by omega) (fun w => by
    show (sizeOf 70).run Tryz.prog w = _
    simp [sizeOf, typeInfo, hi, hz1]) g 0 bs.length c (mpsV bs) w (by rw [mpsV_length, Nat.mul_one]) (by unfold maxLen; omega) (by omega) (own_mps h) (fun u hu => by
    obtain ⟨r, rfl⟩ := mpsV_map u hu
    rfl)
/-- The first of the row is struck. -/
theorem rdrop_c (h : KpV w g c bs) (hz : ∀ j, w.frozen? ⟨g, j, none⟩ = false) (h1 : 1 ≤ bs.length) (hl : bs.length ≤ 1000) : Calls Tryz.prog 64 #[.slice (some ⟨g, 0, none⟩) bs.length c, .int .i64 0, .int .i64 1] w fun e w' =>
    e = .returned (.slice (some ⟨g, 0, none⟩) (bs.length - 1) c) ∧ KpV w' g c (bs.drop 1) ∧ w.grownBy w' (some g) ∧ w'.heap.size = w.heap.size := by
  obtain ⟨i0, hi, hz0, hz1, hz2⟩ := info_parts info_pgs
  have hsz : (bs.map some).toArray.size = bs.length := by simp
  have hH : Sort.Holds Value.map w g 0 (bs.map some).toArray := fun j hj => by
    rw [hsz] at hj
    rw [Nat.zero_add]
    refine ⟨?_, hz j⟩
    rw [h.2.2.2 j bs[j] (List.getElem?_eq_getElem hj), getElem!_pos (bs.map some).toArray j (by rw [hsz]; exact hj)]
    simp only [List.getElem_toArray, List.getElem_map]
  have C := AnyE.slices_Delete Tryz.deleteS Value.map (fun x => rfl) none (fun w => by
    show (zeroValue 70).run Tryz.prog w = _
    kernel_rfl) i0 hi hz1 g 0 c 0 1 (bs.map some).toArray w hH (by rw [hsz]; exact h.2.1) h.2.2.1 (by omega) (by rw [hsz]; exact h1)
  rw [hsz] at C
  refine Calls.mono (show Calls Tryz.prog 64 #[.slice (some ⟨g, 0, none⟩) bs.length c, .int .i64 0, .int .i64 1] w _ from C) ?_
  rintro e w' ⟨rfl, q, rfl⟩
  have hH2 := Sort.holds_putRow Value.map (Sort.ahead w q) g 0 (bs.map some).toArray ((bs.map some).toArray.toList.take 0 ++ (bs.map some).toArray.toList.drop 1 ++ List.replicate (1 - 0) none).toArray hH (by simp; omega)
  refine ⟨rfl, ⟨?_, ?_, h.2.2.1, fun i x hx => ?_⟩, ⟨rfl, rfl, rfl, ?_, fun k _ hk => ?_⟩, ?_⟩
  · simp [Sort.putRow, Sort.mapBlock, Sort.ahead]
    exact h.1
  · rw [List.length_drop]
    have := h.2.1
    omega
  · have hi := (List.getElem?_eq_some_iff.1 hx).1
    rw [List.length_drop] at hi
    have h3 := (hH2 i (by simp; omega)).1
    rw [Nat.zero_add] at h3
    rw [h3, getElem!_pos _ i (by simp; omega)]
    rw [List.getElem?_drop] at hx
    obtain ⟨hlt, e⟩ := List.getElem?_eq_some_iff.1 hx
    simp only [List.take_zero, List.nil_append, List.getElem_toArray]
    rw [List.getElem_append_left (by simp; omega)]
    simp only [List.getElem_drop, List.getElem_map, e]
  · simp [Sort.putRow, Sort.mapBlock, Sort.ahead]
  · have hne : k ≠ g := fun e => hk (by rw [e])
    show ((Sort.ahead w q).heap.modify g _)[k]? = _
    rw [Array.getElem?_modify, if_neg (fun e => hne e.symm)]
    rfl
  · simp [Sort.putRow, Sort.mapBlock, Sort.ahead]
theorem one_map (x : Nat) : ∀ y ∈ [Value.map (some x)], y.oneCell' = true := fun y hy => by rw [List.mem_singleton.1 hy]; rfl
theorem mpsV_snoc (bs : List Nat) (x : Nat) : mpsV (bs ++ [x]) = mpsV bs ++ [Value.map (some x)] := by simp [mpsV]
/-- The versions that are kept, and one more. -/
def nextB (bs : List Nat) (nb : Nat) : List Nat := if 4 < bs.length + 1 then (bs ++ [nb]).drop 1 else bs ++ [nb]
set_option maxRecDepth 20000 in
set_option maxHeartbeats 4000000 in
theorem extended_c (h : KpV w g c bs) (hb1 : 1 ≤ bs.length) (hb4 : bs.length ≤ 4) (hlast : last ≤ 1000000) (hp : PgM w G wb l) : Calls Tryz.prog 33 #[hisV last g bs.length c, .map (some wb)] w fun e w' =>
    ∃ g' c' nb, e = .returned (hisV (last + 1) g' (nextB bs nb).length c') ∧ KpV w' g' c' (nextB bs nb) ∧ w.heap.size ≤ g' ∧ w.heap.size ≤ nb ∧ nb < w'.heap.size ∧ PgM w' G nb l ∧ Below w.heap.size w w' := by
  have H := Lib.hid h
  have HP := Lib.hid (show PgM w (fun q => G q ∧ q < w.heap.size) wb l from hp.keep (Nat.le_refl _) rfl (fun _ _ _ => rfl) fun q hq hG => ⟨hG, hq⟩)
  have HL := Lib.hid (show 1 ≤ bs.length ∧ bs.length ≤ 4 from ⟨hb1, hb4⟩)
  have hle := h.2.1
  have hli : (last : Int) ≤ 1000000 := by omega
  obtain ⟨k, ek⟩ : ∃ k, bs.length = k := ⟨_, rfl⟩
  have EK := Lib.hid ek
  unfold hisV
  have CL := Lib.hid (fun w2 (hB : Below w.heap.size w w2) => rclone_c (h.keepB (w' := w2) (hB.block g h.1)) (by omega))
  rw [ek] at hb4 CL hle ⊢
  clear h hp hb1 ek hlast
  go_enter Tryz.func33, Tryz.ntmps33
  go_wp2_with fail
  obtain ⟨hh0, hh1, hsz, hBW⟩ := two_alloc w (.cells #[.int .i64 (last : Int), .slice (some ⟨g, 0, none⟩) k c] 66) (.cells #[.int .i64 0, .slice none 0 0] 66)
  refine (CL.out _ hBW).mono ?_
  rintro e w2 ⟨v2, rfl, hown, -, hB⟩
  have G0 := Lib.hid ((hB.block _ (by rw [hsz]; omega)).trans hh0)
  have G1 := Lib.hid ((hB.block _ (by rw [hsz]; omega)).trans hh1)
  have B2 := Lib.hid (hBW.trans (hB.mono (by rw [hsz]; omega)))
  have S2 := Lib.hid (show w.heap.size + 2 ≤ w2.heap.size by have := hB.size; rw [hsz] at this; exact this)
  have O2 := Lib.hid (ownsRow_base_a hown (show w.heap.size + 2 ≤ _ by rw [hsz]; omega))
  clear hh0 hh1 hsz hBW hB hown CL
  go_wp2_with fail
  refine (mclone_c (HP.out.below B2.out)).mono ?_
  rintro e w3 ⟨rfl, hp3, hs3, hB⟩
  have G03 := Lib.hid ((hB.block _ (by have := S2.out; omega)).trans G0.out)
  have G13 := Lib.hid ((hB.block _ (by have := S2.out; omega)).trans G1.out)
  have B3 := Lib.hid (B2.out.trans (hB.mono (by have := S2.out; omega)))
  have S3 := Lib.hid (show w.heap.size + 2 ≤ w2.heap.size ∧ w2.heap.size < w3.heap.size by have := S2.out; omega)
  have O3 := Lib.hid (own_keep O2.out (w' := w3) fun q hq _ => hB.block q hq)
  have P3 := Lib.hid hp3
  clear hB hp3 hs3 G0 G1 B2 S2 O2
  obtain ⟨nb, enb⟩ : ∃ nb, w2.heap.size = nb := ⟨_, rfl⟩
  rw [enb] at P3 S3 ⊢
  clear enb
  have AL := Lib.hid ((Below.refl w3.heap.size w3).alloc (Nat.le_refl _) (.cells #[.map (some nb)] 70))
  go_wp2_with (at_builtin; refine wp_appendG Tryz.underlying64 info_pgs rfl (by omega) rfl _ _ rfl (w.heap.size + 2) _ _ _ rfl (O3.out.alloc _) _ 1 [Value.map (some nb)] rfl (cel_one _ 70 rfl) (one_map nb) (by omega) (by omega) (by omega) (Nat.le_trans (by have := S3.out; omega) AL.out.size) ?_; intro v5 w5 hv5 hg5 hn5; have O5 := Lib.hid (show w5.ownsRow (w.heap.size + 2) 70 1 v5 (k + 1) (mpsV bs ++ [Value.map (some nb)]) from hv5); have G5 := Lib.hid (show World.grownBy _ w5 v2.ownBlock from hg5); clear hv5 hg5 hn5)
  have hv2 : ∀ q, v2.ownBlock = some q → w.heap.size + 2 ≤ q := fun q hq => by
    rcases O3.out.2 with ⟨rfl, _⟩ | ⟨g, _, _, rfl, hb, _⟩
    · cases hq
    · obtain rfl : g = q := by simpa [Value.ownBlock] using hq
      exact hb
  have g0 := (G5.out.block w.heap.size (by have := S3.out; have := AL.out.size; omega) (fun e => by have := hv2 _ e.symm; omega)).trans ((AL.out.block _ (by have := S3.out; omega)).trans G03.out)
  have g1 := (G5.out.block (w.heap.size + 1) (by have := S3.out; have := AL.out.size; omega) (fun e => by have := hv2 _ e.symm; omega)).trans ((AL.out.block _ (by have := S3.out; omega)).trans G13.out)
  have B5 := Lib.hid ((B3.out.alloc B3.out.size _).grown G5.out (Nat.le_trans B3.out.size AL.out.size) fun q hq => by have := hv2 q hq; omega)
  have P5 := Lib.hid (show PgM w5 (fun q => G q ∧ q < w.heap.size) nb l from (P3.out.below AL.out).keep G5.out.size (G5.out.block nb (by have := S3.out; have := AL.out.size; omega) fun e => by
    obtain ⟨es, ce, he⟩ := P3.out.block
    rcases O3.out.2 with ⟨rfl, _⟩ | ⟨gq, _, _, rfl, _, hh, _⟩
    · cases e
    · have e2 : nb = gq := by simpa [Value.ownBlock] using e
      exact cells_ne hh he e2.symm) (fun q hq hG => G5.out.block q hq fun e => by have := hv2 q e.symm; have := hG.2; omega) fun _ _ h => h)
  have S5 := Lib.hid (show w.heap.size + 2 ≤ nb ∧ nb < w5.heap.size ∧ w.heap.size ≤ w5.heap.size by have := S3.out; have := AL.out.size; have := G5.out.size; omega)
  obtain ⟨g5, c5, rfl, hg5, hk5, hz5⟩ := KpV.of_own (bs := bs ++ [nb]) (by rw [mpsV_snoc, List.length_append, EK.out]; exact O5.out) (by simp)
  have K5 := Lib.hid hk5
  have Z5 := Lib.hid hz5
  have GB5 := Lib.hid hg5
  have hlen : (bs ++ [nb]).length = k + 1 := by rw [List.length_append, EK.out]; rfl
  have HLEN := Lib.hid hlen
  rw [hlen]
  have c00 : w5.cell? ⟨w.heap.size, 0, none⟩ = some (.int .i64 (last : Int)) := by rw [cell_of_row w5 _ _ _ _ (0, 0) g0]; rfl
  have c10 : w5.cell? ⟨w.heap.size + 1, 0, none⟩ = some (.int .i64 0) := by rw [cell_of_row w5 _ _ _ _ (0, 0) g1]; rfl
  have c11 : w5.cell? ⟨w.heap.size + 1, 1, none⟩ = some (.slice none 0 0) := by rw [cell_of_row w5 _ _ _ _ (0, 0) g1]; rfl
  have z0 : w5.frozen? ⟨w.heap.size + 1, 0, none⟩ = false := by simp [World.frozen?, g1]
  have z1 : w5.frozen? ⟨w.heap.size + 1, 1, none⟩ = false := by simp [World.frozen?, g1]
  have GG0 := Lib.hid g0
  have GG1 := Lib.hid g1
  clear hg5 hk5 hz5 hlen hv2 g0 g1 O3 O5 G5 P3 B3 S3 AL G03 G13
  by_cases h4 : k = 4
  · have hnx : nextB bs nb = (bs ++ [nb]).drop 1 := by unfold nextB; rw [EK.out, if_pos (by omega)]
    have hnl : ((bs ++ [nb]).drop 1).length = k := by rw [List.length_drop, HLEN.out, Nat.add_sub_cancel]
    have NX := Lib.hid (show nextB bs nb = (bs ++ [nb]).drop 1 ∧ ((bs ++ [nb]).drop 1).length = k from ⟨hnx, hnl⟩)
    have hk3 : ¬ ((k : Int) + 1) ≤ 4 := by omega
    clear hnx hnl h4
    go_wp2_with fail
    have DL := Lib.hid (rdrop_c K5.out Z5.out (by rw [HLEN.out]; omega) (by rw [HLEN.out]; omega))
    rw [HLEN.out, Nat.add_sub_cancel] at DL
    refine (DL.out).mono ?_
    rintro e w6 ⟨rfl, hk6, hg6, hs6⟩
    have g0 := (hg6.block w.heap.size (by have := S5.out; omega) (fun e => by injection e with e; have := GB5.out; omega)).trans GG0.out
    have g1 := (hg6.block (w.heap.size + 1) (by have := S5.out; omega) (fun e => by injection e with e; have := GB5.out; omega)).trans GG1.out
    have c00 : w6.cell? ⟨w.heap.size, 0, none⟩ = some (.int .i64 (last : Int)) := by rw [cell_of_row w6 _ _ _ _ (0, 0) g0]; rfl
    have c10 : w6.cell? ⟨w.heap.size + 1, 0, none⟩ = some (.int .i64 0) := by rw [cell_of_row w6 _ _ _ _ (0, 0) g1]; rfl
    have c11 : w6.cell? ⟨w.heap.size + 1, 1, none⟩ = some (.slice none 0 0) := by rw [cell_of_row w6 _ _ _ _ (0, 0) g1]; rfl
    have z0 : w6.frozen? ⟨w.heap.size + 1, 0, none⟩ = false := by simp [World.frozen?, g1]
    have z1 : w6.frozen? ⟨w.heap.size + 1, 1, none⟩ = false := by simp [World.frozen?, g1]
    have K6 := Lib.hid hk6
    have P6 := Lib.hid (show PgM w6 (fun q => G q ∧ q < w.heap.size) nb l from P5.out.keep hg6.size (hg6.block nb S5.out.2.1 fun e => by
      injection e with e
      obtain ⟨es, ce, he⟩ := P5.out.block
      have hc := K5.out.2.2.2 0 _ (List.getElem?_eq_getElem (by rw [HLEN.out]; omega))
      rw [← e] at hc
      simp [World.cell?, he] at hc) (fun q hq hG => hg6.block q hq fun e => by injection e with e; have := GB5.out; have := hG.2; omega) fun _ _ h => h)
    have B6 := Lib.hid (B5.out.grown hg6 S5.out.2.2 fun q hq => by injection hq with hq; have := GB5.out; omega)
    have S6 := Lib.hid (show nb < w6.heap.size by have := S5.out; omega)
    clear hk6 hg6 hs6 DL P5 B5 K5 g0 g1
    go_wp2_with fail
    refine bodyPost_ret (v := .agg #[.int .i64 ((last : Int) + 1), .slice (some ⟨g5, 0, none⟩) k c5]) (by rw [results_one rfl]; go_simp) rfl ?_
    have ot : ∀ q, q ≠ w.heap.size + 1 → ((w6.setCell ⟨w.heap.size + 1, 0, none⟩ (.int .i64 ((last : Int) + 1))).setCell ⟨w.heap.size + 1, 1, none⟩ (.slice (some ⟨g5, 0, none⟩) k c5)).heap[q]? = w6.heap[q]? := fun q hq => by rw [Below.heap_setCell _ _ _ _ hq, Below.heap_setCell _ _ _ _ hq]
    refine ⟨g5, c5, nb, by rw [NX.out.1, NX.out.2]; rfl, ?_, by have := GB5.out; omega, by have := S5.out; omega, by rw [size_set, size_set]; exact S6.out, ?_, ?_⟩
    · rw [NX.out.1]
      exact K6.out.keepB (ot g5 (by have := GB5.out; omega))
    · exact (P6.out.keep (by rw [size_set, size_set]; exact Nat.le_refl _) (ot nb (by have := S5.out; omega)) (fun q _ hG => ot q (by have := hG.2; omega)) fun _ _ h => h).wide fun _ h => h.1
    · exact below_put (below_put B6.out (by omega)) (by omega)
  · have hk3 : ¬ ((k : Int) + 1) > 4 := by omega
    have hnx : nextB bs nb = bs ++ [nb] := by unfold nextB; rw [EK.out, if_neg (by omega)]
    have NX := Lib.hid hnx
    clear h4 hnx
    go_wp2_with fail
    refine bodyPost_ret (v := .agg #[.int .i64 ((last : Int) + 1), .slice (some ⟨g5, 0, none⟩) (k + 1) c5]) (by rw [results_one rfl]; go_simp) rfl ?_
    have ot : ∀ q, q ≠ w.heap.size + 1 → ((w5.setCell ⟨w.heap.size + 1, 0, none⟩ (.int .i64 ((last : Int) + 1))).setCell ⟨w.heap.size + 1, 1, none⟩ (.slice (some ⟨g5, 0, none⟩) (k + 1) c5)).heap[q]? = w5.heap[q]? := fun q hq => by rw [Below.heap_setCell _ _ _ _ hq, Below.heap_setCell _ _ _ _ hq]
    refine ⟨g5, c5, nb, by rw [NX.out, HLEN.out]; rfl, ?_, by have := GB5.out; omega, by have := S5.out; omega, by rw [size_set, size_set]; exact S5.out.2.1, ?_, ?_⟩
    · rw [NX.out]
      exact K5.out.keepB (ot g5 (by have := GB5.out; omega))
    · exact (P5.out.keep (by rw [size_set, size_set]; exact Nat.le_refl _) (ot nb (by have := S5.out; omega)) (fun q _ hG => ot q (by have := hG.2; omega)) fun _ _ h => h).wide fun _ h => h.1
    · exact below_put (below_put B5.out (by omega)) (by omega)
end
end Go.Proofs.YtckomifecmemnaaGreat

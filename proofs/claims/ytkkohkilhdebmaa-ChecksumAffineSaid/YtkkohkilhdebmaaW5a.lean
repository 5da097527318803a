/- The walk of ChecksumAffine. -/
import Derived.Test.YtkkohkilhdebmaaW5b
import Derived.Test.YtkkohkilhdebmaaExb
namespace Go.Proofs.Ytkkohkilhdebmaa
set_option linter.unusedSimpArgs false
open Go.RowKit Dig
set_option linter.unusedVariables false
theorem leV_snoc : ∀ (cs : List UInt8) (c : UInt8), leV (cs ++ [c]) = leV cs ^^^ 2 ^ (8 * cs.length) * c.toNat
  | [], c => by
    show 2 ^ 8 * 0 + c.toNat = 0 ^^^ 2 ^ (8 * 0) * c.toNat
    rw [Nat.zero_xor]
    omega
  | d :: cs, c => by
    rw [List.cons_append, leV_cons, leV_snoc cs c, leV_cons, mul_xor, List.length_cons, show 8 * (cs.length + 1) = 8 + 8 * cs.length by omega, Nat.pow_add, Nat.mul_assoc]
    ac_rfl
/-- The exclusive or of three bytes. -/
def zx (us bs cs : List UInt8) (j : Nat) : UInt8 := oct (((us.getD j 0).toNat ^^^ (bs.getD j 0).toNat) ^^^ (cs.getD j 0).toNat)
theorem zx_lt (us bs cs : List UInt8) (j : Nat) : ((us.getD j 0).toNat ^^^ (bs.getD j 0).toNat) ^^^ (cs.getD j 0).toNat < 256 :=
  Nat.xor_lt_two_pow (n := 8) (Nat.xor_lt_two_pow (n := 8) (us.getD j 0).toNat_lt (bs.getD j 0).toNat_lt) (cs.getD j 0).toNat_lt
/-- The row when the first i bytes are made. -/
def zxs (us bs cs : List UInt8) (n i : Nat) : List UInt8 := (List.range n).map fun j => if j < i then zx us bs cs j else 0
theorem zxs_length (us bs cs : List UInt8) (n i : Nat) : (zxs us bs cs n i).length = n := by simp [zxs]
theorem zxs_zero (us bs cs : List UInt8) (n : Nat) : zxs us bs cs n 0 = List.replicate n 0 := by
  refine List.ext_getElem (by simp [zxs]) fun j h1 h2 => ?_
  simp [zxs]
theorem zxs_set (us bs cs : List UInt8) (n i : Nat) (hi : i < n) : (zxs us bs cs n i).set i (zx us bs cs i) = zxs us bs cs n (i + 1) := by
  refine List.ext_getElem (by simp [zxs]) fun j h1 h2 => ?_
  rw [List.getElem_set]
  by_cases e : i = j
  · subst e
    simp [zxs]
  · rw [if_neg e]
    have : (j < i) = (j < i + 1) := by apply propext; omega
    simp [zxs, this]
theorem take_snoc (ts : List UInt8) {n : Nat} (h : n < ts.length) : ts.take (n + 1) = ts.take n ++ [ts.getD n 0] := by
  rw [List.take_add_one, List.getElem?_eq_getElem h, List.getD_eq_getElem?_getD, List.getElem?_eq_getElem h]
  rfl
theorem leV_zxs (us bs cs : List UInt8) : ∀ n, n ≤ us.length → n ≤ bs.length → n ≤ cs.length → leV ((List.range n).map (zx us bs cs)) = leV (us.take n) ^^^ leV (bs.take n) ^^^ leV (cs.take n)
  | 0, _, _, _ => by simp [leV]
  | n + 1, h1, h2, h3 => by
    have h := leV_zxs us bs cs n (by omega) (by omega) (by omega)
    rw [List.range_succ, List.map_append, List.map_cons, List.map_nil, leV_snoc, h, take_snoc us (by omega), take_snoc bs (by omega), take_snoc cs (by omega), leV_snoc, leV_snoc, leV_snoc]
    simp only [List.length_map, List.length_range, List.length_take]
    rw [Nat.min_eq_left (by omega), Nat.min_eq_left (by omega), Nat.min_eq_left (by omega)]
    unfold zx
    rw [oct_toNat (zx_lt us bs cs n), mul_xor, mul_xor]
    ac_rfl
theorem zxs_all (us bs cs : List UInt8) (n : Nat) : zxs us bs cs n n = (List.range n).map (zx us bs cs) := by
  unfold zxs
  refine List.map_congr_left fun j hj => ?_
  rw [if_pos (List.mem_range.1 hj)]
theorem run_min4 {P : Program} (w : World) (ts : Array TypeId) (t : TypeId) (x y z n : Nat) (hn : n = min x (min y (min z 200))) :
    (Builtin.min_ ts t #[.int .i64 (x : Int), .int .i64 (y : Int), .int .i64 (z : Int), .int .i64 200]).run P w = .ok (.int .i64 (n : Int)) w := by
  have e : (if (200 : Int) < (if (z : Int) < (if (y : Int) < x then (y : Int) else x) then (z : Int) else (if (y : Int) < x then (y : Int) else x)) then (200 : Int) else (if (z : Int) < (if (y : Int) < x then (y : Int) else x) then (z : Int) else (if (y : Int) < x then (y : Int) else x))) = (n : Int) := by
    subst hn
    repeat' split
    all_goals omega
  simp [Builtin.min_, Builtin.min2]
  simpa using e
section
variable {w : World} {va vb vc : Value} {ta tb tc : List UInt8}
set_option maxRecDepth 20000 in
set_option maxHeartbeats 8000000 in
theorem affine_walk (w : World) (va vb vc : Value) (ta tb tc : List UInt8) (ha : Byt w va ta) (hb : Byt w vb tb) (hc : Byt w vc tc) :
    Calls Try.prog 7 #[va, vb, vc] w (RVal w (.bool true)) := by
  have HA := Lib.hid ha
  have HBB := Lib.hid hb
  have HCC := Lib.hid hc
  obtain ⟨A, a, rfl⟩ := ha.form
  obtain ⟨B, b, rfl⟩ := hb.form
  obtain ⟨C, c, rfl⟩ := hc.form
  obtain ⟨n, hn⟩ : ∃ n, n = min ta.length (min tb.length (min tc.length 200)) := ⟨_, rfl⟩
  have km := fun (w : World) => run_min4 (P := Try.prog) w #[3, 3, 3, 3] 3 ta.length tb.length tc.length n hn
  have HN := Lib.hid (show n ≤ ta.length ∧ n ≤ tb.length ∧ n ≤ tc.length ∧ n ≤ 200 by omega)
  have hni : (n : Int) ≤ 200 := by omega
  obtain ⟨l0, e0⟩ : ∃ l, ta.length = l := ⟨_, rfl⟩
  obtain ⟨l1, e1⟩ : ∃ l, tb.length = l := ⟨_, rfl⟩
  obtain ⟨l2, e2⟩ : ∃ l, tc.length = l := ⟨_, rfl⟩
  have E0 := Lib.hid e0
  have E1 := Lib.hid e1
  have E2 := Lib.hid e2
  rw [e0] at HA
  rw [e1] at HBB
  rw [e2] at HCC
  rw [e0, e1, e2] at km HN
  rw [e0, e1, e2]
  clear ha hb hc hn e0 e1 e2
  go_enter Try.func7, Try.ntmps7
  go_wp2_with (at_make; refine wp_makeB rfl _ _ rfl _ _ n rfl rfl rfl rfl (by omega) ?_; intro w1 hL hB; have B1 := Lib.hid hB; have L1 := Lib.hid hL; clear hL hB)
  clear km
  go_loopw [9] (fun i wr => ∃ j : Nat, j ≤ n ∧ i = .int .i64 j ∧ LetB wr w.heap.size (zxs ta tb tc n j) ∧ Below w.heap.size w wr) (fun i _ => n - (intOf i).toNat)
  case atStart => exact ⟨0, Nat.zero_le _, rfl, by rw [zxs_zero]; exact L1.out, B1.out⟩
  case round =>
    obtain ⟨j, hj, rfl, hX, hB⟩ := hrel
    by_cases hjn : j < n
    · have HI : (j : Int) < n := by omega
      have HX := Lib.hid hX
      have HBR := Lib.hid hB
      clear hX hB
      go_wp2_with fail
      have hX := HX.out
      have hB := HBR.out
      -- REGION 6
      refine hk_begin (S := fun w' => Below w.heap.size w w') 18 (by kernel_rfl) (by kernel_rfl) ?_
      have hD : Below wr.heap.size wr wr.drew := (Below.refl _ _).drew
      obtain ⟨ba, oa, rfl, hba, ca⟩ := HA.out.cells (by have := HN.out; have := E0.out; omega)
      obtain ⟨bb, ob, rfl, hbb, cb⟩ := HBB.out.cells (by have := HN.out; have := E1.out; omega)
      obtain ⟨bc, oc, rfl, hbc, cc⟩ := HCC.out.cells (by have := HN.out; have := E2.out; omega)
      have ca := ca j (by have := HN.out; have := E0.out; omega)
      have cb := cb j (by have := HN.out; have := E1.out; omega)
      have cc := cc j (by have := HN.out; have := E2.out; omega)
      have hja : j < l0 := by have := HN.out; omega
      have hjb : j < l1 := by have := HN.out; omega
      have hjc : j < l2 := by have := HN.out; omega
      have x1 := u8_xor_nat (ta.getD j 0).toNat (tb.getD j 0).toNat (ta.getD j 0).toNat_lt (tb.getD j 0).toNat_lt
      have x2 := u8_xor_nat _ (tc.getD j 0).toNat (Nat.xor_lt_two_pow (n := 8) (ta.getD j 0).toNat_lt (tb.getD j 0).toNat_lt) (tc.getD j 0).toNat_lt
      have hz : ((ta.getD j 0).toNat ^^^ (tb.getD j 0).toNat) ^^^ (tc.getD j 0).toNat = (zx ta tb tc j).toNat := by unfold zx; rw [oct_toNat (zx_lt ta tb tc j)]
      rw [hz] at x2
      have hXD := hX.below hD hX.lt
      have hput := hXD.put j (zx ta tb tc j) _ rfl
      rw [zxs_set ta tb tc n j hjn] at hput
      have hcx := hXD.cell (j := j) (by rw [zxs_length]; exact hjn)
      have hfx := hXD.frozen j
      have BN := hB.drew.setCell (p := ⟨w.heap.size, j, none⟩) (Nat.le_refl _) (.int .u8 ((zx ta tb tc j).toNat : Int))
      have BY := hB.drew
      clear hD hXD hz hX hB
      generalize wr.drew = yd at hput hcx hfx BN BY ⊢
      generalize (ta.getD j 0).toNat = qa at ca x1 x2
      generalize (tb.getD j 0).toNat = qb at cb x1 x2
      generalize (tc.getD j 0).toNat = qc at cc x2
      generalize ((zxs ta tb tc n j).getD j 0).toNat = q0 at hcx
      generalize (zx ta tb tc j).toNat = X2 at hput BN x2
      generalize qa ^^^ qb = X1 at x1 x2
      refine hk_take (i := 0) (some 24) (.slice (some ⟨w.heap.size, 0, none⟩) n n) (by kernel_rfl) (by kernel_rfl) (by kernel_rfl) (by kernel_rfl) (by kernel_rfl) (by kernel_rfl) (fun W hS => by kernel_rfl) (fun _ _ d _ _ h => by cases d <;> exact h) BY ?_
      simp only [put_lit, put_non, List.set_cons_zero, List.set_cons_succ]
      refine hk_take (i := 1) (some 25) (.int .i64 (j : Int)) (by kernel_rfl) (by kernel_rfl) (by kernel_rfl) (by kernel_rfl) (by kernel_rfl) (by kernel_rfl) (fun W hS => by kernel_rfl) (fun _ _ d _ _ h => by cases d <;> exact h) BY ?_
      simp only [put_lit, put_non, List.set_cons_zero, List.set_cons_succ]
      refine hk_take (i := 2) (some 26) (.slice (some ⟨ba, oa, none⟩) l0 a) (by kernel_rfl) (by kernel_rfl) (by kernel_rfl) (by kernel_rfl) (by kernel_rfl) (by kernel_rfl) (fun W hS => by kernel_rfl) (fun _ _ d _ _ h => by cases d <;> exact h) BY ?_
      simp only [put_lit, put_non, List.set_cons_zero, List.set_cons_succ]
      refine hk_take (i := 3) (some 27) (.int .i64 (j : Int)) (by kernel_rfl) (by kernel_rfl) (by kernel_rfl) (by kernel_rfl) (by kernel_rfl) (by kernel_rfl) (fun W hS => by kernel_rfl) (fun _ _ d _ _ h => by cases d <;> exact h) BY ?_
      simp only [put_lit, put_non, List.set_cons_zero, List.set_cons_succ]
      refine hk_take (i := 4) (some 28) (.pointer (some ⟨ba, oa + j, none⟩)) (by kernel_rfl) (by kernel_rfl) (by kernel_rfl) (by kernel_rfl) (by kernel_rfl) (by kernel_rfl) (fun W hS => exec_indexB (n := l0) (c := a) 26 27 (by kernel_rfl) (by kernel_rfl) (by kernel_rfl) hja) (fun _ _ d _ _ h => by cases d <;> exact h) BY ?_
      simp only [put_lit, put_non, List.set_cons_zero, List.set_cons_succ]
      refine hk_take (i := 5) (some 29) (.int .u8 (qa : Int)) (by kernel_rfl) (by kernel_rfl) (by kernel_rfl) (by kernel_rfl) (by kernel_rfl) (by kernel_rfl) (fun W hS => exec_loadB 28 (by rw [hS.cell (p := ⟨ba, oa + j, none⟩) hba]; exact ca) (by kernel_rfl) (by kernel_rfl)) (fun _ _ d _ _ h => by cases d <;> exact h) BY ?_
      simp only [put_lit, put_non, List.set_cons_zero, List.set_cons_succ]
      refine hk_take (i := 6) (some 30) (.slice (some ⟨bb, ob, none⟩) l1 b) (by kernel_rfl) (by kernel_rfl) (by kernel_rfl) (by kernel_rfl) (by kernel_rfl) (by kernel_rfl) (fun W hS => by kernel_rfl) (fun _ _ d _ _ h => by cases d <;> exact h) BY ?_
      simp only [put_lit, put_non, List.set_cons_zero, List.set_cons_succ]
      refine hk_take (i := 7) (some 31) (.int .i64 (j : Int)) (by kernel_rfl) (by kernel_rfl) (by kernel_rfl) (by kernel_rfl) (by kernel_rfl) (by kernel_rfl) (fun W hS => by kernel_rfl) (fun _ _ d _ _ h => by cases d <;> exact h) BY ?_
      simp only [put_lit, put_non, List.set_cons_zero, List.set_cons_succ]
      refine hk_take (i := 8) (some 32) (.pointer (some ⟨bb, ob + j, none⟩)) (by kernel_rfl) (by kernel_rfl) (by kernel_rfl) (by kernel_rfl) (by kernel_rfl) (by kernel_rfl) (fun W hS => exec_indexB (n := l1) (c := b) 30 31 (by kernel_rfl) (by kernel_rfl) (by kernel_rfl) hjb) (fun _ _ d _ _ h => by cases d <;> exact h) BY ?_
      simp only [put_lit, put_non, List.set_cons_zero, List.set_cons_succ]
      refine hk_take (i := 9) (some 33) (.int .u8 (qb : Int)) (by kernel_rfl) (by kernel_rfl) (by kernel_rfl) (by kernel_rfl) (by kernel_rfl) (by kernel_rfl) (fun W hS => exec_loadB 32 (by rw [hS.cell (p := ⟨bb, ob + j, none⟩) hbb]; exact cb) (by kernel_rfl) (by kernel_rfl)) (fun _ _ d _ _ h => by cases d <;> exact h) BY ?_
      simp only [put_lit, put_non, List.set_cons_zero, List.set_cons_succ]
      refine hk_take (i := 10) (some 34) (.int .u8 (X1 : Int)) (by kernel_rfl) (by kernel_rfl) (by kernel_rfl) (by kernel_rfl) (by kernel_rfl) (by kernel_rfl) (fun W hS => exec_xorK (T := 5) (T' := 5) 29 33 _ _ _ (by kernel_rfl) (by kernel_rfl) (by kernel_rfl) x1) (fun _ _ d _ _ h => by cases d <;> exact h) BY ?_
      simp only [put_lit, put_non, List.set_cons_zero, List.set_cons_succ]
      refine hk_take (i := 11) (some 35) (.slice (some ⟨bc, oc, none⟩) l2 c) (by kernel_rfl) (by kernel_rfl) (by kernel_rfl) (by kernel_rfl) (by kernel_rfl) (by kernel_rfl) (fun W hS => by kernel_rfl) (fun _ _ d _ _ h => by cases d <;> exact h) BY ?_
      simp only [put_lit, put_non, List.set_cons_zero, List.set_cons_succ]
      refine hk_take (i := 12) (some 36) (.int .i64 (j : Int)) (by kernel_rfl) (by kernel_rfl) (by kernel_rfl) (by kernel_rfl) (by kernel_rfl) (by kernel_rfl) (fun W hS => by kernel_rfl) (fun _ _ d _ _ h => by cases d <;> exact h) BY ?_
      simp only [put_lit, put_non, List.set_cons_zero, List.set_cons_succ]
      refine hk_take (i := 13) (some 37) (.pointer (some ⟨bc, oc + j, none⟩)) (by kernel_rfl) (by kernel_rfl) (by kernel_rfl) (by kernel_rfl) (by kernel_rfl) (by kernel_rfl) (fun W hS => exec_indexB (n := l2) (c := c) 35 36 (by kernel_rfl) (by kernel_rfl) (by kernel_rfl) hjc) (fun _ _ d _ _ h => by cases d <;> exact h) BY ?_
      simp only [put_lit, put_non, List.set_cons_zero, List.set_cons_succ]
      refine hk_take (i := 14) (some 38) (.int .u8 (qc : Int)) (by kernel_rfl) (by kernel_rfl) (by kernel_rfl) (by kernel_rfl) (by kernel_rfl) (by kernel_rfl) (fun W hS => exec_loadB 37 (by rw [hS.cell (p := ⟨bc, oc + j, none⟩) hbc]; exact cc) (by kernel_rfl) (by kernel_rfl)) (fun _ _ d _ _ h => by cases d <;> exact h) BY ?_
      simp only [put_lit, put_non, List.set_cons_zero, List.set_cons_succ]
      refine hk_take (i := 15) (some 39) (.int .u8 (X2 : Int)) (by kernel_rfl) (by kernel_rfl) (by kernel_rfl) (by kernel_rfl) (by kernel_rfl) (by kernel_rfl) (fun W hS => exec_xorK (T := 5) (T' := 5) 34 38 _ _ _ (by kernel_rfl) (by kernel_rfl) (by kernel_rfl) x2) (fun _ _ d _ _ h => by cases d <;> exact h) BY ?_
      simp only [put_lit, put_non, List.set_cons_zero, List.set_cons_succ]
      refine hk_take (i := 16) (some 40) (.pointer (some ⟨w.heap.size, j, none⟩)) (by kernel_rfl) (by kernel_rfl) (by kernel_rfl) (by kernel_rfl) (by kernel_rfl) (by kernel_rfl) (fun W hS => exec_indexB0 (n := n) (c := n) 24 25 (by kernel_rfl) (by kernel_rfl) (by kernel_rfl) hjn) (fun _ _ d _ _ h => by cases d <;> exact h) BY ?_
      simp only [put_lit, put_non, List.set_cons_zero, List.set_cons_succ]
      refine hk_one (i := 17) (by kernel_rfl) ?_
      refine op_skip none (yd.setCell ⟨w.heap.size, j, none⟩ (.int .u8 (X2 : Int))) (by kernel_rfl) (by kernel_rfl) (by kernel_rfl) (exec_storeB 40 39 (by kernel_rfl) (by kernel_rfl) (by kernel_rfl) hfx hcx) ?_
      refine ⟨BN, ?_⟩
      simp only [put_lit, put_non, List.set_cons_zero, List.set_cons_succ]
      refine hk_done (by kernel_rfl) ?_
      -- END 6
      have HP := Lib.hid hput
      have HBN := Lib.hid BN
      clear hput BN BY hcx hfx ca cb cc x1 x2
      generalize yd.setCell ⟨w.heap.size, j, none⟩ (.int .u8 (X2 : Int)) = w4 at HP HBN ⊢
      go_wp2_with fail
      go_roundw
      case rel => exact ⟨j + 1, by omega, by go_num, HP.out, HBN.out⟩
      case measure => simp [intOf]; omega
    · have HI : ¬ (j : Int) < n := by omega
      have e : j = n := by omega
      rw [e, zxs_all] at hX
      have hpa := HN.out
      have HX := Lib.hid hX
      have HBR := Lib.hid hB
      clear hX hB e
      go_wp2_with fail
      have hX := HX.out
      have hD : Below wr.heap.size wr wr.drew := (Below.refl _ _).drew
      have hl : ((List.range n).map (zx ta tb tc)).length = n := by simp
      have hbx := ((hX.below hD hX.lt).own (base := 0) (Nat.zero_le _) hl (by omega)).byt
      have B0 := Lib.hid HBR.out.drew
      have hba := HA.out.bounds
      have hbb := HBB.out.bounds
      have hbc := HCC.out.bounds
      have hlx : ((List.range n).map (zx ta tb tc)).length ≤ 1000000000 := by omega
      have hla : (ta.take n).length = n := by rw [List.length_take]; omega
      have hlb : (tb.take n).length = n := by rw [List.length_take]; omega
      have hlc : (tc.take n).length = n := by rw [List.length_take]; omega
      have hfin := crc_affine hla hlb hlc hl (leV_zxs ta tb tc n (by omega) (by omega) (by omega))
      have CX := fun w1 (hB : Below wr.drew.heap.size wr.drew w1) => crc_c (hbx.below hB) hlx
      have CA := fun w1 (hB : Below w.heap.size w w1) => crc_c ((HA.out.below hB).cut hpa.1) (by omega)
      have CB := fun w1 (hB : Below w.heap.size w w1) => crc_c ((HBB.out.below hB).cut hpa.2.1) (by omega)
      have CC := fun w1 (hB : Below w.heap.size w w1) => crc_c ((HCC.out.below hB).cut hpa.2.2.1) (by omega)
      have hra := crcN_lt (ta.take n)
      have hrb := crcN_lt (tb.take n)
      have hrc := crcN_lt (tc.take n)
      have hba : n ≤ l0 ∧ l0 ≤ a := ⟨hpa.1, hba.2.1⟩
      have hbb : n ≤ l1 ∧ l1 ≤ b := ⟨hpa.2.1, hbb.2.1⟩
      have hbc : n ≤ l2 ∧ l2 ≤ c := ⟨hpa.2.2.1, hbc.2.1⟩
      generalize crcN ((List.range n).map (zx ta tb tc)) = Rx at CX hfin
      generalize crcN (ta.take n) = Ra at CA hra hfin
      generalize crcN (tb.take n) = Rb at CB hrb hfin
      generalize crcN (tc.take n) = Rc at CC hrc hfin
      have x1 := u32_xor_nat Ra Rb hra hrb
      have x2 := u32_xor_nat _ Rc (Nat.xor_lt_two_pow (n := 32) hra hrb) hrc
      rw [← hfin] at x2
      generalize Ra ^^^ Rb = X1 at x1 x2
      have CX := Lib.hid CX
      have CA := Lib.hid CA
      have CB := Lib.hid CB
      have CC := Lib.hid CC
      clear hfin hra hrb hrc hla hlb hlc hl hlx hbx hX HX hD hpa
      -- REGION 7
      refine hk_begin (S := fun _ => True) 21 (by kernel_rfl) (by kernel_rfl) ?_
      generalize wr.drew = y0 at B0 CX ⊢
      refine hk_take (i := 0) (some 41) (.slice (some ⟨w.heap.size, 0, none⟩) n n) (by kernel_rfl) (by kernel_rfl) (by kernel_rfl) (by kernel_rfl) (by kernel_rfl) (by kernel_rfl) (fun W hS => by kernel_rfl) (fun _ _ d _ _ h => by cases d <;> exact h) trivial ?_
      simp only [put_lit, put_non, List.set_cons_zero, List.set_cons_succ]
      refine hk_take (i := 2) (some 43) (.slice A l0 a) (by kernel_rfl) (by kernel_rfl) (by kernel_rfl) (by kernel_rfl) (by kernel_rfl) (by kernel_rfl) (fun W hS => by kernel_rfl) (fun _ _ d _ _ h => by cases d <;> exact h) trivial ?_
      simp only [put_lit, put_non, List.set_cons_zero, List.set_cons_succ]
      refine hk_take (i := 3) (some 44) (.int .i64 (n : Int)) (by kernel_rfl) (by kernel_rfl) (by kernel_rfl) (by kernel_rfl) (by kernel_rfl) (by kernel_rfl) (fun W hS => by kernel_rfl) (fun _ _ d _ _ h => by cases d <;> exact h) trivial ?_
      simp only [put_lit, put_non, List.set_cons_zero, List.set_cons_succ]
      refine hk_take (i := 4) (some 45) (.slice A n a) (by kernel_rfl) (by kernel_rfl) (by kernel_rfl) (by kernel_rfl) (by kernel_rfl) (by kernel_rfl) (fun W hS => exec_cutB 43 44 (by kernel_rfl) (by kernel_rfl) (by kernel_rfl) hba.1 hba.2) (fun _ _ d _ _ h => by cases d <;> exact h) trivial ?_
      simp only [put_lit, put_non, List.set_cons_zero, List.set_cons_succ]
      refine hk_take (i := 6) (some 47) (.slice B l1 b) (by kernel_rfl) (by kernel_rfl) (by kernel_rfl) (by kernel_rfl) (by kernel_rfl) (by kernel_rfl) (fun W hS => by kernel_rfl) (fun _ _ d _ _ h => by cases d <;> exact h) trivial ?_
      simp only [put_lit, put_non, List.set_cons_zero, List.set_cons_succ]
      refine hk_take (i := 7) (some 48) (.int .i64 (n : Int)) (by kernel_rfl) (by kernel_rfl) (by kernel_rfl) (by kernel_rfl) (by kernel_rfl) (by kernel_rfl) (fun W hS => by kernel_rfl) (fun _ _ d _ _ h => by cases d <;> exact h) trivial ?_
      simp only [put_lit, put_non, List.set_cons_zero, List.set_cons_succ]
      refine hk_take (i := 8) (some 49) (.slice B n b) (by kernel_rfl) (by kernel_rfl) (by kernel_rfl) (by kernel_rfl) (by kernel_rfl) (by kernel_rfl) (fun W hS => exec_cutB 47 48 (by kernel_rfl) (by kernel_rfl) (by kernel_rfl) hbb.1 hbb.2) (fun _ _ d _ _ h => by cases d <;> exact h) trivial ?_
      simp only [put_lit, put_non, List.set_cons_zero, List.set_cons_succ]
      refine hk_take (i := 11) (some 52) (.slice C l2 c) (by kernel_rfl) (by kernel_rfl) (by kernel_rfl) (by kernel_rfl) (by kernel_rfl) (by kernel_rfl) (fun W hS => by kernel_rfl) (fun _ _ d _ _ h => by cases d <;> exact h) trivial ?_
      simp only [put_lit, put_non, List.set_cons_zero, List.set_cons_succ]
      refine hk_take (i := 12) (some 53) (.int .i64 (n : Int)) (by kernel_rfl) (by kernel_rfl) (by kernel_rfl) (by kernel_rfl) (by kernel_rfl) (by kernel_rfl) (fun W hS => by kernel_rfl) (fun _ _ d _ _ h => by cases d <;> exact h) trivial ?_
      simp only [put_lit, put_non, List.set_cons_zero, List.set_cons_succ]
      refine hk_take (i := 13) (some 54) (.slice C n c) (by kernel_rfl) (by kernel_rfl) (by kernel_rfl) (by kernel_rfl) (by kernel_rfl) (by kernel_rfl) (fun W hS => exec_cutB 52 53 (by kernel_rfl) (by kernel_rfl) (by kernel_rfl) hbc.1 hbc.2) (fun _ _ d _ _ h => by cases d <;> exact h) trivial ?_
      simp only [put_lit, put_non, List.set_cons_zero, List.set_cons_succ]
      refine hk_one (i := 1) (by kernel_rfl) ?_
      refine op_call (some 42) 9 #[.slice (some ⟨w.heap.size, 0, none⟩) n n] (by kernel_rfl) (by kernel_rfl) (by kernel_rfl) (fun w => by kernel_rfl) ?_
      refine (CX.out y0 (Below.refl _ _)).mono ?_
      rintro e y1 ⟨rfl, hB⟩
      have B1 := Lib.hid (below_then B0.out hB)
      clear hB
      refine ⟨_, rfl, trivial, ?_⟩
      simp only [put_lit, put_non, List.set_cons_zero, List.set_cons_succ]
      refine hk_one (i := 5) (by kernel_rfl) ?_
      refine op_call (some 46) 9 #[.slice A n a] (by kernel_rfl) (by kernel_rfl) (by kernel_rfl) (fun w => by kernel_rfl) ?_
      refine (CA.out y1 B1.out).mono ?_
      rintro e y2 ⟨rfl, hB⟩
      have B2 := Lib.hid (below_then B1.out hB)
      clear hB
      refine ⟨_, rfl, trivial, ?_⟩
      simp only [put_lit, put_non, List.set_cons_zero, List.set_cons_succ]
      refine hk_one (i := 9) (by kernel_rfl) ?_
      refine op_call (some 50) 9 #[.slice B n b] (by kernel_rfl) (by kernel_rfl) (by kernel_rfl) (fun w => by kernel_rfl) ?_
      refine (CB.out y2 B2.out).mono ?_
      rintro e y3 ⟨rfl, hB⟩
      have B3 := Lib.hid (below_then B2.out hB)
      clear hB
      refine ⟨_, rfl, trivial, ?_⟩
      simp only [put_lit, put_non, List.set_cons_zero, List.set_cons_succ]
      refine hk_take (i := 10) (some 51) (.int .u32 (X1 : Int)) (by kernel_rfl) (by kernel_rfl) (by kernel_rfl) (by kernel_rfl) (by kernel_rfl) (by kernel_rfl) (fun W hS => exec_xorK (T := 23) (T' := 23) 46 50 _ _ _ (by kernel_rfl) (by kernel_rfl) (by kernel_rfl) x1) (fun _ _ d _ _ h => by cases d <;> exact h) trivial ?_
      simp only [put_lit, put_non, List.set_cons_zero, List.set_cons_succ]
      refine hk_one (i := 14) (by kernel_rfl) ?_
      refine op_call (some 55) 9 #[.slice C n c] (by kernel_rfl) (by kernel_rfl) (by kernel_rfl) (fun w => by kernel_rfl) ?_
      refine (CC.out y3 B3.out).mono ?_
      rintro e y4 ⟨rfl, hB⟩
      have B4 := Lib.hid (below_then B3.out hB)
      clear hB
      refine ⟨_, rfl, trivial, ?_⟩
      simp only [put_lit, put_non, List.set_cons_zero, List.set_cons_succ]
      refine hk_take (i := 15) (some 56) (.int .u32 (Rx : Int)) (by kernel_rfl) (by kernel_rfl) (by kernel_rfl) (by kernel_rfl) (by kernel_rfl) (by kernel_rfl) (fun W hS => exec_xorK (T := 23) (T' := 23) 51 55 _ _ _ (by kernel_rfl) (by kernel_rfl) (by kernel_rfl) x2) (fun _ _ d _ _ h => by cases d <;> exact h) trivial ?_
      simp only [put_lit, put_non, List.set_cons_zero, List.set_cons_succ]
      refine hk_take (i := 16) (some 57) (.bool true) (by kernel_rfl) (by kernel_rfl) (by kernel_rfl) (by kernel_rfl) (by kernel_rfl) (by kernel_rfl) (fun W hS => exec_eqInt (T := 23) (T' := 23) (k := .u32) 42 56 (Rx : Int) (by kernel_rfl) (by kernel_rfl) (by kernel_rfl)) (fun _ _ d _ _ h => by cases d <;> exact h) trivial ?_
      simp only [put_lit, put_non, List.set_cons_zero, List.set_cons_succ]
      refine hk_take (i := 17) (some 58) (.bool true) (by kernel_rfl) (by kernel_rfl) (by kernel_rfl) (by kernel_rfl) (by kernel_rfl) (by kernel_rfl) (fun W hS => by kernel_rfl) (fun _ _ d _ _ h => by cases d <;> exact h) trivial ?_
      simp only [put_lit, put_non, List.set_cons_zero, List.set_cons_succ]
      refine hk_one (i := 18) (by kernel_rfl) ?_
      refine op_call (some 59) 15 #[] (by kernel_rfl) (by kernel_rfl) (by kernel_rfl) (fun w => by kernel_rfl) ?_
      refine (known5_c y4).mono ?_
      rintro e y5 ⟨rfl, hB⟩
      have B5 := Lib.hid (below_then B4.out hB)
      clear hB
      refine ⟨_, rfl, trivial, ?_⟩
      simp only [put_lit, put_non, List.set_cons_zero, List.set_cons_succ]
      refine hk_take (i := 19) (some 60) (.bool true) (by kernel_rfl) (by kernel_rfl) (by kernel_rfl) (by kernel_rfl) (by kernel_rfl) (by kernel_rfl) (fun W hS => by kernel_rfl) (fun _ _ d _ _ h => by cases d <;> exact h) trivial ?_
      simp only [put_lit, put_non, List.set_cons_zero, List.set_cons_succ]
      refine hk_take (i := 20) (some 6) (.bool true) (by kernel_rfl) (by kernel_rfl) (by kernel_rfl) (by kernel_rfl) (by kernel_rfl) (by kernel_rfl) (fun W hS => by kernel_rfl) (fun _ _ d _ _ h => by cases d <;> exact h) trivial ?_
      simp only [put_lit, put_non, List.set_cons_zero, List.set_cons_succ]
      refine hk_done (by kernel_rfl) ?_
      -- END 7
      go_wp2_with fail
      go_ret
      exact ⟨rfl, B5.out⟩
end
end Go.Proofs.Ytkkohkilhdebmaa

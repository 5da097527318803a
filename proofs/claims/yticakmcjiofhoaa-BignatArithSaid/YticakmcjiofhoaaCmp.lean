/- The contract of Cmp: the order of the numbers. -/
import Derived.Test.YticakmcjiofhoaaRead
namespace Go.Proofs.Yticakmcjiofhoaa
open Go.RowKit Dig

theorem quiet_here {P : Program} {f : FuncId} {args : Array Value} {w : World} {a n : Nat} {v : Value}
    (h : Calls P f args (w.drewN (a + n)) fun e w' => e = .returned v ∧ w.drewN (a + n) = w') :
    Calls P f args (w.drewN (a + n)) fun e w' => e = .returned v ∧ ∃ m, w' = w.drewN (a + m) :=
  h.mono fun _ _ ⟨x, y⟩ => ⟨x, n, y.symm⟩
theorem quiet_now {P : Program} {f : FuncId} {args : Array Value} {w : World} {n : Nat} {v : Value}
    (h : Calls P f args (w.drewN n) fun e w' => e = .returned v ∧ w.drewN n = w') :
    Calls P f args (w.drewN n) fun e w' => e = .returned v ∧ ∃ m, w' = w.drewN m :=
  h.mono fun _ _ ⟨x, y⟩ => ⟨x, n, y.symm⟩

/-- The cells of a slice of digits. -/
theorem Num.cells {w : World} {A : Option Addr} {n c : Nat} {xs : List Nat} (h : Num w (.slice A n c) xs) (h0 : 0 < n) :
    ∃ b off, A = some ⟨b, off, none⟩ ∧ b < w.heap.size ∧ ∀ j, j < n → w.cell? ⟨b, off + j, none⟩ = some (.int .u32 ((xs.getD j 0 : Nat) : Int)) := by
  obtain ⟨A', c', e, ⟨hc, hn⟩, hm, hs, hr⟩ := h
  simp only [Value.slice.injEq] at e
  obtain ⟨rfl, rfl, rfl⟩ := e
  exact hr h0

set_option maxHeartbeats 400000 in
theorem cmp_lt (w : World) (va vb : Value) (xs ys : List Nat) (ha : Num w va xs) (hb : Num w vb ys) (hl : (dg (val xs)).length < (dg (val ys)).length) :
    Calls Try.prog 26 #[va, vb] w fun e w' => e = .returned (.int .i64 (-1)) ∧ w = w' := by
  have Ta := Lib.hid (trim_n w va xs ha)
  have Tb := Lib.hid (trim_n w vb ys hb)
  have hne : (((dg (val xs)).length : Int) != ((dg (val ys)).length : Int)) = true := by rw [bne_iff_ne]; omega
  go_enter Try.func26, Try.ntmps26
  go_wp2_with fail
  refine (Ta.out).mono ?_
  rintro e w' ⟨A, c, rfl, hA, rfl⟩
  go_wp2_with fail
  refine (Tb.out).mono ?_
  rintro e w' ⟨A', c', rfl, hA', rfl⟩
  go_wp2_with (go_at_call 48; refine (order_true _).mono ?_; rintro e w' ⟨rfl, rfl⟩)
  go_ret
  exact ⟨rfl, rfl⟩

set_option maxHeartbeats 400000 in
theorem cmp_gt (w : World) (va vb : Value) (xs ys : List Nat) (ha : Num w va xs) (hb : Num w vb ys) (hl : (dg (val ys)).length < (dg (val xs)).length) :
    Calls Try.prog 26 #[va, vb] w fun e w' => e = .returned (.int .i64 1) ∧ w = w' := by
  have Ta := Lib.hid (trim_n w va xs ha)
  have Tb := Lib.hid (trim_n w vb ys hb)
  have hne : (((dg (val xs)).length : Int) != ((dg (val ys)).length : Int)) = true := by rw [bne_iff_ne]; omega
  have hnl : decide ((dg (val xs)).length < (dg (val ys)).length) = false := by simp; omega
  go_enter Try.func26, Try.ntmps26
  go_wp2_with fail
  refine (Ta.out).mono ?_
  rintro e w' ⟨A, c, rfl, hA, rfl⟩
  go_wp2_with fail
  refine (Tb.out).mono ?_
  rintro e w' ⟨A', c', rfl, hA', rfl⟩
  go_wp2_with (go_at_call 48; refine (order_false _).mono ?_; rintro e w' ⟨rfl, rfl⟩)
  go_ret
  exact ⟨rfl, rfl⟩

set_option maxHeartbeats 1000000 in
theorem cmp_same (w : World) (va vb : Value) (xs ys : List Nat) (ha : Num w va xs) (hb : Num w vb ys) (hl : (dg (val xs)).length = (dg (val ys)).length) :
    Calls Try.prog 26 #[va, vb] w fun e w' => e = .returned (.int .i64 (cmpI (val xs) (val ys))) ∧ ∃ N, w' = w.drewN N := by
  have Ta := Lib.hid (trim_n w va xs ha)
  have Tb := Lib.hid (trim_n w vb ys hb)
  have hva := val_dg (val xs)
  have hvb := val_dg (val ys)
  have sa := small_dg (val xs)
  have sb := small_dg (val ys)
  generalize dg (val xs) = X at *
  generalize dg (val ys) = Y at *
  obtain ⟨m, hm⟩ : ∃ m, X.length = m := ⟨_, rfl⟩
  rw [hm] at hl Ta
  rw [← hl] at Tb
  rw [← hva, ← hvb]
  have HM := Lib.hid hm
  have HL := Lib.hid hl
  clear hm hl hva hvb
  go_enter Try.func26, Try.ntmps26
  go_wp2_with fail
  refine (Ta.out).mono ?_
  rintro e w' ⟨A, c, rfl, hA, rfl⟩
  go_wp2_with fail
  refine (Tb.out).mono ?_
  rintro e w' ⟨A', c', rfl, hA', rfl⟩
  have hmx := hA.bounds.2.2
  have hmy := hA.bounds.2.1
  have hmc : (m : Int) ≤ 9223372036854775807 := by omega
  go_wp2_with fail
  go_loopw [5] (fun i wr => ∃ k N : Nat, k ≤ m ∧ i = .int .i64 ((k : Int) - 1) ∧ wr = w.drewN N ∧ ∀ j, k ≤ j → j < m → X.getD j 0 = Y.getD j 0) (fun i _ => (intOf i + 1).toNat)
  case atStart => exact ⟨m, 0, Nat.le_refl _, rfl, rfl, fun j h1 h2 => by omega⟩
  case round =>
    obtain ⟨k, N, hk, rfl, rfl, he⟩ := hrel
    rcases Nat.eq_zero_or_pos k with h0 | h0
    · subst h0
      have E : X = Y := ext_getD (by rw [HM.out]; exact HL.out) (fun j hj => he j (by omega) (by rw [HM.out] at hj; exact hj))
      have EE := Lib.hid E
      clear E
      go_wp2_with fail
      go_ret
      exact ⟨ret_eq (show Value.int .i64 0 = _ by rw [EE.out, cmpI_eq]), _, rfl⟩
    · obtain ⟨b, off, rfl, hb1, cellx⟩ := hA.cells (by omega)
      obtain ⟨b', off', rfl, hb2, celly⟩ := hA'.cells (by omega)
      have cx := cellx (k - 1) (by omega)
      have cy := celly (k - 1) (by omega)
      clear cellx celly
      generalize hx : X.getD (k - 1) 0 = x at cx
      generalize hy : Y.getD (k - 1) 0 = y at cy
      have HX := Lib.hid hx
      have HY := Lib.hid hy
      clear hx hy
      have k1 : (0 : Int) < k := by omega
      rcases Nat.lt_trichotomy x y with hxy | hxy | hxy
      · have hne : ((x : Int) != (y : Int)) = true := by rw [bne_iff_ne]; omega
        have E := Lib.hid (cmpI_lt (lt_of_digit X Y sa (k - 1) (by rw [HM.out]; exact HL.out) (by rw [HM.out]; omega) (fun j h1 h2 => he j (by omega) (by rw [HM.out] at h2; exact h2)) (by rw [HX.out, HY.out]; exact hxy)))
        go_wp2_with fail
        go_quiet (fail)
        go_wp2_with fail
        go_quiet ((first | (go_at_call 48; exact quiet_here (order_true _)) | (go_at_call 48; exact quiet_now (order_true _))))
        go_wp2_with fail
        go_ret
        exact ⟨ret_eq (show Value.int .i64 (-1) = _ by rw [E.out]), _, by rw [World.drewN_drewN, World.drewN_drewN]⟩
      · subst hxy
        go_wp2_with fail
        go_quiet (fail)
        go_wp2_with fail
        go_roundw
        case rel =>
          refine ⟨k - 1, _, by omega, by go_num, rfl, fun j h1 h2 => ?_⟩
          by_cases hj : j = k - 1
          · rw [hj, HX.out, HY.out]
          · exact he j (by omega) h2
        case measure => simp [intOf]; omega
      · have hne : ((x : Int) != (y : Int)) = true := by rw [bne_iff_ne]; omega
        have hnl : decide ((x : Int) < (y : Int)) = false := by simp; omega
        have hnl2 : decide (x < y) = false := by simp; omega
        have E := Lib.hid (cmpI_gt (lt_of_digit Y X sb (k - 1) (by rw [HM.out]; exact HL.out.symm) (by rw [← HL.out]; omega) (fun j h1 h2 => (he j (by omega) (by rw [← HL.out] at h2; exact h2)).symm) (by rw [HX.out, HY.out]; exact hxy)))
        go_wp2_with fail
        go_quiet (fail)
        go_wp2_with fail
        go_quiet ((first | (go_at_call 48; exact quiet_here (order_false _)) | (go_at_call 48; exact quiet_now (order_false _))))
        go_wp2_with fail
        go_ret
        exact ⟨ret_eq (show Value.int .i64 1 = _ by rw [E.out]), _, by rw [World.drewN_drewN, World.drewN_drewN]⟩

theorem cmp_c (w : World) (va vb : Value) (xs ys : List Nat) (ha : Num w va xs) (hb : Num w vb ys) :
    Calls Try.prog 26 #[va, vb] w fun e w' => e = .returned (.int .i64 (cmpI (val xs) (val ys))) ∧ ∃ N, w' = w.drewN N := by
  rcases Nat.lt_trichotomy (dg (val xs)).length (dg (val ys)).length with hl | hl | hl
  · rw [cmpI_lt (lt_of_dg_length hl)]
    exact (cmp_lt w va vb xs ys ha hb hl).mono fun e w' ⟨x, y⟩ => ⟨x, 0, y.symm⟩
  · exact cmp_same w va vb xs ys ha hb hl
  · rw [cmpI_gt (lt_of_dg_length hl)]
    exact (cmp_gt w va vb xs ys ha hb hl).mono fun e w' ⟨x, y⟩ => ⟨x, 0, y.symm⟩
end Go.Proofs.Yticakmcjiofhoaa

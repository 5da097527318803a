/- Package value as landed: Compare, CompareTuples. -/
import Derived.Test.YtpbkmkcfhkdjjaaDoorShelf
import Derived.Test.YtpbkmkcfhkdjjaaDoorVvc
namespace Go.Proofs.YtpbkmkcfhkdjjaaDoor
open Go.RowKit Dig
set_option linter.unusedVariables false

theorem compareBytes_eq : ∀ a b : List UInt8, Lib.compareBytes a b = cmpB a b
  | [], [] => rfl
  | [], _ :: _ => rfl
  | _ :: _, [] => rfl
  | x :: a, y :: b => by
    rw [Lib.compareBytes, cmpB_cons, compareBytes_eq a b]
theorem compareInt_eq (x y : Int) : Lib.compareInt x y = cmpI x y := by
  unfold Lib.compareInt cmpI
  rfl
theorem scompare_c (w : World) (s r : List UInt8) : Calls Tryd.prog 36 #[.string ⟨s.toArray⟩, .string ⟨r.toArray⟩] w fun e w' => e = .returned (.int .i64 (cmpB s r)) ∧ w' = w := by
  have := Tryd.strings_Compare ⟨s.toArray⟩ ⟨r.toArray⟩ w
  rw [compareBytes_eq] at this
  exact this
theorem cmpInt_c (w : World) (x y : Int) : Calls Tryd.prog 34 #[.int .i64 x, .int .i64 y] w fun e w' => e = .returned (.int .i64 (cmpI x y)) ∧ w' = w := by
  rw [← compareInt_eq]
  exact Tryd.cmp_Compare_int x y w
theorem isNaN64_c (w : World) (x : Int) : Calls Tryd.prog 46 #[.int .i64 x] w fun e w' => e = .returned (.bool false) ∧ w' = w := by
  go_enter Tryd.func46, Tryd.ntmps46
  go_wp2_with fail
  go_ret
  exact ⟨by simp, rfl⟩
theorem cmpInt64_c (w : World) (x y : Int) : Calls Tryd.prog 35 #[.int .i64 x, .int .i64 y] w fun e w' => e = .returned (.int .i64 (cmpI x y)) ∧ w' = w := by
  have FN := fun w x => isNaN64_c w x
  rcases cmpI_cases x y with ⟨h, e⟩ | ⟨h, e⟩ | ⟨h, e⟩
  · rw [e]
    clear e
    go_enter Tryd.func35, Tryd.ntmps35
    go_wp2_with fail
    refine (FN _ _).mono ?_
    rintro e w1 ⟨rfl, rfl⟩
    go_wp2_with fail
    refine (FN _ _).mono ?_
    rintro e w2 ⟨rfl, rfl⟩
    go_wp2_with fail
    go_ret
    exact ⟨rfl, rfl⟩
  · subst h
    rw [e]
    clear e
    have h : ¬ x < x := Int.lt_irrefl x
    have h2 : ¬ x > x := Int.lt_irrefl x
    go_enter Tryd.func35, Tryd.ntmps35
    go_wp2_with fail
    refine (FN _ _).mono ?_
    rintro e w1 ⟨rfl, rfl⟩
    go_wp2_with fail
    refine (FN _ _).mono ?_
    rintro e w2 ⟨rfl, rfl⟩
    go_wp2_with fail
    go_ret
    exact ⟨rfl, rfl⟩
  · rw [e]
    clear e
    have h2 : ¬ x < y := by omega
    have h3 : x > y := h
    go_enter Tryd.func35, Tryd.ntmps35
    go_wp2_with fail
    refine (FN _ _).mono ?_
    rintro e w1 ⟨rfl, rfl⟩
    go_wp2_with fail
    refine (FN _ _).mono ?_
    rintro e w2 ⟨rfl, rfl⟩
    go_wp2_with fail
    go_ret
    exact ⟨rfl, rfl⟩
theorem compare_c (w : World) (a b : Vl) : Calls Tryd.prog 14 #[vV a, vV b] w (RVal w (.int .i64 (cmpV a b))) := by
  obtain ⟨t, n, s⟩ := a
  obtain ⟨u, m, r⟩ := b
  have FA := fun w => cmpInt_c w t u
  have FB := fun w => cmpInt64_c w n m
  have FC := fun w => scompare_c w s r
  unfold vV
  dsimp only
  by_cases h1 : t = u
  · subst h1
    have z1 : cmpI t t = 0 := by
      rcases cmpI_cases t t with h | h | h <;> omega
    by_cases h2 : n = m
    · subst h2
      have z2 : cmpI n n = 0 := by
        rcases cmpI_cases n n with h | h | h <;> omega
      have hc : cmpV (t, n, s) (t, n, r) = cmpB s r := by
        unfold cmpV
        rw [if_neg (by rw [z1]; simp), if_neg (by rw [z2]; simp)]
      rw [hc]
      clear hc z1 z2
      go_enter Tryd.func14, Tryd.ntmps14
      go_wp2_with fail
      refine (FC _).mono ?_
      rintro e w1 ⟨rfl, rfl⟩
      go_wp2_with fail
      go_ret
      exact ⟨rfl, two_below w _ _⟩
    · have z2 : cmpI n m ≠ 0 := by
        rcases cmpI_cases n m with h | h | h <;> omega
      have hc : cmpV (t, n, s) (t, m, r) = cmpI n m := by
        unfold cmpV
        rw [if_neg (by rw [z1]; simp), if_pos z2]
      rw [hc]
      have q1 : (n == m) = false := beq_eq_false_iff_ne.2 h2
      have q2 : (n != m) = true := by simp [bne, q1]
      clear hc z1 z2
      go_enter Tryd.func14, Tryd.ntmps14
      go_wp2_with fail
      refine (FB _).mono ?_
      rintro e w1 ⟨rfl, rfl⟩
      go_wp2_with fail
      go_ret
      exact ⟨rfl, two_below w _ _⟩
  · have z1 : cmpI t u ≠ 0 := by
      rcases cmpI_cases t u with h | h | h <;> omega
    have hc : cmpV (t, n, s) (u, m, r) = cmpI t u := by
      unfold cmpV
      rw [if_pos z1]
    rw [hc]
    have q1 : (t == u) = false := beq_eq_false_iff_ne.2 h1
    have q2 : (t != u) = true := by simp [bne, q1]
    clear hc z1
    go_enter Tryd.func14, Tryd.ntmps14
    go_wp2_with fail
    refine (FA _).mono ?_
    rintro e w1 ⟨rfl, rfl⟩
    go_wp2_with fail
    go_ret
    exact ⟨rfl, two_below w _ _⟩
end Go.Proofs.YtpbkmkcfhkdjjaaDoor

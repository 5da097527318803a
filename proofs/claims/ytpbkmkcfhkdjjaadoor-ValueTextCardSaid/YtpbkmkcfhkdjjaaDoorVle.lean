/- Typed values: the reference's Compare (stage 8). -/
import Derived.Test.YtpbkmkcfhkdjjaaDoorGnd
import Derived.Test.YtpbkmkcfhkdjjaaDoorVla
namespace Go.Proofs.YtpbkmkcfhkdjjaaDoor
open Go.RowKit Dig
set_option linter.unusedVariables false

/-- A value as the model has it. -/
def vV (v : Vl) : Value := .agg #[.int .i64 v.1, .int .i64 v.2.1, .string ⟨v.2.2.toArray⟩]
theorem less_cmp : ∀ a b : List UInt8, Go.Op.bytesLess a b = decide (cmpB a b = -1)
  | [], [] => rfl
  | _ :: _, [] => rfl
  | [], _ :: _ => rfl
  | x :: a, y :: b => by
    show (decide (x < y) || (x == y && Go.Op.bytesLess a b)) = _
    rw [less_cmp a b, cmpB_cons]
    by_cases h1 : x < y
    · rw [decide_eq_true h1, if_pos h1]
      rfl
    · rw [decide_eq_false h1, if_neg h1]
      by_cases h2 : y < x
      · have e : (x == y) = false := by
          rw [beq_eq_false_iff_ne]
          rintro rfl
          exact lt_irr _ h2
        rw [e, if_pos h2]
        rfl
      · have e : x = y := UInt8.toNat_inj.1 (Nat.le_antisymm (Nat.not_lt.1 h2) (Nat.not_lt.1 h1))
        subst e
        rw [if_neg h2]
        simp
theorem cmpB_cases (a b : List UInt8) : (cmpB a b = -1 ∧ Go.Op.bytesLess a b = true ∧ a ≠ b) ∨ (cmpB a b = 0 ∧ a = b) ∨ (cmpB a b = 1 ∧ Go.Op.bytesLess a b = false ∧ a ≠ b) := by
  have hr : ∀ a b : List UInt8, cmpB a b = -1 ∨ cmpB a b = 0 ∨ cmpB a b = 1 := by
    intro a
    induction a with
    | nil => intro b; cases b <;> simp [cmpB]
    | cons x a ih =>
      intro b
      cases b with
      | nil => simp [cmpB]
      | cons y b =>
        rw [cmpB_cons]
        split
        · exact .inl rfl
        · split
          · exact .inr (.inr rfl)
          · exact ih b
  have hne : cmpB a b ≠ 0 → a ≠ b := fun h e => h (by rw [e]; exact cmpB_self b)
  rcases hr a b with h | h | h
  · exact .inl ⟨h, by rw [less_cmp, h]; rfl, hne (by omega)⟩
  · exact .inr (.inl ⟨h, cmpB_zero h⟩)
  · exact .inr (.inr ⟨h, by rw [less_cmp, h]; rfl, hne (by omega)⟩)
theorem bytes_list (a : List UInt8) : (ByteArray.mk a.toArray).toList = a := by
  simp
theorem run_gtrS (P : Program) (w : World) (T : TypeId) (x y : ByteArray) {b : Bool} (h : (!(Go.Op.bytesLess x.toList y.toList || x.toList == y.toList)) = b) : (binOp .gtr T (.string x) (.string y)).run P w = .ok (.bool b) w := by
  subst h
  rfl
theorem two_below (w : World) (o p : Obj) : Below w.heap.size w ((w.alloc o).alloc p) := ((Below.refl w.heap.size w).alloc (Nat.le_refl _) o).alloc (by rw [World.size_alloc]; omega) p
theorem rcompare_c (w : World) (a b : Vl) : Calls Tryd.prog 15 #[vV a, vV b] w (RVal w (.int .i64 (cmpV a b))) := by
  obtain ⟨t, n, s⟩ := a
  obtain ⟨u, m, r⟩ := b
  unfold vV
  dsimp only
  rcases cmpI_cases t u with ⟨h, e⟩ | ⟨h, e⟩ | ⟨h, e⟩
  · have hc : cmpV (t, n, s) (u, m, r) = -1 := by
      unfold cmpV
      rw [if_pos (by rw [e]; simp), e]
    rw [hc]
    have q1 : (t == u) = false := by rw [beq_eq_false_iff_ne]; omega
    have q2 : (t != u) = true := by simp [bne, q1]
    clear hc
    go_enter Tryd.func15, Tryd.ntmps15
    go_wp2_with fail
    go_ret
    exact ⟨rfl, two_below w _ _⟩
  · subst h
    rcases cmpI_cases n m with ⟨h2, e2⟩ | ⟨h2, e2⟩ | ⟨h2, e2⟩
    · have hc : cmpV (t, n, s) (t, m, r) = -1 := by
        unfold cmpV
        rw [if_neg (by rw [e]; simp), if_pos (by rw [e2]; simp), e2]
      rw [hc]
      have q1 : (n == m) = false := by rw [beq_eq_false_iff_ne]; omega
      have q2 : (n != m) = true := by simp [bne, q1]
      clear hc
      go_enter Tryd.func15, Tryd.ntmps15
      go_wp2_with fail
      go_ret
      exact ⟨rfl, two_below w _ _⟩
    · subst h2
      rcases cmpB_cases s r with ⟨e3, hl, hn⟩ | ⟨e3, rfl⟩ | ⟨e3, hl, hn⟩
      · have hc : cmpV (t, n, s) (t, n, r) = -1 := by
          unfold cmpV
          rw [if_neg (by rw [e]; simp), if_neg (by rw [e2]; simp), e3]
        rw [hc]
        have l1 : Go.Op.bytesLess (ByteArray.mk s.toArray).toList (ByteArray.mk r.toArray).toList = true := by rw [bytes_list, bytes_list]; exact hl
        clear hc
        go_enter Tryd.func15, Tryd.ntmps15
        go_wp2_with fail
        go_ret
        exact ⟨rfl, two_below w _ _⟩
      · have hc : cmpV (t, n, s) (t, n, s) = 0 := by
          unfold cmpV
          rw [if_neg (by rw [e]; simp), if_neg (by rw [e2]; simp), e3]
        rw [hc]
        have hl : Go.Op.bytesLess s s = false := by rw [less_cmp, cmpB_self]; rfl
        have l1 : Go.Op.bytesLess (ByteArray.mk s.toArray).toList (ByteArray.mk s.toArray).toList = false := by rw [bytes_list]; exact hl
        have kg := fun w => run_gtrS Tryd.prog w 9 (ByteArray.mk s.toArray) (ByteArray.mk s.toArray) (b := false) (by rw [l1]; simp)
        clear hc
        go_enter Tryd.func15, Tryd.ntmps15
        go_wp2_with fail
        go_ret
        exact ⟨rfl, two_below w _ _⟩
      · have hc : cmpV (t, n, s) (t, n, r) = 1 := by
          unfold cmpV
          rw [if_neg (by rw [e]; simp), if_neg (by rw [e2]; simp), e3]
        rw [hc]
        have l1 : Go.Op.bytesLess (ByteArray.mk s.toArray).toList (ByteArray.mk r.toArray).toList = false := by rw [bytes_list, bytes_list]; exact hl
        have l2 : ((ByteArray.mk s.toArray).toList == (ByteArray.mk r.toArray).toList) = false := by rw [bytes_list, bytes_list, beq_eq_false_iff_ne]; exact hn
        have kg := fun w => run_gtrS Tryd.prog w 9 (ByteArray.mk s.toArray) (ByteArray.mk r.toArray) (b := true) (by rw [l1, l2]; rfl)
        clear hc
        go_enter Tryd.func15, Tryd.ntmps15
        go_wp2_with fail
        go_ret
        exact ⟨rfl, two_below w _ _⟩
    · have hc : cmpV (t, n, s) (t, m, r) = 1 := by
        unfold cmpV
        rw [if_neg (by rw [e]; simp), if_pos (by rw [e2]; simp), e2]
      rw [hc]
      have q1 : (n == m) = false := by rw [beq_eq_false_iff_ne]; omega
      have q2 : (n != m) = true := by simp [bne, q1]
      clear hc
      go_enter Tryd.func15, Tryd.ntmps15
      go_wp2_with fail
      go_ret
      exact ⟨rfl, two_below w _ _⟩
  · have hc : cmpV (t, n, s) (u, m, r) = 1 := by
      unfold cmpV
      rw [if_pos (by rw [e]; simp), e]
    rw [hc]
    have q1 : (t == u) = false := by rw [beq_eq_false_iff_ne]; omega
    have q2 : (t != u) = true := by simp [bne, q1]
    clear hc
    go_enter Tryd.func15, Tryd.ntmps15
    go_wp2_with fail
    go_ret
    exact ⟨rfl, two_below w _ _⟩
end Go.Proofs.YtpbkmkcfhkdjjaaDoor

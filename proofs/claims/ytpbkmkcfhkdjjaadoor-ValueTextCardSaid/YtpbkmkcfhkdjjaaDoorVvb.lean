/- Package value as landed: two values compared by ==. -/
import Derived.Laws.ResultCell
import Derived.Laws.StructEq
import Derived.Test.YtpbkmkcfhkdjjaaDoorVva
import Derived.Test.YtpbkmkcfhkdjjaaDoorSched
namespace Go.Proofs.YtpbkmkcfhkdjjaaDoor
open Go.RowKit Dig
set_option linter.unusedVariables false

theorem fields_val : (Tryd.prog.fieldsOf 26).toList.map (fun f => (f.name, f.type, f.offset)) = [("Type", 3, 0), ("Int", 2, 1), ("Str", 9, 2)] := by kernel_rfl
theorem under_val : Tryd.prog.underlying 26 = some (.struct (Tryd.prog.fieldsOf 26)) := by kernel_rfl
theorem beq_bytes (s r : List UInt8) : ((ByteArray.mk s.toArray).toList == (ByteArray.mk r.toArray).toList) = decide (s = r) := by
  rw [bytes_list, bytes_list]
  by_cases h : s = r
  · subst h
    simp
  · rw [decide_eq_false h, beq_eq_false_iff_ne]
    exact h
theorem run_eqV (w : World) (a b : Vl) : (Op.equalIn 10000 26 (vV a) (vV b)).run Tryd.prog w = .ok (decide (a = b)) w := by
  obtain ⟨t, n, s⟩ := a
  obtain ⟨u, m, r⟩ := b
  unfold vV
  rw [run_equalIn_agg w 9999 _ _ _ under_val (by kernel_rfl)]
  have hf := fields_val
  generalize (Tryd.prog.fieldsOf 26).toList = L at hf ⊢
  obtain ⟨f0, L, rfl⟩ : ∃ f M, L = f :: M := by
    cases L with
    | nil => cases hf
    | cons f M => exact ⟨f, M, rfl⟩
  obtain ⟨f1, L, rfl⟩ : ∃ f M, L = f :: M := by
    cases L with
    | nil => simp at hf
    | cons f M => exact ⟨f, M, rfl⟩
  obtain ⟨f2, L, rfl⟩ : ∃ f M, L = f :: M := by
    cases L with
    | nil => simp at hf
    | cons f M => exact ⟨f, M, rfl⟩
  obtain rfl : L = [] := by
    cases L with
    | nil => rfl
    | cons f M => simp at hf
  simp only [List.map_cons, List.map_nil, List.cons.injEq, Prod.mk.injEq, and_true] at hf
  obtain ⟨⟨n0, e0, o0⟩, ⟨n1, e1, o1⟩, n2, e2, o2⟩ := hf
  have q0 : f0.name ≠ "_" := by rw [n0]; decide
  have q1 : f1.name ≠ "_" := by rw [n1]; decide
  have q2 : f2.name ≠ "_" := by rw [n2]; decide
  simp only [Op.eqFields, if_pos q0, if_pos q1, if_pos q2, e0, o0, e1, o1, e2, o2]
  have p0 : ∀ (w : World) (x y z : Value), (part 3 #[x, y, z] 0).run Tryd.prog w = .ok x w := fun w x y z => by go_simp
  have p1 : ∀ (w : World) (x y z : Value), (part 2 #[x, y, z] 1).run Tryd.prog w = .ok y w := fun w x y z => by go_simp
  have p2 : ∀ (w : World) (x y z : Value), (part 9 #[x, y, z] 2).run Tryd.prog w = .ok z w := fun w x y z => by go_simp
  simp only [Sem.run_bind, p0, Result.andThen_ok, run_equalIn_int w 9998 3 .i64 .i64 t u Tryd.underlying3]
  by_cases h0 : t = u
  · subst h0
    rw [show (t == t) = true by simp]
    simp only [Bool.not_true, Bool.false_eq_true, if_false, Sem.run_bind, p1, Result.andThen_ok, run_equalIn_int w 9998 2 .i64 .i64 n m Tryd.underlying2]
    by_cases h1 : n = m
    · subst h1
      rw [show (n == n) = true by simp]
      simp only [Bool.not_true, Bool.false_eq_true, if_false, Sem.run_bind, p2, Result.andThen_ok, run_equalIn_string w 9998 9 _ _ Tryd.underlying9, beq_bytes]
      by_cases h2 : s = r
      · subst h2
        simp
      · rw [decide_eq_false h2, decide_eq_false (by rintro h; exact h2 (Prod.mk.inj (Prod.mk.inj h).2).2)]
        rfl
    · rw [show (n == m) = false from beq_eq_false_iff_ne.2 h1, decide_eq_false (by rintro h; exact h1 (Prod.mk.inj (Prod.mk.inj h).2).1)]
      rfl
  · rw [show (t == u) = false from beq_eq_false_iff_ne.2 h0, decide_eq_false (by rintro h; exact h0 (Prod.mk.inj h).1)]
    rfl
section
variable {ev : Operand → Value} {o : Oper} {w : World}
theorem guard_val : Tryd.prog.eqGuardType Tryd.prog.depth 26 = false := by kernel_rfl
/-- Two values compared. -/
theorem exec_eqV (t s : Tmp) {a b : Vl} (ho : o.op = .binOp .eql 26 (.tmp t) (.tmp s) 26) (hx : ev (.tmp t) = vV a) (hy : ev (.tmp s) = vV b) :
    (execOp ev o).run Tryd.prog w = .ok (.value (.bool (decide (a = b)))) w := by
  unfold execOp
  simp only [ho, hx, hy]
  have e1 : (binOp .eql 26 (vV a) (vV b)).run Tryd.prog w = .ok (.bool (decide (a = b))) w := by
    have := run_eql_struct (P := Tryd.prog) w 26 #[.int .i64 a.1, .int .i64 a.2.1, .string ⟨a.2.2.toArray⟩] #[.int .i64 b.1, .int .i64 b.2.1, .string ⟨b.2.2.toArray⟩]
    have h2 := run_eqV w a b
    unfold vV at h2 ⊢
    rw [this, h2]
    rfl
  have e2 : (eqGuard .eql 26 (.tmp t) (.tmp s) (vV a) (vV b)).run Tryd.prog w = .ok () w := run_eqGuard_agg w _ _ _ _ _ _ guard_val
  simp only [Sem.run_bind, e1, e2, Result.andThen_ok, Sem.run_pure]
end
end Go.Proofs.YtpbkmkcfhkdjjaaDoor

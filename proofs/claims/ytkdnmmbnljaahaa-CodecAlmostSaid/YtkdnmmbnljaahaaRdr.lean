/- The contracts of the program's Reader: NewReader, Remaining, Err, fail, Uint, Raw, Bytes. -/
import Derived.Lib.SliceRun
import Derived.Test.YtkdnmmbnljaahaaRdm
import Derived.Test.YtkdnmmbnljaahaaPrs
namespace Go.Proofs.Ytkdnmmbnljaahaa
open Go.RowKit Dig
set_option linter.unusedVariables false

section
variable {w : World} {v : Value} {ts : List UInt8}
set_option maxRecDepth 20000 in
set_option maxHeartbeats 1000000 in
theorem clone_c (h : Byt w v ts) (hz : ts.length ≤ 1000000000) : Calls Try.prog 36 #[v] w (RByt w ts) := by
  obtain ⟨A, c, rfl⟩ := h.form
  have H := Lib.hid h
  have HZ := Lib.hid hz
  cases A with
  | none =>
    have h0 : ts = [] := by
      obtain ⟨A', c', e, ⟨h1, h2⟩, _⟩ := h
      simp only [Value.slice.injEq] at e
      obtain ⟨rfl, _, rfl⟩ := e
      have := h2 rfl
      exact List.eq_nil_of_length_eq_zero (by omega)
    subst h0
    have hE := Go.Lib.run_eql_slice_nil (P := Try.prog) w 23 5 none 0 c 0 0 Try.underlying23
    clear h hz
    go_enter Try.func36, Try.ntmps36
    go_wp2_with fail
    go_ret
    exact ⟨_, rfl, OwB.nil _ _, Below.refl _ _⟩
  | some ad =>
    have hE := Go.Lib.run_eql_slice_nil (P := Try.prog) w 23 5 (some ad) ts.length c 0 0 Try.underlying23
    clear h hz
    go_enter Try.func36, Try.ntmps36
    go_wp2_with (first | ((with_reducible refine wp_noneB rfl rfl ?_); intro w1 hS hB1) | (at_builtin; refine wp_appendB rfl _ _ rfl w.heap.size _ [] rfl hS _ ts rfl (H.out.below hB1) (by have := HZ.out; simp; omega) hB1.size ?_; intro v' w' hv' hg'))
    go_ret
    exact ⟨_, rfl, by simpa using hv', below_ownB hB1 hg' hS (Nat.le_refl _)⟩
set_option maxHeartbeats 1000000 in
theorem newReader_c (h : Byt w v ts) (hz : ts.length ≤ 1000000000) :
    Calls Try.prog 20 #[v] w fun e w' => ∃ g, e = .returned (.pointer (some ⟨g, 0, none⟩)) ∧ w.heap.size ≤ g ∧ Rdr 66 w' g (ts, 0) ∧ Below w.heap.size w w' := by
  have C := Lib.hid (clone_c h hz)
  obtain ⟨A, c, rfl⟩ := h.form
  go_enter Try.func20, Try.ntmps20
  go_wp2_with fail
  refine (C.out).mono ?_
  rintro e w1 ⟨r, rfl, hr, hB⟩
  obtain ⟨A', c', rfl⟩ := hr.byt.form
  go_wp2_with fail
  go_ret
  exact ⟨_, rfl, hB.size, Rdr.new hr.byt, hB.alloc hB.size _⟩
end

section
variable {w : World} {g : Nat} {s : RS}
theorem remaining_c (h : Rdr 66 w g s) : Calls Try.prog 21 #[.pointer (some ⟨g, 0, none⟩)] w fun e w' => e = .returned (.int .i64 s.1.length) ∧ w = w' := by
  obtain ⟨⟨A, n, c, hh, hb⟩, hok⟩ := h
  obtain ⟨hn, _⟩ := hb.bounds
  obtain ⟨c0, c1⟩ := row2_cells hh
  subst hn
  clear hh hb
  go_enter Try.func21, Try.ntmps21
  go_wp2_with fail
  go_ret
  exact ⟨rfl, rfl⟩
theorem err_c (h : Rdr 66 w g s) : Calls Try.prog 22 #[.pointer (some ⟨g, 0, none⟩)] w fun e w' => e = .returned (.int .i64 s.2) ∧ w = w' := by
  obtain ⟨⟨A, n, c, hh, hb⟩, hok⟩ := h
  obtain ⟨c0, c1⟩ := row2_cells hh
  clear hh hb
  go_enter Try.func22, Try.ntmps22
  go_wp2_with fail
  go_ret
  exact ⟨rfl, rfl⟩
/-- What a failure leaves: the first error stays. -/
def failS (e : Int) (s : RS) : RS := ([], if s.2 = 0 then e else s.2)
theorem failS_ok {e : Int} (he : e = 2 ∨ e = 3 ∨ e = 4) (h : okR s) : okR (failS e s) := by
  refine .inr ⟨?_, rfl⟩
  unfold failS
  by_cases h0 : s.2 = 0
  · simp only [h0, if_true]; exact he
  · simp only [h0, if_false]
    rcases h with h | h
    · exact absurd h h0
    · exact h.1
theorem fail_c (h : Rdr 66 w g s) (e : Int) (he : e = 2 ∨ e = 3 ∨ e = 4) : Calls Try.prog 43 #[.pointer (some ⟨g, 0, none⟩), .int .i64 e] w fun x w' => x = .returned (.tuple #[]) ∧ Rdr 66 w' g (failS e s) ∧ w.grownBy w' (some g) := by
  have hok := failS_ok he h.ok
  obtain ⟨⟨A, n, c, hh, hb⟩, _⟩ := h
  obtain ⟨c0, c1⟩ := row2_cells hh
  obtain ⟨f0, f1⟩ := row2_frozen hh
  have HH := Lib.hid hh
  unfold failS at *
  by_cases h0 : s.2 = 0
  · rw [if_pos h0] at *
    have hz : (s.2 == 0) = true := by rw [h0]; rfl
    clear hh hb h0
    go_enter Try.func43, Try.ntmps43
    go_wp2_with fail
    go_end0
    exact ⟨rfl, ⟨⟨none, 0, 0, row2_put0 (row2_put1 HH.out _) _, Byt.nil _⟩, hok⟩, grown_put (grown_put (World.grownBy.refl _ _) 1 _) 0 _⟩
  · rw [if_neg h0] at *
    have hz : (s.2 == 0) = false := by rw [beq_eq_false_iff_ne]; exact h0
    clear hh hb h0
    go_enter Try.func43, Try.ntmps43
    go_wp2_with fail
    go_end0
    exact ⟨rfl, ⟨⟨none, 0, 0, row2_put0 HH.out _, Byt.nil _⟩, hok⟩, grown_put (World.grownBy.refl _ _) 0 _⟩
theorem rs_stop {s : RS} (h : okR s) (h0 : s.2 ≠ 0) : s = ([], s.2) := by
  have := h.stop h0
  obtain ⟨a, b⟩ := s
  simp at this
  rw [this]
theorem rs_zero {s : RS} (h0 : s.2 = 0) : s = (s.1, 0) := by
  obtain ⟨a, b⟩ := s
  simp at h0
  rw [h0]
theorem failS_of {s : RS} {e : Int} (h : s.2 = 0) : failS e s = ([], e) := by unfold failS; rw [if_pos h]
theorem failS_stop {s : RS} {e : Int} (hok : okR s) (h : s.2 ≠ 0) : failS e s = s := by
  unfold failS
  rw [if_neg h]
  exact (rs_stop hok h).symm
set_option maxRecDepth 20000 in
set_option maxHeartbeats 2000000 in
theorem uint_c (h : Rdr 66 w g s) (hz : s.1.length ≤ 1000000000) (max : Nat) (hm : max < 18446744073709551616) :
    Calls Try.prog 24 #[.pointer (some ⟨g, 0, none⟩), .int .u64 (max : Int)] w fun e w' => e = .returned (.int .u64 ((uintS max s).1 : Nat)) ∧ Rdr 66 w' g (uintS max s).2 ∧ w.grownBy w' (some g) := by
  have hok := h.ok
  have FF := Lib.hid (fun e he => fail_c h e he)
  obtain ⟨⟨A, n0, c, hh, hb⟩, _⟩ := h
  obtain ⟨rfl, hnc, hcm⟩ := hb.bounds
  obtain ⟨c0, c1⟩ := row2_cells hh
  obtain ⟨f0, f1⟩ := row2_frozen hh
  have PP := Lib.hid (parse_u w _ s.1 hb hz)
  have HH := Lib.hid hh
  have HB := Lib.hid hb
  have HM := Lib.hid hm
  have HZ := Lib.hid hz
  have HCM := Lib.hid hcm
  clear hh hb hm hcm
  go_enter Try.func24, Try.ntmps24
  go_wp2_with fail
  refine (PP.out).mono ?_
  rintro e w' ⟨n, size, err, rfl, hPU, rfl⟩
  by_cases h0 : s.2 = 0
  · rcases hPU with ⟨rfl, h1, h2, h3⟩ | ⟨rfl, rfl, h1, h2⟩
    · rcases Nat.lt_or_ge max n with h4 | h4
      · have e := uintS_pu_large h1 h4
        rw [← rs_zero h0] at e
        have HE := Lib.hid e
        have F4 := Lib.hid (FF.out 4 (by omega))
        rw [failS_of h0] at F4
        have h4i : (max : Int) < n := by omega
        clear h1 h2 h3 h0 e
        go_wp2_with fail
        refine (F4.out).mono ?_
        rintro x w2 ⟨rfl, hR, hG⟩
        go_wp2_with fail
        go_ret
        rw [HE.out]
        exact ⟨rfl, hR, hG⟩
      · have e := uintS_pu_good h1 h4
        rw [← rs_zero h0] at e
        have HE := Lib.hid e
        have HT := Lib.hid (HB.out.tail h2)
        unfold tailB at HT
        have h4i : ¬ (max : Int) < n := by omega
        have h2i : (size : Int) ≤ s.1.length := by omega
        have H0 := Lib.hid h0
        by_cases hcs : c = size
        · subst hcs
          rw [if_pos rfl, show s.1.length = c by omega, Nat.sub_self] at HT
          clear h1 h2 h3 h0 e
          go_wp2_with fail
          go_ret
          rw [HE.out]
          exact ⟨rfl, Rdr.rest (by have := HH.out; rw [H0.out] at this; exact this) HT.out (.inl rfl), grown_put (World.grownBy.refl _ _) 0 _⟩
        · rw [if_neg hcs] at HT
          clear h1 h2 h3 h0 e
          go_wp2_with fail
          go_ret
          rw [HE.out]
          exact ⟨rfl, Rdr.rest (by have := HH.out; rw [H0.out] at this; exact this) HT.out (.inl rfl), grown_put (World.grownBy.refl _ _) 0 _⟩
    · have e := uintS_pu_bad (max := max) h2 h1
      rw [← rs_zero h0] at e
      have HE := Lib.hid e
      have F4 := Lib.hid (FF.out err (rd_err h2 h1))
      rw [failS_of h0] at F4
      have hez : (err == 0) = false := by rw [beq_eq_false_iff_ne]; exact h1
      have hnz : (err != 0) = true := by rw [bne_iff_ne]; exact h1
      clear h1 h2 h0 e
      go_wp2_with fail
      refine (F4.out).mono ?_
      rintro x w2 ⟨rfl, hR, hG⟩
      go_wp2_with fail
      go_ret
      rw [HE.out]
      exact ⟨rfl, hR, hG⟩
  · have hn := hok.stop h0
    rw [hn] at hPU
    obtain ⟨rfl, rfl, h1, h2⟩ := hPU.nil
    have HE := Lib.hid (uintS_stop (max := max) h0)
    have F4 := Lib.hid (FF.out err (rd_err h2 h1))
    rw [failS_stop hok h0] at F4
    have hez : (err == 0) = false := by rw [beq_eq_false_iff_ne]; exact h1
    have hnz : (err != 0) = true := by rw [bne_iff_ne]; exact h1
    clear h1 h2 h0 hn hPU
    go_wp2_with fail
    refine (F4.out).mono ?_
    rintro x w2 ⟨rfl, hR, hG⟩
    go_wp2_with fail
    go_ret
    rw [HE.out]
    exact ⟨rfl, hR, hG⟩
end
end Go.Proofs.Ytkdnmmbnljaahaa

/- The contract of isDecimal. -/
import Derived.Test.YticakmcjiofhoaaMake
import Derived.Test.YticakmcjiofhoaaDeci
import Derived.Laws.IdiomStrings
namespace Go.Proofs.Yticakmcjiofhoaa
open Go.RowKit Dig
set_option linter.unusedVariables false

/-- The letters of a string. -/
def chars (s : ByteArray) : List UInt8 := s.data.toList
theorem chars_length (s : ByteArray) : (chars s).length = s.size := by simp [chars]

theorem wp_bytes {w : World} {ops : Array Oper} {rest : List Oper} {o : Oper} {a : Act} {Q : Exit → Act → World → Prop} (hgd : o.guard = none) (x : Operand) (hop : o.op = .convert 9 61 x) (s : ByteArray) (hx : a.eval x = .string s)
    (h : ∀ w' c, (∀ j, j < (chars s).length → w'.cell? ⟨w.heap.size, j, none⟩ = some (.int .u8 (((chars s).getD j 0).toNat : Int))) → Below w.heap.size w w' → s.size ≤ c → wpList Try.prog ops Q rest (a.put o.dst (.slice (some ⟨w.heap.size, 0, none⟩) s.size c)) w') :
    wpList Try.prog ops Q (o :: rest) a w := by
  refine wpList_plain hgd fun K hK => ?_
  have hrun := run_bytes_of_string (P := Try.prog) w 9 61 5 s Try.underlying9 Try.underlying61 Try.underlying5
  unfold Oper.wp
  simp only [execOp, hop, hx, hrun, Result.andThen, Sem.run_bind, Sem.run_pure]
  refine hK _ _ (h _ _ ?_ ?_ (grownCap_ge _ _ _ _))
  · intro j hj
    have hc := World.cell?_alloc_mark w.drew (bytesRow s (grownCap w s.size 0 5)) 5 ((bytesRow s (grownCap w s.size 0 5)).size, (bytesRow s (grownCap w s.size 0 5)).size + 1) j
    have hj' : j < s.data.size := by simpa [chars] using hj
    refine hc.trans ?_
    rw [bytesRow_at s _ j hj']
    simp [chars, List.getD_eq_getElem?_getD]
    rw [Array.getElem?_eq_getElem hj']
    rfl
  · exact ((Below.refl _ _).drew).alloc (Nat.le_refl _) _


set_option maxHeartbeats 1000000 in
theorem isDec_no (w : World) (s : ByteArray) (hs : s.size ≤ 4000) (k : Nat) (hk : k < (chars s).length) (hn : isDig ((chars s).getD k 0) = false) :
    Calls Try.prog 56 #[.string s] w fun e w' => e = .returned (.bool false) ∧ Below w.heap.size w w' := by
  have hl := chars_length s
  have HL := Lib.hid hl
  have HN := Lib.hid hn
  go_enter Try.func56, Try.ntmps56
  go_wp2_with (refine wp_bytes rfl (.tmp 5) rfl s rfl ?_; intro w1 cp hC hB1 hcp)
  have hk2 : k < s.size := by omega
  clear hl hn
  go_loop [8] (fun i => ∃ j : Nat, j ≤ k ∧ i = .int .i64 j) (fun i => k + 1 - (intOf i).toNat)
  case atStart => exact ⟨0, Nat.zero_le _, rfl⟩
  case round =>
    obtain ⟨j, hj, rfl⟩ := hrel
    have hcc := hC j (by omega)
    clear hC
    have hjs : (j : Int) < s.size := by omega
    by_cases hd : isDig ((chars s).getD j 0) = true
    · have hjk : j ≠ k := by intro e; subst e; rw [HN.out] at hd; cases hd
      have hd2 : 48 ≤ ((chars s).getD j 0).toNat ∧ ((chars s).getD j 0).toNat ≤ 57 := by simpa [isDig] using hd
      generalize ((chars s).getD j 0).toNat = c at hcc hd2
      obtain ⟨d1, d2⟩ := hd2
      clear hd
      go_wp2_with fail
      go_round
      case rel => exact ⟨j + 1, by omega, by go_num⟩
      case measure => simp [intOf]; omega
    · have hd2 : ((chars s).getD j 0).toNat < 48 ∨ 57 < ((chars s).getD j 0).toNat := by
        simp only [isDig, Bool.and_eq_true, decide_eq_true_eq] at hd
        omega
      generalize ((chars s).getD j 0).toNat = c at hcc hd2
      clear hd
      by_cases h1 : c < 48
      · go_wp2_with fail
        go_ret
        exact ⟨rfl, hB1⟩
      · have h2 : 57 < c := by omega
        go_wp2_with fail
        go_ret
        exact ⟨rfl, hB1⟩

theorem toList_chars (s : ByteArray) : s.toList = chars s := ByteArray.toList_eq s

theorem lead_eq (s : ByteArray) (hp : 0 < s.size) : (s.toList == [48] || !s.toList.isEmpty && (((s[0]'hp).toNat : Int) != 48)) = lead (chars s) := by
  rw [lead, toList_chars]
  congr 2
  have h1 : 0 < s.data.size := hp
  have e : (chars s).headD 0 = s[0]'hp := by
    unfold chars
    rw [List.headD_eq_head?_getD, List.head?_eq_getElem?, List.getElem?_eq_getElem (by simpa using h1)]
    rfl
  rw [e, Bool.eq_iff_iff, bne_iff_ne, bne_iff_ne, Ne, Ne, ← UInt8.toNat_inj]
  have : (48 : UInt8).toNat = 48 := rfl
  omega

set_option maxHeartbeats 1000000 in
theorem isDec_empty (w : World) (s : ByteArray) (h0 : s.size = 0) :
    Calls Try.prog 56 #[.string s] w fun e w' => e = .returned (.bool false) ∧ Below w.heap.size w w' := by
  have hT : s.toList = [] := by rw [toList_chars]; exact List.eq_nil_of_length_eq_zero (by rw [chars_length]; exact h0)
  go_enter Try.func56, Try.ntmps56
  go_wp2_with (refine wp_bytes rfl (.tmp 5) rfl s rfl ?_; intro w1 cp hC hB1 hcp)
  clear hC
  go_loop [8] (fun i => i = .int .i64 0) (fun i => 0)
  case atStart => exact rfl
  case round =>
    subst hrel
    go_wp2_with fail
    go_ret
    exact ⟨rfl, hB1⟩

set_option maxHeartbeats 1000000 in
theorem isDec_all (w : World) (s : ByteArray) (hs : s.size ≤ 4000) (hp : 0 < s.size) (hall : ∀ j, j < (chars s).length → isDig ((chars s).getD j 0) = true) :
    Calls Try.prog 56 #[.string s] w fun e w' => e = .returned (.bool (lead (chars s))) ∧ Below w.heap.size w w' := by
  have hl := chars_length s
  have HL := Lib.hid hl
  have hT : ¬ s.toList = [] := by
    rw [toList_chars]
    intro e
    rw [e] at hl
    simp at hl
    omega
  go_enter Try.func56, Try.ntmps56
  go_wp2_with (refine wp_bytes rfl (.tmp 5) rfl s rfl ?_; intro w1 cp hC hB1 hcp)
  have HA := Lib.hid hall
  clear hl hall
  go_loop [8] (fun i => ∃ j : Nat, j ≤ s.size ∧ i = .int .i64 j) (fun i => s.size - (intOf i).toNat)
  case atStart => exact ⟨0, Nat.zero_le _, rfl⟩
  case round =>
    obtain ⟨j, hj, rfl⟩ := hrel
    by_cases hlt : j < s.size
    · have hcc := hC j (by rw [HL.out]; exact hlt)
      have hd := HA.out j (by rw [HL.out]; exact hlt)
      have hd2 : 48 ≤ ((chars s).getD j 0).toNat ∧ ((chars s).getD j 0).toNat ≤ 57 := by simpa [isDig] using hd
      generalize ((chars s).getD j 0).toNat = c at hcc hd2
      obtain ⟨d1, d2⟩ := hd2
      have hjs : (j : Int) < s.size := by omega
      clear hd hC
      go_wp2_with fail
      go_round
      case rel => exact ⟨j + 1, by omega, by go_num⟩
      case measure => simp [intOf]; omega
    · have : j = s.size := by omega
      subst this
      clear hC
      by_cases h48 : s.toList = [48]
      · go_wp2_with fail
        go_ret
        refine ⟨ret_eq (show Value.bool true = _ from ?_), hB1⟩
        rw [lead, ← toList_chars, h48]; rfl
      · go_wp2_with fail
        go_ret
        exact ⟨ret_eq (congrArg Value.bool (lead_eq s hp)), hB1⟩
end Go.Proofs.Yticakmcjiofhoaa

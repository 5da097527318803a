/- Package value as landed: its small functions, Valid. -/
import Derived.Laws.AppendOwn
import Derived.Test.YtpbkmkcfhkdjjaaDoorVlf
import Derived.Test.YtpbkmkcfhkdjjaaDoorVlg
namespace Go.Proofs.YtpbkmkcfhkdjjaaDoor
open Go.RowKit Dig
set_option linter.unusedVariables false

section
variable {w : World} {ops : Array Oper} {rest : List Oper} {o : Oper} {a : Act} {Q : Exit → Act → World → Prop}
/-- The bytes of a string, in a new row. -/
theorem wp_bytesB (hgd : o.guard = none) (x : Operand) (hop : o.op = .convert 9 33 x) (s : List UInt8) (hx : a.eval x = .string ⟨s.toArray⟩) (hl : s.length ≤ maxLen)
    (h : ∀ w' c, Byt w' (.slice (some ⟨w.heap.size, 0, none⟩) s.length c) s → (∀ j, j < s.length → w'.frozen? ⟨w.heap.size, j, none⟩ = false) → Below w.heap.size w w' → wpList Tryd.prog ops Q rest (a.put o.dst (.slice (some ⟨w.heap.size, 0, none⟩) s.length c)) w') :
    wpList Tryd.prog ops Q (o :: rest) a w := by
  refine wpList_plain hgd fun K hK => ?_
  have hsz : (⟨s.toArray⟩ : ByteArray).size = s.length := rfl
  have hrun := run_bytes_of_string (P := Tryd.prog) w 9 33 5 ⟨s.toArray⟩ Tryd.underlying9 Tryd.underlying33 Tryd.underlying5
  unfold Oper.wp
  simp only [execOp, hop, hx, hrun, Result.andThen, Sem.run_bind, Sem.run_pure, hsz]
  have hcell : ∀ j, j < s.length → (w.drew.alloc (.cells (bytesRow ⟨s.toArray⟩ (grownCap w s.length 0 5)) 5 ((bytesRow ⟨s.toArray⟩ (grownCap w s.length 0 5)).size, (bytesRow ⟨s.toArray⟩ (grownCap w s.length 0 5)).size + 1))).cell? ⟨w.heap.size, j, none⟩ = some (.int .u8 ((s.getD j 0).toNat : Int)) := by
    intro j hj
    have hc := World.cell?_alloc_mark w.drew (bytesRow ⟨s.toArray⟩ (grownCap w s.length 0 5)) 5 ((bytesRow ⟨s.toArray⟩ (grownCap w s.length 0 5)).size, (bytesRow ⟨s.toArray⟩ (grownCap w s.length 0 5)).size + 1) j
    refine hc.trans ?_
    rw [bytesRow_at ⟨s.toArray⟩ _ j (by simpa using hj)]
    simp [List.getD_eq_getElem?_getD, hj]
  have hge := grownCap_ge w s.length 0 5
  have hle := grownCap_le_maxLen w s.length 0 5 hl
  refine hK _ _ (h _ _ ⟨_, _, rfl, ⟨hge, fun e => by cases e⟩, hle, fun hp => ⟨w.heap.size, 0, rfl, ?_, fun j hj => ?_⟩⟩ (fun j hj => ?_) ?_)
  · show w.heap.size < (w.heap.push _).size
    simp
  · rw [Nat.zero_add]
    exact hcell j hj
  · have hb := bytesRow_at ⟨s.toArray⟩ (grownCap w s.length 0 5) j (by simpa using hj)
    have hlt := (Array.getElem?_eq_some_iff.1 hb).1
    have hh : (w.drew.alloc (.cells (bytesRow ⟨s.toArray⟩ (grownCap w s.length 0 5)) 5 ((bytesRow ⟨s.toArray⟩ (grownCap w s.length 0 5)).size, (bytesRow ⟨s.toArray⟩ (grownCap w s.length 0 5)).size + 1))).heap[w.heap.size]? = some (.cells (bytesRow ⟨s.toArray⟩ (grownCap w s.length 0 5)) 5 ((bytesRow ⟨s.toArray⟩ (grownCap w s.length 0 5)).size, (bytesRow ⟨s.toArray⟩ (grownCap w s.length 0 5)).size + 1)) := heap_alloc_new w.drew _
    unfold World.frozen?
    rw [hh]
    simp only
    rw [decide_eq_false (by omega), Bool.false_and]
  · exact ((Below.refl _ _).drew).alloc (Nat.le_refl _) _
end
theorem results_one {fn : Func} {p : Tmp} {ty : TypeId} (h : fn.results = #[.cell p ty]) (tmps : Array Value) (P : Program) (w : World) :
    (results fn tmps).run P w = ((asAddr (tmps.getD p undef)).run P w).andThen fun a w₁ => (loadVar ty a).run P w₁ := by
  simp only [results, h]
  simp [Sem.run_bind, Result.andThen]
theorem newInt_c (w : World) (n : Int) : Calls Tryd.prog 17 #[.int .i64 n] w (RVal w (vV (1, n, []))) := by
  go_enter Tryd.func17, Tryd.ntmps17
  go_wp2_with fail
  refine bodyPost_ret (v := .agg #[.int .i64 1, .int .i64 n, .string ⟨#[]⟩]) (by rw [results_one rfl]; go_simp) rfl ?_
  exact ⟨rfl, one_below w _⟩
theorem newString_c (w : World) (s : List UInt8) : Calls Tryd.prog 19 #[.string ⟨s.toArray⟩] w (RVal w (vV (2, 0, s))) := by
  go_enter Tryd.func19, Tryd.ntmps19
  go_wp2_with fail
  refine bodyPost_ret (v := .agg #[.int .i64 2, .int .i64 0, .string ⟨s.toArray⟩]) (by rw [results_one rfl]; go_simp) rfl ?_
  exact ⟨rfl, one_below w _⟩
theorem refInt_c (w : World) (n : Int) : Calls Tryd.prog 18 #[.int .i64 n] w (RVal w (vV (1, n, []))) := by
  go_enter Tryd.func18, Tryd.ntmps18
  go_wp2_with fail
  refine bodyPost_ret (v := .agg #[.int .i64 1, .int .i64 n, .string ⟨#[]⟩]) (by rw [results_one rfl]; go_simp) rfl ?_
  exact ⟨rfl, one_below w _⟩
theorem refStr_c (w : World) (s : List UInt8) : Calls Tryd.prog 20 #[.string ⟨s.toArray⟩] w (RVal w (vV (2, 0, s))) := by
  go_enter Tryd.func20, Tryd.ntmps20
  go_wp2_with fail
  refine bodyPost_ret (v := .agg #[.int .i64 2, .int .i64 0, .string ⟨s.toArray⟩]) (by rw [results_one rfl]; go_simp) rfl ?_
  exact ⟨rfl, one_below w _⟩
set_option maxHeartbeats 1000000 in
theorem validText_c (w : World) (s : List UInt8) (hl : s.length ≤ 1000000) : Calls Tryd.prog 33 #[.string ⟨s.toArray⟩] w (RVal w (.bool (s.all okb && decide (s.length ≤ 64)))) := by
  have hli : (s.length : Int) ≤ 1000000 := by omega
  have HL := Lib.hid hl
  obtain ⟨L, eL⟩ : ∃ q, s.length = q := ⟨_, rfl⟩
  have EL := Lib.hid eL
  have hsz : (⟨s.toArray⟩ : ByteArray).size = L := by rw [← eL]; rfl
  rw [eL]
  generalize hR : (s.all okb && decide (L ≤ 64)) = R
  have HR := Lib.hid hR
  clear hR
  by_cases h64 : L ≤ 64
  · have h64i : ¬ (L : Int) > 64 := by omega
    clear hl hli eL
    go_enter Tryd.func33, Tryd.ntmps33
    go_wp2_with (refine wp_bytesB rfl (.tmp 8) rfl s rfl (by have := HL.out; unfold maxLen; omega) ?_; rw [EL.out]; intro w1 c hb hz hB)
    have HB := Lib.hid hb
    have BB := Lib.hid hB
    clear hb hz hB
    go_loopw [11] (fun iv wr => ∃ j : Nat, j ≤ L ∧ iv = .int .i64 (j : Int) ∧ wr = w1 ∧ ∀ c ∈ s.take j, okb c = true) (fun iv _ => L - (intOf iv).toNat)
    case atStart => exact ⟨0, Nat.zero_le _, rfl, rfl, fun c hc => (List.not_mem_nil hc).elim⟩
    case round =>
      obtain ⟨j, hj, rfl, rfl, ho⟩ := hrel
      have HO := Lib.hid ho
      clear ho
      by_cases hjn : j < L
      · have HI : (j : Int) < (L : Int) := by omega
        obtain ⟨c1, hc⟩ : ∃ c, s[j]? = some c := ⟨s[j]'(by rw [EL.out]; exact hjn), List.getElem?_eq_getElem _⟩
        have HC := Lib.hid hc
        have hcell : wr.cell? ⟨w.heap.size, j, none⟩ = some (.int .u8 (c1.toNat : Int)) := by
          have hb := HB.out
          rw [← EL.out] at hb
          obtain ⟨b, off, e, _, hx⟩ := hb.cells (by rw [EL.out]; omega)
          obtain ⟨rfl, rfl⟩ : w.heap.size = b ∧ 0 = off := by
            injection e with e
            injection e with e1 e2
            exact ⟨e1, e2⟩
          have := hx j (by rw [EL.out]; exact hjn)
          rw [Nat.zero_add] at this
          rw [this, List.getD_eq_getElem?_getD, HC.out]
          rfl
        have bad : okb c1 = false → R = false := fun h => by
          have hm : c1 ∈ s := List.mem_of_getElem? HC.out
          have ha : s.all okb = false := by
            rw [List.all_eq_false]
            exact ⟨c1, hm, by rw [h]; simp⟩
          rw [← HR.out, ha]
          rfl
        by_cases l1 : c1.toNat < 32
        · have V := Lib.hid (bad (by unfold okb; rw [decide_eq_false (by omega)]; rfl))
          have l1i : (c1.toNat : Int) < 32 := by omega
          clear bad l1
          go_wp2_with fail
          go_ret
          exact ⟨by rw [V.out]; rfl, BB.out⟩
        · by_cases l2 : 126 < c1.toNat
          · have V := Lib.hid (bad (by unfold okb; rw [decide_eq_false (show ¬ c1.toNat ≤ 126 by omega), Bool.and_false]))
            have l1i : ¬ (c1.toNat : Int) < 32 := by omega
            have l2i : (c1.toNat : Int) > 126 := by omega
            clear bad l1 l2
            go_wp2_with fail
            go_ret
            exact ⟨by rw [V.out]; rfl, BB.out⟩
          · have l1i : ¬ (c1.toNat : Int) < 32 := by omega
            have l2i : ¬ (c1.toNat : Int) > 126 := by omega
            have OK := Lib.hid (show okb c1 = true by unfold okb; rw [decide_eq_true (by omega), decide_eq_true (by omega)]; rfl)
            clear bad l1 l2
            go_wp2_with fail
            go_roundw
            case rel => exact ⟨j + 1, by omega, by go_num, trivial, fun x hx => by
              rw [List.take_add_one, HC.out] at hx
              rcases List.mem_append.1 hx with h | h
              · exact HO.out x h
              · rw [show x = c1 by simpa using h]; exact OK.out⟩
            case measure => simp [intOf]; omega
      · have HI : ¬ (j : Int) < (L : Int) := by omega
        have ha : s.all okb = true := by
          rw [List.all_eq_true]
          intro x hx
          refine HO.out x ?_
          rw [List.take_of_length_le (by rw [EL.out]; omega)]
          exact hx
        have HA := Lib.hid (show R = true by rw [← HR.out, ha, decide_eq_true h64]; rfl)
        clear ha
        go_wp2_with fail
        go_ret
        exact ⟨by rw [HA.out]; rfl, BB.out⟩
  · have h64i : (L : Int) > 64 := by omega
    have D : R = false := by rw [← HR.out, decide_eq_false h64, Bool.and_false]
    rw [D]
    clear hl hli eL D
    go_enter Tryd.func33, Tryd.ntmps33
    go_wp2_with fail
    go_ret
    exact ⟨rfl, Below.refl _ _⟩
end Go.Proofs.YtpbkmkcfhkdjjaaDoor

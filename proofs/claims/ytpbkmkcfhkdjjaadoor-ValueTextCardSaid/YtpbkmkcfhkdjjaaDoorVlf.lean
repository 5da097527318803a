/- Typed values: the reference's Valid (stage 8). -/
import Derived.Test.YtpbkmkcfhkdjjaaDoorVle
namespace Go.Proofs.YtpbkmkcfhkdjjaaDoor
open Go.RowKit Dig
set_option linter.unusedVariables false

def okb (c : UInt8) : Bool := decide (32 ≤ c.toNat) && decide (c.toNat ≤ 126)
/-- Whether a value is valid. -/
def vldB (v : Vl) : Bool := if v.1 = 1 then v.2.2.isEmpty else if v.1 = 2 then v.2.2.all okb && (decide (v.2.1 = 0) && decide (v.2.2.length ≤ 64)) else false
theorem vldB_iff (v : Vl) : vldB v = true ↔ validV v := by
  unfold vldB validV okC okb
  split
  · rename_i h
    rw [List.isEmpty_iff]
    constructor
    · intro h2
      exact .inl ⟨h, h2⟩
    · rintro (h2 | h2)
      · exact h2.2
      · omega
  · split
    · rename_i h1 h
      simp only [Bool.and_eq_true, List.all_eq_true, decide_eq_true_eq]
      constructor
      · rintro ⟨h2, h3, h4⟩
        exact .inr ⟨h, h3, h4, h2⟩
      · rintro (h2 | h2)
        · omega
        · exact ⟨h2.2.2.2, h2.2.1, h2.2.2.1⟩
    · rename_i h1 h2
      constructor
      · intro h
        cases h
      · rintro (h | h)
        · exact absurd h.1 h1
        · exact absurd h.1 h2
theorem one_below (w : World) (o : Obj) : Below w.heap.size w (w.alloc o) := (Below.refl w.heap.size w).alloc (Nat.le_refl _) o
set_option maxHeartbeats 1000000 in
theorem rvalid_c (w : World) (v : Vl) (hl : v.2.2.length ≤ 1000000) : Calls Tryd.prog 12 #[vV v] w (RVal w (.bool (vldB v))) := by
  obtain ⟨t, n, s⟩ := v
  unfold vV
  dsimp only at hl ⊢
  by_cases h1 : t = 1
  · subst h1
    have e : vldB (1, n, s) = s.isEmpty := rfl
    rw [e]
    cases s with
    | nil =>
      go_enter Tryd.func12, Tryd.ntmps12
      go_wp2_with fail
      go_ret
      exact ⟨rfl, one_below w _⟩
    | cons c s =>
      have q1 : ((ByteArray.mk (c :: s).toArray).toList == (ByteArray.mk #[]).toList) = false := by rw [bytes_list, show (ByteArray.mk #[]).toList = [] from bytes_list []]; rfl
      clear e hl
      go_enter Tryd.func12, Tryd.ntmps12
      go_wp2_with fail
      go_ret
      exact ⟨rfl, one_below w _⟩
  · by_cases h2 : t = 2
    · subst h2
      have HL := Lib.hid hl
      have hli : (s.length : Int) ≤ 1000000 := by omega
      obtain ⟨L, eL⟩ : ∃ q, s.length = q := ⟨_, rfl⟩
      have EL := Lib.hid eL
      rw [eL] at hli
      clear hl h1 eL
      go_enter Tryd.func12, Tryd.ntmps12
      go_wp2_with fail
      obtain ⟨w1, e1⟩ : ∃ W, W = w.alloc (.cells #[.int .i64 2, .int .i64 n, .string ⟨s.toArray⟩] 26) := ⟨_, rfl⟩
      have c0 : w1.cell? ⟨w.heap.size, 1, none⟩ = some (.int .i64 n) := by rw [e1]; exact cell_of_row _ _ _ _ _ (0, 0) (heap_alloc_new w _)
      have c2 : w1.cell? ⟨w.heap.size, 2, none⟩ = some (.string ⟨s.toArray⟩) := by rw [e1]; exact cell_of_row _ _ _ _ _ (0, 0) (heap_alloc_new w _)
      have B1 := Lib.hid (show Below w.heap.size w w1 by rw [e1]; exact one_below w _)
      have C0 := Lib.hid c0
      have C2 := Lib.hid c2
      rw [← e1]
      clear e1 c0 c2
      go_loopw [3] (fun iv wr => ∃ j : Nat, j ≤ L ∧ iv = .int .i64 (j : Int) ∧ wr = w1 ∧ ∀ c ∈ s.take j, okb c = true) (fun iv _ => L - (intOf iv).toNat)
      case atStart => exact ⟨0, Nat.zero_le _, rfl, rfl, fun c hc => (List.not_mem_nil hc).elim⟩
      case round =>
        obtain ⟨j, hj, rfl, rfl, ho⟩ := hrel
        have HO := Lib.hid ho
        have c0 := C0.out
        have c2 := C2.out
        have hsz : (⟨s.toArray⟩ : ByteArray).size = L := by rw [← EL.out]; rfl
        clear ho
        by_cases hjn : j < L
        · have HI : (j : Int) < (L : Int) := by omega
          obtain ⟨c, hc⟩ : ∃ c, s[j]? = some c := ⟨s[j]'(by rw [EL.out]; exact hjn), List.getElem?_eq_getElem _⟩
          have HC := Lib.hid hc
          have kg : ∀ h : j < (⟨s.toArray⟩ : ByteArray).size, (⟨s.toArray⟩ : ByteArray)[j]'h = c := fun h => by
            obtain ⟨hl, he⟩ := List.getElem?_eq_some_iff.1 HC.out
            exact (List.getElem_toArray (xs := s) (i := j) (h := by simpa using hl)).trans he
          have bad : okb c = false → vldB (2, n, s) = false := fun h => by
            have hm : c ∈ s := List.mem_of_getElem? HC.out
            have ha : s.all okb = false := by
              rw [List.all_eq_false]
              exact ⟨c, hm, by rw [h]; simp⟩
            show (s.all okb && _) = false
            rw [ha]
            rfl
          by_cases l1 : c.toNat < 32
          · have V := Lib.hid (bad (by unfold okb; rw [decide_eq_false (by omega)]; rfl))
            have l1i : (c.toNat : Int) < 32 := by omega
            clear bad l1
            go_wp2_with fail
            go_ret
            exact ⟨by rw [V.out]; rfl, B1.out⟩
          · by_cases l2 : 126 < c.toNat
            · have V := Lib.hid (bad (by unfold okb; rw [decide_eq_false (show ¬ c.toNat ≤ 126 by omega), Bool.and_false]))
              have l1i : ¬ (c.toNat : Int) < 32 := by omega
              have l2i : (c.toNat : Int) > 126 := by omega
              clear bad l1 l2
              go_wp2_with fail
              go_ret
              exact ⟨by rw [V.out]; rfl, B1.out⟩
            · have l1i : ¬ (c.toNat : Int) < 32 := by omega
              have l2i : ¬ (c.toNat : Int) > 126 := by omega
              have OK := Lib.hid (show okb c = true by unfold okb; rw [decide_eq_true (by omega), decide_eq_true (by omega)]; rfl)
              clear bad l1 l2
              go_wp2_with fail
              go_roundw
              case rel => exact ⟨j + 1, by omega, by go_num, trivial, fun x hx => by
                rw [List.take_add_one, HC.out] at hx
                rcases List.mem_append.1 hx with h | h
                · exact HO.out x h
                · rw [show x = c by simpa using h]; exact OK.out⟩
              case measure => simp [intOf]; omega
        · have HI : ¬ (j : Int) < (L : Int) := by omega
          have ha : s.all okb = true := by
            rw [List.all_eq_true]
            intro x hx
            refine HO.out x ?_
            rw [List.take_of_length_le (by rw [EL.out]; omega)]
            exact hx
          have hv : vldB (2, n, s) = (decide (n = 0) && decide (L ≤ 64)) := by
            rw [← EL.out]
            show (s.all okb && _) = _
            rw [ha, Bool.true_and]
          have HV := Lib.hid hv
          clear hv ha
          by_cases hn : n = 0
          · subst hn
            by_cases h64 : L ≤ 64
            · have h64i : (L : Int) ≤ 64 := by omega
              clear h64
              go_wp2_with fail
              go_ret
              have hz : (decide True && decide (L ≤ 64)) = true := by rw [decide_eq_true (show L ≤ 64 by omega)]; rfl
              exact ⟨by rw [HV.out, hz]; rfl, B1.out⟩
            · have h64i : ¬ (L : Int) ≤ 64 := by omega
              clear h64
              go_wp2_with fail
              go_ret
              exact ⟨by rw [HV.out, decide_eq_false (show ¬ L ≤ 64 by omega), Bool.and_false]; rfl, B1.out⟩
          · have hnb : (n == 0) = false := by rw [beq_eq_false_iff_ne]; exact hn
            go_wp2_with fail
            go_ret
            exact ⟨by rw [HV.out, decide_eq_false hn]; rfl, B1.out⟩
    · have e : vldB (t, n, s) = false := by
        unfold vldB
        rw [if_neg h1, if_neg h2]
      rw [e]
      have q1 : (t == 1) = false := by rw [beq_eq_false_iff_ne]; exact h1
      have q2 : (t == 2) = false := by rw [beq_eq_false_iff_ne]; exact h2
      clear e hl
      go_enter Tryd.func12, Tryd.ntmps12
      go_wp2_with fail
      go_ret
      exact ⟨rfl, one_below w _⟩
end Go.Proofs.YtpbkmkcfhkdjjaaDoor

/- The reference's disk: NewDisk. -/
import Derived.Test.YthknlimhenbhfaaDkw
namespace Go.Proofs.Ythknlimhenbhfaa
open Go.RowKit Dig
set_option linter.unusedVariables false
theorem zero_secV : (Try.prog.info? 72).map (fun i => (i.zero, i.size, i.bytes)) = some (some (.agg (Y Z64).toArray), 64, 64) := by kernel_rfl
theorem Y_Z64 : Y Z64 = List.replicate 64 (.int .u8 0) := by
  unfold Y Z64
  rw [List.map_replicate]
  rfl
theorem secC_empty (n : Nat) : secC (List.replicate n Z64) = List.replicate (n * 64) (.int .u8 0) := by
  unfold secC
  rw [List.map_replicate, Y_Z64, List.flatten_replicate_replicate]
theorem made_secC (n : Nat) : (madeCells (Value.agg (Y Z64).toArray).cells (n * 64)).toList = secC (List.replicate n Z64) := by
  rw [secC_empty]
  have hc : (Value.agg (Y Z64).toArray).cells = (List.replicate 64 (Value.int .u8 0)).toArray := by
    show (Y Z64).toArray = _
    rw [Y_Z64]
  rw [hc]
  generalize hA : (List.replicate 64 (Value.int .u8 0)).toArray = A
  have hs : A.size = 64 := by rw [← hA, List.size_toArray, List.length_replicate]
  have hg : ∀ i, i < 64 → A[i]! = .int .u8 0 := fun i hi => by
    rw [getElem!_pos A i (by omega)]
    subst hA
    rw [List.getElem_toArray, List.getElem_replicate]
  refine List.ext_getElem (by simp [madeCells]) fun i h1 h2 => ?_
  rw [List.getElem_replicate]
  simp only [madeCells, Array.toList_map, Array.toList_range, List.getElem_map, List.getElem_range]
  rw [hs]
  exact hg _ (Nat.mod_lt _ (by omega))
set_option maxRecDepth 20000 in
set_option maxHeartbeats 4000000 in
theorem rnew_c (w : World) (n : Nat) (hn : n ≤ 10000) : Calls Try.prog 11 #[.int .i64 (n : Int)] w fun e w' => ∃ g, e = .returned (.pointer (some ⟨g, 0, none⟩)) ∧ w.heap.size ≤ g ∧ DskR w' g (newS n) ∧ Below w.heap.size w w' ∧ ∀ b, foot w' g b → w.heap.size ≤ b := by
  have hI := zero_secV
  cases hq : Try.prog.info? 72 with
  | none => simp [hq] at hI
  | some i0 =>
    simp only [hq, Option.map_some, Option.some.injEq, Prod.mk.injEq] at hI
    obtain ⟨hz0, hz1, hz2⟩ := hI
    have HQ := Lib.hid hq
    have H0 := Lib.hid hz0
    have H1 := Lib.hid hz1
    have H2 := Lib.hid hz2
    have HN := Lib.hid hn
    clear hq hz0 hz1 hz2 hn
    go_enter Try.func11, Try.ntmps11
    go_wp2_with (at_make; refine wpList_make_full w rfl _ _ 61 rfl w.heap.size 72 i0 (.agg (Y Z64).toArray) 64 Try.underlying61 HQ.out H0.out H1.out .i64 .i64 (n : Int) (n : Int) n rfl rfl rfl rfl (by rw [H2.out]; have := HN.out; omega) (by have := HN.out; unfold maxLen; omega) (Nat.le_refl _) ?_; intro w1 hO hg; rw [made_secC] at hO; have HO := Lib.hid hO; have HG := Lib.hid hg; clear hO hg)
    go_ret
    have hB : Below w.heap.size w w1 := ⟨HG.out.os, HG.out.tape, HG.out.output, HG.out.size, fun k hk => HG.out.block k hk (by simp)⟩
    have hBa : Below w1.heap.size w1 (w1.alloc (.cells #[.slice (some ⟨w.heap.size, 0, none⟩) n n, .slice none 0 0, .bool false, .bool false, .int .i64 0] 64)) := (Below.refl _ _).alloc (Nat.le_refl _) _
    have hlt := (HO.out.lt w.heap.size rfl).2
    have hcl := (own_cel HO.out).below hBa
    refine ⟨_, rfl, hB.size, ⟨⟨fun x hx => ?_, fun p hp => (List.not_mem_nil hp).elim, Nat.zero_le _⟩, .slice (some ⟨w.heap.size, 0, none⟩) n n, .slice none 0 0, ?_, ?_, ?_, ?_, ?_, fun b e => ?_⟩, below_then hB hBa, fun b hb => ?_⟩
    · rw [List.eq_of_mem_replicate hx]
      exact List.length_replicate
    · unfold Dkc
      rw [heap_alloc_new]
      rfl
    · show Cel _ _ 64 (List.replicate n Z64).length (secC (List.replicate n Z64))
      rw [List.length_replicate]
      exact hcl
    · exact Cel.nil _ 65
    · intro e
      simp only [Value.ownBlock, Option.some.injEq] at e
      omega
    · intro e
      simp [Value.ownBlock] at e
    · rcases e with e | e
      · simp only [Value.ownBlock, Option.some.injEq] at e
        exact Nat.lt_of_lt_of_le (by omega) hBa.size
      · simp [Value.ownBlock] at e
    · have hd : Dkc (w1.alloc (.cells #[.slice (some ⟨w.heap.size, 0, none⟩) n n, .slice none 0 0, .bool false, .bool false, .int .i64 0] 64)) 64 w1.heap.size (.slice (some ⟨w.heap.size, 0, none⟩) n n) (.slice none 0 0) false false 0 := by
        unfold Dkc
        rw [heap_alloc_new]
      have hs := hB.size
      rcases (foot_of hd).1 hb with e | e | e
      · omega
      · simp only [Value.ownBlock, Option.some.injEq] at e
        omega
      · simp [Value.ownBlock] at e
end Go.Proofs.Ythknlimhenbhfaa

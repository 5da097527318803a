/- The contracts of FromUint64 and Normalize: they make a new number. -/
import Derived.Test.YticakmcjiofhoaaLaw
namespace Go.Proofs.Yticakmcjiofhoaa
open Go.RowKit Dig

theorem Own.fresh (w : World) (a b : Nat) (x y : Int) (ha : a < 4294967296) (hb : b < 4294967296) (hx : x = (a : Int)) (hy : y = (b : Int)) :
    Own w.heap.size (w.alloc (.cells #[.int .u32 x, .int .u32 y] 50)) (.slice (some ⟨w.heap.size, 0, none⟩) 2 2) [a, b] := by
  subst hx
  subst hy
  refine ⟨fun d hd => ?_, .inr ⟨w.heap.size, [], rfl, Nat.le_refl _, by unfold maxLen; simp, ?_⟩⟩
  · rcases List.mem_cons.1 hd with e | e
    · omega
    · simp at e; omega
  · unfold Seg
    rw [heap_alloc_new]
    simp [U]

set_option maxHeartbeats 400000 in
theorem from_c (w : World) (n : Nat) (hn : n < 18446744073709551616) :
    Calls Try.prog 20 #[.int .u64 (n : Int)] w (RNat w n) := by
  have H := Own.fresh w (n % 4294967296) (n / 4294967296) ((n : Int) % 4294967296) ((n : Int) / 4294967296) (Nat.mod_lt _ (by omega)) (by omega) (by omega) (by omega)
  have hv : val [n % 4294967296, n / 4294967296] = n := by simp [val]; omega
  have ht := H.trimmed
  rw [hv] at ht
  have HT := Lib.hid ht
  have TC := Lib.hid (trim_c _ _ _ _ _ H.num)
  have HV := Lib.hid hv
  clear H ht hv
  go_enter Try.func20, Try.ntmps20
  go_wp2_with fail
  refine (TC.out).mono ?_
  rintro e w' ⟨rfl, rfl⟩
  go_wp2_with fail
  go_ret
  refine ⟨_, rfl, ?_, ?_⟩
  · show Own _ _ (trimV _ _ (dg (val [n % 4294967296, n / 4294967296])).length) _
    rw [HV.out]
    exact HT.out
  · exact (Below.refl _ _).alloc (Nat.le_refl _) _

set_option maxHeartbeats 400000 in
theorem normalize_c (w : World) (v : Value) (xs : List Nat) (h : Num w v xs) (hz : xs.length ≤ 8796093022208) :
    Calls Try.prog 22 #[v] w (RNat w (val xs)) := by
  have T := Lib.hid (trim_n w v xs h)
  have hl := dg_length_val xs h.small
  go_enter Try.func22, Try.ntmps22
  go_wp2_with fail
  refine (T.out).mono ?_
  rintro e w' ⟨A, c, rfl, hA, rfl⟩
  have hd : (dg (val xs)).length ≤ 8796093022208 := by omega
  go_wp2_with (at_builtin; refine wp_append rfl _ _ rfl w.heap.size (.slice none 0 0) [] rfl (Own.nil _ _) _ (dg (val xs)) rfl hA (by simp; omega) (Nat.le_refl _) ?_; intro v' w' hv' hg' _)
  go_ret
  exact ⟨_, rfl, by simpa using hv', (Below.refl _ _).grown hg' (Nat.le_refl _) (fun k e => by cases e)⟩
end Go.Proofs.Yticakmcjiofhoaa

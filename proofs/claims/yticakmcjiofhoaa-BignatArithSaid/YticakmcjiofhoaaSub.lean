/- The contract of Sub. -/
import Derived.Test.YticakmcjiofhoaaAdd
namespace Go.Proofs.Yticakmcjiofhoaa
open Go.RowKit Dig

set_option maxHeartbeats 400000 in
theorem subFrom_nil (w : World) (A : Option Addr) (c : Nat) :
    Calls Try.prog 42 #[.slice none 0 0, .slice A 0 c] w fun e w' => e = .returned (.tuple #[]) ∧ w = w' := by
  go_enter Try.func42, Try.ntmps42
  go_wp2_with fail
  go_loop [4, 12] (fun cy i => i = .int .i64 0 ∧ cy = .int .u64 0) (fun _ _ => 0)
  case atStart => exact ⟨rfl, rfl⟩
  case round =>
    obtain ⟨rfl, rfl⟩ := hrel
    go_wp2_with fail
    go_loop [4, 8] (fun cy i => i = .int .i64 0 ∧ cy = .int .u64 0) (fun _ _ => 0)
    case atStart => exact ⟨rfl, rfl⟩
    case round =>
      obtain ⟨rfl, rfl⟩ := hrel
      go_wp2_with fail
      go_end0
      exact ⟨rfl, rfl⟩

theorem trim_own_any (w : World) (base : Nat) (r : Value) (zs : List Nat) (h : Own base w r zs) :
    Calls Try.prog 41 #[r] w fun e w' => ∃ r', e = .returned r' ∧ Own base w r' (dg (val zs)) ∧ w = w' := by
  have h' := h
  obtain ⟨hs, h⟩ := h
  rcases h with ⟨rfl, rfl⟩ | ⟨g, rest, rfl, hg, hm, hseg⟩
  · exact (trim_c w none 0 0 [] h'.num).mono fun _ _ ⟨a, b⟩ => ⟨_, a, Own.nil _ _, b⟩
  · exact trim_own w base g _ _ zs h'

theorem subFrom_own (w : World) (base : Nat) (r vb : Value) (xs ys : List Nat) (ho : Own base w r xs) (hb : Num w vb ys) (hne : 0 < ys.length → vb.ownBlock ≠ r.ownBlock) (hle : ys.length ≤ xs.length) (hf : val ys ≤ val xs) :
    Calls Try.prog 42 #[r, vb] w fun e w' => e = .returned (.tuple #[]) ∧ ∃ zs, zs.length = xs.length ∧ val zs = val xs - val ys ∧ Own base w' r zs ∧ w.grownBy w' r.ownBlock ∧ w'.heap.size = w.heap.size := by
  obtain ⟨hs, h⟩ := ho
  rcases h with ⟨rfl, rfl⟩ | ⟨g, rest, rfl, hg, hm, hseg⟩
  · have : ys = [] := List.eq_nil_of_length_eq_zero (by simpa using hle)
    subst this
    obtain ⟨A, c, rfl⟩ := hb.form
    refine (subFrom_nil w A c).mono fun e w' ⟨a, b⟩ => ⟨a, [], rfl, rfl, ?_, ?_, ?_⟩
    · exact Own.nil _ _
    · rw [← b]; exact World.grownBy.refl w _
    · rw [← b]
  · refine (subFrom_n w g 0 xs.length [] rest xs ys _ vb hseg rfl rfl hs ⟨by omega, by unfold maxLen at hm; omega⟩ hb hne hle hf).mono ?_
    rintro e w' ⟨a, zs, z1, z2, z3, z4, z5, z6⟩
    exact ⟨a, zs, z1, z3, Own.of_seg z4 z2 z1 hg rfl (by unfold maxLen at hm; omega), z5, z6⟩

theorem Own.block {base : Nat} {w : World} {v : Value} {xs : List Nat} (h : Own base w v xs) : ∀ g, v.ownBlock = some g → base ≤ g ∧ g < w.heap.size := by
  intro g hg
  obtain ⟨_, h⟩ := h
  rcases h with ⟨rfl, _⟩ | ⟨g', rest, rfl, hb, _, hseg⟩
  · simp [Value.ownBlock] at hg
  · simp [Value.ownBlock] at hg
    subst hg
    exact ⟨hb, hseg.lt⟩
theorem below_own {w w1 w' : World} {v : Value} {base : Nat} {xs : List Nat} (h : Below w.heap.size w w1) (hg : w1.grownBy w' v.ownBlock) (hb : Own base w1 v xs) (hbase : w.heap.size ≤ base) : Below w.heap.size w w' :=
  h.grown hg h.size (fun k e => by have := (hb.block k e).1; omega)

def RSub (w : World) (n : Nat) (e : Ending) (w' : World) : Prop := ∃ r, e = .returned (.tuple #[r, .bool true]) ∧ Own w.heap.size w' r (dg n) ∧ Below w.heap.size w w'
def RNoSub (w : World) (e : Ending) (w' : World) : Prop := e = .returned (.tuple #[.slice none 0 0, .bool false]) ∧ Below w.heap.size w w'

theorem below_drewN {B : Nat} {a w : World} (h : Below B a w) (n : Nat) : Below B a (w.drewN n) := ⟨h.os, h.tape, h.output, h.size, h.block⟩

set_option maxHeartbeats 400000 in
theorem sub_lt (w : World) (va vb : Value) (xs ys : List Nat) (ha : Num w va xs) (hb : Num w vb ys) (hlt : val xs < val ys) :
    Calls Try.prog 15 #[va, vb] w (RNoSub w) := by
  have C := Lib.hid (cmp_c w va vb xs ys ha hb)
  rw [cmpI_lt hlt] at C
  go_enter Try.func15, Try.ntmps15
  go_wp2_with fail
  refine (C.out).mono ?_
  rintro e w' ⟨rfl, N, rfl⟩
  go_wp2_with fail
  go_ret2
  exact ⟨rfl, below_drewN (Below.refl _ _) N⟩

set_option maxHeartbeats 400000 in
theorem sub_ge (w : World) (va vb : Value) (xs ys : List Nat) (ha : Num w va xs) (hb : Num w vb ys) (hza : xs.length ≤ 8796093022208) (hge : val ys ≤ val xs) :
    Calls Try.prog 15 #[va, vb] w (RSub w (val xs - val ys)) := by
  have C := Lib.hid (cmp_c w va vb xs ys ha hb)
  have hci : 0 ≤ cmpI (val xs) (val ys) ∧ cmpI (val xs) (val ys) ≤ 1 := by unfold cmpI; rw [if_neg (by omega)]; split <;> omega
  have hdl : decide (cmpI (val xs) (val ys) < 0) = false := by simp; omega
  generalize cmpI (val xs) (val ys) = ci at *
  have hll : (dg (val ys)).length ≤ (dg (val xs)).length := dg_length_mono hge
  go_enter Try.func15, Try.ntmps15
  go_wp2_with fail
  refine (C.out).mono ?_
  rintro e w' ⟨rfl, N, rfl⟩
  go_wp2_with fail
  refine (normalize_c (w.drewN N) va xs (ha.drewN N) hza).mono ?_
  rintro e w1 ⟨r, rfl, hr, hB⟩
  have hB1 : Below w.heap.size w w1 := (below_drewN (Below.refl _ _) N).trans hB
  have hr1 : Own w.heap.size w1 r (dg (val xs)) := hr
  have T := Lib.hid (trim_any w1 vb ys (hb.below hB1))
  clear hB hr
  go_wp2_with fail
  refine (T.out).mono ?_
  rintro e w' ⟨A, c, rfl, hN, rfl⟩
  have hne : 0 < (dg (val ys)).length → (Value.slice A (dg (val ys)).length c).ownBlock ≠ r.ownBlock := by
    intro hp he
    obtain ⟨b, off, rfl, hbb, _⟩ := (hN w hb).cells hp
    have := (hr1.block b he.symm).1
    omega
  have S := Lib.hid (subFrom_own w1 _ r _ _ _ hr1 (hN w1 (hb.below hB1)) hne hll (by rw [val_dg, val_dg]; exact hge))
  clear hN
  go_wp2_with fail
  refine (S.out).mono ?_
  rintro e w2 ⟨rfl, zs, z1, z2, z3, z4, z5⟩
  have hB2 := below_own hB1 z4 hr1 (Nat.le_refl _)
  rw [val_dg, val_dg] at z2
  have T2 := Lib.hid (trim_own_any w2 _ r zs z3)
  rw [z2] at T2
  clear z1 z2 z5
  go_wp2_with fail
  refine (T2.out).mono ?_
  rintro e w3 ⟨r3, rfl, hr3, rfl⟩
  go_wp2_with fail
  go_ret2
  exact ⟨_, rfl, hr3, hB2⟩
end Go.Proofs.Yticakmcjiofhoaa

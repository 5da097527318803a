/- The contracts of Parse and Format of package rational. -/
import Derived.Test.YtgjhgpfjeoeojaaDoorTxtA
import Derived.Test.YtgjhgpfjeoeojaaDoorFmt
import Derived.Test.YtgjhgpfjeoeojaaDoorReft
namespace Go.Proofs.YtgjhgpfjeoeojaaDoor
open Go.RowKit Dig
set_option linter.unusedVariables false

namespace Dig
theorem prefix_sign (l : List UInt8) : Lib.hasPrefix l [45] = signOf l ∧ Lib.trimPrefix l [45] = restOf l := by
  have h : Lib.hasPrefix l [45] = signOf l := by
    unfold Lib.hasPrefix signOf
    cases l with
    | nil => rfl
    | cons c t =>
      show (45 == c && true) = (c == 45)
      rw [Bool.and_true, Bool.eq_iff_iff, beq_iff_eq, beq_iff_eq]
      exact eq_comm
  refine ⟨h, ?_⟩
  unfold Lib.trimPrefix restOf
  rw [h]
  cases l with
  | nil => cases signOf [] <;> rfl
  | cons c t => rfl
end Dig
/-- What reading a fraction hands back. -/
def RPar (w : World) (l : List UInt8) (k : Nat) (e : Ending) (w' : World) : Prop := (ferr l = 0 → RCanE w (fval l) k e w') ∧ (ferr l ≠ 0 → RErr w (ferr l) e w')
theorem RPar.ok {w w' : World} {l : List UInt8} {k : Nat} {e : Ending} (h : ferr l = 0) (hr : RCanE w (fval l) k e w') : RPar w l k e w' := ⟨fun _ => hr, fun hn => absurd h hn⟩
theorem RPar.bad {w w' : World} {l : List UInt8} {k : Nat} {e : Ending} {n : Int} (h : ferr l = n) (h0 : n ≠ 0) (hr : RErr w n e w') : RPar w l k e w' := ⟨fun h1 => absurd (h.symm.trans h1) h0, fun _ => by rw [h]; exact hr⟩

set_option maxHeartbeats 2000000 in
theorem parsef_v (w : World) (s : ByteArray) (hs : s.size ≤ 120) (hM : MaxL w) : Calls Tryd.prog 12 #[.string s] w (RPar w (chars s) 26) := by
  obtain ⟨hp1, hp2⟩ := prefix_sign (chars s)
  have CP := fun w1 => Tryd.strings_CutPrefix s ⟨#[45]⟩ w1
  rw [show Lib.trimPrefix s.data.toList (⟨#[45]⟩ : ByteArray).data.toList = restOf (chars s) from hp2, show Lib.hasPrefix s.data.toList (⟨#[45]⟩ : ByteArray).data.toList = signOf (chars s) from hp1] at CP
  have hrl : (restOf (chars s)).length ≤ 120 := by
    have := chars_length s
    unfold restOf
    split
    · simp; omega
    · omega
  have PP := fun w1 hB => parseParts_v w1 ⟨(restOf (chars s)).toArray⟩ (by show (restOf (chars s)).toArray.size ≤ 120; simpa using hrl) (hM.below (w' := w1) hB)
  rw [chars_mk] at PP
  have hs4 : ¬ (4000 : Int) < s.size := by omega
  have R0 := Lib.hid (Fcl.new w false (.slice none 0 0) (.slice none 0 0))
  have hB0 : Below w.heap.size w (w.alloc (.cells #[.bool false, .slice none 0 0, .slice none 0 0] 25)) := (Below.refl _ _).alloc (Nat.le_refl _) _
  have HCP := Lib.hid CP
  cases hok : (bodyOf (restOf (chars s))).1 with
  | false =>
    have hE : ferr (chars s) = 2 := by unfold ferr; rw [if_pos hok]
    have PQ : ∀ (w1 : World), Below w.heap.size w w1 → Calls Tryd.prog 33 #[.string ⟨(restOf (chars s)).toArray⟩] w1 fun e w' => ∃ x y, e = .returned (.tuple #[x, y, .bool false]) ∧ Below w1.heap.size w1 w' :=
      fun w1 hB => (PP w1 hB).mono fun e w' ⟨x, y, h1, h2, h3⟩ => ⟨x, y, (by have h4 : e = .returned (.tuple #[x, y, .bool (bodyOf (restOf (chars s))).1]) := h1; rw [hok] at h4; exact h4), h3⟩
    have HPQ := Lib.hid PQ
    have HE := Lib.hid hE
    clear CP PP PQ hok hE hp1 hp2 hrl hM
    generalize restOf (chars s) = rl at *
    generalize signOf (chars s) = sg at *
    go_enter Tryd.func12, Tryd.ntmps12
    go_wp2_with fail
    refine (HCP.out _).mono ?_
    rintro e w1 ⟨rfl, rfl⟩
    go_wp2_with fail
    refine (HPQ.out _ hB0).mono ?_
    rintro e w2 ⟨x, y, rfl, hB2⟩
    have R2 := R0.out.below hB2
    have hB2 := below_then hB0 hB2
    obtain ⟨k0, k1, k2⟩ := R2.cells
    obtain ⟨f0, f1, f2⟩ := R2.frozen
    go_wp2_with fail
    refine bodyPost_ret (v := .tuple #[.agg #[.bool false, .slice none 0 0, .slice none 0 0], .int .i64 2]) (by rw [results_cell_tmp rfl]; go_simp) rfl ?_
    exact RPar.bad HE.out (by decide) ⟨rfl, below_put3 hB2 (Nat.le_refl _) _ _ _⟩
  | true =>
    have PQ : ∀ (w1 : World), Below w.heap.size w w1 → Calls Tryd.prog 33 #[.string ⟨(restOf (chars s)).toArray⟩] w1 fun e w' => ∃ x y, e = .returned (.tuple #[x, y, .bool true]) ∧ Can w' x (bodyOf (restOf (chars s))).2.1 26 ∧ Can w' y (bodyOf (restOf (chars s))).2.2 26 ∧ Below w1.heap.size w1 w' :=
      fun w1 hB => (PP w1 hB).mono fun e w' ⟨x, y, h1, h2, h3⟩ => ⟨x, y, (by have h4 : e = .returned (.tuple #[x, y, .bool (bodyOf (restOf (chars s))).1]) := h1; rw [hok] at h4; exact h4), (h2 hok).1, (h2 hok).2, h3⟩
    have hfv : fval (chars s) = fr (signOf (chars s)) (bodyOf (restOf (chars s))).2.1 (bodyOf (restOf (chars s))).2.2 := rfl
    by_cases hd : (bodyOf (restOf (chars s))).2.2 = 0
    · have hE : ferr (chars s) = 20 := by unfold ferr; rw [if_neg (by rw [hok]; decide), if_pos hd]
      have HPQ := Lib.hid PQ
      have HE := Lib.hid hE
      have HD := Lib.hid hd
      have Z := Lib.hid (fun (w1 : World) v (hv : Can w1 v 0 26) => isZero_t hv.numV (by omega))
      clear CP PP PQ hok hE hp1 hp2 hrl hM hfv hd
      generalize (bodyOf (restOf (chars s))).2.1 = n at *
      generalize (bodyOf (restOf (chars s))).2.2 = d at *
      generalize restOf (chars s) = rl at *
      generalize signOf (chars s) = sg at *
      go_enter Tryd.func12, Tryd.ntmps12
      go_wp2_with fail
      refine (HCP.out _).mono ?_
      rintro e w1 ⟨rfl, rfl⟩
      go_wp2_with fail
      refine (HPQ.out _ hB0).mono ?_
      rintro e w2 ⟨x, y, rfl, hx, hy, hB2⟩
      rw [HD.out] at hy
      have R2 := R0.out.below hB2
      have hB2 := below_then hB0 hB2
      go_wp2_with fail
      refine (Z.out _ _ hy).mono ?_
      rintro e w3 ⟨rfl, hB3⟩
      have R3 := R2.below hB3
      have hB3 := below_then hB2 hB3
      obtain ⟨k0, k1, k2⟩ := R3.cells
      obtain ⟨f0, f1, f2⟩ := R3.frozen
      go_wp2_with fail
      refine bodyPost_ret (v := .tuple #[.agg #[.bool false, .slice none 0 0, .slice none 0 0], .int .i64 20]) (by rw [results_cell_tmp rfl]; go_simp) rfl ?_
      exact RPar.bad HE.out (by decide) ⟨rfl, below_put3 hB3 (Nat.le_refl _) _ _ _⟩
    · have hE : ferr (chars s) = 0 := by unfold ferr; rw [if_neg (by rw [hok]; decide), if_neg hd]
      have HPQ := Lib.hid PQ
      have HE := Lib.hid hE
      have Z := Lib.hid (fun (w1 : World) v (hv : Can w1 v (bodyOf (restOf (chars s))).2.2 26) => isZero_f hv.numV (by omega) hd)
      have RD := fun (w1 : World) u v (hu : Can w1 u (bodyOf (restOf (chars s))).2.1 26) (hv : Can w1 v (bodyOf (restOf (chars s))).2.2 26) => reduce_v (signOf (chars s)) hu.numV hv.numV (by omega) (by omega)
      rw [← hfv] at RD
      have RR := Lib.hid RD
      clear CP PP PQ hok hE hp1 hp2 hrl hM hfv hd RD
      generalize (bodyOf (restOf (chars s))).2.1 = n at *
      generalize (bodyOf (restOf (chars s))).2.2 = d at *
      generalize restOf (chars s) = rl at *
      generalize signOf (chars s) = sg at *
      go_enter Tryd.func12, Tryd.ntmps12
      go_wp2_with fail
      refine (HCP.out _).mono ?_
      rintro e w1 ⟨rfl, rfl⟩
      go_wp2_with fail
      refine (HPQ.out _ hB0).mono ?_
      rintro e w2 ⟨x, y, rfl, hx, hy, hB2⟩
      have R2 := R0.out.below hB2
      have hB2 := below_then hB0 hB2
      go_wp2_with fail
      refine (Z.out _ _ hy).mono ?_
      rintro e w3 ⟨rfl, hB3⟩
      have R3 := R2.below hB3
      have hx := hx.below hB3
      have hy := hy.below hB3
      have hB3 := below_then hB2 hB3
      go_wp2_with fail
      refine (RR.out _ _ _ hx hy).mono ?_
      rintro e w4 ⟨v, rfl, hv, hB4⟩
      have R4 := R3.below hB4
      have hB4 := below_then hB3 hB4
      obtain ⟨b, C, o, r, C', o', r', rfl, hb, hvx, hvy⟩ := hv.parts
      obtain ⟨k0, k1, k2⟩ := R4.cells
      obtain ⟨f0, f1, f2⟩ := R4.frozen
      go_wp2_with fail
      refine bodyPost_ret (v := .tuple #[.agg #[.bool b, .slice C o r, .slice C' o' r'], .int .i64 0]) (by rw [results_cell_tmp rfl]; go_simp) rfl ?_
      exact RPar.ok HE.out (RCanE.stored hb hvx hvy R4 hB4 (Nat.le_refl _) (.bool b))

end Go.Proofs.YtgjhgpfjeoeojaaDoor

/- The walk of PagestoreArguments. -/
import Derived.Test.YtckomifecmemnaaGreatPkab
namespace Go.Proofs.YtckomifecmemnaaGreat
open Go.RowKit Dig
set_option linter.unusedVariables false

/-- A disk that nobody else holds. -/
def Own7 (w : World) (B : Nat) (Fd : Nat → Prop) (d : Nat) (ds : DS) : Prop := Disk w Fd d ds ∧ ∀ k, Fd k → B ≤ k
theorem Own7.turn {w w' : World} {B d : Nat} {Fd Fd' : Nat → Prop} {ds ds' : DS} (h : Own7 w B Fd d ds) (hB : B ≤ w.heap.size) (hD : Disk w' Fd' d ds') (h3 : ∀ k, Fd' k → MoreR Fd w w' k) (ht : Turn Fd w w') : Own7 w' B Fd' d ds' ∧ On B w w' := by
  obtain ⟨t1, t2, t3, t4, t5⟩ := ht
  exact ⟨⟨hD, fun k hk => (h3 k hk).elim (h.2 k) fun h => Nat.le_trans hB h.1⟩, ⟨t1, t2, t3, t4, fun k hk => t5 k (by omega) fun hf => by have := h.2 k hf; omega⟩, t4⟩
theorem and1 (n : Int) : bits .and .i64 n 1 = n % 2 := and_low n 1 1 (by decide) (by omega)
theorem and31 (n : Int) : bits .and .i64 n 31 = n % 32 := and_low n 5 31 (by decide) (by omega)
/-- A store and an empty model that is just made. -/
theorem Sit.duo {G : Type} {Obj : ObjP G} {Fit : FitP G} {w w' : World} {B m d a b x : Nat} {F Fd : Nat → Prop} {g : G} {s s2 : SS} {ds : DS} (P : Prog7 Obj Fit) (h : Sit Obj Fit w B F Fd m d a b g s ds) (hB : B ≤ w.heap.size) (hb : Below w.heap.size w w')
    (hr : RSto w' (fun k => w.heap.size ≤ k ∧ k < w'.heap.size) x s2) : Duo Obj w' B F (fun k => w.heap.size ≤ k ∧ k < w'.heap.size) m d a b g x s s2 :=
  ⟨P.keep h.1 hb.size fun k hk => hb.block k (P.lt h.1 k hk), hr, h.2.2.2.1, fun k hk => Nat.le_trans hB hk.1, fun k hk hk2 => by have := P.lt h.1 k hk; omega⟩
section
variable {G : Type} {Obj : ObjP G} {Fit : FitP G}
set_option maxRecDepth 20000 in
set_option maxHeartbeats 8000000 in
theorem args_pfg (P : Prog7 Obj Fit) (w : World) (fr to' : Int) (f1 : -9223372036854775808 ≤ fr) (f2 : fr ≤ 9223372036854775807) (t1 : -9223372036854775808 ≤ to') (t2 : to' ≤ 9223372036854775807) (hp : fr % 2 = 1) :
    Calls Tryz.prog 5 #[.int .i64 fr, .int .i64 to', .bool true] w (RVal w (.bool true)) := by
  have hP := Lib.hid P
  have KN := Lib.hid (fun w => known7_c P w)
  have p1 := and1 fr
  have FT := Lib.hid (show (-9223372036854775808 ≤ fr ∧ fr ≤ 9223372036854775807) ∧ -9223372036854775808 ≤ to' ∧ to' ≤ 9223372036854775807 from ⟨⟨f1, f2⟩, t1, t2⟩)
  clear P f1 f2 t1 t2
  rw [hp] at p1
  have p2 := and31 fr
  have p3 := and31 to'
  have hA := Int.emod_nonneg fr (show (32 : Int) ≠ 0 by decide)
  have hA2 := Int.emod_lt_of_pos fr (show (0 : Int) < 32 by decide)
  have hC := Int.emod_nonneg to' (show (32 : Int) ≠ 0 by decide)
  have hC2 := Int.emod_lt_of_pos to' (show (0 : Int) < 32 by decide)
  generalize fr % 32 = q1 at p2 hA hA2
  generalize to' % 32 = q2 at p3 hC hC2
  obtain ⟨a, rfl⟩ := Int.eq_ofNat_of_zero_le hA
  obtain ⟨c, rfl⟩ := Int.eq_ofNat_of_zero_le hC
  have ha : a < 32 := by omega
  have hc : c < 32 := by omega
  have HAC := Lib.hid (show a < 32 ∧ c < 32 from ⟨ha, hc⟩)
  have eb : (64 : Int) + (c : Int) = ((64 + c : Nat) : Int) := by omega
  have EB := Lib.hid eb
  clear hp hA hA2 hC hC2 eb
  go_enter Tryz.func5, Tryz.ntmps5
  go_wp2_with fail
  refine (qnew_c w 100 (by omega) (by omega)).mono ?_
  rintro e w1 ⟨d, rfl, hD, hB1⟩
  have O1 := Lib.hid (show Own7 w1 w.heap.size _ d (newS 100) from ⟨hD, fun k hk => hk.1⟩)
  have B1 := Lib.hid hB1
  clear hD hB1
  go_wp2_with fail
  refine (hP.out.openBad O1.out.1 0 31 (by omega) (by omega) (by omega) (by omega) (by omega)).mono ?_
  rintro e w2 ⟨rfl, Fd2, hD, h3, ht⟩
  obtain ⟨hO, hon⟩ := O1.out.turn B1.out.size hD h3 ht
  have O2 := Lib.hid hO
  have B2 := Lib.hid (B1.out.trans hon.1)
  clear hD h3 ht hO hon O1 B1
  go_wp2_with fail
  refine (hP.out.openBad O2.out.1 69 101 (by omega) (by omega) (by omega) (by omega) (by rw [newS_len]; omega)).mono ?_
  rintro e w3 ⟨rfl, Fd3, hD, h3, ht⟩
  obtain ⟨hO, hon⟩ := O2.out.turn B2.out.size hD h3 ht
  have O3 := Lib.hid hO
  have B3 := Lib.hid (B2.out.trans hon.1)
  clear hD h3 ht hO hon O2 B2
  go_wp2_with fail
  refine (qcrash_c O3.out.1 (by show 0 ≤ 100000; omega) 0 0 (by omega)).mono ?_
  rintro e w4 ⟨rfl, hD, ht⟩
  obtain ⟨hO, hon⟩ := O3.out.turn B3.out.size hD (fun _ h => h) ht
  have O4 := Lib.hid hO
  have B4 := Lib.hid (B3.out.trans hon.1)
  have hoff : (crashS (newS 100) 0 0).off = true := rfl
  have hlen : (crashS (newS 100) 0 0).dur.length = 100 := by kernel_rfl
  have HOF := Lib.hid hoff
  have HLE := Lib.hid hlen
  clear hD ht hO hon O3 B3 hoff hlen
  generalize crashS (newS 100) 0 0 = dz at *
  go_wp2_with fail
  rw [EB.out]
  refine (hP.out.openOff O4.out.1 a (64 + c) (by have := HAC.out; omega) (by rw [HLE.out]; have := HAC.out; omega) HOF.out).mono ?_
  rintro e w5 ⟨rfl, Fd5, hD, h3, ht⟩
  obtain ⟨hO, hon⟩ := O4.out.turn B4.out.size hD h3 ht
  have B5 := Lib.hid (B4.out.trans hon.1)
  clear hD h3 ht hO hon O4 B4
  have c1 : ¬ (a : Int) < 0 := by omega
  have c2 : ¬ (a : Int) > 100 := by omega
  have c3 : ¬ ((64 + c : Nat) : Int) > 100 := by omega
  have c4 : ¬ ((64 + c : Nat) : Int) < (a : Int) + 32 := by omega
  generalize 64 + c = b at *
  go_wp2_with fail
  refine (KN.out _).mono ?_
  rintro e wk ⟨rfl, hBk⟩
  have BK := Lib.hid (below_then B5.out hBk)
  clear hBk
  go_wp2_with fail
  go_ret
  exact ⟨rfl, BK.out⟩
set_option maxRecDepth 20000 in
set_option maxHeartbeats 8000000 in
theorem args_pog (P : Prog7 Obj Fit) (w : World) (fr to' : Int) (f1 : -9223372036854775808 ≤ fr) (f2 : fr ≤ 9223372036854775807) (t1 : -9223372036854775808 ≤ to') (t2 : to' ≤ 9223372036854775807) (hp : fr % 2 = 1) :
    Calls Tryz.prog 5 #[.int .i64 fr, .int .i64 to', .bool false] w (RVal w (.bool true)) := by
  have hP := Lib.hid P
  have KN := Lib.hid (fun w => known7_c P w)
  have p1 := and1 fr
  have FT := Lib.hid (show (-9223372036854775808 ≤ fr ∧ fr ≤ 9223372036854775807) ∧ -9223372036854775808 ≤ to' ∧ to' ≤ 9223372036854775807 from ⟨⟨f1, f2⟩, t1, t2⟩)
  clear P f1 f2 t1 t2
  rw [hp] at p1
  have p2 := and31 fr
  have p3 := and31 to'
  have hA := Int.emod_nonneg fr (show (32 : Int) ≠ 0 by decide)
  have hA2 := Int.emod_lt_of_pos fr (show (0 : Int) < 32 by decide)
  have hC := Int.emod_nonneg to' (show (32 : Int) ≠ 0 by decide)
  have hC2 := Int.emod_lt_of_pos to' (show (0 : Int) < 32 by decide)
  generalize fr % 32 = q1 at p2 hA hA2
  generalize to' % 32 = q2 at p3 hC hC2
  obtain ⟨a, rfl⟩ := Int.eq_ofNat_of_zero_le hA
  obtain ⟨c, rfl⟩ := Int.eq_ofNat_of_zero_le hC
  have ha : a < 32 := by omega
  have hc : c < 32 := by omega
  have HAC := Lib.hid (show a < 32 ∧ c < 32 from ⟨ha, hc⟩)
  have eb : (64 : Int) + (c : Int) = ((64 + c : Nat) : Int) := by omega
  have EB := Lib.hid eb
  clear hp hA hA2 hC hC2 eb
  go_enter Tryz.func5, Tryz.ntmps5
  go_wp2_with fail
  refine (qnew_c w 100 (by omega) (by omega)).mono ?_
  rintro e w1 ⟨d, rfl, hD, hB1⟩
  have O1 := Lib.hid (show Own7 w1 w.heap.size _ d (newS 100) from ⟨hD, fun k hk => hk.1⟩)
  have B1 := Lib.hid hB1
  clear hD hB1
  go_wp2_with fail
  refine (hP.out.openBad O1.out.1 0 31 (by omega) (by omega) (by omega) (by omega) (by omega)).mono ?_
  rintro e w2 ⟨rfl, Fd2, hD, h3, ht⟩
  obtain ⟨hO, hon⟩ := O1.out.turn B1.out.size hD h3 ht
  have O2 := Lib.hid hO
  have B2 := Lib.hid (B1.out.trans hon.1)
  clear hD h3 ht hO hon O1 B1
  go_wp2_with fail
  refine (hP.out.openBad O2.out.1 69 101 (by omega) (by omega) (by omega) (by omega) (by rw [newS_len]; omega)).mono ?_
  rintro e w3 ⟨rfl, Fd3, hD, h3, ht⟩
  obtain ⟨hO, hon⟩ := O2.out.turn B2.out.size hD h3 ht
  have O3 := Lib.hid hO
  have B3 := Lib.hid (B2.out.trans hon.1)
  clear hD h3 ht hO hon O2 B2
  go_wp2_with fail
  have HLE := Lib.hid (newS_len 100)
  rw [EB.out]
  obtain ⟨g0, hz⟩ := hP.out.zero ((64 + c) - a) (by have := HAC.out; omega) (by have := HAC.out; omega)
  have HZ := Lib.hid hz
  have AL := Lib.hid (show Alone w3 w.heap.size Fd3 d (newS 100) from ⟨O3.out.1, O3.out.2, calm_newS 100⟩)
  clear hz
  refine (hP.out.open' AL.out.1 a (64 + c) (by have := HAC.out; omega) (by rw [HLE.out]; have := HAC.out; omega) AL.out.2.2 (by rw [cut_newS (by have := HAC.out; omega)]; exact HZ.out)).mono ?_
  rintro e w5 ⟨m, F5, Fd5, g5, ds5, rfl, hO, hD, h1, h2, h3, ht, hc, hs, hf⟩
  obtain ⟨hS, hon⟩ := Sit.made hP.out AL.out B3.out.size (by rw [newS_len]; have := HAC.out; omega) hO hD h1 h2 h3 ht hc hs hf
  have S5 := Lib.hid (show Sit Obj Fit w5 w.heap.size F5 Fd5 m d a (64 + c) g5 emptyS ds5 from hS)
  have B5 := Lib.hid (B3.out.trans hon.1)
  clear hO hD h1 h2 h3 ht hc hs hf hS hon AL O3 B3 HZ
  have c1 : ¬ (a : Int) < 0 := by omega
  have c2 : ¬ (a : Int) > 100 := by omega
  have c3 : ¬ ((64 + c : Nat) : Int) > 100 := by omega
  have c4 : ¬ ((64 + c : Nat) : Int) < (a : Int) + 32 := by omega
  generalize 64 + c = b at *
  go_wp2_with fail
  refine (rnewStore_c w5).mono ?_
  rintro e w6 ⟨x, rfl, hR, hB6⟩
  have DU := Lib.hid (S5.out.duo hP.out B5.out.size hB6 hR)
  have B6 := Lib.hid (below_then B5.out hB6)
  clear hR hB6 S5 B5
  go_wp2_with fail
  refine (agree7_c hP.out DU.out B6.out.size (by decide)).mono ?_
  rintro e w7 ⟨rfl, F7, R7, -, -, -, hB7, -⟩
  have B7 := Lib.hid (B6.out.trans hB7)
  clear hB7 DU B6
  go_wp2_with fail
  refine (KN.out _).mono ?_
  rintro e wk ⟨rfl, hBk⟩
  have BK := Lib.hid (below_then B7.out hBk)
  clear hBk
  go_wp2_with fail
  go_ret
  exact ⟨rfl, BK.out⟩
set_option maxRecDepth 20000 in
set_option maxHeartbeats 8000000 in
theorem args_nfb (P : Prog7 Obj Fit) (w : World) (fr to' : Int) (f1 : -9223372036854775808 ≤ fr) (f2 : fr ≤ 9223372036854775807) (t1 : -9223372036854775808 ≤ to') (t2 : to' ≤ 9223372036854775807) (hp : fr % 2 ≠ 1) (hbad : fr < 0 ∨ 100 < fr ∨ 100 < to' ∨ to' < fr + 32) :
    Calls Tryz.prog 5 #[.int .i64 fr, .int .i64 to', .bool true] w (RVal w (.bool true)) := by
  have hP := Lib.hid P
  have KN := Lib.hid (fun w => known7_c P w)
  have p1 := and1 fr
  have FT := Lib.hid (show (-9223372036854775808 ≤ fr ∧ fr ≤ 9223372036854775807) ∧ -9223372036854775808 ≤ to' ∧ to' ≤ 9223372036854775807 from ⟨⟨f1, f2⟩, t1, t2⟩)
  clear P f1 f2 t1 t2
  have p4 : (bits .and .i64 fr 1 == 1) = false := by rw [p1, beq_eq_false_iff_ne]; exact hp
  have HBAD := Lib.hid hbad
  clear p1 hp
  go_enter Tryz.func5, Tryz.ntmps5
  go_wp2_with fail
  refine (qnew_c w 100 (by omega) (by omega)).mono ?_
  rintro e w1 ⟨d, rfl, hD, hB1⟩
  have O1 := Lib.hid (show Own7 w1 w.heap.size _ d (newS 100) from ⟨hD, fun k hk => hk.1⟩)
  have B1 := Lib.hid hB1
  clear hD hB1
  go_wp2_with fail
  refine (hP.out.openBad O1.out.1 0 31 (by omega) (by omega) (by omega) (by omega) (by omega)).mono ?_
  rintro e w2 ⟨rfl, Fd2, hD, h3, ht⟩
  obtain ⟨hO, hon⟩ := O1.out.turn B1.out.size hD h3 ht
  have O2 := Lib.hid hO
  have B2 := Lib.hid (B1.out.trans hon.1)
  clear hD h3 ht hO hon O1 B1
  go_wp2_with fail
  refine (hP.out.openBad O2.out.1 69 101 (by omega) (by omega) (by omega) (by omega) (by rw [newS_len]; omega)).mono ?_
  rintro e w3 ⟨rfl, Fd3, hD, h3, ht⟩
  obtain ⟨hO, hon⟩ := O2.out.turn B2.out.size hD h3 ht
  have O3 := Lib.hid hO
  have B3 := Lib.hid (B2.out.trans hon.1)
  clear hD h3 ht hO hon O2 B2
  go_wp2_with fail
  refine (qcrash_c O3.out.1 (by show 0 ≤ 100000; omega) 0 0 (by omega)).mono ?_
  rintro e w4 ⟨rfl, hD, ht⟩
  obtain ⟨hO, hon⟩ := O3.out.turn B3.out.size hD (fun _ h => h) ht
  have O4 := Lib.hid hO
  have B4 := Lib.hid (B3.out.trans hon.1)
  have hoff : (crashS (newS 100) 0 0).off = true := rfl
  have hlen : (crashS (newS 100) 0 0).dur.length = 100 := by kernel_rfl
  have HOF := Lib.hid hoff
  have HLE := Lib.hid hlen
  clear hD ht hO hon O3 B3 hoff hlen
  generalize crashS (newS 100) 0 0 = dz at *
  go_wp2_with fail
  refine (hP.out.openBad O4.out.1 fr to' FT.out.1.1 FT.out.1.2 FT.out.2.1 FT.out.2.2 (by rw [HLE.out]; have := HBAD.out; omega)).mono ?_
  rintro e w5 ⟨rfl, Fd5, hD, h3, ht⟩
  obtain ⟨hO, hon⟩ := O4.out.turn B4.out.size hD h3 ht
  have B5 := Lib.hid (B4.out.trans hon.1)
  clear hD h3 ht hO hon O4 B4
  have hcase : fr < 0 ∨ (¬ fr < 0 ∧ fr > 100) ∨ (¬ fr < 0 ∧ ¬ fr > 100 ∧ to' > 100) ∨ (¬ fr < 0 ∧ ¬ fr > 100 ∧ ¬ to' > 100 ∧ to' < fr + 32) := by have := HBAD.out; omega
  rcases hcase with c1 | ⟨c1, c2⟩ | ⟨c1, c2, c3⟩ | ⟨c1, c2, c3, c4⟩
  · skip
    go_wp2_with fail
    refine (KN.out _).mono ?_
    rintro e wk ⟨rfl, hBk⟩
    have BK := Lib.hid (below_then B5.out hBk)
    clear hBk
    go_wp2_with fail
    go_ret
    exact ⟨rfl, BK.out⟩
  · skip
    go_wp2_with fail
    refine (KN.out _).mono ?_
    rintro e wk ⟨rfl, hBk⟩
    have BK := Lib.hid (below_then B5.out hBk)
    clear hBk
    go_wp2_with fail
    go_ret
    exact ⟨rfl, BK.out⟩
  · skip
    go_wp2_with fail
    refine (KN.out _).mono ?_
    rintro e wk ⟨rfl, hBk⟩
    have BK := Lib.hid (below_then B5.out hBk)
    clear hBk
    go_wp2_with fail
    go_ret
    exact ⟨rfl, BK.out⟩
  · skip
    go_wp2_with fail
    refine (KN.out _).mono ?_
    rintro e wk ⟨rfl, hBk⟩
    have BK := Lib.hid (below_then B5.out hBk)
    clear hBk
    go_wp2_with fail
    go_ret
    exact ⟨rfl, BK.out⟩
set_option maxRecDepth 20000 in
set_option maxHeartbeats 8000000 in
theorem args_nob (P : Prog7 Obj Fit) (w : World) (fr to' : Int) (f1 : -9223372036854775808 ≤ fr) (f2 : fr ≤ 9223372036854775807) (t1 : -9223372036854775808 ≤ to') (t2 : to' ≤ 9223372036854775807) (hp : fr % 2 ≠ 1) (hbad : fr < 0 ∨ 100 < fr ∨ 100 < to' ∨ to' < fr + 32) :
    Calls Tryz.prog 5 #[.int .i64 fr, .int .i64 to', .bool false] w (RVal w (.bool true)) := by
  have hP := Lib.hid P
  have KN := Lib.hid (fun w => known7_c P w)
  have p1 := and1 fr
  have FT := Lib.hid (show (-9223372036854775808 ≤ fr ∧ fr ≤ 9223372036854775807) ∧ -9223372036854775808 ≤ to' ∧ to' ≤ 9223372036854775807 from ⟨⟨f1, f2⟩, t1, t2⟩)
  clear P f1 f2 t1 t2
  have p4 : (bits .and .i64 fr 1 == 1) = false := by rw [p1, beq_eq_false_iff_ne]; exact hp
  have HBAD := Lib.hid hbad
  clear p1 hp
  go_enter Tryz.func5, Tryz.ntmps5
  go_wp2_with fail
  refine (qnew_c w 100 (by omega) (by omega)).mono ?_
  rintro e w1 ⟨d, rfl, hD, hB1⟩
  have O1 := Lib.hid (show Own7 w1 w.heap.size _ d (newS 100) from ⟨hD, fun k hk => hk.1⟩)
  have B1 := Lib.hid hB1
  clear hD hB1
  go_wp2_with fail
  refine (hP.out.openBad O1.out.1 0 31 (by omega) (by omega) (by omega) (by omega) (by omega)).mono ?_
  rintro e w2 ⟨rfl, Fd2, hD, h3, ht⟩
  obtain ⟨hO, hon⟩ := O1.out.turn B1.out.size hD h3 ht
  have O2 := Lib.hid hO
  have B2 := Lib.hid (B1.out.trans hon.1)
  clear hD h3 ht hO hon O1 B1
  go_wp2_with fail
  refine (hP.out.openBad O2.out.1 69 101 (by omega) (by omega) (by omega) (by omega) (by rw [newS_len]; omega)).mono ?_
  rintro e w3 ⟨rfl, Fd3, hD, h3, ht⟩
  obtain ⟨hO, hon⟩ := O2.out.turn B2.out.size hD h3 ht
  have O3 := Lib.hid hO
  have B3 := Lib.hid (B2.out.trans hon.1)
  clear hD h3 ht hO hon O2 B2
  go_wp2_with fail
  have HLE := Lib.hid (newS_len 100)
  refine (hP.out.openBad O3.out.1 fr to' FT.out.1.1 FT.out.1.2 FT.out.2.1 FT.out.2.2 (by rw [HLE.out]; have := HBAD.out; omega)).mono ?_
  rintro e w5 ⟨rfl, Fd5, hD, h3, ht⟩
  obtain ⟨hO, hon⟩ := O3.out.turn B3.out.size hD h3 ht
  have B5 := Lib.hid (B3.out.trans hon.1)
  clear hD h3 ht hO hon O3 B3
  have hcase : fr < 0 ∨ (¬ fr < 0 ∧ fr > 100) ∨ (¬ fr < 0 ∧ ¬ fr > 100 ∧ to' > 100) ∨ (¬ fr < 0 ∧ ¬ fr > 100 ∧ ¬ to' > 100 ∧ to' < fr + 32) := by have := HBAD.out; omega
  rcases hcase with c1 | ⟨c1, c2⟩ | ⟨c1, c2, c3⟩ | ⟨c1, c2, c3, c4⟩
  · skip
    go_wp2_with fail
    refine (KN.out _).mono ?_
    rintro e wk ⟨rfl, hBk⟩
    have BK := Lib.hid (below_then B5.out hBk)
    clear hBk
    go_wp2_with fail
    go_ret
    exact ⟨rfl, BK.out⟩
  · skip
    go_wp2_with fail
    refine (KN.out _).mono ?_
    rintro e wk ⟨rfl, hBk⟩
    have BK := Lib.hid (below_then B5.out hBk)
    clear hBk
    go_wp2_with fail
    go_ret
    exact ⟨rfl, BK.out⟩
  · skip
    go_wp2_with fail
    refine (KN.out _).mono ?_
    rintro e wk ⟨rfl, hBk⟩
    have BK := Lib.hid (below_then B5.out hBk)
    clear hBk
    go_wp2_with fail
    go_ret
    exact ⟨rfl, BK.out⟩
  · skip
    go_wp2_with fail
    refine (KN.out _).mono ?_
    rintro e wk ⟨rfl, hBk⟩
    have BK := Lib.hid (below_then B5.out hBk)
    clear hBk
    go_wp2_with fail
    go_ret
    exact ⟨rfl, BK.out⟩
set_option maxRecDepth 20000 in
set_option maxHeartbeats 8000000 in
theorem args_nfg (P : Prog7 Obj Fit) (w : World) (fr to' : Int) (f1 : -9223372036854775808 ≤ fr) (f2 : fr ≤ 9223372036854775807) (t1 : -9223372036854775808 ≤ to') (t2 : to' ≤ 9223372036854775807) (hp : fr % 2 ≠ 1) (hgood : 0 ≤ fr ∧ fr ≤ 100 ∧ to' ≤ 100 ∧ fr + 32 ≤ to') :
    Calls Tryz.prog 5 #[.int .i64 fr, .int .i64 to', .bool true] w (RVal w (.bool true)) := by
  have hP := Lib.hid P
  have KN := Lib.hid (fun w => known7_c P w)
  have p1 := and1 fr
  have FT := Lib.hid (show (-9223372036854775808 ≤ fr ∧ fr ≤ 9223372036854775807) ∧ -9223372036854775808 ≤ to' ∧ to' ≤ 9223372036854775807 from ⟨⟨f1, f2⟩, t1, t2⟩)
  clear P f1 f2 t1 t2
  have p4 : (bits .and .i64 fr 1 == 1) = false := by rw [p1, beq_eq_false_iff_ne]; exact hp
  clear p1 hp
  obtain ⟨g1, g2, g3, g4⟩ := hgood
  obtain ⟨a, rfl⟩ := Int.eq_ofNat_of_zero_le g1
  obtain ⟨b, rfl⟩ := Int.eq_ofNat_of_zero_le (show 0 ≤ to' by omega)
  have HAB := Lib.hid (show a + 32 ≤ b ∧ b ≤ 100 from ⟨by omega, by omega⟩)
  go_enter Tryz.func5, Tryz.ntmps5
  go_wp2_with fail
  refine (qnew_c w 100 (by omega) (by omega)).mono ?_
  rintro e w1 ⟨d, rfl, hD, hB1⟩
  have O1 := Lib.hid (show Own7 w1 w.heap.size _ d (newS 100) from ⟨hD, fun k hk => hk.1⟩)
  have B1 := Lib.hid hB1
  clear hD hB1
  go_wp2_with fail
  refine (hP.out.openBad O1.out.1 0 31 (by omega) (by omega) (by omega) (by omega) (by omega)).mono ?_
  rintro e w2 ⟨rfl, Fd2, hD, h3, ht⟩
  obtain ⟨hO, hon⟩ := O1.out.turn B1.out.size hD h3 ht
  have O2 := Lib.hid hO
  have B2 := Lib.hid (B1.out.trans hon.1)
  clear hD h3 ht hO hon O1 B1
  go_wp2_with fail
  refine (hP.out.openBad O2.out.1 69 101 (by omega) (by omega) (by omega) (by omega) (by rw [newS_len]; omega)).mono ?_
  rintro e w3 ⟨rfl, Fd3, hD, h3, ht⟩
  obtain ⟨hO, hon⟩ := O2.out.turn B2.out.size hD h3 ht
  have O3 := Lib.hid hO
  have B3 := Lib.hid (B2.out.trans hon.1)
  clear hD h3 ht hO hon O2 B2
  go_wp2_with fail
  refine (qcrash_c O3.out.1 (by show 0 ≤ 100000; omega) 0 0 (by omega)).mono ?_
  rintro e w4 ⟨rfl, hD, ht⟩
  obtain ⟨hO, hon⟩ := O3.out.turn B3.out.size hD (fun _ h => h) ht
  have O4 := Lib.hid hO
  have B4 := Lib.hid (B3.out.trans hon.1)
  have hoff : (crashS (newS 100) 0 0).off = true := rfl
  have hlen : (crashS (newS 100) 0 0).dur.length = 100 := by kernel_rfl
  have HOF := Lib.hid hoff
  have HLE := Lib.hid hlen
  clear hD ht hO hon O3 B3 hoff hlen
  generalize crashS (newS 100) 0 0 = dz at *
  go_wp2_with fail
  refine (hP.out.openOff O4.out.1 a b (HAB.out.1) (by rw [HLE.out]; exact HAB.out.2) HOF.out).mono ?_
  rintro e w5 ⟨rfl, Fd5, hD, h3, ht⟩
  obtain ⟨hO, hon⟩ := O4.out.turn B4.out.size hD h3 ht
  have B5 := Lib.hid (B4.out.trans hon.1)
  clear hD h3 ht hO hon O4 B4
  have c1 : ¬ (a : Int) < 0 := by omega
  have c2 : ¬ (a : Int) > 100 := by omega
  have c3 : ¬ (b : Int) > 100 := by omega
  have c4 : ¬ (b : Int) < (a : Int) + 32 := by omega
  go_wp2_with fail
  refine (KN.out _).mono ?_
  rintro e wk ⟨rfl, hBk⟩
  have BK := Lib.hid (below_then B5.out hBk)
  clear hBk
  go_wp2_with fail
  go_ret
  exact ⟨rfl, BK.out⟩
set_option maxRecDepth 20000 in
set_option maxHeartbeats 8000000 in
theorem args_nog (P : Prog7 Obj Fit) (w : World) (fr to' : Int) (f1 : -9223372036854775808 ≤ fr) (f2 : fr ≤ 9223372036854775807) (t1 : -9223372036854775808 ≤ to') (t2 : to' ≤ 9223372036854775807) (hp : fr % 2 ≠ 1) (hgood : 0 ≤ fr ∧ fr ≤ 100 ∧ to' ≤ 100 ∧ fr + 32 ≤ to') :
    Calls Tryz.prog 5 #[.int .i64 fr, .int .i64 to', .bool false] w (RVal w (.bool true)) := by
  have hP := Lib.hid P
  have KN := Lib.hid (fun w => known7_c P w)
  have p1 := and1 fr
  have FT := Lib.hid (show (-9223372036854775808 ≤ fr ∧ fr ≤ 9223372036854775807) ∧ -9223372036854775808 ≤ to' ∧ to' ≤ 9223372036854775807 from ⟨⟨f1, f2⟩, t1, t2⟩)
  clear P f1 f2 t1 t2
  have p4 : (bits .and .i64 fr 1 == 1) = false := by rw [p1, beq_eq_false_iff_ne]; exact hp
  clear p1 hp
  obtain ⟨g1, g2, g3, g4⟩ := hgood
  obtain ⟨a, rfl⟩ := Int.eq_ofNat_of_zero_le g1
  obtain ⟨b, rfl⟩ := Int.eq_ofNat_of_zero_le (show 0 ≤ to' by omega)
  have HAB := Lib.hid (show a + 32 ≤ b ∧ b ≤ 100 from ⟨by omega, by omega⟩)
  go_enter Tryz.func5, Tryz.ntmps5
  go_wp2_with fail
  refine (qnew_c w 100 (by omega) (by omega)).mono ?_
  rintro e w1 ⟨d, rfl, hD, hB1⟩
  have O1 := Lib.hid (show Own7 w1 w.heap.size _ d (newS 100) from ⟨hD, fun k hk => hk.1⟩)
  have B1 := Lib.hid hB1
  clear hD hB1
  go_wp2_with fail
  refine (hP.out.openBad O1.out.1 0 31 (by omega) (by omega) (by omega) (by omega) (by omega)).mono ?_
  rintro e w2 ⟨rfl, Fd2, hD, h3, ht⟩
  obtain ⟨hO, hon⟩ := O1.out.turn B1.out.size hD h3 ht
  have O2 := Lib.hid hO
  have B2 := Lib.hid (B1.out.trans hon.1)
  clear hD h3 ht hO hon O1 B1
  go_wp2_with fail
  refine (hP.out.openBad O2.out.1 69 101 (by omega) (by omega) (by omega) (by omega) (by rw [newS_len]; omega)).mono ?_
  rintro e w3 ⟨rfl, Fd3, hD, h3, ht⟩
  obtain ⟨hO, hon⟩ := O2.out.turn B2.out.size hD h3 ht
  have O3 := Lib.hid hO
  have B3 := Lib.hid (B2.out.trans hon.1)
  clear hD h3 ht hO hon O2 B2
  go_wp2_with fail
  have HLE := Lib.hid (newS_len 100)
  obtain ⟨g0, hz⟩ := hP.out.zero (b - a) (by have := HAB.out; omega) (by have := HAB.out; omega)
  have HZ := Lib.hid hz
  have AL := Lib.hid (show Alone w3 w.heap.size Fd3 d (newS 100) from ⟨O3.out.1, O3.out.2, calm_newS 100⟩)
  clear hz
  refine (hP.out.open' AL.out.1 a b (HAB.out.1) (by rw [HLE.out]; exact HAB.out.2) AL.out.2.2 (by rw [cut_newS (by have := HAB.out; omega)]; exact HZ.out)).mono ?_
  rintro e w5 ⟨m, F5, Fd5, g5, ds5, rfl, hO, hD, h1, h2, h3, ht, hc, hs, hf⟩
  obtain ⟨hS, hon⟩ := Sit.made hP.out AL.out B3.out.size (by rw [newS_len]; have := HAB.out; omega) hO hD h1 h2 h3 ht hc hs hf
  have S5 := Lib.hid (show Sit Obj Fit w5 w.heap.size F5 Fd5 m d a b g5 emptyS ds5 from hS)
  have B5 := Lib.hid (B3.out.trans hon.1)
  clear hO hD h1 h2 h3 ht hc hs hf hS hon AL O3 B3 HZ
  have c1 : ¬ (a : Int) < 0 := by omega
  have c2 : ¬ (a : Int) > 100 := by omega
  have c3 : ¬ (b : Int) > 100 := by omega
  have c4 : ¬ (b : Int) < (a : Int) + 32 := by omega
  go_wp2_with fail
  refine (rnewStore_c w5).mono ?_
  rintro e w6 ⟨x, rfl, hR, hB6⟩
  have DU := Lib.hid (S5.out.duo hP.out B5.out.size hB6 hR)
  have B6 := Lib.hid (below_then B5.out hB6)
  clear hR hB6 S5 B5
  go_wp2_with fail
  refine (agree7_c hP.out DU.out B6.out.size (by decide)).mono ?_
  rintro e w7 ⟨rfl, F7, R7, -, -, -, hB7, -⟩
  have B7 := Lib.hid (B6.out.trans hB7)
  clear hB7 DU B6
  go_wp2_with fail
  refine (KN.out _).mono ?_
  rintro e wk ⟨rfl, hBk⟩
  have BK := Lib.hid (below_then B7.out hBk)
  clear hBk
  go_wp2_with fail
  go_ret
  exact ⟨rfl, BK.out⟩
/-- PagestoreArguments returns true. -/
theorem arguments_walk (P : Prog7 Obj Fit) (w : World) (fr to' : Int) (f1 : -9223372036854775808 ≤ fr) (f2 : fr ≤ 9223372036854775807) (t1 : -9223372036854775808 ≤ to') (t2 : to' ≤ 9223372036854775807) (off : Bool) :
    Calls Tryz.prog 5 #[.int .i64 fr, .int .i64 to', .bool off] w (RVal w (.bool true)) := by
  by_cases hp : fr % 2 = 1
  · cases off with
    | true => exact args_pfg P w fr to' f1 f2 t1 t2 hp
    | false => exact args_pog P w fr to' f1 f2 t1 t2 hp
  · by_cases hb : fr < 0 ∨ 100 < fr ∨ 100 < to' ∨ to' < fr + 32
    · cases off with
      | true => exact args_nfb P w fr to' f1 f2 t1 t2 hp hb
      | false => exact args_nob P w fr to' f1 f2 t1 t2 hp hb
    · cases off with
      | true => exact args_nfg P w fr to' f1 f2 t1 t2 hp (by omega)
      | false => exact args_nog P w fr to' f1 f2 t1 t2 hp (by omega)
end
end Go.Proofs.YtckomifecmemnaaGreat

/- The contracts of the program's Reader: Raw, Bytes. -/
import Derived.Test.YtkdnmmbnljaahaaRdr
namespace Go.Proofs.Ytkdnmmbnljaahaa
open Go.RowKit Dig
set_option linter.unusedVariables false

/-- A reader's method that hands back bytes. -/
def RRB (T : TypeId) (g : Nat) (w : World) (p : List UInt8 × RS) (e : Ending) (w' : World) : Prop := ∃ r, e = .returned r ∧ Byt w' r p.1 ∧ Rdr T w' g p.2 ∧ w.grownBy w' (some g)
section
variable {w : World} {g : Nat} {s : RS}
theorem rawS_more {n : Nat} (hok : okR s) (h : s.1.length < n) : rawS n s = ([], failS 3 s) := by
  unfold rawS
  by_cases h0 : s.2 = 0
  · rw [if_pos h0, if_pos h, failS_of h0]
  · rw [if_neg h0, failS_stop hok h0]
theorem rawS_some {n : Nat} (hok : okR s) (h : n ≤ s.1.length) : rawS n s = (s.1.take n, (s.1.drop n, s.2)) := by
  unfold rawS
  by_cases h0 : s.2 = 0
  · rw [if_pos h0, if_neg (by omega), h0]
  · rw [if_neg h0]
    have hn := hok.stop h0
    rw [hn] at h ⊢
    have : n = 0 := by simpa using h
    subst this
    have e := rs_stop hok h0
    simp
    exact e
set_option maxRecDepth 20000 in
set_option maxHeartbeats 2000000 in
theorem raw_c (h : Rdr 66 w g s) (hz : s.1.length ≤ 1000000000) (z : Int) (hb1 : -9223372036854775808 ≤ z) (hb2 : z ≤ 9223372036854775807) :
    Calls Try.prog 32 #[.pointer (some ⟨g, 0, none⟩), .int .i64 z] w (RRB 66 g w (rawS z.toNat s)) := by
  have hok := h.ok
  have FF := Lib.hid (fun e he => fail_c h e he)
  have H := Lib.hid h
  obtain ⟨⟨A, n0, c, hh, hb⟩, _⟩ := h
  obtain ⟨rfl, hnc, hcm⟩ := hb.bounds
  obtain ⟨c0, c1⟩ := row2_cells hh
  obtain ⟨f0, f1⟩ := row2_frozen hh
  have HH := Lib.hid hh
  have HB := Lib.hid hb
  obtain ⟨k, hk⟩ : ∃ k, z.toNat = k := ⟨_, rfl⟩
  have hmax : max z 0 = (k : Int) := by omega
  rw [hk]
  clear hh hb hk hcm hb1 hb2
  rcases Nat.lt_or_ge s.1.length k with h1 | h1
  · have h1i : (s.1.length : Int) < k := by omega
    have F3 := Lib.hid (FF.out 3 (by omega))
    rw [rawS_more hok h1]
    clear h1 hz hnc
    go_enter Try.func32, Try.ntmps32
    go_wp2_with fail
    refine (F3.out).mono ?_
    rintro x w2 ⟨rfl, hR, hG⟩
    go_wp2_with fail
    go_ret
    exact ⟨_, rfl, Byt.nil _, hR, hG⟩
  · have h1i : ¬ (s.1.length : Int) < k := by omega
    have hkc : (k : Int) ≤ c := by omega
    have hkl : (k : Int) ≤ s.1.length := by omega
    rw [rawS_some hok h1]
    have HC := Lib.hid (clone_c (HB.out.cut h1) (by rw [List.length_take]; omega))
    have HT := Lib.hid (HB.out.tail h1)
    have hok2 : okR (s.1.drop k, s.2) := by
      rcases hok with h | ⟨h, h'⟩
      · exact .inl h
      · exact .inr ⟨h, by rw [h']; simp⟩
    have HO := Lib.hid hok2
    have HL := Lib.hid h1
    have HZ := Lib.hid hnc
    clear hz hok2 hnc h1
    go_enter Try.func32, Try.ntmps32
    go_wp2_with fail
    refine (HC.out).mono ?_
    rintro x w2 ⟨r, rfl, hr, hB⟩
    have hh2 : w2.heap[g]? = some (.cells #[.slice A s.1.length c, .int .i64 s.2] 66 (0, 0)) := by rw [hB.block g (lt_of_heap HH.out)]; exact HH.out
    clear c0 c1 f0 f1
    obtain ⟨c0, c1⟩ := row2_cells hh2
    obtain ⟨f0, f1⟩ := row2_frozen hh2
    have HH2 := Lib.hid hh2
    have HT2 := Lib.hid (HT.out.below hB)
    unfold tailB at HT2
    clear hh2
    by_cases hcs : c = k
    · rw [if_pos hcs, show c - k = 0 by omega] at HT2
      subst hcs
      go_wp2_with fail
      go_ret
      exact ⟨_, rfl, hr.byt.but HH2.out (grown_put (World.grownBy.refl _ _) 0 _), Rdr.rest HH2.out HT2.out HO.out, grown_put (grown_of_below hB) 0 _⟩
    · rw [if_neg hcs] at HT2
      go_wp2_with fail
      go_ret
      exact ⟨_, rfl, hr.byt.but HH2.out (grown_put (World.grownBy.refl _ _) 0 _), Rdr.rest HH2.out HT2.out HO.out, grown_put (grown_of_below hB) 0 _⟩
set_option maxRecDepth 20000 in
set_option maxHeartbeats 2000000 in
theorem bytes_c (h : Rdr 66 w g s) (hz : s.1.length ≤ 1000000000) (z : Int) (hb1 : -9223372036854775808 ≤ z) (hb2 : z ≤ 9223372036854775807) :
    Calls Try.prog 25 #[.pointer (some ⟨g, 0, none⟩), .int .i64 z] w (RRB 66 g w (bytesS z.toNat s)) := by
  obtain ⟨k, hk⟩ : ∃ k, z.toNat = k := ⟨_, rfl⟩
  have hk2 : k ≤ 9223372036854775807 := by omega
  have UU := Lib.hid (uint_c h hz k (by omega))
  have hle := uintS_le k s
  have hln := uintS_len k s
  have hu : ((uintS k s).1 : Int) ≤ 9223372036854775807 := by omega
  have HL := Lib.hid (show (uintS k s).2.1.length ≤ 1000000000 by omega)
  have RR := Lib.hid (fun w2 (hR : Rdr 66 w2 g (uintS k s).2) => raw_c hR HL.out ((uintS k s).1 : Int) (by omega) hu)
  rw [Int.toNat_natCast] at RR
  rw [hk]
  have HE := Lib.hid (show bytesS k s = rawS (uintS k s).1 (uintS k s).2 from rfl)
  generalize (uintS k s).1 = n at *
  generalize (uintS k s).2 = s1 at *
  generalize bytesS k s = p at *
  by_cases hz0 : z < 0
  · have hk0 : k = 0 := by omega
    subst hk0
    clear hz hk hk2 hle hln
    go_enter Try.func25, Try.ntmps25
    go_wp2_with fail
    refine (UU.out).mono ?_
    rintro x w2 ⟨rfl, hR, hG⟩
    go_wp2_with fail
    refine (RR.out _ hR).mono ?_
    rintro x w3 ⟨r, rfl, hr, hR3, hG3⟩
    go_wp2_with fail
    go_ret
    rw [HE.out]
    exact ⟨_, rfl, hr, hR3, grown_then hG hG3⟩
  · have hzk : z = (k : Int) := by omega
    subst hzk
    have hkb : (k : Int) ≤ 9223372036854775807 := hb2
    clear hz hk hk2 hle hln
    go_enter Try.func25, Try.ntmps25
    go_wp2_with fail
    refine (UU.out).mono ?_
    rintro x w2 ⟨rfl, hR, hG⟩
    go_wp2_with fail
    refine (RR.out _ hR).mono ?_
    rintro x w3 ⟨r, rfl, hr, hR3, hG3⟩
    go_wp2_with fail
    go_ret
    rw [HE.out]
    exact ⟨_, rfl, hr, hR3, grown_then hG hG3⟩
end
end Go.Proofs.Ytkdnmmbnljaahaa

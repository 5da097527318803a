/- The contract of the reference's Reader: Nat. -/
import Derived.Test.YtkdnmmbnljaahaaRfus
import Derived.Test.YtkdnmmbnljaahaaRdns
import Derived.Test.YtkdnmmbnljaahaaRefQ
namespace Go.Proofs.Ytkdnmmbnljaahaa
open Go.RowKit Dig
set_option linter.unusedVariables false

namespace Dig
theorem beV_from (r : List UInt8) : ∀ a : Nat, r.foldl (fun a c => a * 256 + c.toNat) a = a * 256 ^ r.length + beV r := by
  induction r with
  | nil => intro a; simp [beV]
  | cons c r ih =>
    intro a
    simp only [List.foldl_cons, List.length_cons, beV]
    rw [ih, ih (0 * 256 + c.toNat), Nat.pow_succ, Nat.add_mul, Nat.zero_mul, Nat.zero_add, Nat.mul_assoc, Nat.mul_comm 256]
    omega
theorem beV_append (l r : List UInt8) : beV (l ++ r) = beV l * 256 ^ r.length + beV r := by
  rw [beV, List.foldl_append, beV_from]
  rfl
/-- The bytes from place m up to place t. -/
def mid (bs : List UInt8) (m t : Nat) : Nat := beV ((bs.take t).drop m)
theorem mid_start (bs : List UInt8) (m : Nat) : mid bs m m = 0 := by
  unfold mid
  rw [List.drop_of_length_le (by rw [List.length_take]; omega)]
  rfl
theorem mid_step (bs : List UInt8) (m t x : Nat) (h : m ≤ t) (ht : t < bs.length) (hx : (bs.getD t 0).toNat = x) : mid bs m (t + 1) = mid bs m t * 256 + x := by
  unfold mid
  rw [List.take_succ_eq_append_getElem ht, List.drop_append_of_le_length (by rw [List.length_take]; omega), beV_snoc, ← hx]
  simp [List.getD_eq_getElem?_getD, ht]
theorem mid_lt (bs : List UInt8) (m t : Nat) : mid bs m t < 256 ^ (t - m) := by
  unfold mid
  refine Nat.lt_of_lt_of_le (beV_lt _) (Nat.pow_le_pow_right (by omega) ?_)
  rw [List.length_drop, List.length_take]
  omega
/-- The digits so far are the last bytes. -/
def RevRel (bs : List UInt8) (zs : List Nat) : Prop := Small zs ∧ val zs = beV (bs.drop (bs.length - 4 * zs.length)) ∧ 4 * zs.length < bs.length + 4
theorem RevRel.start (bs : List UInt8) : RevRel bs [] := ⟨Small.nil, by simp [val, beV], by simp⟩
theorem RevRel.step {bs : List UInt8} {zs : List Nat} (h : RevRel bs zs) (hl : 4 * zs.length < bs.length) (j m : Nat) (hj : j = bs.length - 4 * zs.length) (hm : m = j - 4) : RevRel bs (zs ++ [mid bs m j]) := by
  obtain ⟨hs, hv, hz⟩ := h
  have hd : mid bs m j < 4294967296 := by
    have := mid_lt bs m j
    exact Nat.lt_of_lt_of_le this (Nat.pow_le_pow_right (by omega) (show j - m ≤ 4 by omega))
  refine ⟨hs.append (fun d hd' => by simp at hd'; omega), ?_, by simp; omega⟩
  rw [val_append]
  have e1 : bs.length - 4 * (zs ++ [mid bs m j]).length = m := by simp; omega
  rw [e1, hv, ← hj]
  have e2 : bs.drop m = (bs.take j).drop m ++ bs.drop j := by
    conv => lhs; rw [← List.take_append_drop j bs]
    rw [List.drop_append_of_le_length (by rw [List.length_take]; omega)]
  rw [e2, beV_append]
  simp only [val, Nat.mul_zero, Nat.add_zero]
  rw [pow256, List.length_drop, show bs.length - j = 4 * zs.length by omega, Nat.mul_comm (256 ^ _)]
  unfold mid
  omega
theorem RevRel.done {bs : List UInt8} {zs : List Nat} (h : RevRel bs zs) (hl : bs.length ≤ 4 * zs.length) : val zs = beV bs := by
  rw [h.2.1, show bs.length - 4 * zs.length = 0 by omega, List.drop_zero]
end Dig
theorem or_low (d x : Nat) (hd : d < 16777216) (hx : x < 256) : bits .or .u32 ((d : Int) * 256) (x : Int) = ((d * 256 + x : Nat) : Int) := by
  have h := u32_or_nat (d * 256) x (by omega) (by omega)
  rw [show ((d * 256 : Nat) : Int) = (d : Int) * 256 by simp] at h
  rw [h]
  congr 1
  have h2 := Nat.shiftLeft_add_eq_or_of_lt (i := 8) (b := x) (by omega) d
  rw [Nat.shiftLeft_eq] at h2
  exact h2.symm

section
variable {w : World} {g : Nat} {s : RS}
set_option maxRecDepth 20000 in
set_option maxHeartbeats 8000000 in
theorem rnat_c (h : Rdr 42 w g s) (hz : s.1.length ≤ 1000000) :
    Calls Try.prog 39 #[.pointer (some ⟨g, 0, none⟩)] w (RRN 42 g w (natS s)) := by
  have BB := Lib.hid (rbytes_c h (by omega) 8192 (by omega) (by omega))
  rw [show (8192 : Int).toNat = 8192 from rfl] at BB
  have hlen := (bytesS_len 8192 s).2
  have herr := Lib.hid (fun h => bytesS_err (max := 8192) (s := s) h)
  have HN := Lib.hid (show natS s = if (bytesS 8192 s).1.head? = some 0 then (0, ([], 2)) else (beV (bytesS 8192 s).1, (bytesS 8192 s).2) from rfl)
  clear h
  go_enter Try.func39, Try.ntmps39
  go_wp2_with fail
  refine (BB.out).mono ?_
  rintro x w2 ⟨r, rfl, hr, hR, hG⟩
  clear BB
  generalize (bytesS 8192 s).1 = bs at *
  generalize (bytesS 8192 s).2 = s1 at *
  obtain ⟨A, c, rfl⟩ := hr.form
  have hbd := hr.bounds.2
  have HR := Lib.hid hR
  have HB := Lib.hid hr
  have HG := Lib.hid hG
  obtain ⟨⟨RA, rn, rc, rh, rb⟩, rok⟩ := hR
  have re := (row2_cells rh).2
  have hli : (bs.length : Int) ≤ 1000000 := by omega
  clear rh rb rok hG
  by_cases hs0 : s1.2 = 0
  · have hez : (s1.2 == 0) = true := by rw [hs0]; rfl
    have hnz : (s1.2 != 0) = false := by rw [hs0]; rfl
    by_cases hlead : bs.head? = some 0
    · have hne : bs ≠ [] := fun e => by rw [e] at hlead; simp at hlead
      have h0 : 0 < bs.length := List.length_pos_iff.2 hne
      obtain ⟨b, off, rfl, hbb, hall⟩ := hr.cells h0
      have hc0 := hall 0 h0
      rw [Nat.add_zero] at hc0
      have hz : ((bs.getD 0 0).toNat : Int) = 0 := by
        cases bs with
        | nil => exact absurd rfl hne
        | cons a l =>
          have : a = 0 := by simpa using hlead
          rw [this]; rfl
      rw [hz] at hc0
      have h0p : (0 : Int) < bs.length := by omega
      have FF := Lib.hid (rfail_c HR.out 2 (by omega))
      have HP := Lib.hid (HN.out.trans (if_pos hlead))
      clear HN hz hall hlead hlen h0 hr hs0
      go_wp2_with fail
      refine (FF.out).mono ?_
      rintro x w3 ⟨rfl, hR3, hG3⟩
      have HR3 := Lib.hid hR3
      obtain ⟨⟨RA, rn, rc, rh, rb⟩, rok⟩ := hR3
      have re : w3.cell? ⟨g, 1, none⟩ = some (.int .i64 2) := (row2_cells rh).2
      clear rh rb rok
      go_wp2_with fail
      go_ret
      rw [HP.out]
      exact ⟨_, rfl, Num.nil _, HR3.out, grown_then HG.out hG3⟩
    · have HP := Lib.hid (HN.out.trans (if_neg hlead))
      have hcell : 0 < bs.length → ∃ b off, A = some ⟨b, off, none⟩ ∧ (((bs.getD 0 0).toNat : Int) == 0) = false ∧ w2.cell? ⟨b, off, none⟩ = some (.int .u8 ((bs.getD 0 0).toNat : Int)) := by
        intro h0
        obtain ⟨b, off, e, _, hall⟩ := hr.cells h0
        refine ⟨b, off, e, ?_, by simpa using hall 0 h0⟩
        rw [beq_eq_false_iff_ne]
        intro e
        apply hlead
        cases bs with
        | nil => simp at h0
        | cons a l =>
          have : a.toNat = 0 := by simpa using e
          simp
          exact UInt8.toNat.inj this
      rcases Nat.eq_zero_or_pos bs.length with h0 | h0
      · have h0i : ¬ (0 : Int) < bs.length := by omega
        have hb0 : ¬ 0 < bs.length := by omega
        clear HN hlead hlen hr hs0 hcell
        obtain ⟨L, hL⟩ : ∃ L, bs.length = L := ⟨_, rfl⟩
        have HLL := Lib.hid hL
        go_wp2_with fail
        go_loopw [4, 5] (fun a i wr => ∃ zs : List Nat, i = .int .i64 ((bs.length : Int) - 4 * (zs.length : Int)) ∧ Own w2.heap.size wr a zs ∧ RevRel bs zs ∧ Below w2.heap.size w2 wr) (fun _ i _ => (intOf i).toNat)
        case atStart => exact ⟨[], by first | (simp; done) | (simp; omega), Own.nil _ _, RevRel.start bs, Below.refl _ _⟩
        case round =>
          obtain ⟨zs, rfl, hO, hRel, hB⟩ := hrel
          have hzl := hRel.2.2
          obtain ⟨q, hq⟩ : ∃ q, zs.length = q := ⟨_, rfl⟩
          rw [hq] at hzl ⊢
          by_cases hlt : 4 * q < bs.length
          · exact absurd hlt (by omega)
          · have hV := hRel.done (by omega)
            have NN := natNorm_c wr u4 zs hO.num (by omega)
            rw [hV] at NN
            have HNN := Lib.hid NN
            have hji : ¬ (0 : Int) < (bs.length : Int) - 4 * (q : Int) := by omega
            have HBl := Lib.hid hB
            obtain ⟨i0, hi0⟩ : ∃ i0 : Int, (bs.length : Int) - 4 * (q : Int) = i0 := ⟨_, rfl⟩
            rw [hi0] at hji ⊢
            clear hRel hO hB NN hV hi0
            go_wp2_with fail
            refine (HNN.out).mono ?_
            rintro x w3 ⟨r3, rfl, hr3, hB3⟩
            go_wp2_with fail
            go_ret
            rw [HP.out]
            exact ⟨_, rfl, hr3.num, (HR.out.below HBl.out).below hB3, grown_then HG.out (grown_then (grown_of_below HBl.out) (grown_of_below hB3))⟩
      · obtain ⟨b, off, rfl, hnb, hc0⟩ := hcell h0
        have h0i : (0 : Int) < bs.length := by omega
        generalize ((bs.getD 0 0).toNat : Int) = z0 at hc0 hnb
        clear HN hlead hlen hr hs0 hcell
        go_wp2_with fail
        go_loopw [4, 5] (fun a i wr => ∃ zs : List Nat, i = .int .i64 ((bs.length : Int) - 4 * (zs.length : Int)) ∧ Own w2.heap.size wr a zs ∧ RevRel bs zs ∧ Below w2.heap.size w2 wr) (fun _ i _ => (intOf i).toNat)
        case atStart => exact ⟨[], by first | (simp; done) | (simp; omega), Own.nil _ _, RevRel.start bs, Below.refl _ _⟩
        case round =>
          obtain ⟨zs, rfl, hO, hRel, hB⟩ := hrel
          have hzl := hRel.2.2
          obtain ⟨q, hq⟩ : ∃ q, zs.length = q := ⟨_, rfl⟩
          rw [hq] at hzl ⊢
          by_cases hlt : 4 * q < bs.length
          · obtain ⟨j, hj⟩ : ∃ j, bs.length = j + 4 * q := ⟨bs.length - 4 * q, by omega⟩
            have hji : (bs.length : Int) - 4 * (q : Int) = (j : Int) := by omega
            rw [hji]
            obtain ⟨m, hm⟩ : ∃ m, m = j - 4 := ⟨_, rfl⟩
            have hmax : max ((j : Int) - 4) 0 = (m : Int) := by omega
            have hj0 : (0 : Int) < j := by omega
            have hjl : (j : Int) ≤ 1000000 := by omega
            have hst := Lib.hid (hRel.step (by omega) j m (by omega) hm)
            have HO := Lib.hid hO
            have HBl := Lib.hid hB
            have HQ := Lib.hid hq
            have HJ := Lib.hid hj
            have HMM := Lib.hid hm
            clear hRel hO hB hq hji hzl hlt
            go_wp2_with fail
            go_loop [6, 7] (fun d k => ∃ t : Nat, m ≤ t ∧ t ≤ j ∧ k = .int .i64 t ∧ d = .int .u32 ((mid bs m t : Nat) : Int)) (fun _ k => j - (intOf k).toNat)
            case atStart => exact ⟨m, Nat.le_refl _, by have := HMM.out; omega, by rw [HMM.out], by rw [mid_start]; rfl⟩
            case round =>
              obtain ⟨t, hmt, htj, rfl, rfl⟩ := hrel
              by_cases htl : t < j
              · obtain ⟨b', off', e', _, hall⟩ := (HB.out.below HBl.out).cells (by omega)
                cases e'
                have hcx := hall t (by omega)
                have hxb := oct_lt (bs.getD t 0)
                obtain ⟨x, hx⟩ : ∃ x, (bs.getD t 0).toNat = x := ⟨_, rfl⟩
                rw [hx] at hcx hxb
                have hml := mid_lt bs m t
                have hd : mid bs m t < 16777216 := Nat.lt_of_lt_of_le hml (Nat.pow_le_pow_right (by omega) (show t - m ≤ 3 by have := HMM.out; omega))
                have HS := Lib.hid (mid_step bs m t x hmt (by omega) hx)
                have hti : (t : Int) < j := by omega
                have htb : (t : Int) < bs.length := by omega
                generalize mid bs m t = d at *
                have hor := or_low d x hd hxb
                have hdi : (d : Int) < 16777216 := by omega
                clear hall hx hml hd hj
                go_wp2_with fail
                go_round
                case rel => exact ⟨t + 1, by omega, by omega, by go_num, congrArg (Value.int .u32) (by rw [HS.out]; simp)⟩
                case measure => simp [intOf]; omega
              · have htj2 : t = j := by omega
                subst htj2
                have hd : mid bs m t < 4294967296 := Nat.lt_of_lt_of_le (mid_lt bs m t) (Nat.pow_le_pow_right (by omega) (show t - m ≤ 4 by have := HMM.out; omega))
                have HN1 := Lib.hid (Num.one wr (mid bs m t) ((mid bs m t : Nat) : Int) hd rfl)
                have HOA := Lib.hid (HO.out.alloc (.cells #[.int .u32 ((mid bs m t : Nat) : Int)] 61))
                clear hd
                generalize hmid : mid bs m t = d at *
                go_wp2_with (at_builtin; refine wp_append rfl _ _ rfl w2.heap.size u4 zs rfl HOA.out (.slice (some ⟨wr.heap.size, 0, none⟩) 1 1) [d] rfl HN1.out (by have := HQ.out; have := HJ.out; simp; omega) (by have := HBl.out.size; simp; omega) ?_; intro v' w' hv' hg' _)
                have hB3 := below_own HBl.out (grown_after_alloc hg') HO.out (Nat.le_refl _)
                go_roundw
                case rel => exact ⟨zs ++ [d], by have := HQ.out; rw [List.length_append, List.length_singleton]; omega, hv', hst.out, hB3⟩
                case measure => simp [intOf]; omega
          · have hV := hRel.done (by omega)
            have NN := natNorm_c wr u4 zs hO.num (by omega)
            rw [hV] at NN
            have HNN := Lib.hid NN
            have hji : ¬ (0 : Int) < (bs.length : Int) - 4 * (q : Int) := by omega
            have HBl := Lib.hid hB
            obtain ⟨i0, hi0⟩ : ∃ i0 : Int, (bs.length : Int) - 4 * (q : Int) = i0 := ⟨_, rfl⟩
            rw [hi0] at hji ⊢
            clear hRel hO hB NN hV hi0
            go_wp2_with fail
            refine (HNN.out).mono ?_
            rintro x w3 ⟨r3, rfl, hr3, hB3⟩
            go_wp2_with fail
            go_ret
            rw [HP.out]
            exact ⟨_, rfl, hr3.num, (HR.out.below HBl.out).below hB3, grown_then HG.out (grown_then (grown_of_below HBl.out) (grown_of_below hB3))⟩
  · have hez : (s1.2 == 0) = false := by rw [beq_eq_false_iff_ne]; exact hs0
    have hnz : (s1.2 != 0) = true := by rw [bne_iff_ne]; exact hs0
    have hb0 : bs = [] := herr.out hs0
    subst hb0
    have HP := Lib.hid (show natS s = (0, s1) from HN.out)
    clear hs0 HN hr
    go_wp2_with fail
    go_ret
    rw [HP.out]
    exact ⟨_, rfl, Num.nil _, HR.out, HG.out⟩
end
end Go.Proofs.Ytkdnmmbnljaahaa

/- The contract of the reference's Reader: Frac. -/
namespace Go.Proofs.Ytkdnmmbnljaahaa
open Go.RowKit Dig
set_option linter.unusedVariables false

namespace Dig
theorem rawS_one {s : RS} (h : (rawS 1 s).1 = []) : (rawS 1 s).2.2 ≠ 0 := by
  intro e
  unfold rawS at h e
  by_cases h0 : s.2 = 0
  · rw [if_pos h0] at h e
    by_cases h1 : s.1.length < 1
    · rw [if_pos h1] at e
      exact absurd e (by decide)
    · rw [if_neg h1] at h
      cases hs : s.1 with
      | nil => rw [hs] at h1; simp at h1
      | cons a l => rw [hs] at h; simp at h
  · rw [if_neg h0] at e
    exact h0 e
end Dig
section
variable {w : World} {g : Nat} {s : RS}
set_option maxRecDepth 20000 in
set_option maxHeartbeats 8000000 in
theorem rfrac_c (h : Rdr 42 w g s) (hz : s.1.length ≤ 1000000) :
    Calls Try.prog 40 #[.pointer (some ⟨g, 0, none⟩)] w (RRF 42 g w (fracS canonN s)) := by
  have S0 := FSt.new h
  have RW := Lib.hid (rraw_c S0.1 (by omega) 1 (by omega) (by omega))
  rw [show (1 : Int).toNat = 1 from rfl] at RW
  have hl := (rawS_len 1 s).1
  have herr := Lib.hid (fun h => rawS_err (n := 1) (s := s) h)
  have hone := Lib.hid (fun h => rawS_one (s := s) h)
  have HN := Lib.hid (show fracS canonN s = match (rawS 1 s).1 with | [] => (none, (rawS 1 s).2) | c :: _ => if 1 < c.toNat then (none, ([], 2)) else restS canonN (c.toNat == 1) (rawS 1 s).2 from rfl)
  have HS0 := Lib.hid S0
  have hlt := h.lt
  clear S0 h
  go_enter Try.func40, Try.ntmps40
  go_wp2_with fail
  refine (RW.out).mono ?_
  rintro x w1 ⟨r, rfl, hr, hR, hG⟩
  have S1 := HS0.out.call hR hG
  clear RW hR hG
  generalize (rawS 1 s).1 = bs at *
  generalize (rawS 1 s).2 = s1 at *
  obtain ⟨A, c, rfl⟩ := hr.form
  have hbd := hr.bounds.2
  have HS1 := Lib.hid S1
  have hsl : s1.1.length ≤ 1000000 := by omega
  have hs1 := S1.1
  obtain ⟨⟨RA, rn, rc, rh, rb⟩, rok⟩ := hs1
  have re := (row2_cells rh).2
  obtain ⟨q0, q1, q2⟩ := S1.2.1.cells
  obtain ⟨z0, z1, z2⟩ := S1.2.1.frozen
  clear rh rb rok
  cases bs with
  | nil =>
    have hst : s1.2 ≠ 0 := hone.out rfl
    have HP := Lib.hid (show fracS canonN s = (none, s1) from HN.out)
    have hez : (s1.2 == 0) = false := by rw [beq_eq_false_iff_ne]; exact hst
    clear HN S1 hr
    go_wp2_with fail
    have NS := Lib.hid (natS_stop hst)
    refine (rnat_c HS1.out.1 hsl).mono ?_
    rintro x w3 ⟨rx, rfl, hx, hR3, hG3⟩
    rw [NS.out] at hR3
    have S3 : FSt 42 w g w.heap.size s1 w3 := HS1.out.call hR3 hG3
    have HS3 := Lib.hid S3
    obtain ⟨X, xc, rfl⟩ := hx.form
    generalize (dg (natS s1).1).length = xn
    clear S3 hR3 hx re q0 q1 q2 z0 z1 z2
    go_wp2_with fail
    refine (rnat_c HS3.out.1 hsl).mono ?_
    rintro x w5 ⟨ry, rfl, hy, hR5, hG5⟩
    rw [NS.out] at hR5
    have S5 : FSt 42 w g w.heap.size s1 w5 := HS3.out.call hR5 hG5
    have HS5 := Lib.hid S5
    obtain ⟨Y, yc, rfl⟩ := hy.form
    generalize (dg (natS s1).1).length = yn
    obtain ⟨q0, q1, q2⟩ := S5.2.1.cells
    obtain ⟨z0, z1, z2⟩ := S5.2.1.frozen
    obtain ⟨⟨⟨RA, rn, rc, rh, rb⟩, rok⟩, _⟩ := S5
    have re := (row2_cells rh).2
    have hnz : (s1.2 != 0) = true := by rw [bne_iff_ne]; exact hst
    clear rh rb rok hy hR5 hst
    go_wp2_with fail
    refine bodyPost_ret (v := .agg #[.bool false, .slice none 0 0, .slice none 0 0]) (by rw [results_one rfl]; go_simp) rfl ?_
    rw [HP.out]
    exact HS5.out.zero
  | cons a l =>
    have hs0 : s1.2 = 0 := by
      by_cases e : s1.2 = 0
      · exact e
      · exact absurd (herr.out e) (by simp)
    have hez : (s1.2 == 0) = true := by rw [hs0]; rfl
    obtain ⟨b, off, rfl, _, hall⟩ := hr.cells (by simp)
    have hcz := hall 0 (by simp)
    rw [Nat.add_zero] at hcz
    have hc0 : w1.cell? ⟨b, off, none⟩ = some (.int .u8 (a.toNat : Int)) := hcz
    clear hcz
    have HN := Lib.hid (show fracS canonN s = if 1 < a.toNat then (none, ([], 2)) else restS canonN (a.toNat == 1) s1 from HN.out)
    rw [List.length_cons] at *
    have hlp : (0 : Int) < ((l.length + 1 : Nat) : Int) := by omega
    have hBY := Lib.hid (fun W (hG : World.grownBy w1 W (some g)) => ((hr.beside HS1.out.1 hG).cells (by simp)).choose_spec.choose_spec)
    have hB1 := fun W (hB : Byt W (.slice (some ⟨b, off, none⟩) (l.length + 1) c) (a :: l)) => show W.cell? ⟨b, off, none⟩ = some (.int .u8 (a.toNat : Int)) from by
      obtain ⟨b', off', e', _, hall⟩ := hB.cells (by simp)
      cases e'
      have := hall 0 (by simp)
      rw [Nat.add_zero] at this
      exact this
    clear hBY
    have HB1 := Lib.hid hB1
    have HR1 := Lib.hid hr
    generalize l.length + 1 = L at *
    clear hall herr hB1
    by_cases ha : 1 < a.toNat
    · have HP := Lib.hid (HN.out.trans (if_pos ha))
      have FF := Lib.hid (rfail_c S1.1 2 (by omega))
      have hai : (1 : Int) < (a.toNat : Int) := by omega
      have NS := Lib.hid (natS_stop (s := ([], 2)) (by decide))
      clear HN S1 ha hr hs0 HB1 HR1
      generalize (a.toNat : Int) = z at *
      go_wp2_with fail
      refine (FF.out).mono ?_
      rintro x w2 ⟨rfl, hR2, hG2⟩
      have HS2 := Lib.hid (HS1.out.call hR2 hG2)
      clear q0 q1 q2 z0 z1 z2 hc0 re
      go_wp2_with fail
      refine (rnat_c HS2.out.1 (by simp)).mono ?_
      rintro x w3 ⟨rx, rfl, hx, hR3, hG3⟩
      rw [NS.out] at hR3 hx
      have HS3 := Lib.hid (show FSt 42 w g w.heap.size ([], 2) w3 from HS2.out.call hR3 hG3)
      obtain ⟨X, xc, rfl⟩ := hx.form
      generalize (dg ((0, (([], 2) : RS)) : Nat × RS).1).length = xn
      clear hR3 hx
      go_wp2_with fail
      refine (rnat_c HS3.out.1 (by simp)).mono ?_
      rintro x w5 ⟨ry, rfl, hy, hR5, hG5⟩
      rw [NS.out] at hR5 hy
      have S5 : FSt 42 w g w.heap.size ([], 2) w5 := HS3.out.call hR5 hG5
      have HS5 := Lib.hid S5
      obtain ⟨Y, yc, rfl⟩ := hy.form
      generalize (dg ((0, (([], 2) : RS)) : Nat × RS).1).length = yn
      obtain ⟨q0, q1, q2⟩ := S5.2.1.cells
      obtain ⟨z0, z1, z2⟩ := S5.2.1.frozen
      obtain ⟨⟨⟨RA, rn, rc, rh, rb⟩, rok⟩, _⟩ := S5
      have re : w5.cell? ⟨g, 1, none⟩ = some (.int .i64 2) := (row2_cells rh).2
      clear rh rb rok hy hR5
      go_wp2_with fail
      refine bodyPost_ret (v := .agg #[.bool false, .slice none 0 0, .slice none 0 0]) (by rw [results_one rfl]; go_simp) rfl ?_
      rw [HP.out]
      exact HS5.out.zero
    · have HP := Lib.hid (HN.out.trans (if_neg ha))
      have hai : ¬ (1 : Int) < (a.toNat : Int) := by omega
      obtain ⟨neg, hneg⟩ : ∃ neg, (a.toNat == 1) = neg := ⟨_, rfl⟩
      have hni : ((a.toNat : Int) == 1) = neg := by
        rw [← hneg]
        by_cases e : a.toNat = 1
        · rw [e]; rfl
        · rw [show (a.toNat == 1) = false by simpa using e, beq_eq_false_iff_ne]; omega
      rw [hneg] at HP
      generalize (a.toNat : Int) = z at *
      have l1 := natS_len s1
      have l2 := natS_len (natS s1).2
      clear HN S1 ha hr hneg
      go_wp2_with fail
      refine (rnat_c HS1.out.1 hsl).mono ?_
      rintro x w3 ⟨rx, rfl, hx, hR3, hG3⟩
      have e1 : natS s1 = ((natS s1).1, (natS s1).2) := rfl
      have e2 : natS (natS s1).2 = ((natS (natS s1).2).1, (natS (natS s1).2).2) := rfl
      have hz2 : (natS s1).2.1.length ≤ 1000000 := by omega
      have hln := Lib.hid (dg_length_le _ 2048 (natS_lt s1 2048 (by omega)))
      have hld := Lib.hid (dg_length_le _ 2048 (natS_lt (natS s1).2 2048 (by omega)))
      generalize (natS s1).1 = n at *
      generalize (natS s1).2 = s2 at *
      generalize (natS s2).1 = d at *
      have HLn := hln
      have HLd := hld
      clear hln hld
      have HS3 := Lib.hid (HS1.out.call hR3 hG3)
      have HR3 := Lib.hid (HR1.out.beside HS1.out.1 hG3)
      obtain ⟨X, xc, rfl⟩ := hx.form
      have hX3 := Lib.hid hx
      generalize hxn : (dg n).length = xn at *
      clear q0 q1 q2 z0 z1 z2 hc0 re hR3 hx
      go_wp2_with fail
      refine (rnat_c HS3.out.1 hz2).mono ?_
      rintro x w5 ⟨ry, rfl, hy, hR5, hG5⟩
      have HS5 := HS3.out.call hR5 hG5
      have HR5 := Lib.hid (HR3.out.beside HS3.out.1 hG5)
      have hX5 := hX3.out.beside HS3.out.1 hG5
      rw [e2] at HS5 hy
      have S5 : FSt 42 w g w.heap.size (natS s2).2 w5 := HS5
      have hy : Num w5 ry (dg d) := hy
      clear HS5
      generalize (natS s2).2 = s3 at *
      have HS5 := Lib.hid S5
      have hc5 := HB1.out _ HR5.out
      obtain ⟨Y, yc, rfl⟩ := hy.form
      have hY5 := Lib.hid hy
      have hX5 := Lib.hid hX5
      generalize hyn : (dg d).length = yn at *
      have hx1 := S5.1
      obtain ⟨⟨RA, rn, rc, rh, rb⟩, rok⟩ := hx1
      have re := (row2_cells rh).2
      obtain ⟨q0, q1, q2⟩ := S5.2.1.cells
      obtain ⟨z0, z1, z2⟩ := S5.2.1.frozen
      clear rh rb rok hy hR5 S5
      by_cases hs : s3.2 = 0
      · have hnz : (s3.2 != 0) = false := by rw [hs]; rfl
        have hBa : Below w5.heap.size w5 (w5.alloc (.cells #[.bool neg, .slice X xn xc, .slice Y yn yc] 28)) := (Below.refl _ _).alloc (Nat.le_refl _) _
        have S6 := HS5.out.below hBa
        have F6 := Fcl.new w5 neg (.slice X xn xc) (.slice Y yn yc)
        have hX6 := hX5.out.below hBa
        have hY6 := hY5.out.below hBa
        have HC := fracIsCanon_v (k := 2048) (w5.alloc (.cells #[.bool neg, .slice X xn xc, .slice Y yn yc] 28)) neg _ _ (dg n) (dg d) hX6 hY6 (by omega) (by omega) (by rw [hxn]; exact HLn.out) (by rw [hyn]; exact HLd.out)
        have HS6 := Lib.hid S6
        have HF6 := Lib.hid F6
        have hX6 := Lib.hid hX6
        have hY6 := Lib.hid hY6
        obtain ⟨j0, j1, j2⟩ := F6.cells
        clear S6 F6 hBa
        cases hk : canon neg (dg n) (dg d) with
        | true =>
          have HE := Lib.hid (restS_good e1 e2 hs hk)
          rw [hk] at HC
          have HC := Lib.hid HC
          clear hs hk e1 e2
          go_wp2_with fail
          refine (HC.out).mono ?_
          rintro x w7 ⟨rfl, hB7⟩
          have S7 := HS6.out.below hB7
          have F7 := HF6.out.below hB7
          have hx7 := hX6.out.below hB7
          have hy7 := hY6.out.below hB7
          clear j0 j1 j2 re q0 q1 q2 z0 z1 z2 hc5
          have HS7 := Lib.hid S7
          obtain ⟨q0, q1, q2⟩ := S7.2.1.cells
          obtain ⟨z0, z1, z2⟩ := S7.2.1.frozen
          obtain ⟨j0, j1, j2⟩ := F7.cells
          clear F7 S7
          go_wp2_with fail
          refine bodyPost_ret (v := .agg #[.bool neg, .slice X xn xc, .slice Y yn yc]) (by rw [results_one rfl]; go_simp) rfl ?_
          rw [HP.out, HE.out]
          exact HS7.out.some hx7 hy7
        | false =>
          have HE := Lib.hid (restS_bad e1 e2 hs hk)
          rw [hk] at HC
          have HC := Lib.hid HC
          clear hs hk e1 e2
          go_wp2_with fail
          refine (HC.out).mono ?_
          rintro x w7 ⟨rfl, hB7⟩
          have S7 := HS6.out.below hB7
          have FF := Lib.hid (rfail_c S7.1 2 (by omega))
          have HS7 := Lib.hid S7
          clear S7 j0 j1 j2 re q0 q1 q2 z0 z1 z2 hc5
          go_wp2_with fail
          refine (FF.out).mono ?_
          rintro x w8 ⟨rfl, hR8, hG8⟩
          have S8 := HS7.out.call hR8 hG8
          have HS8 := Lib.hid S8
          obtain ⟨q0, q1, q2⟩ := S8.2.1.cells
          obtain ⟨z0, z1, z2⟩ := S8.2.1.frozen
          clear S8
          go_wp2_with fail
          refine bodyPost_ret (v := .agg #[.bool false, .slice none 0 0, .slice none 0 0]) (by rw [results_one rfl]; go_simp) rfl ?_
          rw [HP.out, HE.out]
          exact HS8.out.zero
      · have hnz : (s3.2 != 0) = true := by rw [bne_iff_ne]; exact hs
        have HE := Lib.hid (restS_err (neg := neg) e1 e2 hs)
        clear hs e1 e2
        go_wp2_with fail
        refine bodyPost_ret (v := .agg #[.bool false, .slice none 0 0, .slice none 0 0]) (by rw [results_one rfl]; go_simp) rfl ?_
        rw [HP.out, HE.out]
        exact HS5.out.zero
end
end Go.Proofs.Ytkdnmmbnljaahaa

/- The contracts of the laws' own helpers: known, same. -/
import Derived.Test.YticakmcjiofhoaaDivOne
import Derived.Test.YticakmcjiofhoaaMul
namespace Go.Proofs.Yticakmcjiofhoaa
open Go.RowKit Dig
set_option linter.unusedVariables false

theorem dg_length_eq (n k : Nat) (h1 : 4294967296 ^ k ≤ n) (h2 : n < 4294967296 ^ (k + 1)) : (dg n).length = k + 1 := by
  have a := dg_length_le n (k + 1) h2
  rcases Nat.lt_or_ge k (dg n).length with h | h
  · omega
  · have b := dg_lt n
    have c := pow_le h
    omega

theorem parse_c (w : World) (s : ByteArray) (h : s.size ≤ 4000) (hp : 0 < s.size) (hall : ∀ c ∈ chars s, isDig c = true) (hl : lead (chars s) = true) :
    Calls Try.prog 38 #[.string s] w (RParse w (dec (chars s))) := by
  refine parse_yes w s h hp hall ?_
  have := isDec_all w s h hp (fun j hj => hall _ (by rw [List.getD_eq_getElem?_getD, List.getElem?_eq_getElem hj]; exact List.getElem_mem hj))
  rwa [hl] at this
theorem format_c (w : World) (v : Value) (xs : List Nat) (h : Num w v xs) (hz : xs.length ≤ 8796093022208) :
    Calls Try.prog 37 #[v] w (RText w (val xs)) := by
  rcases Nat.eq_zero_or_pos (val xs) with h0 | h0
  · rw [h0]; exact format_zero w v xs h hz h0
  · exact format_pos w v xs h hz h0
theorem bitLen_v (w : World) (v : Value) (xs : List Nat) (h : Num w v xs) (hz : xs.length ≤ 8796093022208) :
    Calls Try.prog 24 #[v] w fun e w' => e = .returned (.int .i64 (nbits (val xs))) ∧ w = w' := by
  obtain ⟨A, c, rfl⟩ := h.form
  exact bitLen_c w A _ c xs h (by omega)

/-- The letters of 2 to the power 128. -/
def kList : List UInt8 := [51, 52, 48, 50, 56, 50, 51, 54, 54, 57, 50, 48, 57, 51, 56, 52, 54, 51, 52, 54, 51, 51, 55, 52, 54, 48, 55, 52, 51, 49, 55, 54, 56, 50, 49, 49, 52, 53, 54]
theorem k_all : ∀ c ∈ kList, isDig c = true := by decide +kernel
theorem k_lead : lead kList = true := by decide +kernel
theorem k_dec : dec kList = 340282366920938463463374607431768211456 := by decide +kernel
theorem k_text : dtext 340282366920938463463374607431768211456 = kList := (DecOf.eq ⟨k_all, k_dec, k_lead⟩).symm
theorem parse_k (w : World) : Calls Try.prog 38 #[.string ⟨#[51, 52, 48, 50, 56, 50, 51, 54, 54, 57, 50, 48, 57, 51, 56, 52, 54, 51, 52, 54, 51, 51, 55, 52, 54, 48, 55, 52, 51, 49, 55, 54, 56, 50, 49, 49, 52, 53, 54]⟩] w (RParse w 340282366920938463463374607431768211456) := by
  have := parse_c w ⟨kList.toArray⟩ (by decide) (by decide) k_all k_lead
  have e : chars ⟨kList.toArray⟩ = kList := rfl
  rw [e, k_dec] at this
  exact this

set_option maxHeartbeats 1000000 in
theorem known_c (w : World) : Calls Try.prog 34 #[] w fun e w' => e = .returned (.bool true) ∧ Below w.heap.size w w' := by
  obtain ⟨X, hX⟩ : ∃ X, X = 340282366920938463463374607431768211456 := ⟨_, rfl⟩
  have PK := Lib.hid (parse_k w)
  have KT := k_text
  have l5 : (dg X).length = 5 := dg_length_eq X 4 (by rw [hX]; decide) (by rw [hX]; decide)
  have n129 : nbits X = 129 := nbits_unique X 128 (by rw [hX]; decide) (by rw [hX]; decide)
  rw [← hX] at PK KT
  have HKT := Lib.hid KT
  have H5 := Lib.hid l5
  have H129 := Lib.hid n129
  clear KT l5 n129 hX
  obtain ⟨p, hp⟩ : ∃ p : Nat, p = 1000000007 := ⟨_, rfl⟩
  have hpb : p < 4294967296 := by omega
  have l1 : (dg p).length = 1 := dg_length_eq p 0 (by omega) (by omega)
  have HP := Lib.hid hp
  have H1 := Lib.hid l1
  clear hp l1
  go_enter Try.func34, Try.ntmps34
  go_wp2_with fail
  refine (PK.out).mono ?_
  rintro e w1 ⟨a, rfl, ha, hB1⟩
  have F1 := from_c w1 p (by omega)
  rw [HP.out] at F1
  go_wp2_with fail
  refine F1.mono ?_
  rintro e w2 ⟨b, rfl, hb, hB2⟩
  rw [← HP.out] at hb
  clear F1
  have ha2 := ha.below hB2 (Nat.le_refl _)
  have hBB := hB1.trans (hB2.mono hB1.size)
  have D1 := div_one w2 a b (dg X) (dg p) ha2.num hb.num (by rw [H5.out]; omega) (by rw [val_dg, H5.out]; omega) (by rw [val_dg, H1.out])
  rw [val_dg, val_dg] at D1
  have DD := Lib.hid D1
  clear D1 ha hB1 hB2 hb
  go_wp2_with fail
  refine (DD.out).mono ?_
  rintro e w3 ⟨q, r, rfl, hq, hr, hB3⟩
  have ha3 := ha2.below hB3 (Nat.le_refl _)
  have hBC := hBB.trans (hB3.mono hBB.size)
  have hq3 := hq.mono hBB.size
  have hr3 := hr.mono hBB.size
  obtain ⟨A, c, rfl⟩ := ha3.num.form
  rw [H5.out] at ha2 ha3 ⊢
  clear ha2 hBB hB3 hq hr DD
  have hN3 := ha3.num
  have BL := bitLen_v w3 _ _ hN3 (by rw [H5.out]; omega)
  rw [val_dg, H129.out] at BL
  have hBL := Lib.hid BL
  have lq : (dg (X / p)).length ≤ 5 := by have := dg_length_mono (Nat.div_le_self X p); rw [H5.out] at this; exact this
  have lr : (dg (X % p)).length ≤ 5 := by have := dg_length_mono (Nat.mod_le X p); rw [H5.out] at this; exact this
  clear BL
  go_wp2_with fail
  refine (hBL.out).mono ?_
  rintro e w4 ⟨rfl, rfl⟩
  have F2 := from_c w3 p (by omega)
  rw [HP.out] at F2
  go_wp2_with fail
  refine F2.mono ?_
  rintro e w4 ⟨b2, rfl, hb2, hB4⟩
  rw [← HP.out] at hb2
  have hq4 := hq3.below hB4 (Nat.le_refl _)
  have hr4 := hr3.below hB4 (Nat.le_refl _)
  have hBD := hBC.trans (hB4.mono hBC.size)
  have M := mul_small w4 q b2 _ _ hq4.num hb2.num (by omega) (by rw [H1.out]; omega) (by rw [val_dg]; omega)
  rw [val_dg, val_dg] at M
  have MM := Lib.hid M
  clear M F2 hb2 hB4 hq3 hr3 hBC ha3 hN3 hBL
  go_wp2_with fail
  refine (MM.out).mono ?_
  rintro e w5 ⟨m, rfl, hm, hB5⟩
  have hr5 := hr4.below hB5 (Nat.le_refl _)
  have hBE := hBD.trans (hB5.mono hBD.size)
  have lm : (dg (X / p * p)).length ≤ 5 := by have := dg_length_mono (Nat.div_mul_le_self X p); rw [H5.out] at this; exact this
  have AD := add_c w5 m r _ _ hm.num hr5.num (by omega) (by omega)
  rw [val_dg, val_dg, Nat.div_add_mod'] at AD
  have AA := Lib.hid AD
  clear AD hB5 hr4 hBD MM
  go_wp2_with fail
  refine (AA.out).mono ?_
  rintro e w6 ⟨t, rfl, ht, hB6⟩
  have hBF := hBE.trans (hB6.mono hBE.size)
  have FO := format_c w6 t _ ht.num (by rw [H5.out]; omega)
  rw [val_dg] at FO
  have FF := Lib.hid FO
  clear FO hB6 hBE AA
  go_wp2_with fail
  refine (FF.out).mono ?_
  rintro e w7 ⟨rfl, hB7⟩
  have hBG := hBF.trans (hB7.mono hBF.size)
  rw [HKT.out]
  have hkl : (kList == [51, 52, 48, 50, 56, 50, 51, 54, 54, 57, 50, 48, 57, 51, 56, 52, 54, 51, 52, 54, 51, 51, 55, 52, 54, 48, 55, 52, 51, 49, 55, 54, 56, 50, 49, 49, 52, 53, 54]) = true := by decide
  go_wp2_with fail
  go_ret
  exact ⟨rfl, hBG⟩

end Go.Proofs.Yticakmcjiofhoaa

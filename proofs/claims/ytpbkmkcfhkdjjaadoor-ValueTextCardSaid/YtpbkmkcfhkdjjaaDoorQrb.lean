/- The reference of stage 2, what stage 8 wants of it (laid by minchain.py out of: RatB RatC RatE RatF RefA RefC RefS RefD RefV Lawf). -/
import Derived.Test.YtpbkmkcfhkdjjaaDoorQra
namespace Go.Proofs.YtpbkmkcfhkdjjaaDoor
open Go.RowKit Dig
set_option linter.unusedVariables false

section
variable {w w' : World} {v : Value} {q : Rat} {k : Nat}
theorem FracV.parts (h : FracV w v q k) : ∃ neg A m c A' m' c' n d, v = .agg #[.bool neg, .slice A m c, .slice A' m' c'] ∧ NumV w (.slice A m c) n k ∧ NumV w (.slice A' m' c') d k ∧ fr neg n d = q := by
  obtain ⟨neg, vn, vd, n, d, rfl, hn, hd, hq⟩ := h
  obtain ⟨A, m, c, rfl⟩ := hn.form
  obtain ⟨A', m', c', rfl⟩ := hd.form
  exact ⟨neg, A, m, c, A', m', c', n, d, rfl, hn, hd, hq⟩
theorem Fcl.new2 (w : World) (o : Obj) (b : Bool) (x y : Value) : Fcl ((w.alloc o).alloc (.cells #[.bool b, x, y] 66)) (w.heap.size + 1) b x y := by
  have := Fcl.new (w.alloc o) b x y
  rwa [show (w.alloc o).heap.size = w.heap.size + 1 by show (Array.push _ _).size = _; simp] at this
theorem below_alloc2 (w : World) (o o2 : Obj) : Below w.heap.size w ((w.alloc o).alloc o2) := ((Below.refl _ _).alloc (Nat.le_refl _) o).alloc (by show w.heap.size ≤ (Array.push _ _).size; simp) o2
end

theorem Fcl.far {w : World} {g g2 : Nat} {b : Bool} {x y : Value} (h : Fcl w g b x y) (hne : g ≠ g2) (z u v : Value) : Fcl (stor3 w g2 z u v) g b x y := h.of_block (put3_heap w g2 z u v g hne)
section
variable {w : World} {va vb : Value} {p q : Rat} {k l : Nat}
end
end Go.Proofs.YtpbkmkcfhkdjjaaDoor

namespace Go.Proofs.YtpbkmkcfhkdjjaaDoor
open Go.RowKit Dig
set_option linter.unusedVariables false

/-- v can be read as the number q, and its denominator is not 0. -/
def FracP (w : World) (v : Value) (q : Rat) (k : Nat) : Prop := ∃ neg A m c A' m' c' n d, v = .agg #[.bool neg, .slice A m c, .slice A' m' c'] ∧ NumV w (.slice A m c) n k ∧ NumV w (.slice A' m' c') d k ∧ d ≠ 0 ∧ fr neg n d = q
section
variable {w w' : World} {v : Value} {q : Rat} {k l : Nat}
theorem FracP.below (h : FracP w v q k) (hb : Below w.heap.size w w') : FracP w' v q k := by
  obtain ⟨neg, A, m, c, A', m', c', n, d, e, hn, hd, h0, hq⟩ := h
  exact ⟨neg, A, m, c, A', m', c', n, d, e, hn.below hb, hd.below hb, h0, hq⟩
end

section
variable {w : World} {va vb : Value} {p q : Rat} {k l : Nat}
end
end Go.Proofs.YtpbkmkcfhkdjjaaDoor

namespace Go.Proofs.YtpbkmkcfhkdjjaaDoor
open Go.RowKit Dig
set_option linter.unusedVariables false

namespace Dig
end Dig

theorem Fcl.set {w : World} {g : Nat} {b : Bool} {x y : Value} (h : Fcl w g b x y) {a : Addr} (hne : g ≠ a.block) (u : Value) : Fcl (w.setCell a u) g b x y := h.of_block (Below.heap_setCell w a u g hne)
section
variable {w : World} {va vb : Value} {p q : Rat} {k l : Nat}
end
end Go.Proofs.YtpbkmkcfhkdjjaaDoor

namespace Go.Proofs.YtpbkmkcfhkdjjaaDoor
open Go.RowKit Dig
set_option linter.unusedVariables false

namespace Dig
/-- The number num/den of two integers. -/
def frz (x y : Int) : Rat := fr (decide (x < 0) != decide (y < 0)) x.natAbs y.natAbs
end Dig

section
variable {w : World} {va vb : Value} {xs ys : List Nat} {k l : Nat}
end

def Fits64 (z : Int) : Prop := -9223372036854775808 ≤ z ∧ z ≤ 9223372036854775807
/-- A call that hands back a canonical fraction and no error; one that hands back the zero value and the error of a division by 0. -/
def RCanE (w : World) (q : Rat) (k : Nat) (e : Ending) (w' : World) : Prop := ∃ v, e = .returned (.tuple #[v, .int .i64 0]) ∧ CanF w' v q k ∧ Below w.heap.size w w'
def RErr (w : World) (n : Int) (e : Ending) (w' : World) : Prop := e = .returned (.tuple #[.agg #[.bool false, .slice none 0 0, .slice none 0 0], .int .i64 n]) ∧ Below w.heap.size w w'
theorem RCanE.stored {w w2 : World} {q : Rat} {k g : Nat} {b : Bool} {x y : Value} {p : Bool} {A A' : Option Addr} {m m' e e' : Nat} (hb : decide (q.num < 0) = b) (h1 : Can w2 x q.num.natAbs k) (h2 : Can w2 y q.den k)
    (hF : Fcl w2 g p (.slice A m e) (.slice A' m' e')) (hB : Below w.heap.size w w2) (hg : w.heap.size ≤ g) (z : Value) : RCanE w q k (.returned (.tuple #[.agg #[.bool b, x, y], .int .i64 0])) (stor3 w2 g z x y) :=
  ⟨_, rfl, CanF.ofParts hb (h1.put3 hF _ _ _) (h2.put3 hF _ _ _), below_put3 hB hg _ _ _⟩
end Go.Proofs.YtpbkmkcfhkdjjaaDoor

namespace Go.Proofs.YtpbkmkcfhkdjjaaDoor
open Go.RowKit Dig
set_option linter.unusedVariables false

section
variable {w : World} {ops : Array Oper} {rest : List Oper} {o : Oper} {a : Act} {Q : Exit → Act → World → Prop}
theorem run_none (w : World) : (Instr.buildSlice 64 0 #[]).run Tryd.prog w = .ok (.slice (some ⟨w.heap.size, 0, none⟩) 0 0) (w.alloc (.cells #[] 95)) := by
  obtain ⟨i0, hi, hz0, hz1, hz2⟩ := info_parts info_digit
  simp [Instr.buildSlice, run_underlying Tryd.underlying64, sizeOf, typeInfo, hi, newRow, Instr.fill]
  rw [show (Array.range 0 : Array Nat) = #[] from Array.eq_empty_of_size_eq_zero (by simp), Array.map_empty]
/-- An empty literal of digits: a new block without cells. -/
theorem wp_none (hg : o.guard = none) (ho : o.op = .buildSlice 64 0 #[])
    (h : ∀ w', Seg w' w.heap.size [] [] [] → Below w.heap.size w w' → wpList Tryd.prog ops Q rest (a.put o.dst (.slice (some ⟨w.heap.size, 0, none⟩) 0 0)) w') :
    wpList Tryd.prog ops Q (o :: rest) a w := by
  refine wpList_plain hg fun K hK => ?_
  unfold Oper.wp execOp
  simp only [ho, Sem.run_bind, Array.map_empty, run_none w, Result.andThen_ok]
  refine hK _ _ (h _ ?_ ((Below.refl _ _).alloc (Nat.le_refl _) _))
  unfold Seg
  rw [heap_alloc_new]
  simp [U]
end
theorem Num.cut {w : World} {A : Option Addr} {n c : Nat} {xs : List Nat} (h : Num w (.slice A n c) xs) (k : Nat) (hk : k ≤ n) : Num w (.slice A k c) (xs.take k) := by
  obtain ⟨A', c', e, ⟨hc, hn⟩, hm, hs, hr⟩ := h
  simp only [Value.slice.injEq] at e
  obtain ⟨rfl, rfl, rfl⟩ := e
  have hl : (xs.take k).length = k := by rw [List.length_take, Nat.min_eq_left hk]
  refine ⟨A, c, by rw [hl], ⟨by omega, hn⟩, hm, hs.take k, fun hp => ?_⟩
  obtain ⟨b, off, e, hb, hcell⟩ := hr (by omega)
  refine ⟨b, off, e, hb, fun j hj => ?_⟩
  rw [hcell j (by omega), getD_take _ _ _ (by omega)]
theorem Own.empty {w w' : World} (h : Seg w' w.heap.size [] [] []) : Own w.heap.size w' (.slice (some ⟨w.heap.size, 0, none⟩) 0 0) [] :=
  ⟨Small.nil, .inr ⟨w.heap.size, [], rfl, Nat.le_refl _, by unfold maxLen; simp, h⟩⟩
set_option maxHeartbeats 1000000 in
theorem natNorm_c (w : World) (v : Value) (xs : List Nat) (h : Num w v xs) (hz : xs.length ≤ 8796093022208) :
    Calls Tryd.prog 64 #[v] w (RNat w (val xs)) := by
  obtain ⟨A, c, rfl⟩ := h.form
  have hbd := h.bounds.2
  have hs := h.small
  have hlen : (xs.length : Int) ≤ 9223372036854775807 := by omega
  go_enter Tryd.func64, Tryd.ntmps64
  go_wp2_with fail
  go_loop [3] (fun i => ∃ k : Nat, k ≤ xs.length ∧ i = .int .i64 k ∧ (∀ j, k ≤ j → j < xs.length → xs.getD j 0 = 0)) (fun i => (intOf i).toNat)
  case atStart => exact ⟨xs.length, Nat.le_refl _, rfl, fun j h1 h2 => by omega⟩
  case round =>
    obtain ⟨k, hk, rfl, hzz⟩ := hrel
    by_cases h0 : k = 0
    · subst h0
      have H := take_trim xs 0 hs (by omega) (fun j _ h2 => hzz j (by omega) h2) (.inl rfl)
      have HA := fun w' (hB : Below w.heap.size w w') => Num.cut (h.below hB) 0 (Nat.zero_le _)
      rw [H] at HA
      have HD := Lib.hid (show (dg (val xs)).length ≤ 8796093022208 by rw [← H]; simp)
      have HAH := Lib.hid HA
      clear hzz H HA
      cases A <;>
      · go_wp2_with (first | (with_reducible refine wp_none rfl rfl ?_; intro w1 hS hB1) | (at_builtin; refine wp_append rfl _ _ rfl w.heap.size _ [] rfl (Own.empty hS) _ (dg (val xs)) rfl (HAH.out _ hB1) (by have := HD.out; simp; omega) hB1.size ?_; intro v' w' hv' hg' _))
        go_ret
        exact ⟨_, rfl, by simpa using hv', below_grownQ hB1 hg' (Nat.le_refl _)⟩
    · obtain ⟨b, off, rfl, hb, hcell⟩ := h.cells (by omega)
      have hc1 := hcell (k - 1) (by omega)
      have hk0 : (0 : Int) < k := by omega
      obtain ⟨d, hdd⟩ : ∃ d, xs.getD (k - 1) 0 = d := ⟨_, rfl⟩
      rw [hdd] at hc1
      have HD := Lib.hid hdd
      have HZ := Lib.hid hzz
      clear hdd hzz hcell
      by_cases hd : d = 0
      · subst hd
        go_wp2_with fail
        go_round
        case rel =>
          refine ⟨k - 1, by omega, by go_num, fun j h1 h2 => ?_⟩
          by_cases hj : j = k - 1
          · rw [hj]; exact HD.out
          · exact HZ.out j (by omega) h2
        case measure => simp [intOf]; omega
      · have H := take_trim xs k hs hk HZ.out (.inr (by rw [HD.out]; exact hd))
        have HA := fun w' (hB : Below w.heap.size w w') => Num.cut (h.below hB) k hk
        rw [H] at HA
        have HL := Lib.hid (show (dg (val xs)).length ≤ 8796093022208 by rw [← H, List.length_take]; omega)
        have HAH := Lib.hid HA
        clear H HA
        go_wp2_with (first | (with_reducible refine wp_none rfl rfl ?_; intro w1 hS hB1) | (at_builtin; refine wp_append rfl _ _ rfl w.heap.size _ [] rfl (Own.empty hS) _ (dg (val xs)) rfl (HAH.out _ hB1) (by have := HL.out; simp; omega) hB1.size ?_; intro v' w' hv' hg' _))
        go_ret
        exact ⟨_, rfl, by simpa using hv', below_grownQ hB1 hg' (Nat.le_refl _)⟩
set_option maxHeartbeats 400000 in
theorem natOf_c (w : World) (n : Nat) (hn : n < 18446744073709551616) :
    Calls Tryd.prog 54 #[.int .u64 (n : Int)] w (RNat w n) := by
  have H := Own.fresh w (n % 4294967296) (n / 4294967296) ((n : Int) % 4294967296) ((n : Int) / 4294967296) (Nat.mod_lt _ (by omega)) (by omega) (by omega) (by omega)
  have hv : val [n % 4294967296, n / 4294967296] = n := by simp [val]; omega
  have TC := natNorm_c _ _ _ H.num (by simp)
  rw [hv] at TC
  have HT := Lib.hid TC
  clear H hv TC
  go_enter Tryd.func54, Tryd.ntmps54
  go_wp2_with fail
  refine (HT.out).mono ?_
  rintro e w' ⟨r, rfl, hO, hB⟩
  go_wp2_with fail
  go_ret
  have hsz : w.heap.size ≤ (w.alloc (.cells #[.int .u32 ((n : Int) % 4294967296), .int .u32 ((n : Int) / 4294967296)] 95)).heap.size := by show _ ≤ (Array.push _ _).size; simp
  exact ⟨_, rfl, hO.mono hsz, ((Below.refl _ _).alloc (Nat.le_refl _) _).trans (hB.mono hsz)⟩
namespace Dig
end Dig

end Go.Proofs.YtpbkmkcfhkdjjaaDoor

namespace Go.Proofs.YtpbkmkcfhkdjjaaDoor
open Go.RowKit Dig
set_option linter.unusedVariables false

def RInt (w : World) (z : Int) (e : Ending) (w' : World) : Prop := e = .returned (.int .i64 z) ∧ Below w.heap.size w w'
section
variable (w : World) (va vb : Value) (xs ys : List Nat) (ha : Num w va xs) (hb : Num w vb ys) (hza : xs.length ≤ 8796093022208) (hzb : ys.length ≤ 8796093022208)
include ha hb hza hzb

set_option maxHeartbeats 1000000 in
theorem natCmp_ne (hl : (dg (val xs)).length ≠ (dg (val ys)).length) :
    Calls Tryd.prog 53 #[va, vb] w (RInt w (cmpI (val xs) (val ys))) := by
  have Na := Lib.hid (natNorm_c w va xs ha hza)
  have Nb := Lib.hid (fun w1 hB => natNorm_c w1 vb ys (hb.below hB) hzb)
  have C : cmpI (val xs) (val ys) = if (dg (val xs)).length < (dg (val ys)).length then -1 else 1 := by
    split
    · next h => rw [cmpI_lt (lt_of_dg_length h)]
    · next h => rw [cmpI_gt (lt_of_dg_length (by omega))]
  have HC := Lib.hid C
  clear C
  go_enter Tryd.func53, Tryd.ntmps53
  go_wp2_with fail
  refine (Na.out).mono ?_
  rintro e w1 ⟨r, rfl, hO, hB⟩
  go_wp2_with fail
  refine (Nb.out w1 hB).mono ?_
  rintro e w2 ⟨s, rfl, hO2, hB2⟩
  have HB := Lib.hid (below_then hB hB2)
  obtain ⟨A, c, rfl⟩ := hO.num.form
  obtain ⟨A', c', rfl⟩ := hO2.num.form
  clear hO hO2 hB hB2
  generalize (dg (val xs)).length = m at *
  generalize (dg (val ys)).length = n at *
  have hne : ((m : Int) != (n : Int)) = true := by rw [bne_iff_ne]; omega
  by_cases hmn : m < n
  · have h2 : (m : Int) < n := by omega
    go_wp2_with fail
    go_ret
    exact ⟨ret_eq (show Value.int .i64 (-1) = _ by rw [HC.out, if_pos hmn]), HB.out⟩
  · have h2 : ¬ (m : Int) < n := by omega
    go_wp2_with fail
    go_ret
    exact ⟨ret_eq (show Value.int .i64 1 = _ by rw [HC.out, if_neg hmn]), HB.out⟩
set_option maxHeartbeats 2000000 in
theorem natCmp_eq (hl : (dg (val xs)).length = (dg (val ys)).length) :
    Calls Tryd.prog 53 #[va, vb] w (RInt w (cmpI (val xs) (val ys))) := by
  have Na := natNorm_c w va xs ha hza
  have Nb := fun w1 hB => natNorm_c w1 vb ys (Num.below (w' := w1) hb hB) hzb
  have hva := val_dg (val xs)
  have hvb := val_dg (val ys)
  have sa := small_dg (val xs)
  have sb := small_dg (val ys)
  unfold RNat at Na Nb
  generalize dg (val xs) = X at *
  generalize dg (val ys) = Y at *
  have HNa := Lib.hid Na
  have HNb := Lib.hid Nb
  clear Na Nb
  obtain ⟨m, hm⟩ : ∃ m, X.length = m := ⟨_, rfl⟩
  rw [hm] at hl
  rw [← hva, ← hvb]
  have HM := Lib.hid hm
  have HL := Lib.hid hl
  clear hva hvb
  go_enter Tryd.func53, Tryd.ntmps53
  go_wp2_with fail
  refine (HNa.out).mono ?_
  rintro e w1 ⟨r, rfl, hO, hB⟩
  go_wp2_with fail
  refine (HNb.out w1 hB).mono ?_
  rintro e w2 ⟨s, rfl, hO2, hB2⟩
  have HB := Lib.hid (below_then hB hB2)
  have hA := hO.num.below hB2
  have hA' := hO2.num
  obtain ⟨A, c, rfl⟩ := hA.form
  obtain ⟨A', c', rfl⟩ := hA'.form
  have hmx := hA.bounds.2.2
  have hmy := hA.bounds.2.1
  clear hO hO2 hB hB2
  rw [hm] at hA hmy ⊢
  rw [← hl] at hA' ⊢
  have hmc : (m : Int) ≤ 9223372036854775807 := by omega
  clear hm hl
  go_wp2_with fail
  go_loopw [7] (fun i wr => ∃ k N : Nat, k ≤ m ∧ i = .int .i64 ((k : Int) - 1) ∧ wr = w2.drewN N ∧ ∀ j, k ≤ j → j < m → X.getD j 0 = Y.getD j 0) (fun i _ => (intOf i + 1).toNat)
  case atStart => exact ⟨m, 0, Nat.le_refl _, rfl, rfl, fun j h1 h2 => by omega⟩
  case round =>
    obtain ⟨k, N, hk, rfl, rfl, he⟩ := hrel
    rcases Nat.eq_zero_or_pos k with h0 | h0
    · subst h0
      have E : X = Y := ext_getD (by rw [HM.out]; exact HL.out) (fun j hj => he j (by omega) (by rw [HM.out] at hj; exact hj))
      have EE := Lib.hid E
      clear E he
      go_wp2_with fail
      go_ret
      exact ⟨ret_eq (show Value.int .i64 0 = _ by rw [EE.out, cmpI_eq]), below_drewN HB.out _⟩
    · obtain ⟨b, off, rfl, hb1, cellx⟩ := hA.cells (by omega)
      obtain ⟨b', off', rfl, hb2, celly⟩ := hA'.cells (by omega)
      have cx := cellx (k - 1) (by omega)
      have cy := celly (k - 1) (by omega)
      clear cellx celly
      generalize hx : X.getD (k - 1) 0 = x at cx
      generalize hy : Y.getD (k - 1) 0 = y at cy
      have HX := Lib.hid hx
      have HY := Lib.hid hy
      have HEE := Lib.hid he
      clear hx hy he
      have k1 : (0 : Int) < k := by omega
      rcases Nat.lt_trichotomy x y with hxy | hxy | hxy
      · have hne : (x : Int) < (y : Int) := by omega
        have E := Lib.hid (cmpI_lt (lt_of_digit X Y sa (k - 1) (by rw [HM.out]; exact HL.out) (by rw [HM.out]; omega) (fun j h1 h2 => HEE.out j (by omega) (by rw [HM.out] at h2; exact h2)) (by rw [HX.out, HY.out]; exact hxy)))
        go_wp2_with fail
        go_quiet (fail)
        go_wp2_with fail
        go_ret
        exact ⟨ret_eq (show Value.int .i64 (-1) = _ by rw [E.out]), below_drewN (below_drewN HB.out _) _⟩
      · subst hxy
        go_wp2_with fail
        go_quiet (fail)
        go_wp2_with fail
        go_quiet (fail)
        go_wp2_with fail
        go_roundw
        case rel =>
          refine ⟨k - 1, _, by omega, by go_num, rfl, fun j h1 h2 => ?_⟩
          by_cases hj : j = k - 1
          · rw [hj, HX.out, HY.out]
          · exact HEE.out j (by omega) h2
        case measure => simp [intOf]; omega
      · have hne : ¬ (x : Int) < (y : Int) := by omega
        have hnl : (y : Int) < (x : Int) := by omega
        have E := Lib.hid (cmpI_gt (lt_of_digit Y X sb (k - 1) (by rw [HM.out]; exact HL.out.symm) (by rw [← HL.out]; omega) (fun j h1 h2 => (HEE.out j (by omega) (by rw [← HL.out] at h2; exact h2)).symm) (by rw [HX.out, HY.out]; exact hxy)))
        go_wp2_with fail
        go_quiet (fail)
        go_wp2_with fail
        go_quiet (fail)
        go_wp2_with fail
        go_ret
        exact ⟨ret_eq (show Value.int .i64 1 = _ by rw [E.out]), below_drewN (below_drewN (below_drewN HB.out _) _) _⟩
theorem natCmp_c : Calls Tryd.prog 53 #[va, vb] w (RInt w (cmpI (val xs) (val ys))) := by
  by_cases hl : (dg (val xs)).length = (dg (val ys)).length
  · exact natCmp_eq w va vb xs ys ha hb hza hzb hl
  · exact natCmp_ne w va vb xs ys ha hb hza hzb hl
end
end Go.Proofs.YtpbkmkcfhkdjjaaDoor

namespace Go.Proofs.YtpbkmkcfhkdjjaaDoor
open Go.RowKit Dig
set_option linter.unusedVariables false

/-- What is owned is a segment at the head of a block, or has no digits. -/
theorem Own.seg {base : Nat} {w : World} {A : Option Addr} {n c : Nat} {xs : List Nat} (h : Own base w (.slice A n c) xs) (h0 : 0 < n) :
    ∃ g rest, A = some ⟨g, 0, none⟩ ∧ n = xs.length ∧ c = n + rest.length ∧ base ≤ g ∧ c ≤ 9223372036854775807 ∧ Seg w g [] xs rest := by
  obtain ⟨hs, h⟩ := h
  rcases h with ⟨e, _⟩ | ⟨g, rest, e, hg, hm, hh⟩
  · simp only [Value.slice.injEq] at e; omega
  · simp only [Value.slice.injEq] at e
    obtain ⟨rfl, rfl, rfl⟩ := e
    exact ⟨g, rest, rfl, rfl, rfl, hg, by unfold maxLen at hm; omega, hh⟩
theorem Own.put0 {base : Nat} {w : World} {g n c : Nat} {xs : List Nat} (h : Own base w (.slice (some ⟨g, 0, none⟩) n c) xs) (hn : xs.length = n) (k d : Nat) (v : Int) (hk : k < n) (hv : v = (d : Int)) (hd : d < 4294967296) :
    Own base (w.setCell ⟨g, k, none⟩ (.int .u32 v)) (.slice (some ⟨g, 0, none⟩) n c) (xs.set k d) := by
  obtain ⟨g', rest, e, h1, h2, h3, h4, h5⟩ := h.seg (by omega)
  simp only [Option.some.injEq, Addr.mk.injEq, and_true] at e
  subst e
  refine ⟨h.small.set k d hd, .inr ⟨g, rest, ?_, h3, ?_, h5.put0 k d v (by omega) hv⟩⟩
  · rw [List.length_set, h2, hn]
  · rw [List.length_set, hn]; unfold maxLen; omega
section
variable (w : World) (va vb : Value) (xs ys : List Nat) (ha : Num w va xs) (hb : Num w vb ys) (hza : xs.length ≤ 4398046511104) (hzb : ys.length ≤ 4398046511104)
include ha hb hza hzb

set_option maxHeartbeats 4000000 in
theorem natSub_ge (h : val ys ≤ val xs) : Calls Tryd.prog 109 #[va, vb] w fun e w' => ∃ r, e = .returned (.tuple #[r, .bool true]) ∧ Own w.heap.size w' r (dg (val xs - val ys)) ∧ Below w.heap.size w w' := by
  have C := natCmp_c w va vb xs ys ha hb (by omega) (by omega)
  obtain ⟨hc0, hc1⟩ : 0 ≤ cmpI (val xs) (val ys) ∧ cmpI (val xs) (val ys) ≤ 1 := by
    rcases Nat.lt_or_ge (val ys) (val xs) with h1 | h1
    · rw [cmpI_gt h1]; omega
    · rw [show val xs = val ys by omega, cmpI_eq]; omega
  have HC := Lib.hid C
  have Na := Lib.hid (fun w1 hB => natNorm_c w1 va xs (Num.below (w' := w1) ha hB) (by omega))
  have Nb := Lib.hid (fun w1 hB => natNorm_c w1 vb ys (Num.below (w' := w1) hb hB) (by omega))
  have hva := Lib.hid (val_dg (val xs))
  have hvb := Lib.hid (val_dg (val ys))
  have hla := dg_length_val xs ha.small
  have hlb := dg_length_val ys hb.small
  have hle := dg_length_mono h
  have HH := Lib.hid h
  generalize cmpI (val xs) (val ys) = cz at *
  clear C h
  go_enter Tryd.func109, Tryd.ntmps109
  go_wp2_with fail
  refine (HC.out).mono ?_
  rintro e w0 ⟨rfl, hB0⟩
  go_wp2_with fail
  refine (Na.out w0 hB0).mono ?_
  rintro e w1 ⟨x, rfl, hO1, hB1⟩
  have hB01 := below_then hB0 hB1
  go_wp2_with fail
  refine (Nb.out w1 hB01).mono ?_
  rintro e w2 ⟨y, rfl, hO2, hB2⟩
  have hX := (hO1.below hB2 (Nat.le_refl _)).mono hB0.size
  have hb02 := below_then hB01 hB2
  have hsy := hO2.num
  have hY := hO2.mono hB01.size
  obtain ⟨A, c, rfl⟩ := hX.num.form
  obtain ⟨A', c', rfl⟩ := hY.num.form
  have hbx := hX.num.bounds.2
  have hby := hY.num.bounds.2
  have hsx := hX.small
  -- the block of y is not the block of x
  have hfar : ∀ g, A = some ⟨g, 0, none⟩ → 0 < (dg (val ys)).length → (Value.slice A' (dg (val ys)).length c').ownBlock ≠ some g := by
    intro g hA hp e
    obtain ⟨g2, rest2, hA2, _, _, hg2, _⟩ := hO2.seg hp
    subst hA2
    simp only [Value.ownBlock, Option.some.injEq] at e
    obtain ⟨g3, r3, hA3, _, _, _, _, hs3⟩ := hO1.seg (by omega)
    rw [hA] at hA3
    simp only [Option.some.injEq, Addr.mk.injEq, and_true] at hA3
    have := hs3.lt
    omega
  generalize hXX : dg (val xs) = X at *
  generalize hYY : dg (val ys) = Y at *
  have HXX := Lib.hid hXX
  have HYY := Lib.hid hYY
  clear hXX hYY hO1 hO2 hB0 hB1 hB01 hB2
  have HFAR := Lib.hid hfar
  clear hfar
  have hlen : (X.length : Int) ≤ 4398046511104 := by omega
  go_wp2_with fail
  go_loopw [8, 9, 10] (fun cy i _ wr => ∃ (k q : Nat) (zs : List Nat), k ≤ X.length ∧ i = .int .i64 k ∧ cy = .int .u64 q ∧ SubRel X Y zs k q ∧ Own w.heap.size wr (.slice A X.length c) zs ∧ Num wr (.slice A' Y.length c') Y ∧ Below w.heap.size w wr) (fun _ i _ _ => X.length - (intOf i).toNat)
  case atStart => exact ⟨0, 0, X, Nat.zero_le _, rfl, rfl, SubRel.start X Y hsx, hX, hsy, hb02⟩
  case round =>
    clear hX hsy hb02
    obtain ⟨k, q, zs, hk, rfl, rfl, hr, hO, hN, hBw⟩ := hrel
    have hq := hr.2.2.2.2
    have hzl := hr.1
    by_cases hlt : k < X.length
    · obtain ⟨g, rest, rfl, _, rfl, hg, hcm, hseg⟩ := hO.seg (by omega)
      have hfx := hseg.frozen k
      have hcx := hseg.cell0 (j := k) (by omega)
      have bx := hr.2.1.get k
      generalize hxx : zs.getD k 0 = x at hcx bx
      have hki : (k : Int) < X.length := by omega
      have hqi : (q : Int) ≤ 1 := by omega
      have HNF := Lib.hid (fun (v : Value) => Num.far (w' := wr.setCell ⟨g, k, none⟩ v) hN (grown_set (World.grownBy.refl wr _) k v) (HFAR.out g rfl))
      have HBW := Lib.hid (fun (v : Value) => hBw.setCell (p := ⟨g, k, none⟩) hg v)
      have HO := Lib.hid (fun d v hv hd => hO.put0 hzl k d v hlt hv hd)
      have HX := Lib.hid hxx
      rcases Nat.lt_or_ge k Y.length with hky | hky
      · obtain ⟨b, off, rfl, hbb, hall⟩ := hN.cells (by omega)
        have hcy := hall k hky
        have by' := hN.small.get k
        clear hall
        generalize hyy : Y.getD k 0 = y at hcy by'
        have hkyi : (k : Int) < Y.length := by omega
        rcases Nat.lt_or_ge x (q + y) with hlo | hlo
        · have HR := Lib.hid (hr.step (d := x + 4294967296 - (q + y)) (b := 1) (by omega) hxx hyy (by omega) (by omega) (by omega))
          have hloi : (x : Int) < (q : Int) + (y : Int) := by omega
          have hd := Lib.hid (show x + 4294967296 - (q + y) < 4294967296 by omega)
          have hv := Lib.hid (show (x : Int) + 4294967296 - ((q : Int) + (y : Int)) = ((x + 4294967296 - (q + y) : Nat) : Int) by omega)
          clear hr hO hN hBw hseg hxx hyy hlo hq hzl hbx hby hc0 hc1 hle hlen hla hlb hza hzb
          go_wp2_with fail
          go_roundw
          case rel => exact ⟨k + 1, 1, _, by omega, by go_num, rfl, HR.out, HO.out _ _ hv.out hd.out, HNF.out _, HBW.out _⟩
          case measure => simp [intOf]; omega
        · have HR := Lib.hid (hr.step (d := x - (q + y)) (b := 0) (by omega) hxx hyy (by omega) (by omega) (by omega))
          have hloi : ¬ (x : Int) < (q : Int) + (y : Int) := by omega
          have hd := Lib.hid (show x - (q + y) < 4294967296 by omega)
          have hv := Lib.hid (show (x : Int) - ((q : Int) + (y : Int)) = ((x - (q + y) : Nat) : Int) by omega)
          clear hr hO hN hBw hseg hxx hyy hlo hq hzl hbx hby hc0 hc1 hle hlen hla hlb hza hzb
          go_wp2_with fail
          go_roundw
          case rel => exact ⟨k + 1, 0, _, by omega, by go_num, rfl, HR.out, HO.out _ _ hv.out hd.out, HNF.out _, HBW.out _⟩
          case measure => simp [intOf]; omega
      · have hyy : Y.getD k 0 = 0 := by rw [List.getD_eq_getElem?_getD, List.getElem?_eq_none hky]; rfl
        have hkyi : ¬ (k : Int) < Y.length := by omega
        rcases Nat.lt_or_ge x q with hlo | hlo
        · have HR := Lib.hid (hr.step (d := x + 4294967296 - q) (b := 1) (by omega) hxx hyy (by omega) (by omega) (by omega))
          have hloi : (x : Int) < (q : Int) := by omega
          have hd := Lib.hid (show x + 4294967296 - q < 4294967296 by omega)
          have hv := Lib.hid (show (x : Int) + 4294967296 - (q : Int) = ((x + 4294967296 - q : Nat) : Int) by omega)
          clear hr hO hN hBw hseg hxx hyy hlo hq hzl hbx hby hc0 hc1 hle hlen hla hlb hza hzb
          go_wp2_with fail
          go_roundw
          case rel => exact ⟨k + 1, 1, _, by omega, by go_num, rfl, HR.out, HO.out _ _ hv.out hd.out, HNF.out _, HBW.out _⟩
          case measure => simp [intOf]; omega
        · have HR := Lib.hid (hr.step (d := x - q) (b := 0) (by omega) hxx hyy (by omega) (by omega) (by omega))
          have hloi : ¬ (x : Int) < (q : Int) := by omega
          have hd := Lib.hid (show x - q < 4294967296 by omega)
          have hv := Lib.hid (show (x : Int) - (q : Int) = ((x - q : Nat) : Int) by omega)
          clear hr hO hN hBw hseg hxx hyy hlo hq hzl hbx hby hc0 hc1 hle hlen hla hlb hza hzb
          go_wp2_with fail
          go_roundw
          case rel => exact ⟨k + 1, 0, _, by omega, by go_num, rfl, HR.out, HO.out _ _ hv.out hd.out, HNF.out _, HBW.out _⟩
          case measure => simp [intOf]; omega
    · have hke : k = X.length := by omega
      subst hke
      have hle' := HH.out
      have hq0 : q = 0 := by
        rcases Nat.eq_zero_or_pos q with h | h
        · exact h
        · have h2 := hr.more (Nat.le_refl _) hle (by rw [hva.out, hvb.out]; exact hle') (by omega)
          omega
      subst hq0
      have hd := hr.done (Nat.le_refl _) hle
      rw [hva.out, hvb.out] at hd
      have NN := natNorm_c wr _ zs hO.num (by omega)
      rw [show val zs = val xs - val ys by omega] at NN
      have HN := Lib.hid NN
      have hsz := hBw.size
      clear hr NN hd hle' hle hq hzl hbx hby hc0 hc1 hla hlb hza hzb
      go_wp2_with fail
      refine (HN.out).mono ?_
      rintro e w3 ⟨r, rfl, hO3, hB3⟩
      go_wp2_with fail
      go_ret2
      exact ⟨_, rfl, hO3.mono hsz, below_then hBw hB3⟩
end
end Go.Proofs.YtpbkmkcfhkdjjaaDoor

namespace Go.Proofs.YtpbkmkcfhkdjjaaDoor
open Go.RowKit Dig
set_option linter.unusedVariables false

namespace Dig
/-- zs holds the first k digits of a number whose rest is c, as the equation S says. -/
def AppRel (S : Nat → Nat → Nat → Prop) (zs : List Nat) (k c : Nat) : Prop := zs.length = k ∧ Small zs ∧ S k (val zs) c
def AddEq (xs ys : List Nat) (k v c : Nat) : Prop := v + 4294967296 ^ k * c = val (xs.take k) + val (ys.take k) ∧ c ≤ 1
def DblEq (xs : List Nat) (b k v c : Nat) : Prop := v + 4294967296 ^ k * c = 2 * val (xs.take k) + b ∧ c ≤ 1
theorem Small.snoc {zs : List Nat} (h : Small zs) {d : Nat} (hd : d < 4294967296) : Small (zs ++ [d]) := by
  intro x hx
  rcases List.mem_append.1 hx with h1 | h1
  · exact h x h1
  · simp at h1; omega
theorem val_snoc (zs : List Nat) (d : Nat) : val (zs ++ [d]) = val zs + 4294967296 ^ zs.length * d := by
  rw [val_append]
  simp [val]
theorem AddEq.step {xs ys zs : List Nat} {k c x y : Nat} (h : AppRel (AddEq xs ys) zs k c) (hx : xs.getD k 0 = x) (hy : ys.getD k 0 = y) (hxb : x < 4294967296) (hyb : y < 4294967296) :
    AppRel (AddEq xs ys) (zs ++ [(c + x + y) % 4294967296]) (k + 1) ((c + x + y) / 4294967296) := by
  obtain ⟨hl, hs, he, hc⟩ := h
  refine ⟨by simp [hl], hs.snoc (Nat.mod_lt _ (by omega)), ?_, by omega⟩
  rw [val_snoc, hl, take_all_getD, take_all_getD, hx, hy, Nat.pow_succ, Nat.mul_assoc]
  have e : (c + x + y) % 4294967296 + 4294967296 * ((c + x + y) / 4294967296) = c + x + y := Nat.mod_add_div _ _
  have e2 : 4294967296 ^ k * ((c + x + y) % 4294967296) + 4294967296 ^ k * (4294967296 * ((c + x + y) / 4294967296)) = 4294967296 ^ k * (c + x + y) := by rw [← Nat.mul_add, e]
  rw [Nat.mul_add, Nat.mul_add] at e2
  omega
theorem DblEq.step {xs zs : List Nat} {b k c x : Nat} (h : AppRel (DblEq xs b) zs k c) (hx : xs.getD k 0 = x) (hxb : x < 4294967296) :
    AppRel (DblEq xs b) (zs ++ [x * 2 % 4294967296 + c]) (k + 1) (x / 2147483648) := by
  obtain ⟨hl, hs, he, hc⟩ := h
  refine ⟨by simp [hl], hs.snoc (by omega), ?_, by omega⟩
  rw [val_snoc, hl, take_all_getD, hx, Nat.pow_succ, Nat.mul_assoc]
  have e : x * 2 % 4294967296 + c + 4294967296 * (x / 2147483648) = 2 * x + c := by omega
  have e2 : 4294967296 ^ k * (x * 2 % 4294967296 + c) + 4294967296 ^ k * (4294967296 * (x / 2147483648)) = 4294967296 ^ k * (2 * x + c) := by rw [← Nat.mul_add, e]
  rw [Nat.mul_add (4294967296 ^ k) (2 * x) c] at e2
  have e3 : 4294967296 ^ k * (2 * x) = 2 * (4294967296 ^ k * x) := by rw [Nat.mul_left_comm]
  omega
end Dig
theorem or_bit (x b : Nat) (hx : x < 4294967296) (hb : b ≤ 1) : bits .or .u32 ((x * 2 % 4294967296 : Nat) : Int) (b : Int) = ((x * 2 % 4294967296 + b : Nat) : Int) := by
  have h := u32_or_nat (x * 2 % 4294967296) b (by omega) (by omega)
  rw [h]
  congr 1
  have := Nat.shiftLeft_add_eq_or_of_lt (i := 1) (b := b) (by omega) (x % 2147483648)
  rw [Nat.shiftLeft_eq] at this
  rw [show x * 2 % 4294967296 = x % 2147483648 * 2 ^ 1 by omega]
  exact this.symm
set_option maxHeartbeats 2000000 in
theorem double_c (w : World) (va : Value) (xs : List Nat) (b0 : Nat) (ha : Num w va xs) (hza : xs.length ≤ 4398046511104) (hb0 : b0 ≤ 1) :
    Calls Tryd.prog 110 #[va, .int .u32 (b0 : Int)] w (RNat w (2 * val xs + b0)) := by
  obtain ⟨A, c, rfl⟩ := ha.form
  have hba := ha.bounds.2
  have hla : (xs.length : Int) ≤ 4398046511104 := by omega
  have hbi : (b0 : Int) ≤ 1 := by omega
  go_enter Tryd.func110, Tryd.ntmps110
  go_wp2_with fail
  go_loopw [1, 5, 6] (fun bt out i wr => ∃ (k q : Nat) (zs : List Nat), k ≤ xs.length ∧ i = .int .i64 k ∧ bt = .int .u32 q ∧ AppRel (DblEq xs b0) zs k q ∧ Own w.heap.size wr out zs ∧ Below w.heap.size w wr) (fun _ _ i _ => xs.length - (intOf i).toNat)
  case atStart => exact ⟨0, b0, [], Nat.zero_le _, rfl, rfl, ⟨rfl, Small.nil, by simp [DblEq, val]; omega⟩, Own.nil _ _, Below.refl _ _⟩
  case round =>
    obtain ⟨k, q, zs, hk, rfl, rfl, hr, hO, hB⟩ := hrel
    have hq := hr.2.2.2
    have hzl := hr.1
    have hki : (k : Int) ≤ 4398046511104 := by omega
    have hqi : (q : Int) ≤ 1 := by omega
    have bx := ha.small.get k
    by_cases h1 : k < xs.length
    · obtain ⟨b, off, rfl, hbw, hall⟩ := ha.cells (by omega)
      have hcw := hall k h1
      clear hall
      generalize hxx : xs.getD k 0 = x at hcw bx
      have CELL := Lib.hid (fun w' (hB' : Below w.heap.size w w') => (hB'.cell (p := ⟨b, off + k, none⟩) hbw).trans hcw)
      have hcx := CELL.out wr hB
      clear hcw
      have h1i : (k : Int) < xs.length := by omega
      have HR := Lib.hid (DblEq.step hr hxx bx)
      have hor : bits .or .u32 ((x : Int) * 2 % 4294967296) (q : Int) = ((x * 2 % 4294967296 + q : Nat) : Int) := or_bit x q bx hq
      have HN := Lib.hid (Num.one wr (x * 2 % 4294967296 + q) (bits .or .u32 ((x : Int) * 2 % 4294967296) (q : Int)) (by omega) hor)
      have HOA := Lib.hid (hO.alloc (.cells #[.int .u32 (bits .or .u32 ((x : Int) * 2 % 4294967296) (q : Int))] 95))
      have HOO := Lib.hid hO
      have HBB := Lib.hid hB
      have HZL := Lib.hid (show zs.length ≤ 4398046511104 by omega)
      have HC := Lib.hid (show (x : Int) / 2147483648 = ((x / 2147483648 : Nat) : Int) by omega)
      clear hr hxx hq hzl hk h1 hO hB hor
      go_wp2_with (at_builtin; refine wp_append rfl _ _ rfl w.heap.size u5 zs rfl HOA.out (.slice (some ⟨wr.heap.size, 0, none⟩) 1 1) [x * 2 % 4294967296 + q] rfl HN.out (by have := HZL.out; simp; omega) (by have := HBB.out.size; simp; omega) ?_; intro v' w' hv' hg' _; have hB3 := below_ownQ HBB.out (grown_after_alloc hg') HOO.out (Nat.le_refl _); have hcx2 := CELL.out w' hB3)
      go_roundw
      case rel => exact ⟨k + 1, x / 2147483648, _, by omega, by go_num, congrArg (Value.int .u32) HC.out, HR.out, hv', hB3⟩
      case measure => simp [intOf]; omega
    · have h1i : ¬ (k : Int) < xs.length := by omega
      have HN := Lib.hid (Num.one wr q (q : Int) (by omega) rfl)
      have HOA := Lib.hid (hO.alloc (.cells #[.int .u32 (q : Int)] 95))
      have HOO := Lib.hid hO
      have HBB := Lib.hid hB
      have HZL := Lib.hid (show zs.length ≤ 4398046511104 by omega)
      have he := hr.2.2.1
      rw [List.take_of_length_le (by omega)] at he
      have HE := Lib.hid (show val (zs ++ [q]) = 2 * val xs + b0 by rw [val_snoc, hzl]; exact he)
      have HS := Lib.hid (show (zs ++ [q]).length ≤ 8796093022208 by simp; omega)
      clear hr hq hzl hk h1 hO hB he
      go_wp2_with (at_builtin; refine wp_append rfl _ _ rfl w.heap.size u5 zs rfl HOA.out (.slice (some ⟨wr.heap.size, 0, none⟩) 1 1) [q] rfl HN.out (by have := HZL.out; simp; omega) (by have := HBB.out.size; simp; omega) ?_; intro v' w' hv' hg' _)
      have NN := natNorm_c w' v' _ hv'.num HS.out
      rw [HE.out] at NN
      have HNN := Lib.hid NN
      have hB3 := below_ownQ HBB.out (grown_after_alloc hg') HOO.out (Nat.le_refl _)
      clear NN
      go_wp2_with fail
      refine (HNN.out).mono ?_
      rintro e w3 ⟨r, rfl, hO3, hB4⟩
      go_wp2_with fail
      go_ret
      exact ⟨_, rfl, hO3.mono hB3.size, below_then hB3 hB4⟩
end Go.Proofs.YtpbkmkcfhkdjjaaDoor

namespace Go.Proofs.YtpbkmkcfhkdjjaaDoor
open Go.RowKit Dig
set_option linter.unusedVariables false

theorem Own.far {base : Nat} {w : World} {v : Value} {xs : List Nat} (h : Own base w v xs) {p : Addr} (hp : p.block < base) (u : Value) : Own base (w.setCell p u) v xs := by
  obtain ⟨hs, h⟩ := h
  refine ⟨hs, ?_⟩
  rcases h with h | ⟨g, rest, e, hg, hm, hh⟩
  · exact .inl h
  · exact .inr ⟨g, rest, e, hg, hm, hh.far (by omega) u⟩
theorem or_shift (d s : Nat) (h : d % 2 ^ (s + 1) = 0) (hs : s < 32) (hd : d < 4294967296) : bits .or .u32 (d : Int) (2 ^ s % 4294967296) = ((d + 2 ^ s : Nat) : Int) := by
  have hp : 2 ^ s < 4294967296 := by
    have : (2 : Nat) ^ s ≤ 2 ^ 31 := Nat.pow_le_pow_right (by omega) (by omega)
    omega
  have h1 := u32_or_nat d (2 ^ s) hd hp
  have e : ((2 ^ s : Nat) : Int) = 2 ^ s % 4294967296 := by
    have e0 : ((2 ^ s : Nat) : Int) = 2 ^ s := by rw [Int.natCast_pow]; rfl
    rw [← e0]
    omega
  rw [e] at h1
  rw [h1, or_low d s h]
theorem and_bit (x s : Nat) (hx : x < 4294967296) : bits .and .u32 ((x : Int) / 2 ^ s) 1 = ((x / 2 ^ s % 2 : Nat) : Int) := by
  have h1 := u32_and_nat (x / 2 ^ s) 1 (Nat.lt_of_le_of_lt (Nat.div_le_self _ _) hx) (by omega)
  have e : ((x / 2 ^ s : Nat) : Int) = (x : Int) / 2 ^ s := by rw [Int.natCast_ediv, Int.natCast_pow]; rfl
  rw [e] at h1
  exact h1.trans (by rw [Nat.and_one_is_mod])
section
variable (w : World) (va vb : Value) (xs ys : List Nat) (ha : Num w va xs) (hb : Num w vb ys) (hza : xs.length ≤ 1099511627776) (hzb : ys.length ≤ 1099511627776)
include ha hb hza hzb

set_option maxHeartbeats 1000000 in
theorem natDiv_zero (h0 : val ys = 0) : Calls Tryd.prog 87 #[va, vb] w fun e w' => e = .returned (.tuple #[.slice none 0 0, .slice none 0 0, .bool false]) ∧ Below w.heap.size w w' := by
  have Na := Lib.hid (natNorm_c w va xs ha (by omega))
  have N2 := fun w1 hB => natNorm_c w1 vb ys (Num.below (w' := w1) hb hB) (by omega)
  rw [h0] at N2
  have Nb := Lib.hid N2
  clear N2
  go_enter Tryd.func87, Tryd.ntmps87
  go_wp2_with fail
  refine (Na.out).mono ?_
  rintro e w1 ⟨x, rfl, hO1, hB1⟩
  go_wp2_with fail
  refine (Nb.out w1 hB1).mono ?_
  rintro e w2 ⟨y, rfl, hO2, hB2⟩
  obtain ⟨A, c, e0⟩ := hO2.num.form
  rw [show (dg 0).length = 0 from rfl] at e0
  subst e0
  have hB := below_then hB1 hB2
  clear hB1 hB2 hO1 hO2
  go_wp2_with fail
  go_ret3
  exact ⟨rfl, hB⟩
set_option maxHeartbeats 8000000 in
theorem natDiv_pos (h0 : 0 < val ys) : Calls Tryd.prog 87 #[va, vb] w (RDiv w (val xs) (val ys)) := by
  have Na := natNorm_c w va xs ha (by omega)
  have Nb := fun w1 hB => natNorm_c w1 vb ys (Num.below (w' := w1) hb hB) (by omega)
  have hla := dg_length_val xs ha.small
  have hlb := dg_length_val ys hb.small
  generalize val xs = a at *
  generalize val ys = b at *
  have HNa := Lib.hid Na
  have HNb := Lib.hid Nb
  clear Na Nb
  obtain ⟨n, hn⟩ : ∃ n, (dg a).length = n := ⟨_, rfl⟩
  obtain ⟨m, hm⟩ : ∃ m, (dg b).length = m := ⟨_, rfl⟩
  have hm0 : 0 < m := by
    rcases Nat.eq_zero_or_pos m with h | h
    · have := dg_len0 (hm.trans h); omega
    · exact h
  have hX := small_dg a
  rw [hn] at hla
  rw [hm] at hlb
  go_enter Tryd.func87, Tryd.ntmps87
  go_wp2_with fail
  refine (HNa.out).mono ?_
  rintro e w1 ⟨x, rfl, hO1, hB1⟩
  go_wp2_with fail
  refine (HNb.out w1 hB1).mono ?_
  rintro e w2 ⟨y, rfl, hO2, hB2⟩
  have hNx := hO1.num.below hB2
  have hNy := hO2.num
  have hB := below_then hB1 hB2
  obtain ⟨A, c, e1⟩ := hNx.form
  rw [hn] at e1
  subst e1
  obtain ⟨A', c', e2⟩ := hNy.form
  rw [hm] at e2
  subst e2
  have HN := Lib.hid hn
  have HM := Lib.hid hm
  have hmi : ((m : Int) == 0) = false := by rw [beq_eq_false_iff_ne]; omega
  have hni : (n : Int) ≤ 1099511627776 := by omega
  clear hO1 hO2 hB1 hB2 hn hm
  go_wp2_with (at_make; refine wp_make rfl _ _ rfl _ _ n rfl rfl rfl rfl (by omega) ?_; intro w3 hS hB3)
  go_loopw [10, 11] (fun r i wr => ∃ (k : Nat) (zs : List Nat), k ≤ 32 * n ∧ i = .int .i64 ((k : Int) - 1) ∧ Own (w2.heap.size + 1) wr r (dg (a / 2 ^ k % b)) ∧ Seg wr w2.heap.size [] zs [] ∧ zs.length = n ∧ Small zs ∧ val zs = 2 ^ k * (a / 2 ^ k / b) ∧ Below w2.heap.size w2 wr) (fun _ i _ => (intOf i + 1).toNat)
  case atStart =>
    have hz : a / 2 ^ (32 * n) = 0 := by
      rw [← pow_base]
      exact Nat.div_eq_of_lt (by have := dg_lt a; rw [HN.out] at this; exact this)
    refine ⟨32 * n, _, Nat.le_refl _, by go_num, ?_, hS, by simp, Small.replicate n, ?_, hB3⟩
    · rw [hz, Nat.zero_mod]; exact Own.nil _ _
    · rw [hz, Nat.zero_div, Nat.mul_zero, val_replicate]
  case round =>
    obtain ⟨k, zs, hk, rfl, hr, hseg, hzl, hzs, hzv, hbel⟩ := hrel
    clear hS hB3
    rcases Nat.eq_zero_or_pos k with hk0 | hk0
    · subst hk0
      rw [Nat.pow_zero, Nat.div_one] at hr hzv
      rw [Nat.one_mul] at hzv
      have hOq := Own.of_seg (base := w.heap.size) (c := n) hseg hzs hzl hB.size (by simp) (by omega)
      have Nq := natNorm_c wr _ _ hOq.num (by omega)
      rw [hzv] at Nq
      have HNq := Lib.hid Nq
      have Nr := fun w1 hB => natNorm_c w1 _ _ (Num.below (w' := w1) hr.num hB) (by
        have h1 := dg_length_mono (Nat.le_of_lt (Nat.mod_lt a h0))
        rw [HM.out] at h1
        omega)
      rw [val_dg] at Nr
      have HNr := Lib.hid Nr
      have hB4 := below_then hB hbel
      clear Nq Nr hr hzv hseg hOq
      go_wp2_with fail
      refine (HNq.out).mono ?_
      rintro e w4 ⟨q, rfl, hO4, hB5⟩
      go_wp2_with fail
      refine (HNr.out w4 hB5).mono ?_
      rintro e w5 ⟨r2, rfl, hO5, hB6⟩
      have hB7 := below_then hB4 hB5
      have hO6 := (hO4.mono hB4.size).below hB6 (Nat.le_refl _)
      go_wp2_with fail
      go_ret3
      exact ⟨_, _, rfl, hO6, hO5.mono hB7.size, below_then hB7 hB6⟩
    · obtain ⟨i, rfl⟩ : ∃ i, k = i + 1 := ⟨k - 1, by omega⟩
      rw [show (((i + 1 : Nat) : Int) - 1) = (i : Int) by omega]
      obtain ⟨j, hj⟩ : ∃ j, i / 32 = j := ⟨_, rfl⟩
      obtain ⟨s, hs⟩ : ∃ s, i % 32 = s := ⟨_, rfl⟩
      have hjn : j < n := by omega
      have hs32 : s < 32 := by omega
      have hdiv : (i : Int) / 32 = (j : Int) := by omega
      have hmod : (i : Int) % 32 = (s : Int) := by omega
      have hX2 := hX
      obtain ⟨bx, off, rfl, hbx, hall⟩ := (hNx.below hbel).cells (by omega)
      have hcx := hall j hjn
      clear hall
      have hbit := bit_of (dg a) hX i (by rw [HN.out]; omega)
      rw [val_dg, hj, hs] at hbit
      have bd := hX.get j
      generalize hdd : (dg a).getD j 0 = d at hcx hbit bd
      have hlow := low_of zs hzs i (by omega) (by rw [hzv]; exact Nat.dvd_mul_right _ _)
      have hvs := val_set_bit zs i (by omega)
      rw [hj, hs] at hlow hvs
      have bz := hzs.get j
      have hds := div_step a b i h0
      have hand := and_bit d s bd
      rw [hbit] at hand
      have hb1 : a / 2 ^ i % 2 ≤ 1 := by have := Nat.mod_lt (a / 2 ^ i) (show 2 > 0 by omega); omega
      generalize a / 2 ^ i % 2 = bb at *
      have hRl : (dg (a / 2 ^ (i + 1) % b)).length ≤ m := by
        have h1 := dg_length_mono (Nat.le_of_lt (Nat.mod_lt (a / 2 ^ (i + 1)) h0))
        rw [HM.out] at h1
        exact h1
      have D := double_c wr _ _ bb hr.num (by omega) hb1
      rw [val_dg] at D
      obtain ⟨R1, hR1⟩ : ∃ R1, 2 * (a / 2 ^ (i + 1) % b) + bb = R1 := ⟨_, rfl⟩
      rw [hR1] at D hds
      have HD := Lib.hid D
      have hR1l : (dg R1).length ≤ m + 1 := by
        have h1 := dg_lt b
        rw [HM.out] at h1
        exact dg_length_le _ _ (by rw [Nat.pow_succ]; omega)
      have HDS := Lib.hid hds
      have hji : (j : Int) < n := by omega
      have hii : (i : Int) < 32 * n := by omega
      have HZV := Lib.hid hzv
      have HVS := Lib.hid hvs
      have HLOW := Lib.hid hlow
      have HZS := Lib.hid hzs
      have HZL := Lib.hid hzl
      have HJ := Lib.hid hj
      have hNy2 := hNy.below hbel
      clear hds D hdd hbit hR1 hRl hzv hvs hlow hj hs hr hX2 hzs hzl
      go_wp2_with fail
      refine (HD.out).mono ?_
      rintro e w4 ⟨r1, rfl, hO4, hB4⟩
      have hNy4 := hNy2.below hB4
      have seg4 := hseg.below hB4 hseg.lt
      have hbel4 := below_then hbel hB4
      have hsz := hseg.lt
      have hO5 := hO4.mono (show w2.heap.size + 1 ≤ wr.heap.size from hsz)
      have C := natCmp_c w4 r1 _ _ _ hO4.num hNy4 (by omega) (by rw [HM.out]; omega)
      rw [val_dg, val_dg] at C
      clear hO4 hseg hbel hNy2 hB4
      rcases Nat.lt_or_ge R1 b with hlt | hge
      · rw [cmpI_lt hlt] at C
        have HC := Lib.hid C
        clear C
        go_wp2_with fail
        refine (HC.out).mono ?_
        rintro e w5 ⟨rfl, hB5⟩
        have hO6 := hO5.below hB5 (Nat.le_refl _)
        have seg6 := seg4.below hB5 seg4.lt
        have hbel6 := below_then hbel4 hB5
        obtain ⟨e1, e2⟩ := HDS.out.2.2 hlt
        rw [← e1] at hO6
        have HV2 := Lib.hid (HZV.out.trans e2.symm)
        clear e1 e2 hO5 seg4 hbel4
        go_wp2_with fail
        go_roundw
        case rel => exact ⟨i, zs, by omega, by go_num, hO6, seg6, HZL.out, HZS.out, HV2.out, hbel6⟩
        case measure => simp [intOf]
      · obtain ⟨hc0, hc1⟩ : 0 ≤ cmpI R1 b ∧ cmpI R1 b ≤ 1 := by
          rcases Nat.lt_or_ge b R1 with h1 | h1
          · rw [cmpI_gt h1]; omega
          · rw [show R1 = b by omega, cmpI_eq]; omega
        generalize cmpI R1 b = cz at *
        have HC := Lib.hid C
        clear C
        go_wp2_with fail
        refine (HC.out).mono ?_
        rintro e w5 ⟨rfl, hB5⟩
        have hO6 := hO5.below hB5 (Nat.le_refl _)
        have seg6 := seg4.below hB5 seg4.lt
        have hbel6 := below_then hbel4 hB5
        have hNy6 := hNy4.below hB5
        have S := natSub_ge w5 r1 _ _ _ hO6.num hNy6 (by omega) (by rw [HM.out]; omega) (by rw [val_dg, val_dg]; exact hge)
        rw [val_dg, val_dg] at S
        have HS := Lib.hid S
        clear S hO5 seg4 hbel4 hNy4
        go_wp2_with fail
        refine (HS.out).mono ?_
        rintro e w6 ⟨r2, rfl, hO7, hB7⟩
        have seg7 := seg6.below hB7 seg6.lt
        have hbel7 := below_then hbel6 hB7
        have hsz6 := seg6.lt
        have hO8 := hO7.mono (show w2.heap.size + 1 ≤ w5.heap.size from hsz6)
        obtain ⟨e1, e2⟩ := HDS.out.2.1 hge
        rw [← e1] at hO8
        have hcz := seg7.cell0 (j := j) (by rw [HZL.out]; exact hjn)
        have hfz := seg7.frozen j
        have hor := or_shift (zs.getD j 0) s HLOW.out hs32 bz
        have hfit := set_fits (zs.getD j 0) s HLOW.out hs32 bz
        have hv := HVS.out
        generalize hzz : zs.getD j 0 = z at *
        have HOR := Lib.hid hor
        have HV2 := Lib.hid (show val (zs.set j (z + 2 ^ s)) = 2 ^ i * (a / 2 ^ i / b) by rw [e2, ← HZV.out]; exact hv)
        have HS7 := Lib.hid (seg7.put0 j (z + 2 ^ s) (bits .or .u32 (z : Int) (2 ^ s % 4294967296)) (by rw [HZL.out]; exact hjn) hor)
        have HO8 := Lib.hid (hO8.far (p := ⟨w2.heap.size, j, none⟩) (Nat.lt_succ_self _) (.int .u32 (bits .or .u32 (z : Int) (2 ^ s % 4294967296))))
        have HB8 := Lib.hid (hbel7.setCell (p := ⟨w2.heap.size, j, none⟩) (Nat.le_refl _) (.int .u32 (bits .or .u32 (z : Int) (2 ^ s % 4294967296))))
        have HSM := Lib.hid (HZS.out.set j (z + 2 ^ s) hfit)
        clear hor hv hzz hO8 seg7 hbel7 e1 e2 hO6 seg6 hbel6 hNy6 hO7 hB7 hfit
        go_wp2_with fail
        go_roundw
        case rel => exact ⟨i, _, by omega, by go_num, HO8.out, HS7.out, by rw [List.length_set]; exact HZL.out, HSM.out, HV2.out, HB8.out⟩
        case measure => simp [intOf]
theorem natDiv_c (h0 : 0 < val ys) : Calls Tryd.prog 87 #[va, vb] w (RDiv w (val xs) (val ys)) := natDiv_pos w va vb xs ys ha hb hza hzb h0
end
end Go.Proofs.YtpbkmkcfhkdjjaaDoor

namespace Go.Proofs.YtpbkmkcfhkdjjaaDoor
open Go.RowKit Dig
set_option linter.unusedVariables false

/-- The digits of v lie in a block from B on, and may be written. -/
def Wrt (B : Nat) (w : World) (v : Value) : Prop :=
  ∃ A n c, v = .slice A n c ∧ n ≤ c ∧ c ≤ 9223372036854775807 ∧ (0 < n → ∃ b cells t, A = some ⟨b, 0, none⟩ ∧ B ≤ b ∧ w.heap[b]? = some (.cells cells t (0, 0)) ∧ n ≤ cells.size)
section
variable {B : Nat} {w w' : World} {v : Value} {n : Nat}
theorem Wrt.nil (B : Nat) (w : World) : Wrt B w (.slice none 0 0) := ⟨none, 0, 0, rfl, Nat.le_refl _, by omega, fun h => absurd h (by omega)⟩
theorem Wrt.of {base : Nat} {xs : List Nat} (h : Own base w v xs) (hb : B ≤ base) : Wrt B w v := by
  obtain ⟨hs, h⟩ := h
  rcases h with ⟨rfl, rfl⟩ | ⟨g, rest, rfl, hg, hm, hh⟩
  · exact Wrt.nil B w
  · exact ⟨_, _, _, rfl, by omega, by unfold maxLen at hm; omega, fun hp => ⟨g, _, _, rfl, by omega, hh, by simp [U_length]⟩⟩
theorem Wrt.keep (h : Wrt B w v) (hk : ∀ b, B ≤ b → ∀ cells t, w.heap[b]? = some (.cells cells t (0, 0)) → ∃ cells' : Array Value, w'.heap[b]? = some (.cells cells' t (0, 0)) ∧ cells'.size = cells.size) : Wrt B w' v := by
  obtain ⟨A, n, c, e, hn, hc, hp⟩ := h
  refine ⟨A, n, c, e, hn, hc, fun h0 => ?_⟩
  obtain ⟨b, cells, t, eA, hb, hh, hz⟩ := hp h0
  obtain ⟨cells', h1, h2⟩ := hk b hb cells t hh
  exact ⟨b, cells', t, eA, hb, h1, by omega⟩
theorem block_lt {b : Nat} {o : Obj} (h : w.heap[b]? = some o) : b < w.heap.size := by
  rcases Nat.lt_or_ge b w.heap.size with hlt | hge
  · exact hlt
  · rw [Array.getElem?_eq_none hge] at h; cases h
theorem Wrt.below (h : Wrt B w v) (hb : Below w.heap.size w w') : Wrt B w' v :=
  h.keep fun b _ cells t hh => ⟨cells, (hb.block b (block_lt hh)).trans hh, rfl⟩
theorem Wrt.set (h : Wrt B w v) (g off : Nat) (u : Value) : Wrt B (w.setCell ⟨g, off, none⟩ u) v := by
  refine h.keep fun b _ cells t hh => ?_
  by_cases e : b = g
  · subst e
    refine ⟨cells.setIfInBounds off u, ?_, by simp⟩
    simp only [World.setCell, Array.getElem?_modify, hh]
    simp
  · exact ⟨cells, (Below.heap_setCell w ⟨g, off, none⟩ u b e).trans hh, rfl⟩
theorem Wrt.apart (h : Wrt B w v) {g : Nat} (hg : w.heap.size ≤ g) : ∀ b off n c, v = .slice (some ⟨b, off, none⟩) n c → 0 < n → b ≠ g := by
  obtain ⟨A, n, c, rfl, hn, hc, hp⟩ := h
  rintro b off n' c' e h0 rfl
  simp only [Value.slice.injEq] at e
  obtain ⟨rfl, rfl, rfl⟩ := e
  obtain ⟨b', cells, t, eA, hb, hh, hz⟩ := hp h0
  simp only [Option.some.injEq, Addr.mk.injEq, and_true] at eA
  obtain ⟨rfl, rfl⟩ := eA
  have := block_lt hh
  omega
end
/-- Block g holds the list L of slices of digits. -/
def Lst (g : Nat) (L : List Value) (w : World) : Prop := w.heap[g]? = some (.cells L.toArray 64 (0, 0))
/-- The digits of each slice of L may be written, and lie in other blocks than g. -/
def AllW (B g : Nat) (L : List Value) (w : World) : Prop := ∀ v ∈ L, Wrt B w v ∧ ∀ b off n c, v = .slice (some ⟨b, off, none⟩) n c → 0 < n → b ≠ g
section
variable {B g : Nat} {L : List Value} {w w' : World} {v : Value}
theorem Lst.cell (h : Lst g L w) {m : Nat} {v : Value} (hv : L[m]? = some v) : w.cell? ⟨g, m, none⟩ = some v := by
  unfold Lst at h
  rw [cell_of_row w g _ _ _ (0, 0) h]
  simpa using hv
theorem Lst.set (h : Lst g L w) {b : Nat} (hb : b ≠ g) (o : Nat) (u : Value) : Lst g L (w.setCell ⟨b, o, none⟩ u) := (Below.heap_setCell w ⟨b, o, none⟩ u g (fun e => hb e.symm)).trans h
theorem Lst.drewN (h : Lst g L w) (n : Nat) : Lst g L (w.drewN n) := h
theorem AllW.set (h : AllW B g L w) (b o : Nat) (u : Value) : AllW B g L (w.setCell ⟨b, o, none⟩ u) := fun v hv => ⟨(h v hv).1.set b o u, (h v hv).2⟩
theorem AllW.drewN (h : AllW B g L w) (n : Nat) : AllW B g L (w.drewN n) := h
theorem AllW.form (h : AllW B g L w) {m : Nat} (hm : m < L.length) : ∃ A n c, L[m]? = some (.slice A n c) ∧ n ≤ c ∧ c ≤ 9223372036854775807 := by
  obtain ⟨⟨A, n, c, e, hn, hc, _⟩, _⟩ := h L[m] (List.getElem_mem hm)
  exact ⟨A, n, c, by rw [List.getElem?_eq_getElem hm, e], hn, hc⟩
theorem AllW.of (h : ∀ v ∈ L, Wrt B w v) (hg : w.heap.size = g) (hb : Below w.heap.size w w') : AllW B g L w' := fun v hv => ⟨(h v hv).below hb, (h v hv).apart (by omega)⟩
end
section
variable {w : World} {va vb : Value} {a b k l : Nat}
theorem NumV.nil (w : World) : NumV w (.slice none 0 0) 0 0 := ⟨[], Num.nil _, rfl, Nat.le_refl _⟩
theorem Can.nil (w : World) : Can w (.slice none 0 0) 0 8 := ⟨Num.nil _, by decide⟩
theorem natDiv_v (ha : NumV w va a k) (hb : NumV w vb b l) (hk : k ≤ 1000000) (hl : l ≤ 1000000) (h0 : 0 < b) :
    Calls Tryd.prog 87 #[va, vb] w fun e w' => ∃ q r, e = .returned (.tuple #[q, r, .bool true]) ∧ Can w' q (a / b) k ∧ Can w' r (a % b) k ∧ Own w.heap.size w' q (dg (a / b)) ∧ Own w.heap.size w' r (dg (a % b)) ∧ Below w.heap.size w w' := by
  have hf := ha.lt
  obtain ⟨L, h1, h2, h3⟩ := ha
  obtain ⟨M, g1, g2, g3⟩ := hb
  subst h2
  subst g2
  exact (natDiv_c w va vb L M h1 g1 (by omega) (by omega) h0).mono fun e w' ⟨q, r, x, y, z, t⟩ => ⟨q, r, x, ⟨y.num, Nat.lt_of_le_of_lt (Nat.div_le_self _ _) hf⟩, ⟨z.num, Nat.lt_of_le_of_lt (Nat.mod_le _ _) hf⟩, y, z, t⟩
theorem natDiv0_v (ha : NumV w va a k) (hb : NumV w vb 0 l) (hk : k ≤ 1000000) (hl : l ≤ 1000000) :
    Calls Tryd.prog 87 #[va, vb] w fun e w' => e = .returned (.tuple #[.slice none 0 0, .slice none 0 0, .bool false]) ∧ Below w.heap.size w w' := by
  obtain ⟨L, h1, h2, h3⟩ := ha
  obtain ⟨M, g1, g2, g3⟩ := hb
  exact natDiv_zero w va vb L M h1 g1 (by omega) (by omega) g2
end
end Go.Proofs.YtpbkmkcfhkdjjaaDoor

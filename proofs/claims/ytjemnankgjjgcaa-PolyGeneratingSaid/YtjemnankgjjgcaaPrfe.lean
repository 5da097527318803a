/- x^n times a polynomial: what Shift of package poly gives for every exponent. -/
import Derived.Test.YtjemnankgjjgcaaSzp
import Derived.Test.YtjemnankgjjgcaaPlyz
import Derived.Test.YtjemnankgjjgcaaPrfd
namespace Go.Proofs.Ytjemnankgjjgcaa
open Go.RowKit Dig
set_option linter.unusedVariables false

namespace Dig
/-- x^n times a polynomial. -/
def shr (n : Nat) (p : List Rat) : List Rat := if (tr p).length = 0 then [] else mk n (fun _ => 0) ++ tr p
theorem cf_shr (n : Nat) (p : List Rat) (i : Nat) : cf (shr n p) i = if i < n then 0 else cf p (i - n) := by
  unfold shr
  by_cases h : (tr p).length = 0
  · have h1 : ∀ t, cf p t = 0 := (tr_nil_iff p).1 (List.eq_nil_of_length_eq_zero h)
    rw [if_pos h, cf_nil, h1]
    split <;> rfl
  · rw [if_neg h, mk_zero_append, cf_tr]
theorem shr_len {n m : Nat} {p : List Rat} (h : p.length ≤ m) : (shr n p).length ≤ n + m := by
  unfold shr
  split
  · simp
  · rw [List.length_append, mk_length]
    have := tr_le p
    omega
theorem tr_shr (n : Nat) (p : List Rat) : tr (shr n p) = shr n p := by
  unfold shr
  by_cases h : (tr p).length = 0
  · rw [if_pos h]; rfl
  · rw [if_neg h]
    apply tr_id
    right
    have h1 := (tr_last p).resolve_left h
    rw [List.length_append, mk_length, mk_zero_append, if_neg (by omega), show n + (tr p).length - 1 - n = (tr p).length - 1 by omega]
    exact h1
theorem tr_shifted (n : Nat) (p : List Rat) : tr (mk n (fun _ => 0) ++ tr p) = shr n p := by
  refine norm_ext (tr_tr _) (tr_shr n p) fun i => ?_
  rw [cf_tr, mk_zero_append, cf_tr, cf_shr]
theorem shr_nil {p : List Rat} (n : Nat) (h : tr p = []) : shr n p = [] := by
  unfold shr
  rw [if_pos (by rw [h]; rfl)]
end Dig
theorem shift_any {k n : Nat} {w : World} {v : Value} {qs : List Rat} (hF : Fls (FV k) w v qs) (hk : k ≤ 400000) (h2 : 2 ≤ k) (hm : qs.length ≤ 1000000) (hn : n + qs.length ≤ 1024) :
    Calls Try.prog 31 #[v, .int .i64 (n : Int)] w (RPolE w (shr n qs) k) := by
  have hl := tr_le qs
  unfold shr
  by_cases h : (tr qs).length = 0
  · rw [if_pos h]
    refine (shift_none_p hF hk (by omega) hm (List.eq_nil_of_length_eq_zero h)).mono ?_
    rintro e w' ⟨rfl, hB⟩
    exact ⟨_, rfl, Ofl.nil _ _ _, hB⟩
  · rw [if_neg h]
    exact shift_p hF hk h2 hm (by omega) (by omega)
end Go.Proofs.Ytjemnankgjjgcaa

/- The contracts of the reference functions PolyShift and PolyPow. -/
namespace Go.Proofs.Ytjemnankgjjgcaa
open Go.RowKit Dig
set_option linter.unusedVariables false

/-- A list of canonical fractions and an error code come back. -/
def RLE (w : World) (x : Int) (qs : List Rat) (k : Nat) (e : Ending) (w' : World) : Prop := ∃ v, e = .returned (.tuple #[v, .int .i64 x]) ∧ Fls (CV k) w' v qs ∧ Below w.heap.size w w'
theorem RNone.rle {w w' : World} {x : Int} {e : Ending} (k : Nat) (h : RNone w x e w') : RLE w x [] k e w' := ⟨_, h.1, Fls.nil _ _, h.2⟩
theorem Fls.fit {w : World} {v : Value} {qs : List Rat} {k l : Nat} (h : Fls (CV k) w v qs) (hs : ∀ i, (cf qs i).num.natAbs < 4294967296 ^ l ∧ (cf qs i).den < 4294967296 ^ l) : Fls (CV l) w v qs := h.weaken fun u q hq hc => by
  obtain ⟨i, hi, e⟩ := List.getElem_of_mem hq
  have h1 := hs i
  have h2 : cf qs i = q := by rw [← e, cf, List.getD_eq_getElem?_getD, List.getElem?_eq_getElem hi]; rfl
  rw [h2] at h1
  exact CanF.fit hc h1.1 h1.2
theorem Fls.leC {w : World} {v : Value} {qs : List Rat} {k l : Nat} (h : Fls (CV k) w v qs) (hl : k ≤ l) : Fls (CV l) w v qs := h.weaken fun u q _ hc => CanF.le hc hl
section
variable {E : World → Value → Rat → Prop} {w : World} {ops : Array Oper} {rest : List Oper} {o : Oper} {a : Act} {Q : Exit → Act → World → Prop}
/-- The append of nothing. -/
theorem wp_append_f0 (T : TypeId) (hT : Try.prog.underlying T = some (.slice 29)) (hgd : o.guard = none) (s x : Operand) (ho : o.op = .call { callee := .builtin .append, args := #[s, x], argTypes := #[T, T] })
    (base : Nat) (v : Value) (qs : List Rat) (hs : a.eval s = v) (hown : Ofl E base w v qs) (A : Option Addr) (c : Nat) (hx : a.eval x = .slice A 0 c)
    (h : wpList Try.prog ops Q rest (a.put o.dst v) w) : wpList Try.prog ops Q (o :: rest) a w := by
  obtain ⟨i0, hi, hz0, hz1, hz2⟩ := info_parts info_frac
  have hrun : (Builtin.append_ #[T, T] o.type #[v, .slice A 0 c]).run Try.prog w = .ok v w := by
    rcases hown with ⟨rfl, rfl⟩ | ⟨g, ts, rfl, hg, hF, hle, hm, hE⟩
    · cases A <;> simp [Builtin.append_, run_underlying hT, sizeOf, typeInfo, hi, Builtin.lenOf, Builtin.firstCells, loadCells, loadCellsFrom]
    · cases A <;> simp [Builtin.append_, run_underlying hT, sizeOf, typeInfo, hi, Builtin.lenOf, Builtin.firstCells, hle, storeCells, loadCells, loadCellsFrom]
  refine wpList_plain hgd fun K hK => ?_
  unfold Oper.wp
  simp [execOp, ho, resolve, invoke, builtin, hs, hx, hrun, Result.andThen]
  exact hK _ _ h
end
/-- A row of zeros that was just laid. -/
theorem zeros_ofl {w : World} {g n k : Nat} (h : FBlk w g (List.replicate n .zero)) (hn : n ≤ 1000000) : Ofl (FV k) g w (.slice (some ⟨g, 0, none⟩) n n) (mk n fun _ => 0) := by
  refine .inr ⟨g, List.replicate n .zero, by rw [mk_length, List.length_replicate], Nat.le_refl _, h, by rw [mk_length, List.length_replicate]; omega, by rw [List.length_replicate]; unfold maxLen; omega, fun j hj => ?_⟩
  rw [mk_length] at hj
  have e1 : (mk n (fun _ => (0 : Rat))).getD j 0 = 0 := by have := cf_mk n (fun _ => 0) j; rw [if_pos hj] at this; exact this
  have e2 : (List.replicate n Tri.zero).getD j .zero = .zero := by
    rw [List.getD_eq_getElem?_getD, List.getElem?_eq_getElem (by simpa using hj)]
    simp only [List.getElem_replicate, Option.getD_some]
  rw [e1, e2]
  exact FracV.zero _ _
section
variable {w : World} {v va vb : Value} {qs ps : List Rat} {p q : Rat} {k l n : Nat}
set_option maxHeartbeats 2000000 in
theorem polyShift_neg_r (ha : Fls (FV k) w va ps) (hk : k ≤ 400000) (h2 : 2 ≤ k) (hm : ps.length ≤ 1000000000) (i : Int) (h0 : i < 0) :
    Calls Try.prog 38 #[va, .int .i64 i] w (RNone w 1) := by
  have NR := Lib.hid (polyNorm_r ha hk h2 hm)
  obtain ⟨A, c, rfl⟩ := ha.form
  clear ha
  go_enter Try.func38, Try.ntmps38
  go_wp2_with fail
  refine (NR.out).mono ?_
  rintro e w2 ⟨x, rfl, hx, hB2⟩
  obtain ⟨B3, c3, rfl⟩ := hx.form
  clear hx NR
  generalize (tr ps).length = L at *
  go_wp2_with fail
  go_ret2
  exact ⟨rfl, hB2⟩
set_option maxHeartbeats 2000000 in
theorem polyShift_big_r (ha : Fls (FV k) w va ps) (hk : k ≤ 400000) (h2 : 2 ≤ k) (hm : ps.length ≤ 1000000000) (i : Int) (h0 : 1024 < i) :
    Calls Try.prog 38 #[va, .int .i64 i] w (RNone w 4) := by
  have NR := Lib.hid (polyNorm_r ha hk h2 hm)
  obtain ⟨A, c, rfl⟩ := ha.form
  clear ha
  have h1 : ¬ i < 0 := by omega
  go_enter Try.func38, Try.ntmps38
  go_wp2_with fail
  refine (NR.out).mono ?_
  rintro e w2 ⟨x, rfl, hx, hB2⟩
  obtain ⟨B3, c3, rfl⟩ := hx.form
  clear hx NR
  generalize (tr ps).length = L at *
  go_wp2_with fail
  go_ret2
  exact ⟨rfl, hB2⟩
set_option maxHeartbeats 2000000 in
theorem polyShift_long_r (ha : Fls (FV k) w va ps) (hk : k ≤ 400000) (h2 : 2 ≤ k) (hm : ps.length ≤ 1000000000) (hn : n ≤ 1024) (h0 : 1024 < n + (tr ps).length) (h1 : 0 < (tr ps).length) :
    Calls Try.prog 38 #[va, .int .i64 (n : Int)] w (RNone w 4) := by
  have NR := Lib.hid (polyNorm_r ha hk h2 hm)
  have hl := Nat.le_trans (tr_le ps) hm
  obtain ⟨A, c, rfl⟩ := ha.form
  clear ha
  have h3 : ¬ (n : Int) < 0 := by omega
  have h4 : ¬ 1024 < (n : Int) := by omega
  go_enter Try.func38, Try.ntmps38
  go_wp2_with fail
  refine (NR.out).mono ?_
  rintro e w2 ⟨x, rfl, hx, hB2⟩
  obtain ⟨B3, c3, rfl⟩ := hx.form
  clear hx NR
  generalize (tr ps).length = L at *
  have h5 : (0 : Int) < L := by omega
  have h6 : (1024 : Int) < L + n := by omega
  go_wp2_with fail
  go_ret2
  exact ⟨rfl, hB2⟩
set_option maxHeartbeats 4000000 in
theorem polyShift_none_r (ha : Fls (FV k) w va ps) (hk : k ≤ 400000) (h2 : 2 ≤ k) (hm : ps.length ≤ 1000000000) (hn : n ≤ 1024) (h0 : tr ps = []) :
    Calls Try.prog 38 #[va, .int .i64 (n : Int)] w (RLE w 0 [] k) := by
  have NR := polyNorm_r ha hk h2 hm
  rw [h0] at NR
  have NR := Lib.hid NR
  have N2 := Lib.hid (fun w1 v1 (h : Fls (FV k) w1 v1 (mk n fun _ => 0)) => (show Calls Try.prog 14 #[v1] w1 (RPF w1 [] k) from by
    have := polyNorm_r h hk h2 (by rw [mk_length]; omega)
    rwa [tr_zero (fun i => by rw [cf_mk]; split <;> rfl)] at this))
  obtain ⟨A, c, rfl⟩ := ha.form
  clear ha h0
  have hl0 : ([] : List Rat).length = 0 := rfl
  have h3 : ¬ (n : Int) < 0 := by omega
  have h4 : ¬ 1024 < (n : Int) := by omega
  go_enter Try.func38, Try.ntmps38
  go_wp2_with fail
  refine (NR.out).mono ?_
  rintro e w2 ⟨x, rfl, hx, hB2⟩
  obtain ⟨B3, c3, rfl⟩ := hx.form
  clear hx NR
  rw [hl0]
  go_wp2_with (first | (at_make; refine wp_make_f 24 (by kernel_rfl) rfl _ _ rfl _ _ n rfl rfl rfl rfl (by omega) ?_; intro w3 hF3 hB3) | (at_builtin; refine wp_append_f0 24 (by kernel_rfl) rfl _ _ rfl _ _ _ rfl (zeros_ofl (k := k) hF3 (by omega)) _ _ rfl ?_))
  have hO := zeros_ofl (k := k) hF3 (by omega)
  have HB := Lib.hid (below_then hB2 hB3)
  have N3 := Lib.hid (N2.out _ _ hO.fls)
  refine (N3.out).mono ?_
  rintro e w4 ⟨x, rfl, hx, hB4⟩
  obtain ⟨B4, c4, rfl⟩ := hx.form
  have HX := Lib.hid hx
  clear hx hO
  go_wp2_with fail
  go_ret2
  exact ⟨_, rfl, HX.out, below_then HB.out hB4⟩
set_option maxHeartbeats 4000000 in
theorem polyShift_some_r (ha : Fls (FV k) w va ps) (hk : k ≤ 400000) (h2 : 2 ≤ k) (hm : ps.length ≤ 1000000000) (h0 : n + (tr ps).length ≤ 1024) (h1 : 0 < (tr ps).length) :
    Calls Try.prog 38 #[va, .int .i64 (n : Int)] w (RLE w 0 (shr n ps) k) := by
  have NR := Lib.hid (polyNorm_r ha hk h2 hm)
  have N2 := Lib.hid (fun w1 v1 (h : Fls (FV k) w1 v1 ((mk n fun _ => 0) ++ tr ps)) => (show Calls Try.prog 14 #[v1] w1 (RPF w1 (shr n ps) k) from by
    have := polyNorm_r h hk h2 (by rw [List.length_append, mk_length]; omega)
    rwa [tr_shifted] at this))
  obtain ⟨A, c, rfl⟩ := ha.form
  generalize shr n ps = ss at *
  clear ha
  have h3 : ¬ (n : Int) < 0 := by omega
  have h4 : ¬ 1024 < (n : Int) := by omega
  go_enter Try.func38, Try.ntmps38
  go_wp2_with fail
  refine (NR.out).mono ?_
  rintro e w2 ⟨x, rfl, hx, hB2⟩
  obtain ⟨B3, c3, rfl⟩ := hx.form
  have HX := Lib.hid hx
  clear hx NR
  generalize tr ps = rs at *
  obtain ⟨L, hL⟩ : ∃ L, rs.length = L := ⟨_, rfl⟩
  have HL := Lib.hid hL
  rw [hL] at h0 h1 ⊢
  have h5 : (0 : Int) < L := by omega
  have h6 : ¬ (1024 : Int) < L + n := by omega
  clear hL
  have HXF := Lib.hid (fun w3 (hr : Below w2.heap.size w2 w3) => (show Fls (FV k) w3 (.slice B3 L c3) rs from by have := (HX.out.keepC hr).fv; rwa [HL.out] at this))
  go_wp2_with (first | (at_make; refine wp_make_f 24 (by kernel_rfl) rfl _ _ rfl _ _ n rfl rfl rfl rfl (by omega) ?_; intro w3 hF3 hB3) | (at_builtin; refine wp_append_f (keeps_FV k) 24 (by kernel_rfl) rfl _ _ rfl w2.heap.size _ _ rfl (zeros_ofl (k := k) hF3 (by omega)) _ rs rfl (HXF.out _ hB3) (by rw [HL.out]; exact h1) (by rw [mk_length, HL.out]; omega) hB3.size ?_; intro v4 w4 hG))
  have HB := Lib.hid (below_then hB2 hB3)
  obtain ⟨hG1, hG2, hG3, A9, n9, c9, rfl⟩ := hG
  have N3 := Lib.hid (N2.out _ _ hG1.fls)
  have HB4 := Lib.hid (below_grown (g := w2.heap.size) HB.out hG2 hB2.size)
  clear hG1 hG2 hG3
  go_wp2_with fail
  refine (N3.out).mono ?_
  rintro e w4 ⟨x, rfl, hx, hB4⟩
  obtain ⟨B4, c4, rfl⟩ := hx.form
  have HX := Lib.hid hx
  clear hx
  go_wp2_with fail
  go_ret2
  exact ⟨_, rfl, HX.out, below_then HB4.out hB4⟩
set_option maxHeartbeats 2000000 in
theorem polyPow_neg_r (ha : Fls (FV k) w va ps) (hk : k ≤ 400000) (h2 : 2 ≤ k) (hm : ps.length ≤ 1000000000) (i : Int) (h0 : i < 0) :
    Calls Try.prog 37 #[va, .int .i64 i] w (RNone w 1) := by
  have NR := Lib.hid (polyNorm_r ha hk h2 hm)
  obtain ⟨A, c, rfl⟩ := ha.form
  clear ha
  go_enter Try.func37, Try.ntmps37
  go_wp2_with fail
  refine (NR.out).mono ?_
  rintro e w2 ⟨x, rfl, hx, hB2⟩
  obtain ⟨B3, c3, rfl⟩ := hx.form
  clear hx NR
  generalize (tr ps).length = L at *
  go_wp2_with fail
  go_ret2
  exact ⟨rfl, hB2⟩
set_option maxRecDepth 20000 in
set_option maxHeartbeats 8000000 in
theorem polyPow_r {B N : Nat} (ha : Fls (FV k) w va ps) (hk : k ≤ 30000) (h2 : 2 ≤ k) (hm : ps.length ≤ 100000) (hn : n ≤ 1024) (hsz : ∀ j, j ≤ n → ∀ i, (cf (ppow (tr ps) j) i).num.natAbs < 4294967296 ^ B ∧ (cf (ppow (tr ps) j) i).den < 4294967296 ^ B)
    (hlen : ∀ j, j ≤ n → (ppow (tr ps) j).length ≤ N) (hN : 2 + N * (B + k + 1) ≤ 40000) (hB2' : 2 ≤ B) (hl : ((tr ps).length - 1) * n + 1 ≤ 1024) :
    Calls Try.prog 37 #[va, .int .i64 (n : Int)] w (RLE w 0 (ppow (tr ps) n) B) := by
  have NR := Lib.hid (polyNorm_r ha (by omega) h2 (by omega))
  have hlm := Nat.le_trans (tr_le ps) hm
  obtain ⟨A, c, rfl⟩ := ha.form
  have ONE := Lib.hid (fun w1 => fracOne_v w1)
  clear ha
  generalize tr ps = rs at *
  have MUL := Lib.hid (fun w1 x y (j : Nat) (hj : j < n) (hx : Fls (CV B) w1 x (ppow rs j)) (hy : Fls (CV k) w1 y rs) => (show Calls Try.prog 18 #[x, y] w1 (RPF w1 (ppow rs (j + 1)) B) from
    (polyMul_r (N := N) hx.fv hy.fv hB2' h2 (hlen j (by omega)) hN hlm).mono fun e w' ⟨u, h1, h2, h3⟩ => ⟨u, h1, Fls.fit h2 (hsz (j + 1) hj), h3⟩))
  clear hsz hlen
  have h3 : ¬ (n : Int) < 0 := by omega
  have h4 : ¬ 1024 < (n : Int) := by omega
  obtain ⟨L, hL⟩ : ∃ L, rs.length = L := ⟨_, rfl⟩
  rw [hL] at hl hlm
  obtain ⟨m, hmm⟩ : ∃ m, (L - 1) * n = m := ⟨_, rfl⟩
  rw [hmm] at hl
  have hmul : 1 < L → ((L : Int) - 1) * (n : Int) = (m : Int) := fun h => by rw [← hmm]; push_cast [show 1 ≤ L by omega]; rfl
  have HL := Lib.hid hL
  clear hL hmm
  go_enter Try.func37, Try.ntmps37
  go_wp2_with fail
  refine (NR.out).mono ?_
  rintro e w2 ⟨x, rfl, hx, hB2⟩
  obtain ⟨B3, c3, rfl⟩ := hx.form
  rw [HL.out]
  have HX := Lib.hid hx
  clear hx NR
  by_cases h5 : 1 < L
  · have hmul := hmul h5
    have h6 : (1 : Int) < L := by omega
    have h7 : ¬ (1024 : Int) < (m : Int) + 1 := by omega
    go_wp2_with fail
    refine (ONE.out _).mono ?_
    rintro e w3 ⟨u, rfl, hu, hB3⟩
    obtain ⟨b', C, o, r, C', o', r', rfl, hb', hvx, hvy⟩ := hu.parts
    have HE := CanF.elem hu
    have hAl : Below w3.heap.size w3 (w3.alloc (.cells #[.bool b', .slice C o r, .slice C' o' r'] 29)) := (Below.refl _ _).alloc (Nat.le_refl _) _
    have HX1 := Lib.hid (fun w4 (hr : Below w2.heap.size w2 w4) => HX.out.keepC hr)
    have hB4 := below_then hB3 hAl
    have hg2 := hB2.size
    have HE := Lib.hid (HE.leC hB2')
    clear hu hb' hvx hvy hB3 hAl HX
    go_wp2_with fail
    go_loopw [7, 8] (fun v iv wr => ∃ j : Nat, j ≤ n ∧ iv = .int .i64 j ∧ Fls (CV B) wr v (ppow rs j) ∧ Below w2.heap.size w2 wr) (fun _ iv _ => n - (intOf iv).toNat)
    case atStart => exact ⟨0, Nat.zero_le _, rfl, HE.out, hB4⟩
    case round =>
      obtain ⟨j, hj, rfl, hO, hB⟩ := hrel
      clear hB4
      by_cases hjn : j < n
      · have HI : (j : Int) < n := by omega
        have M1 := Lib.hid (MUL.out _ _ _ j hjn hO (by have := HX1.out _ hB; rw [HL.out] at this; exact this))
        obtain ⟨A9, c9, rfl⟩ := hO.form
        clear hO
        generalize (ppow rs j).length = lj at *
        go_wp2_with fail
        refine (M1.out).mono ?_
        rintro e w5 ⟨u, rfl, hu, hB5⟩
        have HU := Lib.hid hu
        have HB := Lib.hid (below_then hB hB5)
        clear hu hB5
        go_wp2_with fail
        go_roundw
        case rel => exact ⟨j + 1, by omega, by go_num, HU.out, HB.out⟩
        case measure => simp [intOf]; omega
      · have HI : ¬ (j : Int) < n := by omega
        obtain rfl : j = n := by omega
        have HO := Lib.hid hO
        have HB := Lib.hid (hB2.trans (hB.mono hg2))
        clear hO
        go_wp2_with fail
        go_ret2
        exact ⟨_, rfl, HO.out, HB.out⟩
  · have h6 : ¬ (1 : Int) < L := by omega
    clear hmul
    go_wp2_with fail
    refine (ONE.out _).mono ?_
    rintro e w3 ⟨u, rfl, hu, hB3⟩
    obtain ⟨b', C, o, r, C', o', r', rfl, hb', hvx, hvy⟩ := hu.parts
    have HE := CanF.elem hu
    have hAl : Below w3.heap.size w3 (w3.alloc (.cells #[.bool b', .slice C o r, .slice C' o' r'] 29)) := (Below.refl _ _).alloc (Nat.le_refl _) _
    have HX1 := Lib.hid (fun w4 (hr : Below w2.heap.size w2 w4) => HX.out.keepC hr)
    have hB4 := below_then hB3 hAl
    have hg2 := hB2.size
    have HE := Lib.hid (HE.leC hB2')
    clear hu hb' hvx hvy hB3 hAl HX
    go_wp2_with fail
    go_loopw [7, 8] (fun v iv wr => ∃ j : Nat, j ≤ n ∧ iv = .int .i64 j ∧ Fls (CV B) wr v (ppow rs j) ∧ Below w2.heap.size w2 wr) (fun _ iv _ => n - (intOf iv).toNat)
    case atStart => exact ⟨0, Nat.zero_le _, rfl, HE.out, hB4⟩
    case round =>
      obtain ⟨j, hj, rfl, hO, hB⟩ := hrel
      clear hB4
      by_cases hjn : j < n
      · have HI : (j : Int) < n := by omega
        have M1 := Lib.hid (MUL.out _ _ _ j hjn hO (by have := HX1.out _ hB; rw [HL.out] at this; exact this))
        obtain ⟨A9, c9, rfl⟩ := hO.form
        clear hO
        generalize (ppow rs j).length = lj at *
        go_wp2_with fail
        refine (M1.out).mono ?_
        rintro e w5 ⟨u, rfl, hu, hB5⟩
        have HU := Lib.hid hu
        have HB := Lib.hid (below_then hB hB5)
        clear hu hB5
        go_wp2_with fail
        go_roundw
        case rel => exact ⟨j + 1, by omega, by go_num, HU.out, HB.out⟩
        case measure => simp [intOf]; omega
      · have HI : ¬ (j : Int) < n := by omega
        obtain rfl : j = n := by omega
        have HO := Lib.hid hO
        have HB := Lib.hid (hB2.trans (hB.mono hg2))
        clear hO
        go_wp2_with fail
        go_ret2
        exact ⟨_, rfl, HO.out, HB.out⟩
end
end Go.Proofs.Ytjemnankgjjgcaa

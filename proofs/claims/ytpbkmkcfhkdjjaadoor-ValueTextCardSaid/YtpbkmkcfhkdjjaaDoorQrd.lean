/- The reference of stage 2, what stage 8 wants of it (laid by minchain.py out of: RefL Basf RegF RefN Ptxt RefT TxtA RefU Fmt TxtB RefW). -/
import Derived.Test.YtpbkmkcfhkdjjaaDoorQrc
namespace Go.Proofs.YtpbkmkcfhkdjjaaDoor
set_option linter.unusedSimpArgs false
open Go.RowKit Dig
set_option linter.unusedVariables false

theorem size_v (w : World) (z : Int) (hz : Fits64 z) : Calls Tryd.prog 66 #[.int .i64 z] w (RCan w z.natAbs 2) := by
  unfold Fits64 at hz
  by_cases h : z < 0
  · have e : -(z + 1) + 1 = ((z.natAbs : Nat) : Int) := by omega
    have F := natOf_v (w := w) z.natAbs (by omega)
    rw [← e] at F
    have FF := Lib.hid F
    clear F e
    go_enter Tryd.func66, Tryd.ntmps66
    go_wp2_with fail
    refine (FF.out).mono ?_
    rintro e w1 ⟨x, rfl, hx⟩
    go_wp2_with fail
    go_ret
    exact ⟨_, rfl, hx⟩
  · have e : ((z.natAbs : Nat) : Int) = z := by omega
    have F := natOf_v (w := w) z.natAbs (by omega)
    rw [e] at F
    have FF := Lib.hid F
    clear F e
    go_enter Tryd.func66, Tryd.ntmps66
    go_wp2_with fail
    refine (FF.out).mono ?_
    rintro e w1 ⟨x, rfl, hx⟩
    go_wp2_with fail
    go_ret
    exact ⟨_, rfl, hx⟩
theorem fracNew_v (w : World) (x y : Int) (hx : Fits64 x) (hy : Fits64 y) (h0 : y ≠ 0) : Calls Tryd.prog 55 #[.int .i64 x, .int .i64 y] w (RCanE w (frz x y) 2) := by
  have R0 := Lib.hid (Fcl.new w false (.slice none 0 0) (.slice none 0 0))
  have hB0 : Below w.heap.size w (w.alloc (.cells #[.bool false, .slice none 0 0, .slice none 0 0] 66)) := (Below.refl _ _).alloc (Nat.le_refl _) _
  have Mx := Lib.hid (fun w1 => size_v w1 x hx)
  have My := Lib.hid (fun w1 => size_v w1 y hy)
  have hy0 : ((y : Int) == 0) = false := by rw [beq_eq_false_iff_ne]; exact h0
  have RR := Lib.hid (fun w1 u v (hu : Can w1 u x.natAbs 2) (hv : Can w1 v y.natAbs 2) => frac_v (w := w1) (decide (x < 0) != decide (y < 0)) hu.numV hv.numV (by omega) (by omega))
  rw [show fr (decide (x < 0) != decide (y < 0)) x.natAbs y.natAbs = frz x y from rfl] at RR
  clear h0
  go_enter Tryd.func55, Tryd.ntmps55
  go_wp2_with fail
  refine (Mx.out _).mono ?_
  rintro e w1 ⟨u, rfl, hu, _, hB1⟩
  have R1 := R0.out.below hB1
  have hB1 := below_then hB0 hB1
  go_wp2_with fail
  refine (My.out _).mono ?_
  rintro e w2 ⟨v, rfl, hv, _, hB2⟩
  have R2 := R1.below hB2
  have hu := hu.below hB2
  have hB2 := below_then hB1 hB2
  go_wp2_with fail
  refine (RR.out _ _ _ hu hv).mono ?_
  rintro e w3 ⟨z, rfl, hz, hB3⟩
  have R3 := R2.below hB3
  have hB3 := below_then hB2 hB3
  obtain ⟨b, C, o, r, C', o', r', rfl, hb, hvx, hvy⟩ := hz.parts
  obtain ⟨k0, k1, k2⟩ := R3.cells
  obtain ⟨f0, f1, f2⟩ := R3.frozen
  go_wp2_with fail
  refine bodyPost_ret (v := .tuple #[.agg #[.bool b, .slice C o r, .slice C' o' r'], .int .i64 0]) (by rw [results_cell_tmp rfl]; go_simp) rfl ?_
  exact RCanE.stored hb hvx hvy R3 hB3 (Nat.le_refl _) (.bool b)
section
variable {w : World} {va vb : Value} {na nb : Bool} {xs ys us vs : List Nat} {p q : Rat} {k l : Nat}
end
end Go.Proofs.YtpbkmkcfhkdjjaaDoor

namespace Go.Proofs.YtpbkmkcfhkdjjaaDoor
open Go.RowKit Dig
set_option linter.unusedVariables false

/-- A variable of the call's own that holds a fraction. -/
theorem var1 (w : World) (b : Bool) (x y : Value) : ∃ W g, w.alloc (.cells #[.bool b, x, y] 66) = W ∧ w.heap.size = g ∧ Below w.heap.size w W ∧ Fcl W g b x y :=
  ⟨_, _, rfl, rfl, (Below.refl _ _).alloc (Nat.le_refl _) _, Fcl.new w b x y⟩
end Go.Proofs.YtpbkmkcfhkdjjaaDoor

namespace Go.Proofs.YtpbkmkcfhkdjjaaDoor
open Go.RowKit
/-- The load of a part that is no row. -/
theorem exec_part {ev : Operand → Value} {o : Oper} {w : World} {p : Addr} {v : Value} (T : TypeId) (t : Tmp) (hc : w.cell? p = some v) (ho : o.op = .load T (.tmp t)) (hx : ev (.tmp t) = .pointer (some p))
    (hu : (match (Tryd.prog.underlying T) with | some (.struct _) | some (.array _ _) | none => true | _ => false) = false) : (execOp ev o).run Tryd.prog w = .ok (.value v) w := by
  cases h : Tryd.prog.underlying T with
  | none => rw [h] at hu; cases hu
  | some d => exact exec_loadCell T (.tmp t) p v d ho hx hc h (by rw [h] at hu; cases d <;> first | rfl | exact hu)
end Go.Proofs.YtpbkmkcfhkdjjaaDoor

namespace Go.Proofs.YtpbkmkcfhkdjjaaDoor
open Go.RowKit Dig
set_option linter.unusedVariables false

theorem natCmp_is {w : World} {va vb : Value} {a b k l : Nat} {z : Int} (ha : NumV w va a k) (hb : NumV w vb b l) (hk : k ≤ 1000000) (hl : l ≤ 1000000) (h : cmpI a b = z) :
    Calls Tryd.prog 53 #[va, vb] w (RVal w (.int .i64 z)) := h ▸ natCmp_v ha hb hk hl
section
variable {w : World} {va vb : Value} {p q : Rat} {k l : Nat}
end
end Go.Proofs.YtpbkmkcfhkdjjaaDoor

namespace Go.Proofs.YtpbkmkcfhkdjjaaDoor
open Go.RowKit Dig
namespace Dig

/-- l holds one or more digits and nothing else. -/
def okd (l : List UInt8) : Bool := !l.isEmpty && l.all isDig
def isSep (c : UInt8) : Bool := c == 47 || c == 46
def headPart (l : List UInt8) : List UInt8 := l.takeWhile (fun c => !isSep c)
def tailPart (l : List UInt8) : List UInt8 := l.dropWhile (fun c => !isSep c)
/-- A text without a sign: whether it has the form, its numerator, its denominator. -/
def bodyOf (l : List UInt8) : Bool × Nat × Nat :=
  match tailPart l with
  | [] => (okd l, dec l, 1)
  | c :: a => if c = 47 then (okd (headPart l) && okd a, dec (headPart l), dec a) else (okd (headPart l) && okd a, dec (headPart l) * 10 ^ a.length + dec a, 10 ^ a.length)
def signOf (l : List UInt8) : Bool := l.head? == some 45
def restOf (l : List UInt8) : List UInt8 := if signOf l then l.tail else l
/-- What Parse reports: 0, or the number of its error. -/
def ferr (l : List UInt8) : Int := if (bodyOf (restOf l)).1 = false then 2 else if (bodyOf (restOf l)).2.2 = 0 then 20 else 0
def fval (l : List UInt8) : Rat := fr (signOf l) (bodyOf (restOf l)).2.1 (bodyOf (restOf l)).2.2
end Dig
end Go.Proofs.YtpbkmkcfhkdjjaaDoor

namespace Go.Proofs.YtpbkmkcfhkdjjaaDoor
open Go.RowKit Dig
set_option linter.unusedVariables false

namespace Dig
/-- These letters are the text of a number. -/
def isText (l : List UInt8) : Bool := l.all isDig && lead l
def perr (l : List UInt8) : Int := if isText l then 0 else 2
def pnum (l : List UInt8) : Nat := if isText l then dec l else 0
end Dig
/-- What parsing hands back. -/
def RP (w : World) (l : List UInt8) (e : Ending) (w' : World) : Prop := ∃ r, e = .returned (.tuple #[r, .int .i64 (perr l)]) ∧ Num w' r (dg (pnum l)) ∧ Below w.heap.size w w'
end Go.Proofs.YtpbkmkcfhkdjjaaDoor

namespace Go.Proofs.YtpbkmkcfhkdjjaaDoor
open Go.RowKit Dig
set_option linter.unusedVariables false

namespace Dig
end Dig
/-- Parts of a text that were read: a numerator, a denominator, and whether the text has the form. -/
def RPart (w : World) (b : Bool × Nat × Nat) (e : Ending) (w' : World) : Prop :=
  ∃ x y, e = .returned (.tuple #[x, y, .bool b.1]) ∧ (b.1 = true → Can w' x b.2.1 26 ∧ Can w' y b.2.2 26) ∧ Below w.heap.size w w'
namespace Dig
end Dig
theorem RPart.no {w w' : World} {b : Bool × Nat × Nat} {e : Ending} (h : b.1 = false) (x y : Value) (he : e = .returned (.tuple #[x, y, .bool false])) (hB : Below w.heap.size w w') : RPart w b e w' :=
  ⟨x, y, by rw [h]; exact he, fun h2 => (by rw [h] at h2; cases h2), hB⟩
/-- The package-level variable that the search in strings reads holds some number. -/
def MaxLQ (w : World) : Prop := ∃ m, w.cell? ⟨0, 0, none⟩ = some (.int .i64 m)
theorem MaxLQ.below {w w' : World} (h : MaxLQ w) (hB : Below w.heap.size w w') : MaxLQ w' := by
  obtain ⟨m, hm⟩ := h
  have hg : 0 < w.heap.size := World.block_lt_of_cell? w ⟨0, 0, none⟩ hm
  exact ⟨m, by rw [hB.cell (p := ⟨0, 0, none⟩) hg]; exact hm⟩
theorem MaxLQ.alloc {w : World} (h : MaxLQ w) (o : Obj) : MaxLQ (w.alloc o) := h.below ((Below.refl _ _).alloc (Nat.le_refl _) o)
theorem RPart.congr {w w' : World} {b b' : Bool × Nat × Nat} {e : Ending} (h : RPart w b e w') (h1 : b.1 = b'.1) (h2 : b'.1 = true → b = b') : RPart w b' e w' := by
  obtain ⟨x, y, e1, h3, hB⟩ := h
  exact ⟨x, y, by rw [← h1]; exact e1, fun h => by rw [← h2 h]; exact h3 (h1.trans h), hB⟩
end Go.Proofs.YtpbkmkcfhkdjjaaDoor

namespace Go.Proofs.YtpbkmkcfhkdjjaaDoor
open Go.RowKit Dig
set_option linter.unusedVariables false

namespace Dig
/-- Above place k the digits of zs are those of the quotient by ten; r is the remainder. -/
def TenRel (xs zs : List Nat) (k r : Nat) : Prop := zs.length = xs.length ∧ Small zs ∧ val (xs.drop k) = val (zs.drop k) * 10 + r ∧ r < 10
theorem TenRel.start (xs : List Nat) : TenRel xs (List.replicate xs.length 0) xs.length 0 :=
  ⟨by simp, Small.replicate _, by rw [List.drop_of_length_le (Nat.le_refl _), List.drop_of_length_le (by simp)]; rfl, by omega⟩
theorem TenRel.step {xs zs : List Nat} {k r x : Nat} (h : TenRel xs zs (k + 1) r) (hk : k < xs.length) (hx : xs.getD k 0 = x) (hs : Small xs) :
    TenRel xs (zs.set k ((x + 4294967296 * r) / 10)) k ((x + 4294967296 * r) % 10) ∧ (x + 4294967296 * r) / 10 < 4294967296 := by
  obtain ⟨hl, hz, hv, hr⟩ := h
  have hxb := hs.get k
  rw [hx] at hxb
  have hq : (x + 4294967296 * r) / 10 < 4294967296 := by omega
  refine ⟨⟨by simpa using hl, hz.set _ _ hq, ?_, Nat.mod_lt _ (by omega)⟩, hq⟩
  rw [drop_set _ _ _ (by omega), drop_getD xs k hk, hv, hx]
  omega
theorem TenRel.done {xs zs : List Nat} {r : Nat} (h : TenRel xs zs 0 r) : val zs = val xs / 10 ∧ r = val xs % 10 := by
  obtain ⟨hl, hz, hv, hr⟩ := h
  simp only [List.drop_zero] at hv
  omega
theorem dtextF_zero (f : Nat) : dtextF f 0 = [] := by cases f <;> rfl
theorem dtextF_fuel (f n : Nat) (h : n ≤ f) : dtextF f n = dtextF n n := by
  induction f using Nat.strongRecOn generalizing n with
  | _ f ih =>
    rcases Nat.eq_zero_or_pos n with h0 | h0
    · subst h0; rw [dtextF_zero, dtextF_zero]
    · obtain ⟨f', rfl⟩ : ∃ f', f = f' + 1 := ⟨f - 1, by omega⟩
      obtain ⟨m, rfl⟩ : ∃ m, n = m + 1 := ⟨n - 1, by omega⟩
      rw [dtextF, dtextF, if_neg (by omega), if_neg (by omega), ih f' (by omega) ((m + 1) / 10) (by omega)]
      rcases Nat.lt_or_ge m f' with h1 | h1
      · rw [ih m (by omega) ((m + 1) / 10) (by omega)]
      · rw [show m = f' by omega, ih f' (by omega) ((f' + 1) / 10) (by omega)]
/-- The decimal letters of a number, none for 0. -/
def dpart (n : Nat) : List UInt8 := dtextF n n
theorem dpart_zero : dpart 0 = [] := rfl
theorem dpart_step (n : Nat) (h : 0 < n) : dpart n = dpart (n / 10) ++ [UInt8.ofNat (48 + n % 10)] := by
  obtain ⟨m, rfl⟩ : ∃ m, n = m + 1 := ⟨n - 1, by omega⟩
  rw [dpart, dtextF, if_neg (by omega), dtextF_fuel m ((m + 1) / 10) (by omega)]
  rfl
theorem dtext_part (n : Nat) (h : 0 < n) : dtext n = dpart n := by rw [dtext, if_neg (by omega)]; rfl
theorem dtext_length (n D : Nat) (h : n < 4294967296 ^ D) (hD : 0 < D) : (dtext n).length ≤ 10 * D := by
  obtain ⟨h1, h2, h3⟩ := dtext_spec n
  cases hl : dtext n with
  | nil => simp
  | cons c t =>
    rw [hl] at h1 h2 h3
    rcases Nat.lt_or_ge (10 ^ t.length) (10 ^ (10 * D)) with h4 | h4
    · have := (Nat.pow_lt_pow_iff_right (by omega : 1 < 10)).1 h4
      simp; omega
    · have h5 := pow32_10 D
      by_cases hc : c = 48
      · simp [lead, hc] at h3
        rw [h3]; simp; omega
      · have := dec_lead_ge c t (h1 c (by simp)) hc
        omega
end Dig

theorem RP.no {w w' : World} {l : List UInt8} {e : Ending} (ht : isText l = false) (h : e = .returned (.tuple #[.slice none 0 0, .int .i64 2]) ∧ Below w.heap.size w w') : RP w l e w' :=
  ⟨.slice none 0 0, by rw [perr, ht]; exact h.1, by rw [pnum, ht]; exact Num.nil w', h.2⟩
set_option maxHeartbeats 2000000 in
theorem small_c (w : World) (v : Value) (xs : List Nat) (h : Num w v xs) (hz : xs.length ≤ 1099511627776) :
    Calls Tryd.prog 65 #[v, .int .u64 10] w fun e w' => ∃ q, e = .returned (.tuple #[q, .int .u64 ((val xs % 10 : Nat) : Int)]) ∧ Own w.heap.size w' q (dg (val xs / 10)) ∧ Below w.heap.size w w' := by
  obtain ⟨A, c, rfl⟩ := h.form
  have hbd := h.bounds.2
  have hs := h.small
  obtain ⟨n, hn⟩ : ∃ n, xs.length = n := ⟨_, rfl⟩
  rw [hn] at hbd hz ⊢
  have hni : (n : Int) ≤ 1099511627776 := by omega
  rw [hn] at h
  have HN := Lib.hid hn
  clear hn
  go_enter Tryd.func65, Tryd.ntmps65
  go_wp2_with (at_make; refine wp_make rfl _ _ rfl _ _ n rfl rfl rfl rfl (by omega) ?_; intro w3 hS hB3)
  go_loopw [7, 8] (fun rr i wr => ∃ (k r : Nat) (zs : List Nat), k ≤ n ∧ i = .int .i64 ((k : Int) - 1) ∧ rr = .int .u64 r ∧ TenRel xs zs k r ∧ Seg wr w.heap.size [] zs [] ∧ Below w.heap.size w wr) (fun _ i _ => (intOf i + 1).toNat)
  case atStart => exact ⟨n, 0, List.replicate n 0, Nat.le_refl _, by go_num, rfl, by rw [← HN.out]; exact TenRel.start xs, hS, hB3⟩
  case round =>
    obtain ⟨k, r, zs, hk, rfl, rfl, hr, hseg, hbel⟩ := hrel
    clear hS hB3
    have hzl : zs.length = n := hr.1.trans HN.out
    have hr10 := hr.2.2.2
    rcases Nat.eq_zero_or_pos k with h0 | h0
    · subst h0
      obtain ⟨hd1, hd2⟩ := hr.done
      have hOq := Own.of_seg (base := w.heap.size) (c := n) hseg hr.2.1 hzl (Nat.le_refl _) (by simp) (by omega)
      have Nq := natNorm_c wr _ _ hOq.num (by omega)
      rw [hd1] at Nq
      have HNq := Lib.hid Nq
      have HD := Lib.hid hd2
      clear Nq hr hd1 hd2 hseg hOq hzl
      go_wp2_with fail
      refine (HNq.out).mono ?_
      rintro e w4 ⟨q, rfl, hO4, hB4⟩
      go_wp2_with fail
      go_ret2
      exact ⟨q, by rw [← HD.out]; rfl, hO4.mono hbel.size, below_then hbel hB4⟩
    · obtain ⟨j, rfl⟩ : ∃ j, k = j + 1 := ⟨k - 1, by omega⟩
      have hjn : j < n := by omega
      rw [show (((j + 1 : Nat) : Int) - 1) = (j : Int) by omega]
      obtain ⟨b, off, rfl, hb, hall⟩ := (h.below hbel).cells (by omega)
      have hcx := hall j hjn
      have bx := hs.get j
      have hfx := hseg.frozen j
      generalize hxx : xs.getD j 0 = x at hcx bx
      have HSTEP := hr.step (by rw [HN.out]; exact hjn) hxx hs
      have hq := HSTEP.2
      have HR := Lib.hid HSTEP.1
      have e1 : ((r : Int) * 4294967296 + x) / 10 = (((x + 4294967296 * r) / 10 : Nat) : Int) := by omega
      have e2 : ((r : Int) * 4294967296 + x) % 10 = (((x + 4294967296 * r) % 10 : Nat) : Int) := by omega
      have HS := Lib.hid (hseg.put0 j ((x + 4294967296 * r) / 10) _ (by rw [hzl]; exact hjn) e1)
      have HB := Lib.hid (hbel.setCell (p := ⟨w.heap.size, j, none⟩) (Nat.le_refl _) (.int .u32 (((r : Int) * 4294967296 + x) / 10)))
      have HE2 := Lib.hid e2
      have hcz := hseg.cell0 (j := j) (by rw [hzl]; exact hjn)
      generalize zs.getD j 0 = z at hcz
      have hji : (j : Int) < n := by omega
      have hri : (r : Int) < 10 := by omega
      clear hall hxx HSTEP hq e1 e2 hr hseg hbel hzl hr10
      go_wp2_with fail
      go_roundw
      case rel => exact ⟨j, _, _, by omega, by go_num, by rw [HE2.out], HR.out, HS.out, HB.out⟩
      case measure => simp [intOf]
/-- A row of one letter. -/
theorem let_one (w : World) (c : UInt8) (q : Int) (hq : q = (c.toNat : Int)) : Let (w.alloc (.cells #[.int .u8 q] 5)) w.heap.size [c] := by
  subst hq
  unfold Let
  rw [heap_alloc_new]
  simp [V]
/-- The length of a string. -/
def strLen : Value → Nat | .string b => b.size | _ => 0
set_option maxHeartbeats 2000000 in
theorem natFormat_c (w : World) (v : Value) (xs : List Nat) (h : Num w v xs) (hz : xs.length ≤ 100000) :
    Calls Tryd.prog 52 #[v] w (RText w (val xs)) := by
  have N := natNorm_c w v xs h (by omega)
  have hlv := dg_length_val xs h.small
  have hvl := val_lt xs h.small
  have hte : (dtext (val xs)).length ≤ 1000010 := by
    have h1 := dtext_length (val xs) (xs.length + 1) (Nat.lt_of_lt_of_le hvl (pow_le (by omega))) (by omega)
    omega
  have HTE := Lib.hid hte
  generalize val xs = n at *
  have HN := Lib.hid N
  clear N hvl hte
  go_enter Tryd.func52, Tryd.ntmps52
  go_wp2_with fail
  refine (HN.out).mono ?_
  rintro e w1 ⟨r, rfl, hO, hB⟩
  rcases Nat.eq_zero_or_pos n with h0 | h0
  · subst h0
    obtain ⟨A, c, e0⟩ := hO.num.form
    rw [show (dg 0).length = 0 from rfl] at e0
    subst e0
    go_wp2_with fail
    go_ret
    exact ⟨rfl, hB⟩
  · obtain ⟨A, c, e0⟩ := hO.num.form
    subst e0
    have hp : 0 < (dg n).length := by
      rcases Nat.eq_zero_or_pos (dg n).length with e | e
      · have := dg_len0 e; omega
      · exact e
    have hnz : (((dg n).length : Int) == 0) = false := by rw [beq_eq_false_iff_ne]; omega
    go_wp2_with fail
    go_loopw [3, 4] (fun x s wr => ∃ (m : Nat) (l : List UInt8), m ≤ n ∧ Own w.heap.size wr x (dg m) ∧ s = .string ⟨l.toArray⟩ ∧ dpart m ++ l = dtext n ∧ Below w.heap.size w wr) (fun _ s _ => 1000010 - strLen s)
    case atStart => exact ⟨n, [], Nat.le_refl _, hO, rfl, by rw [List.append_nil, dtext_part n h0], hB⟩
    case round =>
      clear hO hB
      obtain ⟨m, l, hm, hO, rfl, hl, hB⟩ := hrel
      have hlm := dg_length_mono hm
      rcases Nat.eq_zero_or_pos m with hm0 | hm0
      · subst hm0
        obtain ⟨A, c, e0⟩ := hO.num.form
        rw [show (dg 0).length = 0 from rfl] at e0
        subst e0
        rw [dpart_zero, List.nil_append] at hl
        subst hl
        go_wp2_with fail
        go_ret
        exact ⟨rfl, hB⟩
      · have hp2 : 0 < (dg m).length := by
          rcases Nat.eq_zero_or_pos (dg m).length with e | e
          · have := dg_len0 e; omega
          · exact e
        have SM := small_c wr _ _ hO.num (by omega)
        rw [val_dg] at SM
        have HSM := Lib.hid SM
        obtain ⟨A, c, e0⟩ := hO.num.form
        rw [dpart_step m hm0, List.append_assoc] at hl
        have hlen := congrArg List.length hl
        simp only [List.length_append, List.length_cons, List.length_nil] at hlen
        have HL := Lib.hid hl
        have hll : (l.length : Int) ≤ 8388608 := by have := HTE.out; omega
        subst e0
        clear SM hl
        go_wp2_with fail
        refine (HSM.out).mono ?_
        rintro e w2 ⟨q, rfl, hO2, hB2⟩
        have hd := ofNat_digit (m % 10) (Nat.mod_lt _ (by omega))
        have hl2 := HL.out
        generalize UInt8.ofNat (48 + m % 10) = ch at hd hl2
        have HQ := Lib.hid (show 48 + (m : Int) % 10 = (ch.toNat : Int) by rw [hd]; omega)
        have HL2 := Lib.hid hl2
        have hd10 : m % 10 < 10 := Nat.mod_lt _ (by omega)
        have hBA : Below w2.heap.size w2 (w2.alloc (.cells #[Value.int IntKind.u8 (48 + (m : Int) % 10)] 5)) := (Below.refl _ _).alloc (Nat.le_refl _) _
        have hO3 := (hO2.mono hB.size).below hBA (Nat.le_refl _)
        have hB3 := below_then (below_then hB hB2) hBA
        have HO := Lib.hid hO3
        have HB := Lib.hid hB3
        clear hd hl2 HL hO2 hB2 hBA hB hO3 hB3 hO
        go_wp2_with (with_reducible refine wp_string rfl (.tmp 22) rfl w2.heap.size 0 1 1 rfl [ch] (let_one _ _ _ HQ.out) rfl ?_)
        go_roundw
        case rel => exact ⟨m / 10, ch :: l, by omega, HO.out, by rw [ByteArray.mk_append_mk]; rfl, HL2.out, HB.out⟩
        case measure =>
          have hb := HTE.out
          simp [strLen, ByteArray.size_mk']
          omega
end Go.Proofs.YtpbkmkcfhkdjjaaDoor

namespace Go.Proofs.YtpbkmkcfhkdjjaaDoor
open Go.RowKit Dig
set_option linter.unusedVariables false

namespace Dig
/-- The text of a number. -/
def ftext (q : Rat) : List UInt8 := (if q.num < 0 then [45] else []) ++ (dtext q.num.natAbs ++ (if q.den = 1 then [] else 47 :: dtext q.den))
theorem ftext_eq {q : Rat} {b : Bool} (hb : decide (q.num < 0) = b) : ftext q = (if b = true then [45] else []) ++ (dtext q.num.natAbs ++ (if q.den = 1 then [] else 47 :: dtext q.den)) := by
  unfold ftext
  rw [← hb]
  simp
end Dig
theorem mk_app (l r : List UInt8) : (⟨l.toArray⟩ : ByteArray) ++ ⟨r.toArray⟩ = ⟨(l ++ r).toArray⟩ := ByteArray.mk_append_mk l r
end Go.Proofs.YtpbkmkcfhkdjjaaDoor

namespace Go.Proofs.YtpbkmkcfhkdjjaaDoor
open Go.RowKit Dig
set_option linter.unusedVariables false

namespace Dig
end Dig
/-- What reading a fraction hands back. -/
def RPar (w : World) (l : List UInt8) (k : Nat) (e : Ending) (w' : World) : Prop := (ferr l = 0 → RCanE w (fval l) k e w') ∧ (ferr l ≠ 0 → RErr w (ferr l) e w')
theorem RPar.ok {w w' : World} {l : List UInt8} {k : Nat} {e : Ending} (h : ferr l = 0) (hr : RCanE w (fval l) k e w') : RPar w l k e w' := ⟨fun _ => hr, fun hn => absurd h hn⟩
end Go.Proofs.YtpbkmkcfhkdjjaaDoor

namespace Go.Proofs.YtpbkmkcfhkdjjaaDoor
set_option linter.unusedSimpArgs false
open Go.RowKit Dig
set_option linter.unusedVariables false

theorem natFormat_v {w : World} {v : Value} {a k : Nat} (h : NumV w v a k) (hk : k ≤ 100000) : Calls Tryd.prog 52 #[v] w (RVal w (.string ⟨(dtext a).toArray⟩)) := by
  obtain ⟨L, h1, rfl, h3⟩ := h
  exact natFormat_c w v L h1 (by omega)
set_option maxRecDepth 20000 in
set_option maxHeartbeats 8000000 in
theorem fracFormat_v {w : World} {v : Value} {q : Rat} {k : Nat} (h : FracV w v q k) (hk : k ≤ 5) (h1 : 2 ≤ k) : Calls Tryd.prog 40 #[v] w (RVal w (.string ⟨(ftext q).toArray⟩)) := by
  have NM := Lib.hid (fun w1 hB => fracNorm_v (w := w1) (h.below hB) (by omega) h1)
  obtain ⟨neg, A, m, c, A', m', c', n, d, rfl, hn, hd, hq⟩ := h.parts
  obtain ⟨W, g0, ew, eg, hBW, hF0⟩ := var1 w neg (.slice A m c) (.slice A' m' c')
  obtain ⟨c0, c1, c2⟩ := hF0.cells
  clear hn hd hq h
  go_enter Tryd.func40, Tryd.ntmps40
  go_wp2_with fail
  refine (NM.out _ hBW).mono ?_
  rintro e w1 ⟨v, rfl, hv, hB1⟩
  obtain ⟨b, B, i, j, B', i', j', rfl, hb, hx, hy⟩ := hv.parts
  obtain ⟨w2, g1, ew2, eg2, hB2, hF1⟩ := var1 w1 b (.slice B i j) (.slice B' i' j')
  have hx := hx.below hB2
  have hy := hy.below hB2
  have hBw := below_then (below_then hBW hB1) hB2
  have F1 := Lib.hid (natFormat_v hx.numV (by omega))
  have F2 := Lib.hid (fun (w3 : World) (hB : Below w2.heap.size w2 w3) => natFormat_v (hy.below hB).numV (by omega))
  have hlen := dtext_length q.num.natAbs k hx.2 (by omega)
  have hlen2 := dtext_length q.den k hy.2 (by omega)
  have HF := Lib.hid (ftext_eq hb)
  have HD0 : q.den ≠ 0 := q.den_nz
  obtain ⟨d0, d1, d2⟩ := hF1.cells
  clear hx hv hb hB1 hBW c0 c1 c2 hF0
  generalize q.num.natAbs = N at *
  generalize q.den = D at *
  have HY := Lib.hid hy
  clear hy
  go_wp2_with fail
  refine (F1.out).mono ?_
  rintro e w3 ⟨rfl, hB3⟩
  have hF1 := hF1.below hB3
  have hBw := below_then hBw hB3
  have hY := Lib.hid (HY.out.below hB3)
  have F2 := Lib.hid (fun (w4 : World) (hB : Below w3.heap.size w3 w4) => F2.out w4 (below_then hB3 hB))
  obtain ⟨tl, htl⟩ : ∃ t, dtext N = t := ⟨_, rfl⟩
  rw [htl] at hlen HF ⊢
  clear htl d0 d1 d2 hB3
  obtain ⟨d0, d1, d2⟩ := hF1.cells
  have htli : (tl.length : Int) ≤ 50 := by omega
  by_cases hone : D = 1
  · subst hone
    have HF2 := Lib.hid (HF.out.trans (by rw [if_pos (rfl : (1 : Nat) = 1), List.append_nil]))
    have hCP := Lib.hid (cmpI_eq 1)
    clear HF hlen2
    cases b with
    | true =>
      go_wp2_with fail
      clear d0 d1 d2
      have hy := hY.out
      have hcp := hCP.out
      refine hk_begin (S := fun w' => Below w3.heap.size w3 w') 5 (by kernel_rfl) (by kernel_rfl) ?_
      have hK : Below w3.heap.size w3 w3.drew := (Below.refl w3.heap.size w3).drew
      have hy := hy.below (Below.refl _ _).drew
      refine hk_take (i := 0) (some 14) (.pointer (some ⟨g1, 2, none⟩)) (by kernel_rfl) (by kernel_rfl) (by kernel_rfl) (by kernel_rfl) (by kernel_rfl) (by kernel_rfl) (fun w hS => by kernel_rfl) (fun _ _ d _ _ h => by cases d <;> exact h) hK ?_
      simp only [put_lit, put_non, List.set_cons_zero, List.set_cons_succ]
      refine hk_take (i := 1) (some 15) (.slice B' i' j') (by kernel_rfl) (by kernel_rfl) (by kernel_rfl) (by kernel_rfl) (by kernel_rfl) (by kernel_rfl) (fun w hS => exec_part 64 14 (hF1.below hS).cells.2.2 (by kernel_rfl) (by kernel_rfl) (by kernel_rfl)) (fun _ _ d _ _ h => by cases d <;> exact h) hK ?_
      simp only [put_lit, put_non, List.set_cons_zero, List.set_cons_succ]
      refine hk_one (i := 2) (by kernel_rfl) ?_
      refine op_call (some 16) 54 #[.int .u64 1] (by kernel_rfl) (by kernel_rfl) (by kernel_rfl) (fun w => by kernel_rfl) ?_
      refine (natOf_v (w := w3.drew) 1 (by omega)).mono ?_
      rintro e wz1 ⟨u1, rfl, hu1, _, hB⟩
      refine ⟨_, rfl, below_then hK hB, ?_⟩
      have hK := below_then hK hB
      have hy := hy.below hB
      clear hB
      simp only [put_lit, put_non, List.set_cons_zero, List.set_cons_succ]
      refine hk_one (i := 3) (by kernel_rfl) ?_
      refine op_call (some 17) 53 #[.slice B' i' j', u1] (by kernel_rfl) (by kernel_rfl) (by kernel_rfl) (fun w => by kernel_rfl) ?_
      refine (natCmp_is hy.numV hu1.numV (by omega) (by omega) hcp).mono ?_
      rintro e wz2 ⟨rfl, hB⟩
      refine ⟨_, rfl, below_then hK hB, ?_⟩
      have hK := below_then hK hB
      have hy := hy.below hB
      have hu1 := hu1.below hB
      clear hB
      simp only [put_lit, put_non, List.set_cons_zero, List.set_cons_succ]
      refine hk_take (i := 4) (some 18) (.bool false) (by kernel_rfl) (by kernel_rfl) (by kernel_rfl) (by kernel_rfl) (by kernel_rfl) (by kernel_rfl) (fun w hS => by kernel_rfl) (fun _ _ d _ _ h => by cases d <;> exact h) hK ?_
      simp only [put_lit, put_non, List.set_cons_zero, List.set_cons_succ]
      refine hk_done (by kernel_rfl) ?_
      go_wp2_with fail
      go_ret
      exact ⟨ret_eq (show Value.string ((⟨[45].toArray⟩ : ByteArray) ++ ⟨tl.toArray⟩) = _ by rw [mk_app, HF2.out]; rfl), below_then hBw hK⟩
    | false =>
      go_wp2_with fail
      clear d0 d1 d2
      have hy := hY.out
      have hcp := hCP.out
      refine hk_begin (S := fun w' => Below w3.heap.size w3 w') 5 (by kernel_rfl) (by kernel_rfl) ?_
      have hK : Below w3.heap.size w3 w3.drew := (Below.refl w3.heap.size w3).drew
      have hy := hy.below (Below.refl _ _).drew
      refine hk_take (i := 0) (some 14) (.pointer (some ⟨g1, 2, none⟩)) (by kernel_rfl) (by kernel_rfl) (by kernel_rfl) (by kernel_rfl) (by kernel_rfl) (by kernel_rfl) (fun w hS => by kernel_rfl) (fun _ _ d _ _ h => by cases d <;> exact h) hK ?_
      simp only [put_lit, put_non, List.set_cons_zero, List.set_cons_succ]
      refine hk_take (i := 1) (some 15) (.slice B' i' j') (by kernel_rfl) (by kernel_rfl) (by kernel_rfl) (by kernel_rfl) (by kernel_rfl) (by kernel_rfl) (fun w hS => exec_part 64 14 (hF1.below hS).cells.2.2 (by kernel_rfl) (by kernel_rfl) (by kernel_rfl)) (fun _ _ d _ _ h => by cases d <;> exact h) hK ?_
      simp only [put_lit, put_non, List.set_cons_zero, List.set_cons_succ]
      refine hk_one (i := 2) (by kernel_rfl) ?_
      refine op_call (some 16) 54 #[.int .u64 1] (by kernel_rfl) (by kernel_rfl) (by kernel_rfl) (fun w => by kernel_rfl) ?_
      refine (natOf_v (w := w3.drew) 1 (by omega)).mono ?_
      rintro e wz1 ⟨u1, rfl, hu1, _, hB⟩
      refine ⟨_, rfl, below_then hK hB, ?_⟩
      have hK := below_then hK hB
      have hy := hy.below hB
      clear hB
      simp only [put_lit, put_non, List.set_cons_zero, List.set_cons_succ]
      refine hk_one (i := 3) (by kernel_rfl) ?_
      refine op_call (some 17) 53 #[.slice B' i' j', u1] (by kernel_rfl) (by kernel_rfl) (by kernel_rfl) (fun w => by kernel_rfl) ?_
      refine (natCmp_is hy.numV hu1.numV (by omega) (by omega) hcp).mono ?_
      rintro e wz2 ⟨rfl, hB⟩
      refine ⟨_, rfl, below_then hK hB, ?_⟩
      have hK := below_then hK hB
      have hy := hy.below hB
      have hu1 := hu1.below hB
      clear hB
      simp only [put_lit, put_non, List.set_cons_zero, List.set_cons_succ]
      refine hk_take (i := 4) (some 18) (.bool false) (by kernel_rfl) (by kernel_rfl) (by kernel_rfl) (by kernel_rfl) (by kernel_rfl) (by kernel_rfl) (fun w hS => by kernel_rfl) (fun _ _ d _ _ h => by cases d <;> exact h) hK ?_
      simp only [put_lit, put_non, List.set_cons_zero, List.set_cons_succ]
      refine hk_done (by kernel_rfl) ?_
      go_wp2_with fail
      go_ret
      exact ⟨ret_eq (show Value.string ⟨tl.toArray⟩ = _ by rw [HF2.out]; rfl), below_then hBw hK⟩
  · have HF2 := Lib.hid (HF.out.trans (by rw [if_neg hone]))
    have hCP := Lib.hid (cmpI_gt (show 1 < D by omega))
    clear HF hone
    obtain ⟨dl, hdl⟩ : ∃ t, dtext D = t := ⟨_, rfl⟩
    have HDL := Lib.hid hdl
    rw [hdl] at hlen2 HF2
    have hdli : (dl.length : Int) ≤ 50 := by omega
    clear hdl
    cases b with
    | true =>
      go_wp2_with fail
      clear d0 d1 d2
      have hy := hY.out
      have hcp := hCP.out
      refine hk_begin (S := fun w' => Below w3.heap.size w3 w') 5 (by kernel_rfl) (by kernel_rfl) ?_
      have hK : Below w3.heap.size w3 w3.drew := (Below.refl w3.heap.size w3).drew
      have hy := hy.below (Below.refl _ _).drew
      refine hk_take (i := 0) (some 14) (.pointer (some ⟨g1, 2, none⟩)) (by kernel_rfl) (by kernel_rfl) (by kernel_rfl) (by kernel_rfl) (by kernel_rfl) (by kernel_rfl) (fun w hS => by kernel_rfl) (fun _ _ d _ _ h => by cases d <;> exact h) hK ?_
      simp only [put_lit, put_non, List.set_cons_zero, List.set_cons_succ]
      refine hk_take (i := 1) (some 15) (.slice B' i' j') (by kernel_rfl) (by kernel_rfl) (by kernel_rfl) (by kernel_rfl) (by kernel_rfl) (by kernel_rfl) (fun w hS => exec_part 64 14 (hF1.below hS).cells.2.2 (by kernel_rfl) (by kernel_rfl) (by kernel_rfl)) (fun _ _ d _ _ h => by cases d <;> exact h) hK ?_
      simp only [put_lit, put_non, List.set_cons_zero, List.set_cons_succ]
      refine hk_one (i := 2) (by kernel_rfl) ?_
      refine op_call (some 16) 54 #[.int .u64 1] (by kernel_rfl) (by kernel_rfl) (by kernel_rfl) (fun w => by kernel_rfl) ?_
      refine (natOf_v (w := w3.drew) 1 (by omega)).mono ?_
      rintro e wz1 ⟨u1, rfl, hu1, _, hB⟩
      refine ⟨_, rfl, below_then hK hB, ?_⟩
      have hK := below_then hK hB
      have hy := hy.below hB
      clear hB
      simp only [put_lit, put_non, List.set_cons_zero, List.set_cons_succ]
      refine hk_one (i := 3) (by kernel_rfl) ?_
      refine op_call (some 17) 53 #[.slice B' i' j', u1] (by kernel_rfl) (by kernel_rfl) (by kernel_rfl) (fun w => by kernel_rfl) ?_
      refine (natCmp_is hy.numV hu1.numV (by omega) (by omega) hcp).mono ?_
      rintro e wz2 ⟨rfl, hB⟩
      refine ⟨_, rfl, below_then hK hB, ?_⟩
      have hK := below_then hK hB
      have hy := hy.below hB
      have hu1 := hu1.below hB
      clear hB
      simp only [put_lit, put_non, List.set_cons_zero, List.set_cons_succ]
      refine hk_take (i := 4) (some 18) (.bool true) (by kernel_rfl) (by kernel_rfl) (by kernel_rfl) (by kernel_rfl) (by kernel_rfl) (by kernel_rfl) (fun w hS => by kernel_rfl) (fun _ _ d _ _ h => by cases d <;> exact h) hK ?_
      simp only [put_lit, put_non, List.set_cons_zero, List.set_cons_succ]
      refine hk_done (by kernel_rfl) ?_
      obtain ⟨d0, d1, d2⟩ := (hF1.below hK).cells
      go_wp2_with fail
      refine (F2.out _ hK).mono ?_
      rintro e w5 ⟨rfl, hB5⟩
      rw [HDL.out]
      go_wp2_with fail
      go_ret
      exact ⟨ret_eq (show Value.string ((⟨[45].toArray⟩ : ByteArray) ++ ⟨tl.toArray⟩ ++ ⟨[47].toArray⟩ ++ ⟨dl.toArray⟩) = _ by rw [mk_app, mk_app, mk_app, HF2.out]; simp), below_then hBw (below_then hK hB5)⟩
    | false =>
      go_wp2_with fail
      clear d0 d1 d2
      have hy := hY.out
      have hcp := hCP.out
      refine hk_begin (S := fun w' => Below w3.heap.size w3 w') 5 (by kernel_rfl) (by kernel_rfl) ?_
      have hK : Below w3.heap.size w3 w3.drew := (Below.refl w3.heap.size w3).drew
      have hy := hy.below (Below.refl _ _).drew
      refine hk_take (i := 0) (some 14) (.pointer (some ⟨g1, 2, none⟩)) (by kernel_rfl) (by kernel_rfl) (by kernel_rfl) (by kernel_rfl) (by kernel_rfl) (by kernel_rfl) (fun w hS => by kernel_rfl) (fun _ _ d _ _ h => by cases d <;> exact h) hK ?_
      simp only [put_lit, put_non, List.set_cons_zero, List.set_cons_succ]
      refine hk_take (i := 1) (some 15) (.slice B' i' j') (by kernel_rfl) (by kernel_rfl) (by kernel_rfl) (by kernel_rfl) (by kernel_rfl) (by kernel_rfl) (fun w hS => exec_part 64 14 (hF1.below hS).cells.2.2 (by kernel_rfl) (by kernel_rfl) (by kernel_rfl)) (fun _ _ d _ _ h => by cases d <;> exact h) hK ?_
      simp only [put_lit, put_non, List.set_cons_zero, List.set_cons_succ]
      refine hk_one (i := 2) (by kernel_rfl) ?_
      refine op_call (some 16) 54 #[.int .u64 1] (by kernel_rfl) (by kernel_rfl) (by kernel_rfl) (fun w => by kernel_rfl) ?_
      refine (natOf_v (w := w3.drew) 1 (by omega)).mono ?_
      rintro e wz1 ⟨u1, rfl, hu1, _, hB⟩
      refine ⟨_, rfl, below_then hK hB, ?_⟩
      have hK := below_then hK hB
      have hy := hy.below hB
      clear hB
      simp only [put_lit, put_non, List.set_cons_zero, List.set_cons_succ]
      refine hk_one (i := 3) (by kernel_rfl) ?_
      refine op_call (some 17) 53 #[.slice B' i' j', u1] (by kernel_rfl) (by kernel_rfl) (by kernel_rfl) (fun w => by kernel_rfl) ?_
      refine (natCmp_is hy.numV hu1.numV (by omega) (by omega) hcp).mono ?_
      rintro e wz2 ⟨rfl, hB⟩
      refine ⟨_, rfl, below_then hK hB, ?_⟩
      have hK := below_then hK hB
      have hy := hy.below hB
      have hu1 := hu1.below hB
      clear hB
      simp only [put_lit, put_non, List.set_cons_zero, List.set_cons_succ]
      refine hk_take (i := 4) (some 18) (.bool true) (by kernel_rfl) (by kernel_rfl) (by kernel_rfl) (by kernel_rfl) (by kernel_rfl) (by kernel_rfl) (fun w hS => by kernel_rfl) (fun _ _ d _ _ h => by cases d <;> exact h) hK ?_
      simp only [put_lit, put_non, List.set_cons_zero, List.set_cons_succ]
      refine hk_done (by kernel_rfl) ?_
      obtain ⟨d0, d1, d2⟩ := (hF1.below hK).cells
      go_wp2_with fail
      refine (F2.out _ hK).mono ?_
      rintro e w5 ⟨rfl, hB5⟩
      rw [HDL.out]
      go_wp2_with fail
      go_ret
      exact ⟨ret_eq (show Value.string ((⟨tl.toArray⟩ : ByteArray) ++ ⟨[47].toArray⟩ ++ ⟨dl.toArray⟩) = _ by rw [mk_app, mk_app, HF2.out]; simp), below_then hBw (below_then hK hB5)⟩
end Go.Proofs.YtpbkmkcfhkdjjaaDoor

/- Package value as landed: DecodeKey. -/
import Derived.Test.YtpbkmkcfhkdjjaaDoorVvm
namespace Go.Proofs.YtpbkmkcfhkdjjaaDoor
open Go.RowKit Dig
set_option linter.unusedVariables false

def lenV : Value → Nat
  | .slice _ n _ => n
  | _ => 0
/-- What DecodeKey answers. -/
def DecodeR (w : World) (b : List UInt8) (e : Ending) (w' : World) : Prop :=
  Below w.heap.size w w' ∧ ((∃ u l, e = .returned (.tuple #[u, .int .i64 0]) ∧ OwV w.heap.size w' u l ∧ IsKey b l) ∨ ((∀ l, ¬ IsKey b l) ∧ e = .returned (.tuple #[.slice none 0 0, .int .i64 2])))
/-- What is still to be read. -/
def RestR (ts rest : List UInt8) (l1 : List Vl) : Prop := l1.length + rest.length ≤ ts.length ∧ ∀ l, IsKey ts l ↔ ∃ l', l = l1 ++ l' ∧ IsKey rest l'
/-- The slice that is read stays as it is: it lies below. -/
def LowB (base : Nat) (v : Value) (ts : List UInt8) : Prop := 0 < ts.length → ∀ g, v.ownBlock = some g → g < base
theorem byt_grown {w w' : World} {v u : Value} {ts : List UInt8} {l : List Vl} {base : Nat} (h : Byt w v ts) (hg : w.grownBy w' u.ownBlock) (ho : OwV base w u l) (hb : LowB base v ts) : Byt w' v ts := by
  obtain ⟨A, c, e, h1, h2, h3⟩ := h
  refine ⟨A, c, e, h1, h2, fun hp => ?_⟩
  obtain ⟨b, off, e2, hlt, hc⟩ := h3 hp
  subst e2
  have hlow : b < base := hb hp b (by rw [e]; rfl)
  refine ⟨b, off, rfl, Nat.lt_of_lt_of_le hlt hg.size, fun j hj => ?_⟩
  rw [World.cell?_of_block (a := ⟨b, off + j, none⟩) (hg.block b hlt fun e3 => by have := (ho.block b e3.symm).1; omega)]
  exact hc j hj
theorem restR_step {ts rest : List UInt8} {l1 : List Vl} {x : Vl} {m : Nat} (h : RestR ts rest l1) (hm : 1 ≤ m) (hml : m ≤ rest.length) (hx : ∀ l, IsKey rest l ↔ ∃ l', l = x :: l' ∧ IsKey (rest.drop m) l') : RestR ts (rest.drop m) (l1 ++ [x]) := by
  refine ⟨by have := h.1; simp only [List.length_append, List.length_singleton, List.length_drop]; omega, fun l => ?_⟩
  rw [h.2 l]
  constructor
  · rintro ⟨l', rfl, hr⟩
    obtain ⟨l'', rfl, hr2⟩ := (hx l').1 hr
    exact ⟨l'', by simp, hr2⟩
  · rintro ⟨l'', rfl, hr⟩
    exact ⟨x :: l'', by simp, (hx _).2 ⟨l'', rfl, hr⟩⟩
set_option maxRecDepth 20000 in
set_option maxHeartbeats 8000000 in
theorem decode_c {w : World} {v : Value} {ts : List UInt8} (h : Byt w v ts) (hl : ts.length ≤ 100000) : Calls Tryd.prog 26 #[v] w (DecodeR w ts) := by
  have H := Lib.hid h
  have HTS := Lib.hid hl
  have FV := fun w x h => valid_c w x h
  have LV : Hid (LowB w.heap.size v ts) := Lib.hid fun hp g hg => by
    obtain ⟨A, c, e, _, _, h3⟩ := h
    obtain ⟨b, off, rfl, hb, _⟩ := h3 hp
    rw [e] at hg
    simp only [Value.ownBlock, Option.some.injEq] at hg
    omega
  clear h hl
  go_enter Tryd.func26, Tryd.ntmps26
  go_wp2_with fail
  go_loopw [0, 4] (fun bv ov wr => ∃ rest l1, Byt wr bv rest ∧ LowB w.heap.size bv rest ∧ OwV w.heap.size wr ov l1 ∧ RestR ts rest l1 ∧ Below w.heap.size w wr) (fun bv _ _ => lenV bv)
  case atStart => exact ⟨ts, [], H.out, LV.out, OwV.nil _ _, ⟨by simp, fun l => by simp⟩, Below.refl _ _⟩
  case round =>
    obtain ⟨rest, l1, hr, hlow, ho, hrr, hB⟩ := hrel
    have RR := Lib.hid hrr
    have BW := Lib.hid hB
    have O1 := Lib.hid ho
    cases rest with
    | nil =>
      obtain ⟨A, c, rfl⟩ := hr.form
      have FIN := Lib.hid (show IsKey ts l1 from (hrr.2 l1).2 ⟨[], by simp, isKey_nil.2 rfl⟩)
      clear hrr hB ho hr hlow
      go_wp2_with fail
      go_ret2
      exact ⟨BW.out, .inl ⟨_, l1, rfl, O1.out, FIN.out⟩⟩
    | cons c0 t =>
      have HR := Lib.hid hr
      obtain ⟨A, c, rfl⟩ := hr.form
      obtain ⟨b, off, rfl, hbl, _⟩ := hr.cells (by simp)
      obtain ⟨n, hn⟩ : ∃ n, (c0 :: t).length = n := ⟨_, rfl⟩
      have RB := Lib.hid hlow
      have HN := Lib.hid hn
      have DV := Lib.hid (decodeValue_c hr (by have h1 := RR.out.1; rw [List.length_cons] at h1; have := HTS.out; omega))
      have NC := Lib.hid (show n ≤ c by have := hr.bounds.2.1; omega)
      rw [hn] at DV HR ⊢
      have hnp : (n : Int) > 0 := by have : n = t.length + 1 := by rw [← hn]; rfl
                                     omega
      clear hrr hB ho hr hlow hbl hn
      go_wp2_with fail
      refine DV.out.mono ?_
      rintro e w2 ⟨x, m, rfl, hd, hx, hB⟩
      have HX := Lib.hid hx
      have HD := Lib.hid hd
      have O1 := Lib.hid (O1.out.below hB (Nat.le_refl _))
      have HR := Lib.hid (HR.out.below hB)
      have BW := Lib.hid (below_then BW.out hB)
      clear hx hd hB DV
      go_wp2_with (first | ((with_reducible refine wp_allocV 5 rfl rfl rfl ?_); intro w3 hv hb; have V5 := Lib.hid hv; have B5 := Lib.hid hb; clear hv hb) | ((with_reducible refine wp_storeV rfl 5 13 rfl w2.heap.size x (0, 0, []) ?hx ?hy V5.out ?_); (case hx => rfl); (case hy => rfl); intro w4 hv hb; have V5 := Lib.hid hv; have G5 := Lib.hid hb; clear hv hb) | ((with_reducible refine wp_loadV rfl 5 rfl w2.heap.size (0) x ?hx V5.out.range ?_); (case hx => rfl)))
      refine (FV _ x HX.out).mono ?_
      rintro e w5 ⟨rfl, hB⟩
      have V5 := Lib.hid (V5.out.below hB)
      have B45 := Lib.hid (below_then (below_store (B := w2.heap.size) B5.out G5.out (Nat.le_refl _) B5.out.size) hB)
      have O1 := Lib.hid (O1.out.below B45.out (Nat.le_refl _))
      have HR := Lib.hid (HR.out.below B45.out)
      have BW := Lib.hid (below_then BW.out B45.out)
      clear hB G5 B5 B45
      rcases HD.out with ⟨hv, hok, hov, hm1, hml, hx⟩ | ⟨hv, hno⟩
      · have RN := Lib.hid (restR_step RR.out hm1 hml hx)
        have HM := Lib.hid (show m ≤ n ∧ n ≤ c ∧ 1 ≤ m from ⟨by rw [← HN.out]; exact hml, NC.out, hm1⟩)
        have LT : Hid (l1.length + [x].length ≤ 1000000) := Lib.hid (by have h1 := RN.out.1; have := HTS.out; simp only [List.length_append, List.length_singleton] at h1 ⊢; omega)
        rw [hv]
        clear hv hok hov hm1 hml hx HD
        go_wp2_with (first | ((with_reducible refine wp_loadV rfl 5 rfl w2.heap.size (0) x ?hx V5.out.range ?_); (case hx => rfl)) | ((with_reducible refine wp_oneV rfl 19 x rfl ?hx ?_); (case hx => rfl); intro w6 hv hb; have E6 := Lib.hid hv; have B6 := Lib.hid (below_then BW.out hb); have O6 := Lib.hid (O1.out.below hb (Nat.le_refl _)); have R6 := Lib.hid (HR.out.below hb); clear hv hb) | (at_builtin; refine wp_appendV rfl _ _ rfl w.heap.size _ _ rfl O6.out _ _ rfl E6.out LT.out B6.out.size ?_; intro v7 w7 hv hg; have O7 := Lib.hid hv; have B7 := Lib.hid (B6.out.grown hg B6.out.size (fun k hk => (O6.out.block k hk).1)); have R7 := Lib.hid (byt_grown R6.out hg O6.out RB.out); clear hv hg) | ((with_reducible refine wp_fromC rfl 22 (.tmp 23) (A := some ⟨b, off, none⟩) (n := n) (c := c) (k := m) rfl ?hx rfl ?hk ?hn ?_); (case hx => rfl); (case hk => exact HM.out.1); (case hn => exact HM.out.2.1)))
        go_roundw
        case rel =>
          refine ⟨(c0 :: t).drop m, l1 ++ [x], R7.out.tail HM.out.1, fun _ g hg => ?_, O7.out, RN.out, B7.out⟩
          obtain ⟨o', eT⟩ := tailB_some (b := b) (off := off) (c := c) (k := m)
          rw [eT] at hg
          exact RB.out (by simp) g hg
        case measure => have := HM.out; simp [lenV]; omega
      · have NO := Lib.hid (show ∀ l, ¬ IsKey ts l from fun l h => by
          obtain ⟨l', _, h2⟩ := (RR.out.2 l).1 h
          exact hno l' h2)
        rw [hv]
        clear hv hno HD
        go_wp2_with fail
        go_ret2
        exact ⟨BW.out, .inr ⟨NO.out, rfl⟩⟩
end Go.Proofs.YtpbkmkcfhkdjjaaDoor

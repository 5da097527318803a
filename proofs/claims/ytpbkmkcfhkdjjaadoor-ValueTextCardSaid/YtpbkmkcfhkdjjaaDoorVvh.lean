/- Package value as landed: EncodeKey whole. -/
import Derived.Test.YtpbkmkcfhkdjjaaDoorVvg
namespace Go.Proofs.YtpbkmkcfhkdjjaaDoor
open Go.RowKit Dig
set_option linter.unusedVariables false

/-- A short list of values that are not too long. -/
def Few (l : List Vl) : Prop := l.length ≤ 1000 ∧ ∀ y ∈ l, OkVl y ∧ y.2.2.length ≤ 1000
/-- What EncodeKey answers. -/
def encL (l : List Vl) : List UInt8 := if l.all vldB = true then keyL l else []
theorem okV_of {x : Vl} (h : vldB x = true) (ho : OkVl x) : okV x := ⟨(vldB_iff x).1 h, ho.2.1.1, ho.2.1.2⟩
theorem keyV_length {x : Vl} (h : okV x) : (keyV x).length ≤ 66 := by
  obtain ⟨t, n, s⟩ := x
  rcases h.1 with ⟨e1, e2⟩ | ⟨e1, e2, e3, e4⟩
  · obtain rfl : t = 1 := e1
    show (1 :: beW 8 (upI n)).length ≤ 66
    rw [List.length_cons, beW_length]
    omega
  · obtain rfl : t = 2 := e1
    show (2 :: (s ++ [0])).length ≤ 66
    have : s.length ≤ 64 := e3
    simp only [List.length_cons, List.length_append, List.length_nil]
    omega
theorem keyL_length : ∀ {l : List Vl}, (∀ x ∈ l, okV x) → (keyL l).length ≤ 66 * l.length
  | [], _ => Nat.zero_le _
  | x :: l, h => by
    have h1 := keyV_length (h x (by simp))
    have h2 := keyL_length (l := l) fun y hy => h y (by simp [hy])
    show (keyV x ++ keyL l).length ≤ _
    rw [List.length_append, List.length_cons]
    omega
theorem keyL_take {l : List Vl} {j : Nat} {x : Vl} (h : l[j]? = some x) : keyL (l.take (j + 1)) = keyL (l.take j) ++ keyV x := by
  rw [List.take_add_one, h, keyL_append]
  show _ ++ (keyV x ++ []) = _
  rw [List.append_nil]
set_option maxRecDepth 20000 in
set_option maxHeartbeats 4000000 in
theorem encode_c {w : World} {a : Value} {l : List Vl} (ha : Vls w a l) (hf : Few l) :
    Calls Tryd.prog 23 #[a] w fun e w' => ∃ u, e = .returned u ∧ OwB w.heap.size w' u (encL l) ∧ Below w.heap.size w w' := by
  obtain ⟨A, c, rfl⟩ := ha.form
  have HA := Lib.hid ha
  have HF := Lib.hid hf
  obtain ⟨R, hR⟩ : ∃ r, encL l = r := ⟨_, rfl⟩
  have HR := Lib.hid hR
  rw [hR]
  obtain ⟨n, hn⟩ : ∃ q, l.length = q := ⟨_, rfl⟩
  have HN := Lib.hid hn
  have hli : (n : Int) ≤ 1000 := by have := hf.1; omega
  have HL := Lib.hid (show n ≤ 1000 by omega)
  rw [hn]
  have FV := fun w x h => valid_c w x h
  have FA := fun w base v ts (h : OwB base w v ts) h2 h3 x hx => appendValue_c (w := w) h h2 h3 (x := x) hx
  clear ha hf hR hn
  go_enter Tryd.func23, Tryd.ntmps23
  go_wp2_with fail
  go_loopw [3, 8] (fun ov iv wr => ∃ j : Nat, j ≤ n ∧ iv = .int .i64 (j : Int) ∧ OwB w.heap.size wr ov (keyL (l.take j)) ∧ (∀ y ∈ l.take j, vldB y = true) ∧ Below w.heap.size w wr) (fun _ iv _ => n - (intOf iv).toNat)
  case atStart => exact ⟨0, Nat.zero_le _, rfl, OwB.nil _ _, fun y hy => (List.not_mem_nil hy).elim, Below.refl _ _⟩
  case round =>
    obtain ⟨j, hjn, rfl, hO, hV, hB⟩ := hrel
    have BW := Lib.hid hB
    have OW := Lib.hid hO
    have AV := Lib.hid hV
    have NK := Lib.hid hjn
    have LK : Hid ((keyL (l.take j)).length ≤ 70000) := Lib.hid (by
      have h1 := keyL_length (l := l.take j) fun x hx => okV_of (hV x hx) (HF.out.2 x (List.mem_of_mem_take hx)).1
      have h2 : (l.take j).length ≤ j := List.length_take_le _ _
      have := HL.out
      omega)
    clear hB hO hV
    by_cases hj : j < n
    · have HJ : (j : Int) < (n : Int) := by omega
      obtain ⟨x, hx⟩ : ∃ x, l[j]? = some x := ⟨l[j]'(by rw [HN.out]; exact hj), List.getElem?_eq_getElem _⟩
      have HX := Lib.hid hx
      have FX := Lib.hid (HF.out.2 x (List.mem_of_getElem? hx))
      have hal := HA.out.below BW.out
      obtain ⟨b1, o1, eA, hb1, hr1⟩ := hal.at (j := j) (by rw [HN.out]; exact hj)
      rw [(List.getElem?_eq_some_iff.1 hx).2] at hr1
      subst eA
      have RA := Lib.hid hr1
      clear hal hr1 hb1 hx
      go_wp2_with (first | ((with_reducible refine wp_loadV rfl 10 rfl b1 (o1 + j * 3) x ?hx RA.out ?_); (case hx => rfl)) | ((with_reducible refine wp_allocV 5 rfl rfl rfl ?_); intro w2 hv hb; have V5 := Lib.hid hv; have B5 := Lib.hid hb; clear hv hb) | ((with_reducible refine wp_storeV rfl 5 11 rfl wr.heap.size x (0, 0, []) ?hx ?hy V5.out ?_); (case hx => rfl); (case hy => rfl); intro w3 hv hb; have V5 := Lib.hid hv; have G5 := Lib.hid hb; clear hv hb; have B3 := Lib.hid (below_store (B := wr.heap.size) B5.out G5.out (Nat.le_refl _) B5.out.size)) | ((with_reducible refine wp_loadV rfl 5 rfl wr.heap.size (0) x ?hx V5.out.range ?_); (case hx => rfl)))
      refine (FV _ x (by have := FX.out.2; omega)).mono ?_
      rintro e w4 ⟨rfl, hB4⟩
      have V5b := Lib.hid (V5.out.below hB4)
      have BA := Lib.hid (below_then B3.out hB4)
      clear hB4 V5 G5 B5 B3
      cases hv : vldB x with
      | false =>
        have E := Lib.hid (show R = [] by
          rw [← HR.out]
          unfold encL
          rw [if_neg]
          intro h
          have := List.all_eq_true.1 h x (List.mem_of_getElem? HX.out)
          rw [hv] at this
          cases this)
        clear hv
        go_wp2_with fail
        go_ret
        exact ⟨_, rfl, by rw [E.out]; exact OwB.nil _ _, below_then BW.out BA.out⟩
      | true =>
        have KX := Lib.hid (okV_of hv FX.out.1)
        have HV := Lib.hid hv
        clear hv
        go_wp2_with (((with_reducible refine wp_loadV rfl 5 rfl wr.heap.size (0) x ?hx V5b.out.range ?_); (case hx => rfl)))
        refine (FA _ w.heap.size _ _ (OW.out.below BA.out (Nat.le_refl _)) (by have := LK.out; omega) (Nat.le_trans BW.out.size BA.out.size) x KX.out).mono ?_
        rintro e w5 ⟨u5, rfl, hO5, hB5⟩
        have O5 := Lib.hid hO5
        have B5 := Lib.hid ((below_then BW.out BA.out).trans hB5)
        clear hO5 hB5
        go_wp2_with fail
        go_roundw
        case rel =>
          refine ⟨j + 1, by omega, by go_num, by rw [keyL_take HX.out]; exact O5.out, fun y hy => ?_, B5.out⟩
          rw [List.take_add_one, HX.out] at hy
          rcases List.mem_append.1 hy with h | h
          · exact AV.out y h
          · rw [show y = x by simpa using h]
            exact HV.out
        case measure => simp [intOf]; omega
    · have HJ : ¬ (j : Int) < (n : Int) := by omega
      have E := Lib.hid (show R = keyL (l.take j) by
        rw [← HR.out]
        unfold encL
        have e : l.take j = l := List.take_of_length_le (by rw [HN.out]; omega)
        have hv := AV.out
        rw [e] at hv ⊢
        rw [if_pos (List.all_eq_true.2 hv)])
      go_wp2_with fail
      go_ret
      exact ⟨_, rfl, by rw [E.out]; exact OW.out, BW.out⟩
end Go.Proofs.YtpbkmkcfhkdjjaaDoor

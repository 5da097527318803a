/- The contract of trim: it cuts the leading zeros off and shares the memory of its argument. -/
import Derived.Test.YticakmcjiofhoaaMem
import Derived.Test.YticakmcjiofhoaaProg
import Derived.Outline
import Derived.Lib.Hide
namespace Go.Proofs.Yticakmcjiofhoaa
open Go.RowKit Dig

/-- What trim makes of a slice at A with capacity c when m digits are left. -/
def trimV (A : Option Addr) (c m : Nat) : Value := if m = 0 then .slice none 0 0 else .slice A m c

theorem ret_eq {a b : Value} (h : a = b) : Ending.returned a = .returned b := by rw [h]
theorem trimV_zero (A : Option Addr) (c : Nat) : trimV A c 0 = .slice none 0 0 := rfl
theorem trimV_pos (A : Option Addr) (c m : Nat) (h : 0 < m) : trimV A c m = .slice A m c := by unfold trimV; rw [if_neg (by omega)]

set_option maxHeartbeats 400000 in
theorem trim_c (w : World) (A : Option Addr) (n c : Nat) (xs : List Nat) (h : Num w (.slice A n c) xs) :
    Calls Try.prog 41 #[.slice A n c] w fun e w' => e = .returned (trimV A c (dg (val xs)).length) ∧ w = w' := by
  obtain ⟨A', c', e, ⟨hc, hn⟩, hm, hs, hr⟩ := h
  simp only [Value.slice.injEq] at e
  obtain ⟨rfl, rfl, rfl⟩ := e
  unfold maxLen at hm
  clear hn
  go_enter Try.func41, Try.ntmps41
  go_wp2
  go_loop [3] (fun i => ∃ k : Nat, k ≤ xs.length ∧ i = .int .i64 k ∧ (∀ j, k ≤ j → j < xs.length → xs.getD j 0 = 0)) (fun i => (intOf i).toNat)
  case atStart => exact ⟨xs.length, Nat.le_refl _, rfl, fun j h1 h2 => by omega⟩
  case round =>
    obtain ⟨k, hk, rfl, hz⟩ := hrel
    by_cases h0 : k = 0
    · subst h0
      have H := take_trim xs 0 hs (by omega) (fun j _ h2 => hz j (by omega) h2) (.inl rfl)
      go_wp2
      go_ret
      exact ⟨by rw [← H]; rfl, rfl⟩
    · obtain ⟨b, off, rfl, hb, hcell⟩ := hr (by omega)
      have hc1 := hcell (k - 1) (by omega)
      have hk0 : (0 : Int) < k := by omega
      obtain ⟨d, hdd⟩ : ∃ d, xs.getD (k - 1) 0 = d := ⟨_, rfl⟩
      rw [hdd] at hc1
      have HD := Lib.hid hdd
      clear hdd
      by_cases hd : d = 0
      · subst hd
        go_wp2
        go_round
        case rel =>
          refine ⟨k - 1, by omega, by go_num, fun j h1 h2 => ?_⟩
          by_cases hj : j = k - 1
          · rw [hj]; exact HD.out
          · exact hz j (by omega) h2
        case measure => simp [intOf]; omega
      · have H : Hid (xs.take k = dg (val xs)) := take_trim xs k hs hk hz (.inr (by rw [HD.out]; exact hd))
        go_wp2
        go_ret
        exact ⟨ret_eq (show Value.slice (some ⟨b, off, none⟩) k c = _ by rw [← H.out, List.length_take, Nat.min_eq_left hk, trimV_pos _ _ _ (by omega)]), rfl⟩

theorem trim_nil (w : World) (A : Option Addr) (n c : Nat) (xs : List Nat) (h : Num w (.slice A n c) xs) (h0 : (dg (val xs)).length = 0) :
    Calls Try.prog 41 #[.slice A n c] w fun e w' => e = .returned (.slice none 0 0) ∧ w = w' :=
  (trim_c w A n c xs h).mono fun _ _ ⟨a, b⟩ => ⟨by rw [a, h0]; rfl, b⟩
theorem trim_some (w : World) (A : Option Addr) (n c : Nat) (xs : List Nat) (h : Num w (.slice A n c) xs) (m : Nat) (h0 : (dg (val xs)).length = m) (hm : 0 < m) :
    Calls Try.prog 41 #[.slice A n c] w fun e w' => e = .returned (.slice A m c) ∧ w = w' :=
  (trim_c w A n c xs h).mono fun _ _ ⟨a, b⟩ => ⟨by rw [a, h0, trimV_pos _ _ _ hm], b⟩

/-- The cells of what is left when the leading zeros are cut off. -/
theorem Num.top {w : World} {A : Option Addr} {n c : Nat} {xs : List Nat} (h : Num w (.slice A n c) xs) (h0 : 0 < (dg (val xs)).length) :
    (dg (val xs)).length ≤ n ∧ n ≤ c ∧ c ≤ 9223372036854775807 ∧ ∃ b off, A = some ⟨b, off, none⟩ ∧ b < w.heap.size ∧ ∀ j, j < (dg (val xs)).length → w.cell? ⟨b, off + j, none⟩ = some (.int .u32 (((dg (val xs)).getD j 0 : Nat) : Int)) := by
  obtain ⟨A', c', e, ⟨hc, hn⟩, hm, hs, hr⟩ := h
  simp only [Value.slice.injEq] at e
  obtain ⟨rfl, rfl, rfl⟩ := e
  have hl := dg_length_val xs hs
  refine ⟨hl, hc, by unfold maxLen at hm; omega, ?_⟩
  obtain ⟨b, off, e, hb, hcell⟩ := hr (by omega)
  refine ⟨b, off, e, hb, fun j hj => ?_⟩
  rw [hcell j (by omega), ← dg_prefix xs hs, getD_take _ _ _ hj]
theorem Num.bounds {w : World} {A : Option Addr} {n c : Nat} {xs : List Nat} (h : Num w (.slice A n c) xs) : n = xs.length ∧ n ≤ c ∧ c ≤ 9223372036854775807 := by
  obtain ⟨A', c', e, ⟨hc, hn⟩, hm, hs, hr⟩ := h
  simp only [Value.slice.injEq] at e
  obtain ⟨rfl, rfl, rfl⟩ := e
  exact ⟨rfl, hc, by unfold maxLen at hm; omega⟩
theorem Num.form {w : World} {v : Value} {xs : List Nat} (h : Num w v xs) : ∃ A c, v = .slice A xs.length c := by
  obtain ⟨A, c, e, _⟩ := h
  exact ⟨A, c, e⟩

theorem Num.trimmed {w : World} {A : Option Addr} {n c : Nat} {xs : List Nat} (h : Num w (.slice A n c) xs) : Num w (trimV A c (dg (val xs)).length) (dg (val xs)) := by
  obtain ⟨A', c', e, ⟨hc, hn⟩, hm, hs, hr⟩ := h
  simp only [Value.slice.injEq] at e
  obtain ⟨rfl, rfl, rfl⟩ := e
  have hp := dg_prefix xs hs
  have hl := dg_length_val xs hs
  by_cases h0 : (dg (val xs)).length = 0
  · have e0 := List.eq_nil_of_length_eq_zero h0
    rw [e0]; exact Num.nil w
  · rw [trimV_pos _ _ _ (by omega)]
    refine ⟨A, c, rfl, ⟨by omega, hn⟩, hm, small_dg _, fun _ => ?_⟩
    obtain ⟨b, off, e, hb, hcell⟩ := hr (by omega)
    refine ⟨b, off, e, hb, fun j hj => ?_⟩
    rw [hcell j (by omega), ← hp, getD_take _ _ _ hj]

/-- trim, said of whatever argument: a slice of the canonical digits. -/
theorem trim_n (w : World) (v : Value) (xs : List Nat) (h : Num w v xs) :
    Calls Try.prog 41 #[v] w fun e w' => ∃ A c, e = .returned (.slice A (dg (val xs)).length c) ∧ Num w (.slice A (dg (val xs)).length c) (dg (val xs)) ∧ w = w' := by
  obtain ⟨A, c, rfl⟩ := h.form
  refine (trim_c w A _ c xs h).mono fun e w' ⟨a, b⟩ => ?_
  subst b
  have ht := h.trimmed
  by_cases h0 : (dg (val xs)).length = 0
  · have e0 := List.eq_nil_of_length_eq_zero h0
    rw [e0] at a ht ⊢
    exact ⟨none, 0, a, ht, rfl⟩
  · rw [trimV_pos _ _ _ (by omega)] at a ht
    exact ⟨A, c, a, ht, rfl⟩

/-- trim, said of whatever argument and of whatever world in which it can be read. -/
theorem trim_any (w : World) (v : Value) (xs : List Nat) (h : Num w v xs) :
    Calls Try.prog 41 #[v] w fun e w' => ∃ A c, e = .returned (.slice A (dg (val xs)).length c) ∧ (∀ W, Num W v xs → Num W (.slice A (dg (val xs)).length c) (dg (val xs))) ∧ w = w' := by
  obtain ⟨A, c, rfl⟩ := h.form
  refine (trim_c w A _ c xs h).mono fun e w' ⟨a, b⟩ => ?_
  subst b
  have ht : ∀ W, Num W (.slice A xs.length c) xs → Num W (trimV A c (dg (val xs)).length) (dg (val xs)) := fun W hW => hW.trimmed
  by_cases h0 : (dg (val xs)).length = 0
  · have e0 := List.eq_nil_of_length_eq_zero h0
    rw [e0] at a ht ⊢
    exact ⟨none, 0, a, ht, rfl⟩
  · rw [trimV_pos _ _ _ (by omega)] at a ht
    exact ⟨A, c, a, ht, rfl⟩

theorem Own.trimmed {base : Nat} {w : World} {A : Option Addr} {n c : Nat} {xs : List Nat} (h : Own base w (.slice A n c) xs) : Own base w (trimV A c (dg (val xs)).length) (dg (val xs)) := by
  have hs := h.small
  have hp := dg_prefix xs hs
  have hl := dg_length_val xs hs
  by_cases h0 : (dg (val xs)).length = 0
  · have e0 := List.eq_nil_of_length_eq_zero h0
    rw [e0]; exact Own.nil _ w
  · rw [trimV_pos _ _ _ (by omega)]
    have h' := h
    obtain ⟨_, h2⟩ := h'
    rcases h2 with ⟨e, rfl⟩ | ⟨g, rest, e, _⟩
    · exact absurd rfl h0
    · simp only [Value.slice.injEq] at e
      obtain ⟨rfl, rfl, rfl⟩ := e
      have := h.take (k := (dg (val xs)).length) hl
      rwa [hp] at this
end Go.Proofs.Yticakmcjiofhoaa

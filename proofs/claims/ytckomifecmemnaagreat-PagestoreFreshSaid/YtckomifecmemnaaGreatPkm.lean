/- The walk of PagestoreFresh. -/
import Derived.Test.YtckomifecmemnaaGreatPkj
namespace Go.Proofs.YtckomifecmemnaaGreat
open Go.RowKit Dig
set_option linter.unusedVariables false

theorem byt_turn0' {w w' : World} {F : Nat → Prop} {v : Value} {ts : List UInt8} (h : Byt w v ts) (ht : Turn F w w') (hn : 0 < ts.length → ∀ k, v.ownBlock = some k → ¬ F k) : Byt w' v ts := by
  by_cases hz : 0 < ts.length
  · exact byt_turn h ht (hn hz)
  · obtain ⟨A, c, h1, h2, h3, h5⟩ := h
    exact ⟨A, c, h1, h2, h3, fun hp => absurd hp hz⟩
/-- A row of integers. -/
def Pok (kk : IntKind) (w : World) (g n : Nat) : Prop := ∃ cs T, w.heap[g]? = some (.cells cs T (0, 0)) ∧ ∀ i, i < n → ∃ q, cs[i]? = some (.int kk q)
section
variable {w w' : World} {kk : IntKind} {g n i : Nat}
theorem Pok.keep (h : Pok kk w g n) (hk : w'.heap[g]? = w.heap[g]?) : Pok kk w' g n := by
  obtain ⟨cs, T, h1, h2⟩ := h
  exact ⟨cs, T, hk.trans h1, h2⟩
theorem Pok.cell (h : Pok kk w g n) (hi : i < n) : (∃ q, w.cell? ⟨g, i, none⟩ = some (.int kk q)) ∧ w.frozen? ⟨g, i, none⟩ = false := by
  obtain ⟨cs, T, h1, h2⟩ := h
  obtain ⟨q, hq⟩ := h2 i hi
  exact ⟨⟨q, by rw [cell_of_row w g i _ _ (0, 0) h1]; exact hq⟩, by simp [World.frozen?, h1]⟩
theorem Pok.poke (h : Pok kk w g n) (i : Nat) (q : Int) : Pok kk (w.setCell ⟨g, i, none⟩ (.int kk q)) g n := by
  obtain ⟨cs, T, h1, h2⟩ := h
  refine ⟨cs.setIfInBounds i (.int kk q), T, by simp [World.setCell, Array.getElem?_modify, h1], fun j hj => ?_⟩
  obtain ⟨q2, hq⟩ := h2 j hj
  rw [Array.getElem?_setIfInBounds]
  by_cases e : i = j
  · rw [if_pos e, if_pos (by have := (Array.getElem?_eq_some_iff.1 hq).1; omega)]
    exact ⟨q, rfl⟩
  · rw [if_neg e]
    exact ⟨q2, hq⟩
theorem Pok.other (h : Pok kk w g n) {b : Nat} (u : Value) (hne : g ≠ b) : Pok kk (w.setCell ⟨b, i, none⟩ u) g n := h.keep (Below.heap_setCell w ⟨b, i, none⟩ u g hne)
theorem Pok.lt (h : Pok kk w g n) : g < w.heap.size := by
  obtain ⟨cs, T, h1, h2⟩ := h
  exact lt_of_heap h1
/-- A slice of integers whose cells lie in a row of its own. -/
def PokV (kk : IntKind) (base : Nat) (w : World) (v : Value) (n : Nat) : Prop := ∃ A c, v = .slice A n c ∧ n ≤ 9223372036854775807 ∧ (0 < n → ∃ g, A = some ⟨g, 0, none⟩ ∧ base ≤ g ∧ Pok kk w g n)
theorem pok_bytes {base : Nat} {v : Value} {ts : List UInt8} (h : OwB base w v ts) : PokV .u8 base w v ts.length := by
  rcases h with ⟨rfl, rfl⟩ | ⟨g, rest, rfl, hb, hmx, hrow⟩
  · exact ⟨none, 0, rfl, Nat.zero_le _, fun h => absurd h (by simp)⟩
  · unfold maxLen at hmx
    refine ⟨_, _, rfl, by omega, fun _ => ⟨g, rfl, hb, _, _, hrow, fun i hi => ?_⟩⟩
    rw [List.getElem?_toArray, List.getElem?_append_left (by rw [Y_length]; exact hi)]
    exact ⟨_, Y_get ts i hi⟩
theorem pok_ints {base : Nat} {v : Value} {T : TypeId} {zs : List Int} (h : w.ownsRow base T 1 v zs.length (zs.map (Value.int .i64))) : PokV .i64 base w v zs.length := by
  obtain ⟨_, h⟩ := h
  rcases h with ⟨rfl, h0⟩ | ⟨g, cap, cur, rfl, h1, h2, h3, h4, h5, h6⟩
  · rw [h0]
    exact ⟨none, 0, rfl, Nat.zero_le _, fun h => absurd h (by omega)⟩
  · unfold maxLen at h4
    refine ⟨_, _, rfl, by omega, fun _ => ⟨g, rfl, h1, cur, T, h2, fun i hi => ?_⟩⟩
    rw [Nat.mul_one] at h6
    have e : (zs.map (Value.int .i64))[i]? = some (.int .i64 zs[i]) := by rw [List.getElem?_map, List.getElem?_eq_getElem hi]; rfl
    rw [← h6, List.getElem?_take, if_pos hi, Array.getElem?_toList] at e
    exact ⟨_, e⟩
theorem pok_nats {base : Nat} {v : Value} {T : TypeId} {ns : List Nat} (h : w.ownsRow base T 1 v ns.length (ns.map fun p : Nat => Value.int .i64 (p : Int))) : PokV .i64 base w v ns.length := by
  have h2 : w.ownsRow base T 1 v (ns.map fun p : Nat => (p : Int)).length ((ns.map fun p : Nat => (p : Int)).map (Value.int .i64)) := by
    rw [List.length_map, List.map_map]
    exact h
  have := pok_ints h2
  rwa [List.length_map] at this
end
/-- The states that PagestoreFresh goes through. -/
def frS (as0 bs : List UInt8) : SS := ⟨0, [[]], [(0, as0), (51, bs)]⟩
theorem fr_first {as0 : List UInt8} (h : as0.length ≤ 1024) : putS emptyS 0 as0 = (0, ⟨0, [[]], [(0, as0)]⟩) := by
  unfold putS emptyS
  rw [if_neg (by omega), if_neg (by omega)]
  rfl
theorem fr_second {as0 bs : List UInt8} (h : bs.length ≤ 1024) : putS ⟨0, [[]], [(0, as0)]⟩ 51 bs = (0, frS as0 bs) := by
  unfold putS frS
  rw [if_neg (by omega), if_neg (by omega)]
  rfl
theorem fr_need {as0 bs : List UInt8} (ha : as0.length ≤ 100) (hb : bs.length ≤ 100) : needS (frS as0 bs) ≤ 100 := by
  show 8 + (([[], [(0, as0), (51, bs)]] : List (List Pg)).map listNeed).sum ≤ 100
  simp [listNeed, pageNeed]
  omega
def fcS (as0 bs : List UInt8) : SS := ⟨1, [[], [(0, as0), (51, bs)]], [(0, as0), (51, bs)]⟩
theorem fr_commit (as0 bs : List UInt8) : commitS (frS as0 bs) = fcS as0 bs := rfl
section
variable {G : Type} {Obj : ObjP G} {Fit : FitP G} {w w' : World} {B m d a b x : Nat} {F Fd R : Nat → Prop} {g : G} {s s1 s2 s' : SS} {ds : DS} {v r : Value} {e : Ending}
/-- A store into a block that lies apart. -/
theorem Trio.poke (P : Prog7 Obj Fit) (h : Trio Obj Fit w B F Fd R m d a b g x s1 s2 ds) {q : Nat} (i : Nat) (u : Value) (h1 : ¬ F q) (h2 : ¬ R q) (h3 : ¬ Fd q) : Trio Obj Fit (w.setCell ⟨q, i, none⟩ u) B F Fd R m d a b g x s1 s2 ds :=
  h.stay P (H := fun k => k = q) (Turn.of_grown (grown_set (World.grownBy.refl w _) i u) fun k e => by injection e with e; exact e.symm) (fun k _ e => by rw [e]; exact h1) (fun k _ e => by rw [e]; exact h2) (fun k _ e => by rw [e]; exact h3)
/-- A method of the store that leaves its disk. -/
theorem Trio.prog (P : Prog7 Obj Fit) (h : Trio Obj Fit w B F Fd R m d a b g x s1 s2 ds) (hB : B ≤ w.heap.size) (hl : s'.last = s1.last) (hk : s'.kept = s1.kept) (hd : PSt Obj w F m d a b g v s' w') :
    ∃ F', Trio Obj Fit w' B F' Fd R m d a b g x s' s2 ds ∧ (∀ k, F' k → MoreR F w w' k) ∧ (∀ k, v.ownBlock = some k → w.heap.size ≤ k → ¬ F' k) ∧ On B w w' ∧ Turn F w w' := by
  obtain ⟨hD, hA, q1, q2, q3, q4⟩ := h
  obtain ⟨⟨F', hD', hF, hv⟩, hB'⟩ := hD.prog P hB hd
  have ht := hd.turn
  have hlow := hD.2.2.1
  refine ⟨F', ⟨hD', ⟨hA.1.keep ht.2.2.2.1 fun k hk => ht.2.2.2.2 k (hA.1.lt hk) fun hf => q1 k hf hk, hA.2⟩, fun k hk hf => ?_, q2, q3, by rw [hl, hk]; exact q4⟩, hF, hv, ⟨hB', ht.2.2.2.1⟩, ht⟩
  rcases hF k hk with h | h
  · exact q1 k h hf
  · have := hA.1.lt hf
    omega
/-- A row of integers beside a store, its disk and a model. -/
def RowA (kk : IntKind) (lo hi : Nat) (w : World) (F Fd R : Nat → Prop) (A : Option Addr) (n : Nat) : Prop :=
  0 < n → ∃ g, A = some ⟨g, 0, none⟩ ∧ lo ≤ g ∧ g < hi ∧ ¬ F g ∧ ¬ Fd g ∧ ¬ R g ∧ Pok kk w g n
section
variable {kk : IntKind} {lo hi n : Nat} {F' Fd' R' H : Nat → Prop} {A : Option Addr}
theorem RowA.step (h : RowA kk lo hi w F Fd R A n) (ht : Turn H w w') (hH : ∀ k, k < w.heap.size → H k → F k ∨ Fd k ∨ R k) (h1 : ∀ k, F' k → MoreR F w w' k) (h2 : ∀ k, Fd' k → MoreR Fd w w' k) (h3 : ∀ k, R' k → MoreR R w w' k) : RowA kk lo hi w' F' Fd' R' A n := fun hn => by
  obtain ⟨g, e, l1, l2, a1, a2, a3, hp⟩ := h hn
  have hl := hp.lt
  refine ⟨g, e, l1, l2, fun hf => (h1 g hf).elim a1 fun h => by omega, fun hf => (h2 g hf).elim a2 fun h => by omega, fun hf => (h3 g hf).elim a3 fun h => by omega, hp.keep (ht.2.2.2.2 g hl fun hh => ?_)⟩
  rcases hH g hl hh with h | h | h
  · exact a1 h
  · exact a2 h
  · exact a3 h
theorem RowA.step2 (h : RowA kk lo hi w F Fd R A n) (ht : Turn H w w') (hH : ∀ k, k < w.heap.size → H k → F k ∨ Fd k ∨ R k) (h12 : ∀ k, F' k ∨ Fd' k → MoreR (fun k => F k ∨ Fd k) w w' k) (h3 : ∀ k, R' k → MoreR R w w' k) : RowA kk lo hi w' F' Fd' R' A n := fun hn => by
  obtain ⟨g, e, l1, l2, a1, a2, a3, hp⟩ := h hn
  have hl := hp.lt
  have n12 : ∀ k, F' k ∨ Fd' k → k ≠ g := fun k hk e => by
    rcases h12 k hk with h | h
    · rw [e] at h
      exact h.elim a1 a2
    · omega
  refine ⟨g, e, l1, l2, fun hf => n12 g (.inl hf) rfl, fun hf => n12 g (.inr hf) rfl, fun hf => (h3 g hf).elim a3 fun h => by omega, hp.keep (ht.2.2.2.2 g hl fun hh => ?_)⟩
  rcases hH g hl hh with h | h | h
  · exact a1 h
  · exact a2 h
  · exact a3 h
theorem RowA.below (h : RowA kk lo hi w F Fd R A n) (hB : Below w.heap.size w w') : RowA kk lo hi w' F Fd R A n := h.step (Turn.of_below (fun _ => False) hB) (fun _ _ h => h.elim) (fun _ h => .inl h) (fun _ h => .inl h) fun _ h => .inl h
theorem RowA.other (h : RowA kk lo hi w F Fd R A n) {b : Nat} (i : Nat) (u : Value) (hne : b < lo ∨ hi ≤ b) : RowA kk lo hi (w.setCell ⟨b, i, none⟩ u) F Fd R A n := fun hn => by
  obtain ⟨g, e, l1, l2, a1, a2, a3, hp⟩ := h hn
  exact ⟨g, e, l1, l2, a1, a2, a3, hp.other u (by omega)⟩
/-- A row that a method hands back. -/
theorem RowA.made (P : Prog7 Obj Fit) (h : Trio Obj Fit w B F Fd R m d a b g x s1 s2 ds) (hr : PokV kk w.heap.size w' v n) (hv : ∀ k, v.ownBlock = some k → w.heap.size ≤ k → ¬ F' k) : ∃ A c, v = .slice A n c ∧ n ≤ 9223372036854775807 ∧ RowA kk w.heap.size w'.heap.size w' F' Fd R A n := by
  obtain ⟨A, c, rfl, hm, hr⟩ := hr
  refine ⟨A, c, rfl, hm, fun hn => ?_⟩
  obtain ⟨g, rfl, hg, hp⟩ := hr hn
  exact ⟨g, rfl, hg, hp.lt, hv g rfl hg, fun hf => by have := h.2.1.1.lt hf; omega, fun hf => by have := h.1.2.1.2.2.1 g hf; omega, hp⟩
end
set_option maxRecDepth 20000 in
set_option maxHeartbeats 16000000 in
theorem fresh7_walk (P : Prog7 Obj Fit) (w : World) (va vb : Value) (as0 bs : List UInt8) (ha : Byt w va as0) (hb : Byt w vb bs) : Calls Tryz.prog 7 #[va, vb] w (RVal w (.bool true)) := by
  have HA := Lib.hid ha
  have HB := Lib.hid hb
  have hP := Lib.hid P
  have KN := Lib.hid (fun w => known7_c P w)
  have LA := Lib.hid ha.low7
  have LB := Lib.hid hb.low7
  obtain ⟨Aa, ca, rfl⟩ := ha.form
  obtain ⟨Ab, cb, rfl⟩ := hb.form
  obtain ⟨na, ena⟩ : ∃ q, as0.length = q := ⟨_, rfl⟩
  obtain ⟨nb, enb⟩ : ∃ q, bs.length = q := ⟨_, rfl⟩
  have EA := Lib.hid ena
  have EB := Lib.hid enb
  by_cases h1 : na > 100
  · have h1i : (na : Int) > 100 := by omega
    rw [ena, enb]
    clear ha hb P h1 ena enb
    go_enter Tryz.func7, Tryz.ntmps7
    go_wp2_with fail
    go_ret
    exact ⟨rfl, Below.refl _ _⟩
  by_cases h2 : nb > 100
  · have h1i : ¬ (na : Int) > 100 := by omega
    have h2i : (nb : Int) > 100 := by omega
    rw [ena, enb]
    clear ha hb P h1 h2 ena enb
    go_enter Tryz.func7, Tryz.ntmps7
    go_wp2_with fail
    go_ret
    exact ⟨rfl, Below.refl _ _⟩
  have h1i : ¬ (na : Int) > 100 := by omega
  have h2i : ¬ (nb : Int) > 100 := by omega
  have HN := Lib.hid (show na ≤ 100 ∧ nb ≤ 100 by omega)
  obtain ⟨g0, hz⟩ := P.zero 200 (by omega) (by omega)
  have HZ := Lib.hid hz
  rw [ena] at HA LA ⊢
  rw [enb] at HB LB ⊢
  clear ha hb P h1 h2 ena enb hz
  go_enter Tryz.func7, Tryz.ntmps7
  go_wp2_with fail
  refine (qnew_c w 200 (by omega) (by omega)).mono ?_
  rintro e w1 ⟨d, rfl, hD, hB1⟩
  have A1 := Lib.hid (show Alone w1 w.heap.size _ d (newS 200) from ⟨hD, fun k hk => hk.1, calm_newS 200⟩)
  have B1 := Lib.hid hB1
  clear hD hB1
  go_wp2_with fail
  refine (hP.out.open' A1.out.1 0 200 (by omega) (by rw [newS_len]; omega) A1.out.2.2 (by rw [cut_newS (by omega)]; exact HZ.out)).mono ?_
  rintro e w2 ⟨m, F2, Fd2, g2, ds2, rfl, hO, hD, h1, h2, h3, ht, hc, hs, hf⟩
  obtain ⟨hS, hon⟩ := Sit.made hP.out A1.out B1.out.size (by rw [newS_len]; omega) hO hD h1 h2 h3 ht hc hs hf
  have S2 := Lib.hid (show Sit Obj Fit w2 w.heap.size F2 Fd2 m d 0 200 g2 emptyS ds2 from hS)
  have B2 := Lib.hid (show Below w.heap.size w w2 from B1.out.trans hon.1)
  clear hO hD h1 h2 h3 ht hc hs hf hS hon A1 B1 HZ
  go_wp2_with fail
  refine (rnewStore_c w2).mono ?_
  rintro e w3 ⟨x, rfl, hR, hB3⟩
  have T3 := Lib.hid (S2.out.trio hP.out B2.out.size hB3 hR)
  have B3 := Lib.hid (below_then B2.out hB3)
  clear hR hB3 S2 B2
  go_wp2_with (first | ((with_reducible refine wp_noneB (w := w3) rfl rfl ?_); intro wp hS hBp; have po := Lib.hid hS; have pB := Lib.hid hBp; clear hS hBp) | (at_builtin; refine wp_appendB rfl _ _ rfl w3.heap.size _ [] rfl po.out _ as0 rfl (HA.out.below (below_then B3.out pB.out)) (by have := HN.out; have := EA.out; have := EB.out; simp; omega) pB.out.size ?_; intro vp wp hvp hgp; rw [List.nil_append] at hvp; have pH := Lib.hid hvp; have pS := Lib.hid (below_ownB pB.out hgp po.out (Nat.le_refl _)); clear po hgp hvp) | ((with_reducible refine wp_noneB (w := wp) rfl rfl ?_); intro wq hS hBq; have qo := Lib.hid hS; have qB := Lib.hid hBq; clear hS hBq) | (at_builtin; refine wp_appendB rfl _ _ rfl wp.heap.size _ [] rfl qo.out _ bs rfl (HB.out.below (below_then B3.out (below_then pS.out qB.out))) (by have := HN.out; have := EA.out; have := EB.out; simp; omega) qB.out.size ?_; intro vq wq hvq hgq; rw [List.nil_append] at hvq; have qH := Lib.hid hvq; have qS := Lib.hid (below_ownB qB.out hgq qo.out (Nat.le_refl _)); clear qo hgq hvq))
  have T4 := Lib.hid ((T3.out.below hP.out pS.out).below hP.out qS.out)
  have B4 := Lib.hid (below_then (below_then B3.out pS.out) qS.out)
  have lowF : ∀ k, F2 k ∨ Fd2 k ∨ (w2.heap.size ≤ k ∧ k < w3.heap.size) → k < w3.heap.size := fun k hk => hk.elim (hP.out.lt T3.out.1.1 k) fun h => h.elim (fun h => T3.out.2.1.1.lt h) fun h => h.2
  have hby1 := pH.out.byt
  have hby2 := qH.out.byt
  have BX := Lib.hid (hby1.below qS.out)
  have BY := Lib.hid hby2
  obtain ⟨Ax, cx, rfl, -, hrx⟩ := pok_bytes pH.out
  obtain ⟨Ay, cy, rfl, -, hry⟩ := pok_bytes qH.out
  have sp := pS.out.size
  have sq := qS.out.size
  have RX := Lib.hid (show RowA .u8 w3.heap.size wp.heap.size wq F2 Fd2 (fun k => w2.heap.size ≤ k ∧ k < w3.heap.size) Ax as0.length from RowA.below (fun hn => by
    obtain ⟨g, e, hg, hp⟩ := hrx hn
    have hl := hp.lt
    exact ⟨g, e, hg, hl, fun h => by have := lowF g (.inl h); omega, fun h => by have := lowF g (.inr (.inl h)); omega, fun h => by have := lowF g (.inr (.inr h)); omega, hp⟩) qS.out)
  have RY := Lib.hid (show RowA .u8 wp.heap.size wq.heap.size wq F2 Fd2 (fun k => w2.heap.size ≤ k ∧ k < w3.heap.size) Ay bs.length from fun hn => by
    obtain ⟨g, e, hg, hp⟩ := hry hn
    have hl := hp.lt
    exact ⟨g, e, hg, hl, fun h => by have := lowF g (.inl h); omega, fun h => by have := lowF g (.inr (.inl h)); omega, fun h => by have := lowF g (.inr (.inr h)); omega, hp⟩)
  have LO0 := Lib.hid (show w.heap.size ≤ w3.heap.size ∧ w3.heap.size ≤ wp.heap.size from ⟨B3.out.size, sp⟩)
  rw [EA.out] at RX BX ⊢
  rw [EB.out] at RY BY ⊢
  have NX : 0 < as0.length → ∀ k, (Value.slice Ax na cx).ownBlock = some k → ¬ F2 k := fun h k hk hf => by
    obtain ⟨g, rfl, hg, hp⟩ := hrx h
    obtain rfl : g = k := by simpa [Value.ownBlock] using hk
    have := lowF g (.inl hf)
    omega
  have C := hP.out.put T4.out.1.1 0 (.slice Ax na cx) as0 BX.out (by have := HN.out; have := EA.out; omega) NX
  rw [fr_first (by have := HN.out; have := EA.out; omega)] at C
  dsimp only at C
  clear hby1 hby2 hrx hry lowF NX sp sq T3 B3
  generalize hRR : (fun k => w2.heap.size ≤ k ∧ k < w3.heap.size) = RR at *
  clear hRR
  refine C.mono ?_
  rintro e w5 ⟨rfl, hd⟩
  obtain ⟨F5, hT, hF, hv, hon, ht⟩ := T4.out.prog hP.out B4.out.size (s' := ⟨0, [[]], [(0, as0)]⟩) rfl rfl hd
  have T5 := Lib.hid hT
  have B5 := Lib.hid (B4.out.trans hon.1)
  have RX5 := Lib.hid (RX.out.step ht (fun _ _ h => .inl h) hF (fun _ h => .inl h) fun _ h => .inl h)
  have RY5 := Lib.hid (RY.out.step ht (fun _ _ h => .inl h) hF (fun _ h => .inl h) fun _ h => .inl h)
  have BY5 := Lib.hid (show Byt w5 (.slice Ay nb cy) bs from byt_turn0' BY.out ht fun h k hk hf => by
    obtain ⟨g, rfl, -, -, a1, -⟩ := RY.out (by have := EB.out; omega)
    obtain rfl : g = k := by simpa [Value.ownBlock] using hk
    exact a1 hf)
  clear hT hd hF hv hon ht C RX RY BX BY T4 B4
  go_wp2_with fail
  have C := rput_c T5.out.1.2.1 (by show 0 ≤ 900; omega) 0 (HA.out.below B5.out) (by have := HN.out; have := EA.out; omega)
  rw [fr_first (by have := HN.out; have := EA.out; omega)] at C
  dsimp only at C
  refine C.mono ?_
  intro e w6 hd
  have ht := hd.2.2
  obtain ⟨rfl, hT, hon⟩ := T5.out.ref hP.out B5.out.size hd
  have T6 := Lib.hid hT
  have B6 := Lib.hid (B5.out.trans hon.1)
  have hx : RR x := T5.out.1.2.1.2.1
  have RX6 := Lib.hid (RX5.out.step ht (fun _ _ h => .inr (.inr (by rw [h]; exact hx))) (fun _ h => .inl h) (fun _ h => .inl h) fun _ h => h)
  have RY6 := Lib.hid (RY5.out.step ht (fun _ _ h => .inr (.inr (by rw [h]; exact hx))) (fun _ h => .inl h) (fun _ h => .inl h) fun _ h => h)
  have BY6 := Lib.hid (show Byt w6 (.slice Ay nb cy) bs from byt_turn0' BY5.out ht fun h k hk hf => by
    obtain ⟨g, rfl, -, -, -, -, a1, -⟩ := RY5.out (by have := EB.out; omega)
    obtain rfl : g = k := by simpa [Value.ownBlock] using hk
    exact a1 (by rw [hf]; exact hx))
  have NY : 0 < bs.length → ∀ k, (Value.slice Ay nb cy).ownBlock = some k → ¬ F5 k := fun h k hk hf => by
    obtain ⟨g, rfl, -, -, a1, -⟩ := RY5.out (by have := EB.out; omega)
    obtain rfl : g = k := by simpa [Value.ownBlock] using hk
    exact a1 hf
  have NY := Lib.hid NY
  clear hT hd hon ht C RX5 RY5 BY5 T5 B5 hx
  generalize hRR : MoreR RR w5 w6 = R6 at *
  clear hRR
  go_wp2_with fail
  have C := hP.out.put T6.out.1.1 51 (.slice Ay nb cy) bs BY6.out (by have := HN.out; have := EB.out; omega) NY.out
  rw [fr_second (by have := HN.out; have := EB.out; omega)] at C
  dsimp only at C
  refine C.mono ?_
  rintro e w7 ⟨rfl, hd⟩
  obtain ⟨F7, hT, hF, hv, hon, ht⟩ := T6.out.prog hP.out B6.out.size (s' := frS as0 bs) rfl rfl hd
  have T7 := Lib.hid hT
  have B7 := Lib.hid (B6.out.trans hon.1)
  have RX7 := Lib.hid (RX6.out.step ht (fun _ _ h => .inl h) hF (fun _ h => .inl h) fun _ h => .inl h)
  have RY7 := Lib.hid (RY6.out.step ht (fun _ _ h => .inl h) hF (fun _ h => .inl h) fun _ h => .inl h)
  clear hT hd hF hv hon ht C RX6 RY6 BY6 T6 B6 NY
  go_wp2_with fail
  have C := rput_c T7.out.1.2.1 (by show 1 ≤ 900; omega) 51 (HB.out.below B7.out) (by have := HN.out; have := EB.out; omega)
  rw [fr_second (by have := HN.out; have := EB.out; omega)] at C
  dsimp only at C
  refine C.mono ?_
  intro e w8 hd
  have ht := hd.2.2
  obtain ⟨rfl, hT, hon⟩ := T7.out.ref hP.out B7.out.size hd
  have T8 := Lib.hid hT
  have B8 := Lib.hid (B7.out.trans hon.1)
  have hx : R6 x := T7.out.1.2.1.2.1
  have RX8 := Lib.hid (RX7.out.step ht (fun _ _ h => .inr (.inr (by rw [h]; exact hx))) (fun _ h => .inl h) (fun _ h => .inl h) fun _ h => h)
  have RY8 := Lib.hid (RY7.out.step ht (fun _ _ h => .inr (.inr (by rw [h]; exact hx))) (fun _ h => .inl h) (fun _ h => .inl h) fun _ h => h)
  clear hT hd hon ht C RX7 RY7 T7 B7 hx
  generalize hRR : MoreR R6 w7 w8 = R8 at *
  clear hRR
  go_wp2_with fail
  have nai : (na : Int) ≤ 100 := by have := HN.out; omega
  have nbi : (nb : Int) ≤ 100 := by have := HN.out; omega
  go_loopw [12] (fun iv wr => ∃ j : Nat, j ≤ na ∧ iv = .int .i64 (j : Int) ∧ Trio Obj Fit wr w.heap.size F7 Fd2 R8 m d 0 200 g2 x (frS as0 bs) (frS as0 bs) ds2 ∧ Below w.heap.size w wr ∧ RowA .u8 w3.heap.size wp.heap.size wr F7 Fd2 R8 Ax na ∧ RowA .u8 wp.heap.size wq.heap.size wr F7 Fd2 R8 Ay nb) (fun iv _ => na - (intOf iv).toNat)
  case atStart => exact ⟨0, Nat.zero_le _, rfl, T8.out, B8.out, RX8.out, RY8.out⟩
  case round =>
    clear T8 B8 RX8 RY8
    obtain ⟨ja, hj, rfl, hT, hB, hX, hY⟩ := hrel
    have Ta := Lib.hid hT
    have BBa := Lib.hid hB
    have RYa := Lib.hid hY
    clear hT hB hY
    generalize wr = wwa at *
    by_cases hjn : ja < na
    · have HI : (ja : Int) < (na : Int) := by omega
      obtain ⟨gg, rfl, l1, l2, a1, a2, a3, hp⟩ := hX (by omega)
      obtain ⟨⟨q, hcell⟩, hfz⟩ := hp.cell hjn
      have HPK := Lib.hid hp
      have HAP := Lib.hid (show (w3.heap.size ≤ gg ∧ gg < wp.heap.size) ∧ ¬ F7 gg ∧ ¬ Fd2 gg ∧ ¬ R8 gg from ⟨⟨l1, l2⟩, a1, a2, a3⟩)
      clear l1 l2 a1 a2 a3 hp hX
      go_wp2_with fail
      go_roundw
      case rel => exact ⟨ja + 1, by omega, by go_num, Ta.out.poke hP.out ja _ HAP.out.2.1 HAP.out.2.2.2 HAP.out.2.2.1, BBa.out.setCell (p := ⟨gg, ja, none⟩) (show w.heap.size ≤ gg by have := HAP.out.1; have := LO0.out; omega) _, fun _ => ⟨gg, rfl, HAP.out.1.1, HAP.out.1.2, HAP.out.2.1, HAP.out.2.2.1, HAP.out.2.2.2, HPK.out.poke ja _⟩, RYa.out.other ja _ (by have := HAP.out.1; have := LO0.out; omega)⟩
      case measure => simp [intOf]; omega
    · have HI : ¬ (ja : Int) < (na : Int) := by omega
      clear hX hjn
      go_wp2_with fail
      have C := hP.out.commit Ta.out.1.1 Ta.out.2.1.1 Ta.out.2.2.1 Ta.out.2.1.2.2 Ta.out.2.2.2.2.1 Ta.out.2.2.2.2.2 (by show 0 ≤ 1000000; omega)
      rw [fr_commit, show (((frS as0 bs).last + 1 : Nat) : Int) = 1 from rfl] at C
      refine C.mono ?_
      rintro e w9 ⟨F9, Fd9, g9, ds9, s9, hO, hD, h1, h2, ht, hc, hs, hf, hor⟩
      rcases hor with ⟨rfl, rfl⟩ | ⟨-, hlt, -⟩
      rotate_left
      · have := fr_need (as0 := as0) (bs := bs) (by have := EA.out; have := HN.out; omega) (by have := EB.out; have := HN.out; omega)
        omega
      obtain ⟨hT, hon⟩ := Ta.out.put BBa.out.size hO hD h1 h2 ht hc hs hf
      have T9 := Lib.hid hT
      have B9 := Lib.hid (BBa.out.trans hon.1)
      have RY9 := Lib.hid (RYa.out.step2 ht (fun _ _ h => h.elim .inl fun h => .inr (.inl h)) h2 fun _ h => .inl h)
      clear hO hD h1 h2 ht hc hs hf hT hon C RYa Ta BBa HI
      go_wp2_with fail
      have C := rcommit_c T9.out.1.2.1 (by show 0 ≤ 1000000; omega)
      rw [fr_commit] at C
      refine C.mono ?_
      intro e w10 hd
      have ht := hd.2.2
      obtain ⟨rfl, hT, hon⟩ := T9.out.ref hP.out B9.out.size hd
      have T10 := Lib.hid hT
      have B10 := Lib.hid (B9.out.trans hon.1)
      have hx : R8 x := T9.out.1.2.1.2.1
      have RY10 := Lib.hid (RY9.out.step ht (fun _ _ h => .inr (.inr (by rw [h]; exact hx))) (fun _ h => .inl h) (fun _ h => .inl h) fun _ h => h)
      clear hT hd hon ht C RY9 T9 B9 hx
      generalize hRR : MoreR R8 w9 w10 = R10 at *
      clear hRR
      go_wp2_with fail
      go_loopw [15] (fun iv wr => ∃ j : Nat, j ≤ nb ∧ iv = .int .i64 (j : Int) ∧ Trio Obj Fit wr w.heap.size F9 Fd9 R10 m d 0 200 g9 x (fcS as0 bs) (fcS as0 bs) ds9 ∧ Below w.heap.size w wr ∧ RowA .u8 wp.heap.size wq.heap.size wr F9 Fd9 R10 Ay nb) (fun iv _ => nb - (intOf iv).toNat)
      case atStart => exact ⟨0, Nat.zero_le _, rfl, T10.out, B10.out, RY10.out⟩
      case round =>
        clear T10 B10 RY10
        obtain ⟨jb, hj, rfl, hT, hB, hY⟩ := hrel
        have Tb := Lib.hid hT
        have BBb := Lib.hid hB
        clear hT hB
        generalize wr = wwb at *
        by_cases hjn : jb < nb
        · have HI : (jb : Int) < (nb : Int) := by omega
          obtain ⟨gg, rfl, l1, l2, a1, a2, a3, hp⟩ := hY (by omega)
          obtain ⟨⟨q, hcell⟩, hfz⟩ := hp.cell hjn
          have HPK := Lib.hid hp
          have HAP := Lib.hid (show (wp.heap.size ≤ gg ∧ gg < wq.heap.size) ∧ ¬ F9 gg ∧ ¬ Fd9 gg ∧ ¬ R10 gg from ⟨⟨l1, l2⟩, a1, a2, a3⟩)
          clear l1 l2 a1 a2 a3 hp hY
          go_wp2_with fail
          go_roundw
          case rel => exact ⟨jb + 1, by omega, by go_num, Tb.out.poke hP.out jb _ HAP.out.2.1 HAP.out.2.2.2 HAP.out.2.2.1, BBb.out.setCell (p := ⟨gg, jb, none⟩) (show w.heap.size ≤ gg by have := HAP.out.1; have := LO0.out; omega) _, fun _ => ⟨gg, rfl, HAP.out.1.1, HAP.out.1.2, HAP.out.2.1, HAP.out.2.2.1, HAP.out.2.2.2, HPK.out.poke jb _⟩⟩
          case measure => simp [intOf]; omega
        · have HI : ¬ (jb : Int) < (nb : Int) := by omega
          clear hY hjn
          go_wp2_with fail
          go_loopw [16] (fun iv wr => ∃ (j : Nat) (F : Nat → Prop), j ≤ 3 ∧ iv = .int .i64 (j : Int) ∧ Trio Obj Fit wr w.heap.size F Fd9 R10 m d 0 200 g9 x (fcS as0 bs) (fcS as0 bs) ds9 ∧ Below w.heap.size w wr) (fun iv _ => 3 - (intOf iv).toNat)
          case atStart => exact ⟨0, F9, by omega, rfl, Tb.out, BBb.out⟩
          case round =>
            clear Tb BBb
            obtain ⟨jv, F, hjv, rfl, hT, hB⟩ := hrel
            have Q0 := Lib.hid hT
            have D0 := Lib.hid hB
            clear hT hB
            generalize wr = u0 at *
            by_cases hv2 : jv ≤ 2
            · have HI2 : (jv : Int) ≤ 2 := by omega
              have HV2 := Lib.hid hv2
              clear hv2 hjv HI
              go_wp2_with fail
              refine (hP.out.pages Q0.out.1.1 (by show 1 ≤ 1000000; omega) (jv : Int) (by omega) (by omega)).mono ?_
              rintro e u1 ⟨r, rfl, hr, hd⟩
              obtain ⟨F1, hT, hF, hv, hon, ht⟩ := Q0.out.prog hP.out D0.out.size (s' := fcS as0 bs) rfl rfl hd
              obtain ⟨Ap, cp, rfl, hnp, hrp⟩ := RowA.made hP.out Q0.out (pok_nats hr) hv
              obtain ⟨np, enp⟩ : ∃ q, (pagesS (fcS as0 bs) (jv : Int)).length = q := ⟨_, rfl⟩
              rw [enp] at hnp hrp ⊢
              have hnpi : (np : Int) ≤ 9223372036854775807 := by omega
              have Q1 := Lib.hid hT
              have D1 := Lib.hid (D0.out.trans hon.1)
              have RP1 := Lib.hid hrp
              have Z1 := Lib.hid (And.intro D0.out.size hon.2)
              clear hr hd hT hF hv hon ht hnp hrp enp Q0 D0
              go_wp2_with fail
              refine (hP.out.versions Q1.out.1.1 (by show 1 ≤ 1000000; omega)).mono ?_
              rintro e u2 ⟨r, rfl, hr, hd⟩
              obtain ⟨F2v, hT, hF, hv, hon, ht⟩ := Q1.out.prog hP.out D1.out.size (s' := fcS as0 bs) rfl rfl hd
              obtain ⟨Al, cl, rfl, hnl, hrl⟩ := RowA.made hP.out Q1.out (pok_ints hr) hv
              obtain ⟨nl, enl⟩ : ∃ q, (versionsS (fcS as0 bs)).length = q := ⟨_, rfl⟩
              rw [enl] at hnl hrl ⊢
              have hnli : (nl : Int) ≤ 9223372036854775807 := by omega
              have Q2 := Lib.hid hT
              have D2 := Lib.hid (D1.out.trans hon.1)
              have RP2 := Lib.hid (RP1.out.step ht (fun _ _ h => .inl h) hF (fun _ h => .inl h) fun _ h => .inl h)
              have RL2 := Lib.hid hrl
              have Z2 := Lib.hid (And.intro Z1.out hon.2)
              clear hr hd hT hF hv hon ht hnl hrl enl Q1 D1 RP1 Z1
              go_wp2_with ((with_reducible refine wp_noneB rfl rfl ?_); intro u3 hS hB3; have E3 := Lib.hid hB3; clear hS hB3)
              have Q3 := Lib.hid (Q2.out.below hP.out E3.out)
              have D3 := Lib.hid (below_then D2.out E3.out)
              have RP3 := Lib.hid (RP2.out.below E3.out)
              have RL3 := Lib.hid (RL2.out.below E3.out)
              have Z3 := Lib.hid (And.intro Z2.out E3.out.size)
              clear Q2 D2 RP2 RL2 Z2 E3
              refine (hP.out.get Q3.out.1.1 (by show 1 ≤ 1000000; omega) (jv : Int) 51 (by omega) (by omega)).mono ?_
              rintro e u4 ⟨r, rfl, hr, hd⟩
              obtain ⟨F4, hT, hF, hv, hon, ht⟩ := Q3.out.prog hP.out D3.out.size (s' := fcS as0 bs) rfl rfl hd
              obtain ⟨Ak, ck, rfl, hnk, hrk⟩ := RowA.made hP.out Q3.out (pok_bytes hr) hv
              obtain ⟨nk, enk⟩ : ∃ q, (getS (fcS as0 bs) (jv : Int) 51).2.length = q := ⟨_, rfl⟩
              rw [enk] at hnk hrk ⊢
              have hnki : (nk : Int) ≤ 9223372036854775807 := by omega
              have Q4 := Lib.hid hT
              have D4 := Lib.hid (D3.out.trans hon.1)
              have RP4 := Lib.hid (RP3.out.step ht (fun _ _ h => .inl h) hF (fun _ h => .inl h) fun _ h => .inl h)
              have RL4 := Lib.hid (RL3.out.step ht (fun _ _ h => .inl h) hF (fun _ h => .inl h) fun _ h => .inl h)
              have RK4 := Lib.hid hrk
              have Z4 := Lib.hid (And.intro Z3.out hon.2)
              generalize (getS (fcS as0 bs) (jv : Int) 51).1 = ec
              clear hr hd hT hF hv hon ht hnk hrk enk Q3 D3 RP3 RL3 Z3
              go_wp2_with fail
              go_loopw [20] (fun iv wr => ∃ j : Nat, j ≤ np ∧ iv = .int .i64 (j : Int) ∧ Trio Obj Fit wr w.heap.size F4 Fd9 R10 m d 0 200 g9 x (fcS as0 bs) (fcS as0 bs) ds9 ∧ Below w.heap.size w wr ∧ RowA .i64 u0.heap.size u1.heap.size wr F4 Fd9 R10 Ap np ∧ RowA .i64 u1.heap.size u2.heap.size wr F4 Fd9 R10 Al nl ∧ RowA .u8 u3.heap.size u4.heap.size wr F4 Fd9 R10 Ak nk) (fun iv _ => np - (intOf iv).toNat)
              case atStart => exact ⟨0, Nat.zero_le _, rfl, Q4.out, D4.out, RP4.out, RL4.out, RK4.out⟩
              case round =>
                clear Q4 D4 RP4 RL4 RK4
                obtain ⟨jc, hj, rfl, hT, hB, hP, hL, hK⟩ := hrel
                have Tc := Lib.hid hT
                have BBc := Lib.hid hB
                have RLc := Lib.hid hL
                have RKc := Lib.hid hK
                clear hT hB hL hK
                generalize wr = wwc at *
                by_cases hjn : jc < np
                · have HI : (jc : Int) < (np : Int) := by omega
                  obtain ⟨gg, rfl, l1, l2, a1, a2, a3, hp⟩ := hP (by omega)
                  obtain ⟨⟨q, hcell⟩, hfz⟩ := hp.cell hjn
                  have HPK := Lib.hid hp
                  have HAP := Lib.hid (show (u0.heap.size ≤ gg ∧ gg < u1.heap.size) ∧ ¬ F4 gg ∧ ¬ Fd9 gg ∧ ¬ R10 gg from ⟨⟨l1, l2⟩, a1, a2, a3⟩)
                  clear l1 l2 a1 a2 a3 hp hP
                  go_wp2_with fail
                  go_roundw
                  case rel => exact ⟨jc + 1, by omega, by go_num, Tc.out.poke hP.out jc _ HAP.out.2.1 HAP.out.2.2.2 HAP.out.2.2.1, BBc.out.setCell (p := ⟨gg, jc, none⟩) (show w.heap.size ≤ gg by have := HAP.out.1; have := Z4.out; omega) _, fun _ => ⟨gg, rfl, HAP.out.1.1, HAP.out.1.2, HAP.out.2.1, HAP.out.2.2.1, HAP.out.2.2.2, HPK.out.poke jc _⟩, RLc.out.other jc _ (by have := HAP.out.1; have := Z4.out; omega), RKc.out.other jc _ (by have := HAP.out.1; have := Z4.out; omega)⟩
                  case measure => simp [intOf]; omega
                · have HI : ¬ (jc : Int) < (np : Int) := by omega
                  clear hP hjn
                  go_wp2_with fail
                  go_loopw [21] (fun iv wr => ∃ j : Nat, j ≤ nl ∧ iv = .int .i64 (j : Int) ∧ Trio Obj Fit wr w.heap.size F4 Fd9 R10 m d 0 200 g9 x (fcS as0 bs) (fcS as0 bs) ds9 ∧ Below w.heap.size w wr ∧ RowA .i64 u1.heap.size u2.heap.size wr F4 Fd9 R10 Al nl ∧ RowA .u8 u3.heap.size u4.heap.size wr F4 Fd9 R10 Ak nk) (fun iv _ => nl - (intOf iv).toNat)
                  case atStart => exact ⟨0, Nat.zero_le _, rfl, Tc.out, BBc.out, RLc.out, RKc.out⟩
                  case round =>
                    clear Tc BBc RLc RKc
                    obtain ⟨jd, hj, rfl, hT, hB, hL, hK⟩ := hrel
                    have Td := Lib.hid hT
                    have BBd := Lib.hid hB
                    have RKd := Lib.hid hK
                    clear hT hB hK
                    generalize wr = wwd at *
                    by_cases hjn : jd < nl
                    · have HI : (jd : Int) < (nl : Int) := by omega
                      obtain ⟨gg, rfl, l1, l2, a1, a2, a3, hp⟩ := hL (by omega)
                      obtain ⟨⟨q, hcell⟩, hfz⟩ := hp.cell hjn
                      have HPK := Lib.hid hp
                      have HAP := Lib.hid (show (u1.heap.size ≤ gg ∧ gg < u2.heap.size) ∧ ¬ F4 gg ∧ ¬ Fd9 gg ∧ ¬ R10 gg from ⟨⟨l1, l2⟩, a1, a2, a3⟩)
                      clear l1 l2 a1 a2 a3 hp hL
                      go_wp2_with fail
                      go_roundw
                      case rel => exact ⟨jd + 1, by omega, by go_num, Td.out.poke hP.out jd _ HAP.out.2.1 HAP.out.2.2.2 HAP.out.2.2.1, BBd.out.setCell (p := ⟨gg, jd, none⟩) (show w.heap.size ≤ gg by have := HAP.out.1; have := Z4.out; omega) _, fun _ => ⟨gg, rfl, HAP.out.1.1, HAP.out.1.2, HAP.out.2.1, HAP.out.2.2.1, HAP.out.2.2.2, HPK.out.poke jd _⟩, RKd.out.other jd _ (by have := HAP.out.1; have := Z4.out; omega)⟩
                      case measure => simp [intOf]; omega
                    · have HI : ¬ (jd : Int) < (nl : Int) := by omega
                      clear hL hjn
                      go_wp2_with fail
                      go_loopw [22] (fun iv wr => ∃ j : Nat, j ≤ nk ∧ iv = .int .i64 (j : Int) ∧ Trio Obj Fit wr w.heap.size F4 Fd9 R10 m d 0 200 g9 x (fcS as0 bs) (fcS as0 bs) ds9 ∧ Below w.heap.size w wr ∧ RowA .u8 u3.heap.size u4.heap.size wr F4 Fd9 R10 Ak nk) (fun iv _ => nk - (intOf iv).toNat)
                      case atStart => exact ⟨0, Nat.zero_le _, rfl, Td.out, BBd.out, RKd.out⟩
                      case round =>
                        clear Td BBd RKd
                        obtain ⟨je, hj, rfl, hT, hB, hK⟩ := hrel
                        have Te := Lib.hid hT
                        have BBe := Lib.hid hB
                        clear hT hB
                        generalize wr = wwe at *
                        by_cases hjn : je < nk
                        · have HI : (je : Int) < (nk : Int) := by omega
                          obtain ⟨gg, rfl, l1, l2, a1, a2, a3, hp⟩ := hK (by omega)
                          obtain ⟨⟨q, hcell⟩, hfz⟩ := hp.cell hjn
                          have HPK := Lib.hid hp
                          have HAP := Lib.hid (show (u3.heap.size ≤ gg ∧ gg < u4.heap.size) ∧ ¬ F4 gg ∧ ¬ Fd9 gg ∧ ¬ R10 gg from ⟨⟨l1, l2⟩, a1, a2, a3⟩)
                          clear l1 l2 a1 a2 a3 hp hK
                          go_wp2_with fail
                          go_roundw
                          case rel => exact ⟨je + 1, by omega, by go_num, Te.out.poke hP.out je _ HAP.out.2.1 HAP.out.2.2.2 HAP.out.2.2.1, BBe.out.setCell (p := ⟨gg, je, none⟩) (show w.heap.size ≤ gg by have := HAP.out.1; have := Z4.out; omega) _, fun _ => ⟨gg, rfl, HAP.out.1.1, HAP.out.1.2, HAP.out.2.1, HAP.out.2.2.1, HAP.out.2.2.2, HPK.out.poke je _⟩⟩
                          case measure => simp [intOf]; omega
                        · have HI : ¬ (je : Int) < (nk : Int) := by omega
                          clear hK hjn
                          go_wp2_with fail
                          go_roundw
                          case rel => exact ⟨jv + 1, F4, by have := HV2.out; omega, by go_num, Te.out, BBe.out⟩
                          case measure => have := HV2.out; simp [intOf]; omega
            · have HI2 : ¬ (jv : Int) ≤ 2 := by omega
              clear hv2 hjv HI
              go_wp2_with fail
              refine (hP.out.open' Q0.out.2.1.1 0 200 (by omega) Q0.out.2.2.2.2.1 Q0.out.2.1.2.2 Q0.out.2.2.2.2.2).mono ?_
              rintro e v1 ⟨m2, Ft, Fdt, gt, dst, rfl, hO, hD, h1, h2, h3, ht, hc, hs, hf⟩
              obtain ⟨t1, t2, t3, t4, t5⟩ := ht
              have s0 := D0.out.size
              have hOt : Obj v1 Ft m2 d 0 200 gt (fcS as0 bs) := hO
              have hFu : ∀ k, F k → k < u0.heap.size := fun k hk => hP.out.lt Q0.out.1.1 k hk
              have hRu : ∀ k, R10 k → k < u0.heap.size := fun k hk => Q0.out.1.2.1.2.2.1 k hk
              have hDuo : Duo Obj v1 w.heap.size F R10 m d 0 200 g9 x (fcS as0 bs) (fcS as0 bs) := ⟨hP.out.keep Q0.out.1.1 t4 fun k hk => t5 k (hFu k hk) (Q0.out.2.2.1 k hk), Q0.out.1.2.1.keep t4 fun k hk => t5 k (hRu k hk) (Q0.out.2.2.2.1 k hk), Q0.out.1.2.2⟩
              have DU := Lib.hid hDuo
              have OT := Lib.hid hOt
              have LF := Lib.hid (show (∀ k, F k ∨ R10 k → k < u0.heap.size) ∧ (∀ k, Ft k → u0.heap.size ≤ k) ∧ w.heap.size ≤ u0.heap.size ∧ u0.heap.size ≤ v1.heap.size from ⟨fun k hk => hk.elim (hFu k) (hRu k), h2, s0, t4⟩)
              have V1 := Lib.hid (D0.out.trans (show Below w.heap.size u0 v1 from ⟨t1, t2, t3, t4, fun k hk => t5 k (by omega) fun hf => by have := Q0.out.2.1.2.1 k hf; omega⟩))
              clear hO hD h1 h2 h3 t1 t2 t3 t4 t5 hc hs hf hDuo hOt hFu hRu s0 Q0 D0
              go_wp2_with fail
              refine (agree7_c hP.out DU.out V1.out.size (by show 1 ≤ 1000; omega)).mono ?_
              rintro e v2 ⟨rfl, F5, R5, hD2, hF5, hR5, hB2, ht2⟩
              have V2 := Lib.hid (V1.out.trans hB2)
              have hDt : Duo Obj v2 w.heap.size Ft R5 m2 d 0 200 gt x (fcS as0 bs) (fcS as0 bs) := ⟨hP.out.keep OT.out ht2.2.2.2.1 fun k hk => ht2.2.2.2.2 k (hP.out.lt OT.out k hk) fun hf => by have := LF.out.1 k hf; have := LF.out.2.1 k hk; omega, hD2.2.1, fun k hk => by have := LF.out.2.1 k hk; have := LF.out.2.2.1; omega, hD2.2.2.2.1, fun k hk hr => by
                have hl := hP.out.lt OT.out k hk
                have hu := LF.out.2.1 k hk
                rcases hR5 k hr with h | h
                · have := LF.out.1 k (.inr h)
                  omega
                · omega⟩
              have DT := Lib.hid hDt
              clear hD2 hF5 hR5 hB2 ht2 hDt DU V1
              go_wp2_with fail
              refine (agree7_c hP.out DT.out V2.out.size (by show 1 ≤ 1000; omega)).mono ?_
              rintro e v3 ⟨rfl, F6, R6, hD3, hF6, hR6, hB3, ht3⟩
              have V3 := Lib.hid (V2.out.trans hB3)
              clear hD3 hF6 hR6 hB3 ht3 DT V2
              go_wp2_with fail
              refine (KN.out _).mono ?_
              rintro e v4 ⟨rfl, hB4⟩
              have V4 := Lib.hid (below_then V3.out hB4)
              clear hB4
              go_wp2_with fail
              go_ret
              exact ⟨rfl, V4.out⟩
end
end Go.Proofs.YtckomifecmemnaaGreat

/- A store on its disk and its model, for the walks of stage 7. -/
import Derived.Test.YtckomifecmemnaaGreatPkd
namespace Go.Proofs.YtckomifecmemnaaGreat
open Go.RowKit Dig
set_option linter.unusedVariables false

/-- A store of the program on its disk, and a model, apart from one another and from what was there. -/
def Trio {G : Type} (Obj : ObjP G) (Fit : FitP G) (w : World) (B : Nat) (F Fd R : Nat → Prop) (m d a b : Nat) (g : G) (x : Nat) (s1 s2 : SS) (ds : DS) : Prop :=
  Duo Obj w B F R m d a b g x s1 s2 ∧ Alone w B Fd d ds ∧ (∀ k, F k → ¬ Fd k) ∧ (∀ k, R k → ¬ Fd k) ∧ b ≤ ds.dur.length ∧ Fit (cutD ds a b) g s1.last s1.kept
theorem edit_last (s : SS) (o : Op7) : (editS s o).last = s.last ∧ (editS s o).kept = s.kept := by
  unfold editS
  split
  · unfold deleteS
    split
    · exact ⟨rfl, rfl⟩
    · split <;> exact ⟨rfl, rfl⟩
  · split
    · exact ⟨rfl, rfl⟩
    · unfold putS
      split
      · exact ⟨rfl, rfl⟩
      · split <;> exact ⟨rfl, rfl⟩
section
variable {G : Type} {Obj : ObjP G} {Fit : FitP G} {w w' : World} {B m d a b x : Nat} {F Fd R : Nat → Prop} {g : G} {s s1 s2 s' : SS} {ds : DS} {v : Value} {e : Ending} {o : Op7}
theorem Trio.below (P : Prog7 Obj Fit) (h : Trio Obj Fit w B F Fd R m d a b g x s1 s2 ds) (hB : Below w.heap.size w w') : Trio Obj Fit w' B F Fd R m d a b g x s1 s2 ds := ⟨h.1.below P hB, h.2.1.below hB, h.2.2⟩
/-- A call that works on the store and on the model. -/
theorem Trio.both (h : Trio Obj Fit w B F Fd R m d a b g x s s ds) (hl : s'.last = s.last) (hk : s'.kept = s.kept) (hd : REd Obj w B m d a b g x F R s' e w') :
    e = .returned (.bool true) ∧ (∃ F' R', Trio Obj Fit w' B F' Fd R' m d a b g x s' s' ds) ∧ On B w w' := by
  obtain ⟨hD, hA, h1, h2, h3, h4⟩ := h
  obtain ⟨he, F', R', hD', hF, hR, hb, ⟨t1, t2, t3, t4, t5⟩⟩ := hd
  refine ⟨he, ⟨F', R', hD', ⟨hA.1.keep t4 fun k hk => t5 k (hA.1.lt hk) fun hf => hf.elim (fun hf => h1 k hf hk) fun hr => h2 k hr hk, hA.2⟩, fun k hk hf => ?_, fun k hk hf => ?_, h3, by rw [hl, hk]; exact h4⟩, hb, t4⟩
  · rcases hF k hk with h | h
    · exact h1 k h hf
    · have := hA.1.lt hf
      omega
  · rcases hR k hk with h | h
    · exact h2 k h hf
    · have := hA.1.lt hf
      omega
/-- A call of the model. -/
theorem Trio.ref (P : Prog7 Obj Fit) (h : Trio Obj Fit w B F Fd R m d a b g x s1 s2 ds) (hB : B ≤ w.heap.size) (hd : RSd w R x v s e w') : e = .returned v ∧ Trio Obj Fit w' B F Fd (MoreR R w w') m d a b g x s1 s ds ∧ On B w w' := by
  obtain ⟨hD, hA, h1, h2, h3, h4⟩ := h
  have hx := hD.2.1.2.1
  have ht := hd.2.2
  obtain ⟨he, hD', hb⟩ := hD.ref P hB hd
  obtain ⟨t1, t2, t3, t4, t5⟩ := ht
  refine ⟨he, ⟨hD', ⟨hA.1.keep t4 fun k hk => t5 k (hA.1.lt hk) fun e => h2 k (by rw [e]; exact hx) hk, hA.2⟩, h1, fun k hk hf => ?_, h3, h4⟩, hb, t4⟩
  rcases hk with h | h
  · exact h2 k h hf
  · have := hA.1.lt hf
    omega
/-- What Commit leaves. -/
theorem Trio.put {F' Fd' : Nat → Prop} {g' : G} {ds' : DS} (h : Trio Obj Fit w B F Fd R m d a b g x s1 s2 ds) (hB : B ≤ w.heap.size) (hO : Obj w' F' m d a b g' s') (hD : Disk w' Fd' d ds') (h1 : ∀ k, F' k → ¬ Fd' k) (h2 : ∀ k, F' k ∨ Fd' k → MoreR (fun k => F k ∨ Fd k) w w' k)
    (ht : Turn (fun k => F k ∨ Fd k) w w') (hc : calmD ds') (hs : SameD a b ds ds') (hf : Fit (cutD ds' a b) g' s'.last s'.kept) : Trio Obj Fit w' B F' Fd' R m d a b g' x s' s2 ds' ∧ On B w w' := by
  obtain ⟨⟨hO0, hR, l1, l2, l3⟩, hA, q1, q2, q3, -⟩ := h
  obtain ⟨t1, t2, t3, t4, t5⟩ := ht
  have low : ∀ k, F k ∨ Fd k → B ≤ k := fun k hk => hk.elim (l1 k) (hA.2.1 k)
  have lo2 : ∀ k, F' k ∨ Fd' k → B ≤ k := fun k hk => (h2 k hk).elim (low k) fun h => Nat.le_trans hB h.1
  have nr : ∀ k, F k ∨ Fd k → ¬ R k := fun k hk hr => hk.elim (fun hf => l3 k hf hr) fun hf => q2 k hr hf
  have nr2 : ∀ k, F' k ∨ Fd' k → ¬ R k := fun k hk hr => (h2 k hk).elim (fun h => nr k h hr) fun h => by have := hR.2.2.1 k hr; omega
  exact ⟨⟨⟨hO, hR.keep t4 fun k hk => t5 k (hR.2.2.1 k hk) fun hf => nr k hf hk, fun k hk => lo2 k (.inl hk), l2, fun k hk => nr2 k (.inl hk)⟩, ⟨hD, fun k hk => lo2 k (.inr hk), hc⟩, h1, fun k hr hk => nr2 k (.inr hk) hr, by rw [hs.1]; exact q3, hf⟩,
    ⟨t1, t2, t3, t4, fun k hk => t5 k (by omega) fun hf => by have := low k hf; omega⟩, t4⟩
/-- What Open leaves, where a model stands by. -/
theorem Trio.made (P : Prog7 Obj Fit) {m' : Nat} {F' Fd' : Nat → Prop} {g' : G} {ds' : DS} {n : Nat} {L : List (List Pg)} (hA : Alone w B Fd d ds) (hR : RSto w R x s2) (hRB : ∀ k, R k → B ≤ k) (hRd : ∀ k, R k → ¬ Fd k) (hB : B ≤ w.heap.size) (hb : b ≤ ds.dur.length)
    (hO : Obj w' F' m' d a b g' ⟨n, L, L.getLastD []⟩) (hD : Disk w' Fd' d ds') (h1 : ∀ k, F' k → ¬ Fd' k) (h2 : ∀ k, F' k → w.heap.size ≤ k) (h3 : ∀ k, Fd' k → MoreR Fd w w' k) (ht : Turn Fd w w') (hc : calmD ds') (hs : SameD a b ds ds') (hf : Fit (cutD ds' a b) g' n L) :
    Trio Obj Fit w' B F' Fd' R m' d a b g' x ⟨n, L, L.getLastD []⟩ s2 ds' ∧ On B w w' := by
  obtain ⟨t1, t2, t3, t4, t5⟩ := ht
  refine ⟨⟨⟨hO, hR.keep t4 fun k hk => t5 k (hR.2.2.1 k hk) fun hf => hRd k hk hf, fun k hk => Nat.le_trans hB (h2 k hk), hRB, fun k hk hr => ?_⟩, ⟨hD, fun k hk => (h3 k hk).elim (hA.2.1 k) fun h => Nat.le_trans hB h.1, hc⟩, h1, fun k hr hk => ?_, by rw [hs.1]; exact hb, hf⟩,
    ⟨t1, t2, t3, t4, fun k hk => t5 k (by omega) fun hf => by have := hA.2.1 k hf; omega⟩, t4⟩
  · have := h2 k hk
    have := hR.2.2.1 k hr
    omega
  · rcases h3 k hk with h | h
    · exact hRd k hr h
    · have := hR.2.2.1 k hr
      omega
/-- A model that is just made beside a store. -/
theorem Sit.trio (P : Prog7 Obj Fit) (h : Sit Obj Fit w B F Fd m d a b g s ds) (hB : B ≤ w.heap.size) (hb : Below w.heap.size w w')
    (hr : RSto w' (fun k => w.heap.size ≤ k ∧ k < w'.heap.size) x s2) : Trio Obj Fit w' B F Fd (fun k => w.heap.size ≤ k ∧ k < w'.heap.size) m d a b g x s s2 ds :=
  ⟨h.duo P hB hb hr, h.2.1.below hb, h.2.2.1, fun k hk hf => by have := h.2.1.1.lt hf; omega, h.2.2.2.2⟩
end
end Go.Proofs.YtckomifecmemnaaGreat

/- The walk of PagestorePlays. -/
namespace Go.Proofs.YtckomifecmemnaaGreat
open Go.RowKit Dig
set_option linter.unusedVariables false

theorem Byt.low7 {w : World} {v : Value} {ts : List UInt8} (h : Byt w v ts) : 0 < ts.length → ∀ k, v.ownBlock = some k → k < w.heap.size := by
  obtain ⟨A, c, h1, h2, h3, h5⟩ := h
  intro hp k hk
  obtain ⟨b, off, e, hlt, hc⟩ := h5 hp
  subst e
  rw [h1] at hk
  have : b = k := by simpa [Value.ownBlock] using hk
  omega
theorem commit_few {s : SS} (h : fewS s) : ∀ l ∈ (commitS s).kept, l.length ≤ 1000 := by
  intro l hl
  have hm : l ∈ s.kept ++ [s.work] := by
    unfold commitS at hl
    simp only at hl
    split at hl
    · exact List.mem_of_mem_drop hl
    · exact hl
  rcases List.mem_append.1 hm with h1 | h1
  · exact Nat.le_trans (h.2 l h1) (by omega)
  · rw [List.mem_singleton.1 h1]
    exact Nat.le_trans h.1 (by omega)
section
variable {G : Type} {Obj : ObjP G} {Fit : FitP G} {w : World} {v : Value} {l : List Op7}
set_option maxRecDepth 20000 in
set_option maxHeartbeats 16000000 in
theorem plays7_walk (P : Prog7 Obj Fit) (h : Ops7 w v l) : Calls Tryz.prog 3 #[v] w (RVal w (.bool true)) := by
  obtain ⟨r, hr, F⟩ := fits7_c h 24 (by omega)
  have F := Lib.hid F
  have H := Lib.hid h
  have hP := Lib.hid P
  have KN := Lib.hid (fun w => known7_c P w)
  obtain ⟨A, c, rfl⟩ := h.form
  cases r with
  | false =>
    clear h hr P
    go_enter Tryz.func3, Tryz.ntmps3
    go_wp2_with fail
    refine (F.out).mono ?_
    rintro e wz ⟨rfl, rfl⟩
    go_wp2_with fail
    go_ret
    exact ⟨rfl, Below.refl _ _⟩
  | true =>
    obtain ⟨hl, hd⟩ := hr.1 rfl
    have HL := Lib.hid hl
    have HD := Lib.hid hd
    have hl2 : (l.length : Int) ≤ 24 := by omega
    obtain ⟨g0, hz⟩ := P.zero 1487 (by omega) (by omega)
    have HZ := Lib.hid hz
    clear h hr P hl hd hz
    go_enter Tryz.func3, Tryz.ntmps3
    go_wp2_with fail
    refine (F.out).mono ?_
    rintro e wz ⟨rfl, rfl⟩
    clear F
    go_wp2_with fail
    refine (qnew_c w 1500 (by omega) (by omega)).mono ?_
    rintro e w1 ⟨d, rfl, hD, hB1⟩
    have A1 := Lib.hid (show Alone w1 w.heap.size _ d (newS 1500) from ⟨hD, fun k hk => hk.1, calm_newS 1500⟩)
    have B1 := Lib.hid hB1
    clear hD hB1
    go_wp2_with fail
    refine (hP.out.open' A1.out.1 3 1490 (by omega) (by rw [newS_len]; omega) A1.out.2.2 (by rw [cut_newS (by omega)]; exact HZ.out)).mono ?_
    rintro e w2 ⟨m, F2, Fd2, g2, ds2, rfl, hO, hD, h1, h2, h3, ht, hc, hs, hf⟩
    obtain ⟨hS, hon⟩ := Sit.made hP.out A1.out B1.out.size (by rw [newS_len]; omega) hO hD h1 h2 h3 ht hc hs hf
    have S2 := Lib.hid (show Sit Obj Fit w2 w.heap.size F2 Fd2 m d 3 1490 g2 emptyS ds2 from hS)
    have B2 := Lib.hid (show Below w.heap.size w w2 from B1.out.trans hon.1)
    clear hO hD h1 h2 h3 ht hc hs hf hS hon A1 B1 HZ
    go_wp2_with fail
    refine (rnewStore_c w2).mono ?_
    rintro e w3 ⟨x, rfl, hR, hB3⟩
    have T3 := Lib.hid (S2.out.trio hP.out B2.out.size hB3 hR)
    have B3 := Lib.hid (below_then B2.out hB3)
    clear hR hB3 S2 B2
    go_wp2_with fail
    go_loopw [5, 8] (fun sv iv wr => ∃ (j m : Nat) (s : SS) (F Fd R : Nat → Prop) (g : G) (ds : DS), j ≤ l.length ∧ iv = .int .i64 j ∧ sv = .pointer (some ⟨m, 0, none⟩) ∧ s.last ≤ j ∧ Trio Obj Fit wr w.heap.size F Fd R m d 3 1490 g x s s ds ∧ Below w.heap.size w wr) (fun _ iv _ => l.length - (intOf iv).toNat)
    case atStart => exact ⟨0, m, emptyS, _, _, _, _, _, Nat.zero_le _, rfl, rfl, Nat.le_refl _, T3.out, B3.out⟩
    case round =>
      clear T3 B3
      obtain ⟨j, m, s, F, Fd, R, g, ds, hj, rfl, rfl, hsj, hT, hB⟩ := hrel
      have HT := Lib.hid hT
      have HB := Lib.hid hB
      have HSJ := Lib.hid hsj
      clear hT hsj
      generalize wr = w4 at *
      by_cases hjn : j < l.length
      · have HI : (j : Int) < l.length := by omega
        have HOK := Lib.hid (H.out.ok hjn)
        have HDJ := Lib.hid (HD.out _ (List.getElem_mem hjn))
        obtain ⟨b, off, rfl, hb, a0, a1, a2, a4, a5, a6, u, a3, hu⟩ := H.out.cells hjn
        have c0 := (hB.cell (p := ⟨b, off + j * 7, none⟩) hb).trans a0
        have c1 := (hB.cell (p := ⟨b, off + j * 7 + 1, none⟩) hb).trans a1
        have c2 := (hB.cell (p := ⟨b, off + j * 7 + 2, none⟩) hb).trans a2
        have c3 := (hB.cell (p := ⟨b, off + j * 7 + 3, none⟩) hb).trans a3
        have c4 := (hB.cell (p := ⟨b, off + j * 7 + 4, none⟩) hb).trans a4
        have c5 := (hB.cell (p := ⟨b, off + j * 7 + 5, none⟩) hb).trans a5
        have c6 := (hB.cell (p := ⟨b, off + j * 7 + 6, none⟩) hb).trans a6
        have HLO := Lib.hid hu.low7
        have HU := Lib.hid (hu.below hB)
        generalize l[j] = o at *
        have hkk := kind10 (k := o.kind)
        have hkb : o.kind % 10 < 10 := Nat.mod_lt _ (by omega)
        have hk0 := HOK.out.1
        clear a0 a1 a2 a3 a4 a5 a6 hb hB hu
        by_cases hk5 : o.kind % 10 = 5
        · rw [hk5] at hkk
          clear c1 c2 c3 c4 c5 c6 HOK HDJ HLO HU
          go_wp2_with fail
          refine (rneed_c HT.out.1.2.1 (commit_few (hP.out.ok HT.out.1.1).2)).mono ?_
          rintro e w5 ⟨rfl, hB5⟩
          have T5 := Lib.hid (HT.out.below hP.out hB5)
          have B5 := Lib.hid (below_then HB.out hB5)
          clear hB5 HT HB c0
          obtain ⟨nd, end_⟩ : ∃ nd, needS s = nd := ⟨_, rfl⟩
          have HND := Lib.hid end_
          rw [end_]
          clear end_
          by_cases hn : nd ≤ 743
          · have hni : ¬ (nd : Int) > 743 := by omega
            go_wp2_with fail
            refine (hP.out.commit T5.out.1.1 T5.out.2.1.1 T5.out.2.2.1 T5.out.2.1.2.2 T5.out.2.2.2.2.1 T5.out.2.2.2.2.2 (by have := HSJ.out; have := HL.out; omega)).mono ?_
            rintro e w6 ⟨F6, Fd6, g6, ds6, s6, hO, hD, h1, h2, ht, hc, hs, hf, hres⟩
            obtain ⟨rfl, rfl⟩ : s6 = commitS s ∧ e = .returned (.tuple #[.int .i64 ((s.last + 1 : Nat) : Int), .int .i64 0]) := by
              rcases hres with h | ⟨-, hn2, -⟩
              · exact h
              · have := HND.out
                omega
            obtain ⟨hT6, hon⟩ := T5.out.put B5.out.size hO hD h1 h2 ht hc hs hf
            have T6 := Lib.hid hT6
            have B6 := Lib.hid (B5.out.trans hon.1)
            clear hO hD h1 h2 ht hc hs hf hres hT6 hon T5 B5
            have CM := Lib.hid (rcommit_c T6.out.1.2.1 (by have := HSJ.out; have := HL.out; omega))
            have HL1 := Lib.hid (show (commitS s).last = s.last + 1 from rfl)
            generalize commitS s = s' at *
            generalize ((s.last + 1 : Nat) : Int) = z at *
            go_wp2_with fail
            refine (CM.out).mono ?_
            rintro e w7 hd7
            obtain ⟨rfl, hT7, hon⟩ := T6.out.ref hP.out B6.out.size hd7
            have T7 := Lib.hid hT7
            have B7 := Lib.hid (B6.out.trans hon.1)
            have HS7 := Lib.hid (show s'.last ≤ j + 1 by rw [HL1.out]; have := HSJ.out; omega)
            clear hd7 hT7 hon T6 B6 CM HL1
            go_wp2_with fail
            refine (agree7_c hP.out T7.out.1 B7.out.size (by have := HS7.out; have := HL.out; omega)).mono ?_
            rintro e w9 hd9
            obtain ⟨rfl, ⟨F9, R9, hT9⟩, hon9⟩ := T7.out.both rfl rfl hd9
            have T9 := Lib.hid hT9
            have B9 := Lib.hid (B7.out.trans hon9.1)
            clear hd9 hT9 hon9 T7 B7
            go_wp2_with fail
            go_roundw
            case rel => exact ⟨j + 1, m, _, _, _, _, _, _, by omega, by go_num, rfl, by have := HS7.out; omega, T9.out, B9.out⟩
            case measure => simp [intOf]; omega
          · have hni : (nd : Int) > 743 := by omega
            go_wp2_with fail
            refine (KN.out _).mono ?_
            rintro e wk ⟨rfl, hBk⟩
            have BK := Lib.hid (below_then B5.out hBk)
            clear hBk
            go_wp2_with fail
            go_ret
            exact ⟨rfl, BK.out⟩
        by_cases hk6 : o.kind % 10 = 6
        · rw [hk6] at hkk
          clear c1 c2 c3 c4 c5 c6 HOK HDJ HLO HU
          go_wp2_with fail
          refine (rneed_c HT.out.1.2.1 (commit_few (hP.out.ok HT.out.1.1).2)).mono ?_
          rintro e w5 ⟨rfl, hB5⟩
          have T5 := Lib.hid (HT.out.below hP.out hB5)
          have B5 := Lib.hid (below_then HB.out hB5)
          clear hB5 HT HB c0
          obtain ⟨nd, end_⟩ : ∃ nd, needS s = nd := ⟨_, rfl⟩
          have HND := Lib.hid end_
          rw [end_]
          clear end_
          by_cases hn : nd ≤ 743
          · have hni : ¬ (nd : Int) > 743 := by omega
            go_wp2_with fail
            refine (hP.out.commit T5.out.1.1 T5.out.2.1.1 T5.out.2.2.1 T5.out.2.1.2.2 T5.out.2.2.2.2.1 T5.out.2.2.2.2.2 (by have := HSJ.out; have := HL.out; omega)).mono ?_
            rintro e w6 ⟨F6, Fd6, g6, ds6, s6, hO, hD, h1, h2, ht, hc, hs, hf, hres⟩
            obtain ⟨rfl, rfl⟩ : s6 = commitS s ∧ e = .returned (.tuple #[.int .i64 ((s.last + 1 : Nat) : Int), .int .i64 0]) := by
              rcases hres with h | ⟨-, hn2, -⟩
              · exact h
              · have := HND.out
                omega
            obtain ⟨hT6, hon⟩ := T5.out.put B5.out.size hO hD h1 h2 ht hc hs hf
            have T6 := Lib.hid hT6
            have B6 := Lib.hid (B5.out.trans hon.1)
            clear hO hD h1 h2 ht hc hs hf hres hT6 hon T5 B5
            have CM := Lib.hid (rcommit_c T6.out.1.2.1 (by have := HSJ.out; have := HL.out; omega))
            have HL1 := Lib.hid (show (commitS s).last = s.last + 1 from rfl)
            generalize commitS s = s' at *
            generalize ((s.last + 1 : Nat) : Int) = z at *
            go_wp2_with fail
            refine (CM.out).mono ?_
            rintro e w7 hd7
            obtain ⟨rfl, hT7, hon⟩ := T6.out.ref hP.out B6.out.size hd7
            have T7 := Lib.hid hT7
            have B7 := Lib.hid (B6.out.trans hon.1)
            have HS7 := Lib.hid (show s'.last ≤ j + 1 by rw [HL1.out]; have := HSJ.out; omega)
            clear hd7 hT7 hon T6 B6 CM HL1
            go_wp2_with fail
            refine (agree7_c hP.out T7.out.1 B7.out.size (by have := HS7.out; have := HL.out; omega)).mono ?_
            rintro e w9 hd9
            obtain ⟨rfl, ⟨F9, R9, hT9⟩, hon9⟩ := T7.out.both rfl rfl hd9
            have T9 := Lib.hid hT9
            have B9 := Lib.hid (B7.out.trans hon9.1)
            clear hd9 hT9 hon9 T7 B7
            go_wp2_with fail
            go_roundw
            case rel => exact ⟨j + 1, m, _, _, _, _, _, _, by omega, by go_num, rfl, by have := HS7.out; omega, T9.out, B9.out⟩
            case measure => simp [intOf]; omega
          · have hni : (nd : Int) > 743 := by omega
            go_wp2_with fail
            refine (KN.out _).mono ?_
            rintro e wk ⟨rfl, hBk⟩
            have BK := Lib.hid (below_then B5.out hBk)
            clear hBk
            go_wp2_with fail
            go_ret
            exact ⟨rfl, BK.out⟩
        by_cases hk8 : o.kind % 10 = 8
        · rw [hk8] at hkk
          clear c1 c2 c3 c4 c5 c6 HOK HDJ HLO HU
          go_wp2_with fail
          refine (hP.out.open' HT.out.2.1.1 3 1490 (by omega) HT.out.2.2.2.2.1 HT.out.2.1.2.2 HT.out.2.2.2.2.2).mono ?_
          rintro e w5 ⟨m5, F5, Fd5, g5, ds5, rfl, hO, hD, h1, h2, h3, ht, hc, hs, hf⟩
          obtain ⟨hT5, hon⟩ := Trio.made hP.out HT.out.2.1 HT.out.1.2.1 HT.out.1.2.2.2.1 HT.out.2.2.2.1 HB.out.size HT.out.2.2.2.2.1 hO hD h1 h2 h3 ht hc hs hf
          have T5 := Lib.hid hT5
          have B5 := Lib.hid (HB.out.trans hon.1)
          clear hO hD h1 h2 h3 ht hc hs hf hT5 hon HT HB c0
          go_wp2_with fail
          refine (rrollback_c T5.out.1.2.1).mono ?_
          rintro e w6 hd6
          obtain ⟨rfl, hT6, hon⟩ := T5.out.ref hP.out B5.out.size hd6
          have T6 := Lib.hid (show Trio Obj Fit w6 w.heap.size F5 Fd5 _ m5 d 3 1490 g5 x (rollbackS s) (rollbackS s) ds5 from hT6)
          have B6 := Lib.hid (B5.out.trans hon.1)
          have HS6 := Lib.hid (show (rollbackS s).last ≤ j + 1 from Nat.le_succ_of_le HSJ.out)
          clear hd6 hT6 hon T5 B5
          generalize rollbackS s = s' at *
          go_wp2_with fail
          refine (agree7_c hP.out T6.out.1 B6.out.size (by have := HS6.out; have := HL.out; omega)).mono ?_
          rintro e w9 hd9
          obtain ⟨rfl, ⟨F9, R9, hT9⟩, hon9⟩ := T6.out.both rfl rfl hd9
          have T9 := Lib.hid hT9
          have B9 := Lib.hid (B6.out.trans hon9.1)
          clear hd9 hT9 hon9 T6 B6
          go_wp2_with fail
          go_roundw
          case rel => exact ⟨j + 1, m5, _, _, _, _, _, _, by omega, by go_num, rfl, by have := HS6.out; omega, T9.out, B9.out⟩
          case measure => simp [intOf]; omega
        by_cases hk9 : o.kind % 10 = 9
        · rw [hk9] at hkk
          clear c1 c2 c3 c4 c5 c6 HOK HDJ HLO HU
          go_wp2_with fail
          refine (hP.out.open' HT.out.2.1.1 3 1490 (by omega) HT.out.2.2.2.2.1 HT.out.2.1.2.2 HT.out.2.2.2.2.2).mono ?_
          rintro e w5 ⟨m5, F5, Fd5, g5, ds5, rfl, hO, hD, h1, h2, h3, ht, hc, hs, hf⟩
          obtain ⟨hT5, hon⟩ := Trio.made hP.out HT.out.2.1 HT.out.1.2.1 HT.out.1.2.2.2.1 HT.out.2.2.2.1 HB.out.size HT.out.2.2.2.2.1 hO hD h1 h2 h3 ht hc hs hf
          have T5 := Lib.hid hT5
          have B5 := Lib.hid (HB.out.trans hon.1)
          clear hO hD h1 h2 h3 ht hc hs hf hT5 hon HT HB c0
          go_wp2_with fail
          refine (rrollback_c T5.out.1.2.1).mono ?_
          rintro e w6 hd6
          obtain ⟨rfl, hT6, hon⟩ := T5.out.ref hP.out B5.out.size hd6
          have T6 := Lib.hid (show Trio Obj Fit w6 w.heap.size F5 Fd5 _ m5 d 3 1490 g5 x (rollbackS s) (rollbackS s) ds5 from hT6)
          have B6 := Lib.hid (B5.out.trans hon.1)
          have HS6 := Lib.hid (show (rollbackS s).last ≤ j + 1 from Nat.le_succ_of_le HSJ.out)
          clear hd6 hT6 hon T5 B5
          generalize rollbackS s = s' at *
          go_wp2_with fail
          refine (agree7_c hP.out T6.out.1 B6.out.size (by have := HS6.out; have := HL.out; omega)).mono ?_
          rintro e w9 hd9
          obtain ⟨rfl, ⟨F9, R9, hT9⟩, hon9⟩ := T6.out.both rfl rfl hd9
          have T9 := Lib.hid hT9
          have B9 := Lib.hid (B6.out.trans hon9.1)
          clear hd9 hT9 hon9 T6 B6
          go_wp2_with fail
          go_roundw
          case rel => exact ⟨j + 1, m5, _, _, _, _, _, _, by omega, by go_num, rfl, by have := HS6.out; omega, T9.out, B9.out⟩
          case measure => simp [intOf]; omega
        obtain ⟨kq, ekq⟩ : ∃ q, o.kind % 10 = q := ⟨_, rfl⟩
        rw [ekq] at hkk hkb hk5 hk6 hk8 hk9
        have q5 : ((kq : Int) == 5) = false := by rw [beq_eq_false_iff_ne]; omega
        have q6 : ((kq : Int) == 6) = false := by rw [beq_eq_false_iff_ne]; omega
        have q8 : ((kq : Int) == 8) = false := by rw [beq_eq_false_iff_ne]; omega
        have q9 : ((kq : Int) == 9) = false := by rw [beq_eq_false_iff_ne]; omega
        clear ekq hk5 hk6 hk8 hk9
        have HA := Lib.hid (edit_c hP.out HT.out.1 HB.out.size HOK.out HU.out HLO.out HDJ.out)
        have HE := Lib.hid (edit_last s o)
        clear HU HLO HDJ HOK
        go_wp2_with fail
        refine (HA.out).mono ?_
        rintro e w5 hd5
        obtain ⟨rfl, ⟨F5, R5, hT5⟩, hon⟩ := HT.out.both HE.out.1 HE.out.2 hd5
        have T5 := Lib.hid hT5
        have B5 := Lib.hid (HB.out.trans hon.1)
        have HS5 := Lib.hid (show (editS s o).last ≤ j + 1 by rw [HE.out.1]; exact Nat.le_succ_of_le HSJ.out)
        clear hd5 hT5 hon HT HB HA HE c0 c1 c2 c3 c4 c5 c6
        generalize editS s o = s' at *
        go_wp2_with fail
        refine (agree7_c hP.out T5.out.1 B5.out.size (by have := HS5.out; have := HL.out; omega)).mono ?_
        rintro e w9 hd9
        obtain ⟨rfl, ⟨F9, R9, hT9⟩, hon9⟩ := T5.out.both rfl rfl hd9
        have T9 := Lib.hid hT9
        have B9 := Lib.hid (B5.out.trans hon9.1)
        clear hd9 hT9 hon9 T5 B5
        go_wp2_with fail
        go_roundw
        case rel => exact ⟨j + 1, m, _, _, _, _, _, _, by omega, by go_num, rfl, by have := HS5.out; omega, T9.out, B9.out⟩
        case measure => simp [intOf]; omega
      · have HI : ¬ (j : Int) < l.length := by omega
        clear hB
        go_wp2_with fail
        refine (KN.out _).mono ?_
        rintro e wk ⟨rfl, hBk⟩
        have BK := Lib.hid (below_then HB.out hBk)
        clear hBk
        go_wp2_with fail
        go_ret
        exact ⟨rfl, BK.out⟩
end
end Go.Proofs.YtckomifecmemnaaGreat

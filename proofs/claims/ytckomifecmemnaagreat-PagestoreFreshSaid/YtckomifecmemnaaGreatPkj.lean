/- Two stores of the program on one disk, each with its model. -/
import Derived.Test.YtckomifecmemnaaGreatPkfg
namespace Go.Proofs.YtckomifecmemnaaGreat
open Go.RowKit Dig
set_option linter.unusedVariables false

theorem cutD_same {a b a2 b2 : Nat} {ds ds' : DS} (h : SameD a b ds ds') (hr : b ≤ a2 ∨ b2 ≤ a) : cutD ds' a2 b2 = cutD ds a2 b2 := by
  apply List.ext_getElem?
  intro i
  show ((ds'.dur.drop a2).take (b2 - a2))[i]? = ((ds.dur.drop a2).take (b2 - a2))[i]?
  rw [List.getElem?_take, List.getElem?_take]
  split
  · rw [List.getElem?_drop, List.getElem?_drop]
    exact h.2 _ (by omega)
  · rfl
section
variable {G : Type} {Obj : ObjP G} {Fit : FitP G} {w w' w'' : World} {B m1 m2 d a1 b1 a2 b2 x1 x2 : Nat} {F1 R1 F2 R2 Fd H : Nat → Prop} {g1 g2 : G} {s s1 q1 s2 q2 s' : SS} {ds : DS} {v : Value} {e : Ending}
/-- A store and its model where only other blocks turn. -/
theorem Trio.stay (P : Prog7 Obj Fit) (h : Trio Obj Fit w B F1 Fd R1 m1 d a1 b1 g1 x1 s1 q1 ds) (ht : Turn H w w') (h1 : ∀ k, k < w.heap.size → H k → ¬ F1 k) (h2 : ∀ k, k < w.heap.size → H k → ¬ R1 k) (h3 : ∀ k, k < w.heap.size → H k → ¬ Fd k) : Trio Obj Fit w' B F1 Fd R1 m1 d a1 b1 g1 x1 s1 q1 ds := by
  obtain ⟨⟨hO, hR, l1, l2, l3⟩, hA, q⟩ := h
  obtain ⟨t1, t2, t3, t4, t5⟩ := ht
  exact ⟨⟨P.keep hO t4 fun k hk => t5 k (P.lt hO k hk) fun hh => h1 k (P.lt hO k hk) hh hk, hR.keep t4 fun k hk => t5 k (hR.2.2.1 k hk) fun hh => h2 k (hR.2.2.1 k hk) hh hk, l1, l2, l3⟩, ⟨hA.1.keep t4 fun k hk => t5 k (hA.1.lt hk) fun hh => h3 k (hA.1.lt hk) hh hk, hA.2⟩, q⟩
/-- Two stores on one disk, each with its model. -/
def Two7 (Obj : ObjP G) (Fit : FitP G) (w : World) (B : Nat) (F1 R1 F2 R2 Fd : Nat → Prop) (m1 m2 d a1 b1 a2 b2 : Nat) (g1 g2 : G) (x1 x2 : Nat) (s1 q1 s2 q2 : SS) (ds : DS) : Prop :=
  Trio Obj Fit w B F1 Fd R1 m1 d a1 b1 g1 x1 s1 q1 ds ∧ Trio Obj Fit w B F2 Fd R2 m2 d a2 b2 g2 x2 s2 q2 ds ∧ (∀ k, F1 k ∨ R1 k → ¬ (F2 k ∨ R2 k)) ∧ (b1 ≤ a2 ∨ b2 ≤ a1)
theorem Two7.symm (h : Two7 Obj Fit w B F1 R1 F2 R2 Fd m1 m2 d a1 b1 a2 b2 g1 g2 x1 x2 s1 q1 s2 q2 ds) : Two7 Obj Fit w B F2 R2 F1 R1 Fd m2 m1 d a2 b2 a1 b1 g2 g1 x2 x1 s2 q2 s1 q1 ds :=
  ⟨h.2.1, h.1, fun k h1 h2 => h.2.2.1 k h2 h1, h.2.2.2.symm⟩
theorem Trio.lt (P : Prog7 Obj Fit) (h : Trio Obj Fit w B F1 Fd R1 m1 d a1 b1 g1 x1 s1 q1 ds) : ∀ k, F1 k ∨ R1 k → k < w.heap.size := fun k hk => hk.elim (P.lt h.1.1 k) (h.1.2.1.2.2.1 k)
theorem Trio.off (h : Trio Obj Fit w B F1 Fd R1 m1 d a1 b1 g1 x1 s1 q1 ds) : ∀ k, F1 k ∨ R1 k → ¬ Fd k := fun k hk => hk.elim (h.2.2.1 k) (h.2.2.2.1 k)
theorem Two7.below (P : Prog7 Obj Fit) (h : Two7 Obj Fit w B F1 R1 F2 R2 Fd m1 m2 d a1 b1 a2 b2 g1 g2 x1 x2 s1 q1 s2 q2 ds) (hB : Below w.heap.size w w') : Two7 Obj Fit w' B F1 R1 F2 R2 Fd m1 m2 d a1 b1 a2 b2 g1 g2 x1 x2 s1 q1 s2 q2 ds :=
  ⟨h.1.below P hB, h.2.1.below P hB, h.2.2⟩
theorem Two7.both (P : Prog7 Obj Fit) (h : Two7 Obj Fit w B F1 R1 F2 R2 Fd m1 m2 d a1 b1 a2 b2 g1 g2 x1 x2 s s s2 q2 ds) (hl : s'.last = s.last) (hk : s'.kept = s.kept) (hd : REd Obj w B m1 d a1 b1 g1 x1 F1 R1 s' e w') :
    e = .returned (.bool true) ∧ (∃ F1' R1', Two7 Obj Fit w' B F1' R1' F2 R2 Fd m1 m2 d a1 b1 a2 b2 g1 g2 x1 x2 s' s' s2 q2 ds) ∧ On B w w' := by
  obtain ⟨hA, hC, h1, h2⟩ := h
  have hlt := hC.lt P
  have hoff := hA.off
  have hd' := hd
  obtain ⟨-, F', R', -, hF, hR, -, ht⟩ := hd
  obtain ⟨he, F, R, hD', hF, hR, hb, ht⟩ := hd'
  obtain ⟨hD, hAl, g1', g2', g3, g4⟩ := hA
  obtain ⟨t1, t2, t3, t4, t5⟩ := ht
  have hFd : ∀ k, Fd k → k < w.heap.size := fun k hk => hAl.1.lt hk
  refine ⟨he, ⟨F, R, ⟨hD', ⟨hAl.1.keep t4 fun k hk => t5 k (hFd k hk) fun hf => hoff k hf hk, hAl.2⟩, fun k hk hf => ?_, fun k hk hf => ?_, g3, by rw [hl, hk]; exact g4⟩, hC.stay P ⟨t1, t2, t3, t4, t5⟩ (fun k _ hh hf => h1 k hh (.inl hf)) (fun k _ hh hf => h1 k hh (.inr hf)) (fun k _ hh => hoff k hh), fun k hk hk2 => ?_, h2⟩, hb, t4⟩
  · rcases hF k hk with h | h
    · exact g1' k h hf
    · have := hFd k hf
      omega
  · rcases hR k hk with h | h
    · exact g2' k h hf
    · have := hFd k hf
      omega
  · have hl2 := hlt k hk2
    rcases hk with hk | hk
    · rcases hF k hk with h | h
      · exact h1 k (.inl h) hk2
      · omega
    · rcases hR k hk with h | h
      · exact h1 k (.inr h) hk2
      · omega
theorem Two7.ref (P : Prog7 Obj Fit) (h : Two7 Obj Fit w B F1 R1 F2 R2 Fd m1 m2 d a1 b1 a2 b2 g1 g2 x1 x2 s1 q1 s2 q2 ds) (hB : B ≤ w.heap.size) (hd : RSd w R1 x1 v s e w') :
    e = .returned v ∧ Two7 Obj Fit w' B F1 (MoreR R1 w w') F2 R2 Fd m1 m2 d a1 b1 a2 b2 g1 g2 x1 x2 s1 s s2 q2 ds ∧ On B w w' := by
  obtain ⟨hA, hC, h1, h2⟩ := h
  have hlt := hC.lt P
  have hx := hA.1.2.1.2.1
  have hxd := hA.2.2.2.1
  have ht := hd.2.2
  obtain ⟨he, hT, hb⟩ := hA.ref P hB hd
  refine ⟨he, ⟨hT, hC.stay P ht (fun k _ hh hf => h1 x1 (.inr hx) (.inl (by rw [← hh]; exact hf))) (fun k _ hh hf => h1 x1 (.inr hx) (.inr (by rw [← hh]; exact hf))) (fun k _ hh hf => hxd x1 hx (by rw [← hh]; exact hf)), fun k hk hk2 => ?_, h2⟩, hb⟩
  have hl2 := hlt k hk2
  rcases hk with hk | hk
  · exact h1 k (.inl hk) hk2
  · rcases hk with hk | hk
    · exact h1 k (.inr hk) hk2
    · omega
theorem Two7.put (P : Prog7 Obj Fit) {F' Fd' : Nat → Prop} {g' : G} {ds' : DS} (h : Two7 Obj Fit w B F1 R1 F2 R2 Fd m1 m2 d a1 b1 a2 b2 g1 g2 x1 x2 s1 q1 s2 q2 ds) (hB : B ≤ w.heap.size) (hO : Obj w' F' m1 d a1 b1 g' s') (hD : Disk w' Fd' d ds') (h1 : ∀ k, F' k → ¬ Fd' k) (h2 : ∀ k, F' k ∨ Fd' k → MoreR (fun k => F1 k ∨ Fd k) w w' k)
    (ht : Turn (fun k => F1 k ∨ Fd k) w w') (hc : calmD ds') (hs : SameD a1 b1 ds ds') (hf : Fit (cutD ds' a1 b1) g' s'.last s'.kept) : Two7 Obj Fit w' B F' R1 F2 R2 Fd' m1 m2 d a1 b1 a2 b2 g' g2 x1 x2 s' q1 s2 q2 ds' ∧ On B w w' := by
  obtain ⟨hA, hC, k1, k2⟩ := h
  have hlt := hC.lt P
  have hoff := hC.off
  obtain ⟨hT, hb⟩ := hA.put hB hO hD h1 h2 ht hc hs hf
  have hAl := hT.2.1
  obtain ⟨⟨hO2, hR2, l1, l2, l3⟩, -, e1, e2, e3, e4⟩ := hC
  obtain ⟨t1, t2, t3, t4, t5⟩ := ht
  have stay : ∀ k, F2 k ∨ R2 k → w'.heap[k]? = w.heap[k]? := fun k hk => t5 k (hlt k hk) fun hh => hh.elim (fun hf => k1 k (.inl hf) hk) fun hf => hoff k hk hf
  have nd : ∀ k, F2 k ∨ R2 k → ¬ (F' k ∨ Fd' k) := fun k hk hh => by
    rcases h2 k hh with h | h
    · exact h.elim (fun hf => k1 k (.inl hf) hk) fun hf => hoff k hk hf
    · have := hlt k hk
      omega
  refine ⟨⟨hT, ⟨⟨P.keep hO2 t4 fun k hk => stay k (.inl hk), hR2.keep t4 fun k hk => stay k (.inr hk), l1, l2, l3⟩, hAl, fun k hk hf => nd k (.inl hk) (.inr hf), fun k hk hf => nd k (.inr hk) (.inr hf), by rw [hs.1]; exact e3, by rw [cutD_same hs k2]; exact e4⟩, fun k hk hk2 => ?_, k2⟩, hb⟩
  rcases hk with hk | hk
  · exact nd k hk2 (.inl hk)
  · exact k1 k (.inr hk) hk2
/-- A second store is opened beside one. -/
theorem Sit.second (P : Prog7 Obj Fit) {F' Fd' : Nat → Prop} {g' : G} {ds' : DS} {n : Nat} {L : List (List Pg)} (h : Sit Obj Fit w B F1 Fd m1 d a1 b1 g1 s1 ds) (hB : B ≤ w.heap.size) (hr : b1 ≤ a2 ∨ b2 ≤ a1) (hb : b2 ≤ ds.dur.length)
    (hO : Obj w' F' m2 d a2 b2 g' ⟨n, L, L.getLastD []⟩) (hD : Disk w' Fd' d ds') (h1 : ∀ k, F' k → ¬ Fd' k) (h2 : ∀ k, F' k → w.heap.size ≤ k) (h3 : ∀ k, Fd' k → MoreR Fd w w' k) (ht : Turn Fd w w') (hc : calmD ds') (hs : SameD a2 b2 ds ds') (hf : Fit (cutD ds' a2 b2) g' n L) :
    Sit Obj Fit w' B F1 Fd' m1 d a1 b1 g1 s1 ds' ∧ Sit Obj Fit w' B F' Fd' m2 d a2 b2 g' ⟨n, L, L.getLastD []⟩ ds' ∧ (∀ k, F1 k → ¬ F' k) ∧ On B w w' := by
  obtain ⟨hO1, hA, q1, q2, q3, q4⟩ := h
  obtain ⟨hS, hon⟩ := Sit.made P hA hB hb hO hD h1 h2 h3 ht hc hs hf
  obtain ⟨t1, t2, t3, t4, t5⟩ := ht
  refine ⟨⟨P.keep hO1 t4 fun k hk => t5 k (P.lt hO1 k hk) (q1 k hk), hS.2.1, fun k hk hf => ?_, q2, by rw [hs.1]; exact q3, by rw [cutD_same hs (by omega)]; exact q4⟩, hS, fun k hk hk2 => ?_, hon⟩
  · rcases h3 k hf with h | h
    · exact q1 k hk h
    · have := P.lt hO1 k hk
      omega
  · have := P.lt hO1 k hk
    have := h2 k hk2
    omega
/-- Two models are made beside two stores. -/
theorem Two7.start (P : Prog7 Obj Fit) (hA : Sit Obj Fit w B F1 Fd m1 d a1 b1 g1 s1 ds) (hC : Sit Obj Fit w B F2 Fd m2 d a2 b2 g2 s2 ds) (hd : ∀ k, F1 k → ¬ F2 k) (hr : b1 ≤ a2 ∨ b2 ≤ a1) (hB : B ≤ w.heap.size) (hb : Below w.heap.size w w') (hR : RSto w' (fun k => w.heap.size ≤ k ∧ k < w'.heap.size) x1 q1)
    (hb2 : Below w'.heap.size w' w'') (hR2 : RSto w'' (fun k => w'.heap.size ≤ k ∧ k < w''.heap.size) x2 q2) : Two7 Obj Fit w'' B F1 (fun k => w.heap.size ≤ k ∧ k < w'.heap.size) F2 (fun k => w'.heap.size ≤ k ∧ k < w''.heap.size) Fd m1 m2 d a1 b1 a2 b2 g1 g2 x1 x2 s1 q1 s2 q2 ds := by
  have l1 := P.lt hA.1
  have l2 := P.lt hC.1
  have hs := hb.size
  refine ⟨(hA.trio P hB hb hR).below P hb2, (hC.below P hb).trio P (Nat.le_trans hB hs) hb2 hR2, fun k h1 h2 => ?_, hr⟩
  rcases h1 with h1 | h1 <;> rcases h2 with h2 | h2
  · exact hd k h1 h2
  · have := l1 k h1
    omega
  · have := l2 k h2
    omega
  · omega
end
end Go.Proofs.YtckomifecmemnaaGreat

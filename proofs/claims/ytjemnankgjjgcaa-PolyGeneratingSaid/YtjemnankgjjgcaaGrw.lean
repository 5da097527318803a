/- Lists of a call's own that stay while another one grows. -/
import Derived.Test.YtjemnankgjjgcaaFlst
import Derived.Test.YtjemnankgjjgcaaFmt
import Derived.Test.YtjemnankgjjgcaaPpol
namespace Go.Proofs.Ytjemnankgjjgcaa
open Go.RowKit Dig
set_option linter.unusedVariables false

section
variable {w w' : World} {g base : Nat} {ts : List Tri} {qs : List Rat}
theorem Num.grownAt {v : Value} {xs : List Nat} (h : Num w v xs) (hF : FBlk w g ts) (hs : w.heap.size ≤ w'.heap.size) (hk : ∀ j, j < w.heap.size → j ≠ g → w'.heap[j]? = w.heap[j]?) : Num w' v xs := by
  obtain ⟨B, c, h1, h2, h3, h4, h5⟩ := h
  refine ⟨B, c, h1, h2, h3, h4, fun hp => ?_⟩
  obtain ⟨b, off, e1, hb, hc⟩ := h5 hp
  have hne : b ≠ g := by
    rintro rfl
    have h0 := hc 0 hp
    rw [hF.cell] at h0
    exact tcells_noint ts _ (List.mem_of_getElem? h0) _ _ rfl
  refine ⟨b, off, e1, by omega, fun j hj => ?_⟩
  rw [← hc j hj]
  simp only [World.cell?, hk b hb hne]
theorem CanF.grownAt {v : Value} {q : Rat} {k : Nat} (h : CanF w v q k) (hF : FBlk w g ts) (hs : w.heap.size ≤ w'.heap.size) (hk : ∀ j, j < w.heap.size → j ≠ g → w'.heap[j]? = w.heap[j]?) : CanF w' v q k := by
  obtain ⟨vn, vd, e, hn, hd⟩ := h
  exact ⟨vn, vd, e, ⟨hn.1.grownAt hF hs hk, hn.2⟩, ⟨hd.1.grownAt hF hs hk, hd.2⟩⟩
/-- A list of its own stays while another one grows. -/
theorem Ofl.grownC {E : World → Value → Rat → Prop} {base' k : Nat} {v u : Value} {ps : List Rat} (h : Ofl (CV k) base w v qs) (hO : Ofl E base' w u ps) (hne : ∀ k, v.ownBlock = some k → u.ownBlock ≠ some k) (hg : w.grownBy w' u.ownBlock) : Ofl (CV k) base w' v qs := by
  rcases hO with ⟨rfl, rfl⟩ | ⟨g, us, rfl, hb, hF, hl, hm, hE⟩
  · exact h.below (keeps_CV k) ((Below.refl _ _).grown hg (Nat.le_refl _) (fun k e => by simp [Value.ownBlock] at e))
  · have hs := hg.size
    have hk := hg.block
    have hk' : ∀ j, j < w.heap.size → j ≠ g → w'.heap[j]? = w.heap[j]? := fun j h1 h2 => hk j h1 (fun e => h2 (by simp [Value.ownBlock] at e; omega))
    rcases h with ⟨rfl, rfl⟩ | ⟨g', ts, rfl, hb', hF', hl', hm', hE'⟩
    · exact .inl ⟨rfl, rfl⟩
    · refine .inr ⟨g', ts, rfl, hb', hF'.of_block (hk' g' hF'.lt ?_), hl', hm', fun j hj => CanF.grownAt (hE' j hj) hF hs hk'⟩
      rintro rfl
      exact hne g' rfl rfl
theorem CanF.grownO {E : World → Value → Rat → Prop} {base' k : Nat} {v u : Value} {q : Rat} {ps : List Rat} (h : CanF w v q k) (hO : Ofl E base' w u ps) (hg : w.grownBy w' u.ownBlock) : CanF w' v q k := by
  rcases hO with ⟨rfl, rfl⟩ | ⟨g, us, rfl, hb, hF, hl, hm, hE⟩
  · exact CanF.below h ((Below.refl _ _).grown hg (Nat.le_refl _) (fun k e => by simp [Value.ownBlock] at e))
  · exact CanF.grownAt h hF hg.size (fun j h1 h2 => hg.block j h1 (fun e => h2 (by simp [Value.ownBlock] at e; omega)))
theorem Ofl.fitC {k l : Nat} {v : Value} (h : Ofl (CV k) base w v qs) (hs : ∀ i, (cf qs i).num.natAbs < 4294967296 ^ l ∧ (cf qs i).den < 4294967296 ^ l) : Ofl (CV l) base w v qs := by
  rcases h with h | ⟨g', ts, e, hb', hF', hl', hm', hE'⟩
  · exact .inl h
  · exact .inr ⟨g', ts, e, hb', hF', hl', hm', fun j hj => CanF.fit (hE' j hj) (hs j).1 (hs j).2⟩
theorem Ofl.ownLt {E : World → Value → Rat → Prop} {v : Value} {k : Nat} (h : Ofl E base w v qs) (hk : v.ownBlock = some k) : base ≤ k ∧ k < w.heap.size := by
  rcases h with ⟨rfl, rfl⟩ | ⟨g, us, rfl, hb, hF, hl, hm, hE⟩
  · simp [Value.ownBlock] at hk
  · simp [Value.ownBlock] at hk
    subst hk
    exact ⟨hb, hF.lt⟩
theorem Fcl.grownBy {b : Bool} {x y : Value} {o : Option Nat} (h : Fcl w g b x y) (hg : w.grownBy w' o) (hne : o ≠ some g) : Fcl w' g b x y := h.of_block (hg.block g h.lt (Ne.symm hne))
end
end Go.Proofs.Ytjemnankgjjgcaa

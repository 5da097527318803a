/- Pages in ascending order: plain definitions. -/
import Derived.Lib.SlKeysI
import Derived.Maps.OwnSet
import Derived.Test.YtckomifecmemnaaGreatShg
import Derived.Lib.AppendStr
import Derived.Laws.BitsAllLaws
import Derived.Lib.MinMax
import Derived.Test.YtckomifecmemnaaGreatPsa
import Derived.Test.YtckomifecmemnaaGreatBytes
import Derived.Test.YtckomifecmemnaaGreatCdcs
import Derived.Test.YtckomifecmemnaaGreatCrc
import Derived.Test.YtckomifecmemnaaGreatDqa
import Derived.Test.YtckomifecmemnaaGreatPse
import Derived.Test.YtckomifecmemnaaGreatPki
import Derived.Test.YtckomifecmemnaaGreatPsc
import Derived.Test.YtckomifecmemnaaGreatCkc
import Derived.Test.YtckomifecmemnaaGreatRdks
namespace Go.Proofs.YtckomifecmemnaaGreat
open Dig
set_option linter.unusedVariables false

/-- Ascending page numbers. -/
def Srt (l : List Pg) : Prop := l.Pairwise fun p q => p.1 < q.1
/-- The page is put where it belongs. -/
def insP (l : List Pg) (no : Nat) (b : List UInt8) : List Pg := l.filter (fun p => decide (p.1 < no)) ++ (no, b) :: l.filter (fun p => decide (no < p.1))
theorem with1_done (no : Nat) (b : List UInt8) : ∀ (l acc : List Pg), l.foldl (with1 no b) (acc, true) = (acc ++ l.filter (fun p => decide (p.1 ≠ no)), true)
  | [], acc => by simp
  | p :: l, acc => by
    have h : with1 no b (acc, true) p = (acc ++ (if p.1 = no then [] else [p]), true) := by simp [with1]
    rw [List.foldl_cons, h, with1_done no b l]
    by_cases e : p.1 = no <;> simp [e]
theorem with1_go (no : Nat) (b : List UInt8) : ∀ (l acc : List Pg), Srt l → (if (l.foldl (with1 no b) (acc, false)).2 = true then (l.foldl (with1 no b) (acc, false)).1 else (l.foldl (with1 no b) (acc, false)).1 ++ [(no, b)]) = acc ++ insP l no b
  | [], acc, _ => by simp [insP]
  | p :: l, acc, h => by
    obtain ⟨h1, h2⟩ := List.pairwise_cons.1 h
    rcases Nat.lt_trichotomy p.1 no with hlt | heq | hgt
    · have e : with1 no b (acc, false) p = (acc ++ [p], false) := by
        have h3 : ¬ no ≤ p.1 := by omega
        have h4 : ¬ p.1 = no := by omega
        simp [with1, h3, h4]
      rw [List.foldl_cons, e, with1_go no b l _ h2]
      have h5 : ¬ no < p.1 := by omega
      simp [insP, hlt, h5]
    · have e : with1 no b (acc, false) p = (acc ++ [(no, b)], true) := by simp [with1, heq]
      rw [List.foldl_cons, e, with1_done]
      have f1 : l.filter (fun q => decide (q.1 < no)) = [] := List.filter_eq_nil_iff.2 fun q hq => by have := h1 q hq; simp; omega
      have f2 : l.filter (fun q => decide (no < q.1)) = l := List.filter_eq_self.2 fun q hq => by have := h1 q hq; simp; omega
      have f3 : l.filter (fun q => decide (q.1 ≠ no)) = l := List.filter_eq_self.2 fun q hq => by have := h1 q hq; simp; omega
      have h5 : ¬ p.1 < no := by omega
      have h6 : ¬ no < p.1 := by omega
      rw [f3]
      unfold insP
      rw [List.filter_cons_of_neg (by simp [h5]), List.filter_cons_of_neg (by simp [h6]), f1, f2]
      simp
    · have e : with1 no b (acc, false) p = (acc ++ [(no, b), p], true) := by
        have h3 : no ≤ p.1 := by omega
        have h4 : ¬ p.1 = no := by omega
        simp [with1, h3, h4]
      rw [List.foldl_cons, e, with1_done]
      have f1 : l.filter (fun q => decide (q.1 < no)) = [] := List.filter_eq_nil_iff.2 fun q hq => by have := h1 q hq; simp; omega
      have f2 : l.filter (fun q => decide (no < q.1)) = l := List.filter_eq_self.2 fun q hq => by have := h1 q hq; simp; omega
      have f3 : l.filter (fun q => decide (q.1 ≠ no)) = l := List.filter_eq_self.2 fun q hq => by have := h1 q hq; simp; omega
      have h5 : ¬ p.1 < no := by omega
      rw [f3]
      unfold insP
      rw [List.filter_cons_of_neg (by simp [h5]), List.filter_cons_of_pos (by simp [hgt]), f1, f2]
      simp
theorem withS_ins {l : List Pg} (h : Srt l) (no : Nat) (b : List UInt8) : withS l no b = insP l no b := by
  have := with1_go no b l [] h
  rw [List.nil_append] at this
  exact this
theorem Srt.put {l : List Pg} (h : Srt l) (no : Nat) (b : List UInt8) : Srt (withS l no b) := by
  rw [withS_ins h]
  unfold insP Srt
  rw [List.pairwise_append, List.pairwise_cons]
  refine ⟨List.Pairwise.filter _ h, ⟨fun q hq => ?_, List.Pairwise.filter _ h⟩, fun p hp q hq => ?_⟩
  · simpa using (List.mem_filter.1 hq).2
  · have hp2 : p.1 < no := by simpa using (List.mem_filter.1 hp).2
    rcases List.mem_cons.1 hq with rfl | hq
    · exact hp2
    · have : no < q.1 := by simpa using (List.mem_filter.1 hq).2
      omega
theorem Srt.del {l : List Pg} (h : Srt l) (no : Nat) : Srt (withoutS l no) := List.Pairwise.filter _ h
theorem mem_put {l : List Pg} (h : Srt l) (no : Nat) (b : List UInt8) (p : Pg) : p ∈ withS l no b ↔ p = (no, b) ∨ (p ∈ l ∧ p.1 ≠ no) := by
  rw [withS_ins h]
  unfold insP
  rw [List.mem_append, List.mem_cons, List.mem_filter, List.mem_filter]
  constructor
  · rintro (⟨h1, h2⟩ | h1 | ⟨h1, h2⟩)
    · exact .inr ⟨h1, by have : p.1 < no := by simpa using h2
                         omega⟩
    · exact .inl h1
    · exact .inr ⟨h1, by have : no < p.1 := by simpa using h2
                         omega⟩
  · rintro (h1 | ⟨h1, h2⟩)
    · exact .inr (.inl h1)
    · rcases Nat.lt_or_gt_of_ne h2 with h3 | h3
      · exact .inl ⟨h1, by simpa using h3⟩
      · exact .inr (.inr ⟨h1, by simpa using h3⟩)
theorem mem_del {l : List Pg} (no : Nat) (p : Pg) : p ∈ withoutS l no ↔ p ∈ l ∧ p.1 ≠ no := by
  unfold withoutS
  rw [List.mem_filter]
  simp
theorem getP_of_mem {l : List Pg} (h : Srt l) {p : Pg} (hp : p ∈ l) : getP l p.1 = some p.2 := by
  unfold getP
  induction l with
  | nil => cases hp
  | cons q l ih =>
    obtain ⟨h1, h2⟩ := List.pairwise_cons.1 h
    rcases List.mem_cons.1 hp with rfl | hp
    · simp
    · have := h1 p hp
      have hne : ¬ q.1 = p.1 := by omega
      rw [List.find?_cons]
      simp only [hne, decide_false]
      exact ih h2 hp
theorem mem_of_getP {l : List Pg} {no : Nat} {b : List UInt8} (h : getP l no = some b) : (no, b) ∈ l := by
  unfold getP at h
  cases hf : l.find? fun p => decide (p.1 = no) with
  | none => rw [hf] at h; cases h
  | some q =>
    rw [hf] at h
    have h1 := List.mem_of_find?_eq_some hf
    have h2 : q.1 = no := by simpa using List.find?_some hf
    have h3 : q.2 = b := by simpa using h
    subst h2 h3
    exact h1
theorem getP_none {l : List Pg} {no : Nat} (h : getP l no = none) : ∀ p ∈ l, p.1 ≠ no := by
  intro p hp e
  unfold getP at h
  cases hf : l.find? fun p => decide (p.1 = no) with
  | none => exact absurd (List.find?_eq_none.1 hf p hp) (by simp [e])
  | some q => rw [hf] at h; cases h
theorem del_lt {l : List Pg} {no : Nat} {b : List UInt8} (h : getP l no = some b) : (withoutS l no).length < l.length := by
  have hm := mem_of_getP h
  unfold withoutS
  rcases Nat.lt_or_ge (l.filter fun p => decide (p.1 ≠ no)).length l.length with h1 | h1
  · exact h1
  · have h2 := List.length_filter_le (fun p : Pg => decide (p.1 ≠ no)) l
    have h3 := List.length_filter_eq_length_iff.1 (Nat.le_antisymm h2 h1) _ hm
    simp at h3
theorem del_none {l : List Pg} {no : Nat} (h : getP l no = none) : ¬ (withoutS l no).length < l.length := by
  have : withoutS l no = l := List.filter_eq_self.2 fun p hp => by simpa using getP_none h p hp
  rw [this]
  exact Nat.lt_irrefl _
theorem sorted_bound : ∀ (l : List Nat) (a b : Nat), l.Pairwise (· < ·) → (∀ x ∈ l, a ≤ x ∧ x < b) → l.length ≤ b - a
  | [], _, _, _, _ => Nat.zero_le _
  | x :: l, a, b, h, hb => by
    obtain ⟨h1, h2⟩ := List.pairwise_cons.1 h
    have hx := hb x List.mem_cons_self
    have := sorted_bound l (x + 1) b h2 fun y hy => ⟨h1 y hy, (hb y (List.mem_cons_of_mem _ hy)).2⟩
    simp only [List.length_cons]
    omega
theorem Srt.few {l : List Pg} (h : Srt l) (ho : ∀ p ∈ l, okPg p) : l.length ≤ 256 := by
  have h1 : (l.map (·.1)).Pairwise (· < ·) := List.pairwise_map.2 h
  have h2 := sorted_bound (l.map (·.1)) 0 256 h1 fun x hx => by
    obtain ⟨p, hp, rfl⟩ := List.mem_map.1 hx
    exact ⟨Nat.zero_le _, (ho p hp).1⟩
  simpa using h2
/-- The numbers of the pages, as ints. -/
def nosI (l : List Pg) : List Int := l.map fun p => (p.1 : Int)
theorem Srt.nosI {l : List Pg} (h : Srt l) : (nosI l).Pairwise (· < ·) := by
  refine List.pairwise_map.2 (h.imp fun {p q} hpq => ?_)
  exact Int.ofNat_lt.2 hpq
theorem nodup_of_lt {l : List Int} (h : l.Pairwise (· < ·)) : l.Nodup := h.imp fun {a b} hab e => by omega
theorem sort_nosI {l : List Pg} (h : Srt l) {ss : List Int} (hp : ss.Perm (nosI l)) : ss.mergeSort (fun x y => decide (x ≤ y)) = nosI l := by
  rw [show ss.mergeSort (fun x y => decide (x ≤ y)) = ss.mergeSort leI from rfl, mergeSort_of_perm_i hp]
  exact List.mergeSort_of_pairwise (h.nosI.imp fun {a b} hab => by simp [leI]; omega)
/-- Every list of the store is in order. -/
def SrtS (s : SS) : Prop := Srt s.work ∧ ∀ l ∈ s.kept, Srt l
end Go.Proofs.YtckomifecmemnaaGreat

/- Maps of pages in memory. -/
namespace Go.Proofs.YtckomifecmemnaaGreat
open Go.RowKit Dig Go.Maps Go.ChangeMaps Go.MapKept
set_option linter.unusedVariables false

/-- How an element of a map reads: as itself. -/
def heldR (v : Value) : Option (DataW Value × List MemPlace) := some (.held v, [])
def kI (k : Nat) : Lit := .int .i64 (k : Int)
theorem pg_key : Maps.Keyed Tryz.prog 3 := Maps.int_keyed Tryz.underlying3
theorem pg_of {k : Nat} (hk : k ≤ 1000000) : keyOf Tryz.prog 3 (.int .i64 (k : Int)) = some (kI k) := by
  have hw : (Lit.int .i64 (k : Int)).wf = true := by
    have e1 : IntKind.i64.min = -9223372036854775808 := by decide
    have e2 : IntKind.i64.max = 9223372036854775807 := by decide
    simp [Lit.wf]
    omega
  simp [keyOf, mapKey, Tryz.underlying3, hw, kI]
theorem kI_ne {a b : Nat} (h : a ≠ b) : kI a ≠ kI b := by
  intro e
  injection e with _ e
  exact h (by omega)
/-- The map D holds the pages l; the rows of their bytes are in G. -/
def Pgs (w : World) (G : Nat → Prop) (D : DataW Value) (l : List Pg) : Prop :=
  (∀ x : Int, Maps.has D (.int .i64 x) = true → ∃ p ∈ l, x = (p.1 : Int)) ∧
  ∀ p ∈ l, Maps.has D (kI p.1) = true ∧ ∃ v, (∀ zd, D.atKey (kI p.1) zd = .held v) ∧ Byt w v p.2 ∧ (0 < p.2.length → ∀ k, v.ownBlock = some k → G k)
/-- Block b is a map of the pages l. -/
def PgM (w : World) (G : Nat → Prop) (b : Nat) (l : List Pg) : Prop :=
  Srt l ∧ (∀ p ∈ l, okPg p) ∧ ∃ D n, w.ownsMap Tryz.prog 3 heldR b n D ∧ Pgs w G D l
section
variable {w w' : World} {G G' : Nat → Prop} {b no : Nat} {l : List Pg} {D : DataW Value} {v : Value} {x : List UInt8}
/-- Bytes whose block stays. -/
theorem byt_stay {ts : List UInt8} (h : Byt w v ts) (hs : w.heap.size ≤ w'.heap.size) (hk : 0 < ts.length → ∀ k, k < w.heap.size → v.ownBlock = some k → w'.heap[k]? = w.heap[k]?) : Byt w' v ts := by
  obtain ⟨A, c, h1, h2, h3, h5⟩ := h
  refine ⟨A, c, h1, h2, h3, fun hp => ?_⟩
  obtain ⟨g, off, e, hlt, hc⟩ := h5 hp
  subst e
  have hb := hk hp g hlt (by rw [h1]; rfl)
  refine ⟨g, off, rfl, Nat.lt_of_lt_of_le hlt hs, fun j hj => ?_⟩
  rw [World.cell?_of_block (a := ⟨g, off + j, none⟩) hb]
  exact hc j hj
/-- The block of bytes is a row of cells, no map. -/
theorem byt_row {ts : List UInt8} (h : Byt w v ts) (hp : 0 < ts.length) {es : Array MapEntry} {c : Nat} (hb : w.heap[b]? = some (.map es c)) : v.ownBlock ≠ some b := by
  obtain ⟨A, c, h1, h2, h3, h5⟩ := h
  obtain ⟨g, off, e, hlt, hc⟩ := h5 hp
  subst e
  rw [h1]
  intro e
  obtain rfl : g = b := by simpa [Value.ownBlock] using e
  have := hc 0 hp
  simp [World.cell?, hb] at this
theorem Pgs.keep (h : Pgs w G D l) (hs : w.heap.size ≤ w'.heap.size) (hk : ∀ k, k < w.heap.size → G k → w'.heap[k]? = w.heap[k]?) (hG : ∀ k, k < w.heap.size → G k → G' k) : Pgs w' G' D l := ⟨h.1, fun p hp => by
  obtain ⟨h1, v, h2, h3, h4⟩ := h.2 p hp
  refine ⟨h1, v, h2, byt_stay h3 hs fun hp k hlt e => hk k hlt (h4 hp k e), fun hp k e => ?_⟩
  obtain ⟨A, c, e1, _, _, h5⟩ := h3
  obtain ⟨g, off, e2, hlt, _⟩ := h5 hp
  subst e2
  obtain rfl : g = k := by rw [e1] at e; simpa [Value.ownBlock] using e
  exact hG g hlt (h4 hp g e)⟩
theorem PgM.lt (h : PgM w G b l) : b < w.heap.size := by
  obtain ⟨_, _, D, n, ho, _⟩ := h
  exact ho.lt
theorem PgM.keep (h : PgM w G b l) (hs : w.heap.size ≤ w'.heap.size) (hb : w'.heap[b]? = w.heap[b]?) (hk : ∀ k, k < w.heap.size → G k → w'.heap[k]? = w.heap[k]?) (hG : ∀ k, k < w.heap.size → G k → G' k) : PgM w' G' b l := by
  obtain ⟨h1, h2, D, n, ⟨es, clock, hh, F, hss, hD⟩, h4⟩ := h
  exact ⟨h1, h2, D, n, ⟨es, clock, hb.trans hh, F, hss, hD⟩, h4.keep hs hk hG⟩
theorem PgM.size (h : PgM w G b l) : ∃ D n, w.ownsMap Tryz.prog 3 heldR b n D ∧ Pgs w G D l ∧ Maps.size D = l.length ∧ (nosI l).Perm (intKeys D) := by
  obtain ⟨h1, h2, D, n, ho, hp⟩ := h
  obtain ⟨es', hD, hko⟩ := ho.keysOf
  have ht := ho.tidy pg_key
  obtain ⟨es2, e2, hpw⟩ := ht
  have hes : es2 = es' := by
    rw [hD] at e2
    injection e2 with e2
    exact e2.symm
  subst hes
  have hperm : (nosI l).Perm (intKeys D) := by
    rw [hD]
    refine perm_intKeys hpw (fun p hp => ?_) (nodup_of_lt h1.nosI) fun x => ?_
    · obtain ⟨v, hv⟩ := hko p hp
      obtain ⟨y, _, hy, _⟩ := Maps.keyOf_i64 Tryz.underlying3 hv
      exact ⟨y, hy⟩
    · rw [← hD]
      constructor
      · intro hx
        obtain ⟨p, hp1, rfl⟩ := List.mem_map.1 hx
        exact (hp.2 p hp1).1
      · intro hx
        obtain ⟨p, hp1, rfl⟩ := hp.1 x hx
        exact List.mem_map.2 ⟨p, hp1, rfl⟩
  refine ⟨D, n, ho, hp, ?_, hperm⟩
  have h3 := hperm.length_eq
  rw [hD] at h3 ⊢
  rw [Maps.size_eq]
  simpa [nosI, intKeys] using h3.symm
/-- 'v, ok := p[no]'. -/
theorem PgM.look (h : PgM w G b l) (hno : no < 256) : ∃ v, (Instr.lookup 70 (.map (some b)) (.int .i64 (no : Int)) true).run Tryz.prog w = .ok (.tuple #[v, .bool (getP l no).isSome]) w ∧ ∀ x, getP l no = some x → Byt w v x ∧ (0 < x.length → ∀ k, v.ownBlock = some k → G k) := by
  obtain ⟨h1, h2, D, n, ho, hp⟩ := h
  obtain ⟨v, ps, hrun, hv⟩ := ho.look_ok (t := 70) pg_key Tryz.underlying70 (z := .slice none 0 0) (by kernel_rfl) (zd := .held (.slice none 0 0)) (zp := []) rfl (pg_of (k := no) (by omega))
  have hh : Maps.has D (kI no) = (getP l no).isSome := by
    cases hg : getP l no with
    | none =>
      cases hx : Maps.has D (kI no) with
      | false => rfl
      | true =>
        obtain ⟨p, hp1, e⟩ := hp.1 (no : Int) hx
        exact absurd (by omega) (getP_none hg p hp1)
    | some x => exact (hp.2 _ (mem_of_getP hg)).1
  refine ⟨v, by rw [← hh]; exact hrun, fun x hx => ?_⟩
  obtain ⟨_, v', hat, hb, hG⟩ := hp.2 _ (mem_of_getP hx)
  have e : v = v' := by
    have h3 : heldR v = some (D.atKey (kI no) (.held (.slice none 0 0)), ps) := hv
    rw [hat] at h3
    have h4 : v = v' ∧ ps = [] := by simpa [heldR] using h3
    exact h4.1
  rw [e]
  exact ⟨hb, hG⟩
/-- The world where a map has turned. -/
theorem turned_stay {b k : Nat} (h : w.mapTurned w' b) (hk : k ≠ b) : w'.heap[k]? = w.heap[k]? := by
  obtain ⟨es, clock, es', clock', hb, rfl⟩ := h
  exact heap_setBlock_other hb _ hk
theorem turned_size {b : Nat} (h : w.mapTurned w' b) : w'.heap.size = w.heap.size := by
  obtain ⟨es, clock, es', clock', hb, rfl⟩ := h
  simp [setBlock]
theorem Pgs.turned (h : Pgs w G D l) (ht : w.mapTurned w' b) : Pgs w' G D l := by
  have hs := turned_size ht
  have hst := fun k => turned_stay (k := k) ht
  obtain ⟨es, clock, es', clock', hb, rfl⟩ := ht
  refine ⟨h.1, fun p hp => ?_⟩
  obtain ⟨h1, v, h2, h3, h4⟩ := h.2 p hp
  exact ⟨h1, v, h2, byt_stay h3 (by omega) fun hp k hlt e => hst k fun e2 => byt_row h3 hp hb (by rw [e, e2]), h4⟩
/-- 'p[no] = b'. -/
theorem PgM.store (h : PgM w G b l) (hno : no < 256) (hv : Byt w v x) (hx : x.length ≤ 1024) (hG : 0 < x.length → ∀ k, v.ownBlock = some k → G k) :
    ∃ w', (Instr.mapUpdate 70 (.map (some b)) (.int .i64 (no : Int)) v).run Tryz.prog w = .ok () w' ∧ PgM w' G b (withS l no x) ∧ w.mapTurned w' b := by
  have hfew := h.1.few h.2.1
  have hM := h
  obtain ⟨h1, h2, -⟩ := h
  obtain ⟨D, n, ho, hp, hsz, -⟩ := hM.size
  have ho' : w.ownsMap Tryz.prog 3 heldR b (Maps.size D) D := by
    obtain ⟨es, clock, hh, F, hs, hD⟩ := ho
    exact ⟨es, clock, hh, F, by rw [hD, Maps.size_eq, length_sorted]; simp, hD⟩
  obtain ⟨w', hrun, ho2, ht⟩ := ho'.store (t := 70) (val := v) pg_key Tryz.underlying70 (by unfold maxLen; omega) (pg_of (k := no) (by omega)) rfl
  refine ⟨w', hrun, ⟨h1.put no x, fun p hp => ?_, _, _, ho2, ?_⟩, ht⟩
  · rcases withS_mem hp with hp | rfl
    · exact h2 p hp
    · exact ⟨hno, hx⟩
  · have hD := ho.isMap
    have hk := pg_key.key (pg_of (k := no) (by omega))
    have hp' := hp.turned ht
    have hv' : Byt w' v x := by
      obtain ⟨es, clock, es', clock', hb, rfl⟩ := ht
      exact byt_stay hv (by simp [setBlock]) fun hp k hlt e => heap_setBlock_other hb _ fun e2 => byt_row hv hp hb (by rw [e, e2])
    refine ⟨fun y hy => ?_, fun p hp1 => ?_⟩
    · by_cases e : y = (no : Int)
      · exact ⟨(no, x), (mem_put h1 no x _).2 (.inl rfl), e⟩
      · rw [Maps.has_put_other (by intro e2; injection e2 with _ e2; exact e e2)] at hy
        obtain ⟨p, hp1, e1⟩ := hp'.1 y hy
        exact ⟨p, (mem_put h1 no x _).2 (.inr ⟨hp1, fun e2 => e (by rw [e1, e2])⟩), e1⟩
    · rcases (mem_put h1 no x p).1 hp1 with rfl | ⟨hp2, hne⟩
      · exact ⟨Maps.has_put_same hD hk _, v, fun zd => Maps.atKey_put_same hD hk _ zd, hv', hG⟩
      · obtain ⟨q1, v2, q2, q3, q4⟩ := hp'.2 p hp2
        have hkn := kI_ne hne
        exact ⟨by rw [Maps.has_put_other hkn]; exact q1, v2, fun zd => by rw [Maps.atKey_put_other hkn]; exact q2 zd, q3, q4⟩
/-- 'delete(p, no)'. -/
theorem PgM.drop (h : PgM w G b l) (hno : no < 256) (ty : TypeId) : ∃ w', (Builtin.delete_ #[70, 3] ty #[.map (some b), .int .i64 (no : Int)]).run Tryz.prog w = .ok (.tuple #[]) w' ∧ PgM w' G b (withoutS l no) ∧ w.mapTurned w' b := by
  obtain ⟨h1, h2, D, n, ho, hp⟩ := h
  obtain ⟨w', hrun, ho2, ht⟩ := ho.drop (t := 70) pg_key Tryz.underlying70 (pg_of (k := no) (by omega)) ty
  refine ⟨w', hrun, ⟨h1.del no, fun p hp => h2 p ((mem_del no p).1 hp).1, _, _, ho2, ?_⟩, ht⟩
  have hp' := hp.turned ht
  refine ⟨fun y hy => ?_, fun p hp1 => ?_⟩
  · by_cases e : y = (no : Int)
    · subst e
      rw [show (Lit.int .i64 (no : Int)) = kI no from rfl, Maps.has_del_same] at hy
      cases hy
    · rw [Maps.has_del_other (by intro e2; injection e2 with _ e2; exact e e2)] at hy
      obtain ⟨p, hp1, e1⟩ := hp'.1 y hy
      exact ⟨p, (mem_del no p).2 ⟨hp1, fun e2 => e (by rw [e1, e2])⟩, e1⟩
  · obtain ⟨hp2, hne⟩ := (mem_del no p).1 hp1
    obtain ⟨q1, v2, q2, q3, q4⟩ := hp'.2 p hp2
    have hkn := kI_ne hne
    exact ⟨by rw [Maps.has_del_other hkn]; exact q1, v2, fun zd => by rw [Maps.atKey_del_other hkn]; exact q2 zd, q3, q4⟩
/-- 'len(p)'. -/
theorem PgM.len (h : PgM w G b l) (ty : TypeId) : (Builtin.len_ #[70] ty #[.map (some b)]).run Tryz.prog w = .ok (.int .i64 (l.length : Int)) w := by
  obtain ⟨D, n, ho, hp, hsz, -⟩ := h.size
  have := ho.len (t := 70) Tryz.underlying70 ty
  rw [hsz] at this
  exact this
/-- A new map. -/
theorem PgM.made (w : World) (G : Nat → Prop) : PgM (w.alloc (.map #[] 0)) G w.heap.size [] :=
  ⟨List.Pairwise.nil, fun p hp => (List.not_mem_nil hp).elim, _, _, World.ownsMap_made w _ _ _, ⟨fun x hx => (by cases hx), fun p hp => (List.not_mem_nil hp).elim⟩⟩
/-- A copy of a map. -/
theorem PgM.copy (h : PgM w G b l) {es : Array MapEntry} {c : Nat} (hb : w.heap[b]? = some (.map es c)) : PgM (w.alloc (.map es c)) G w.heap.size l := by
  obtain ⟨h1, h2, D, n, ⟨es', c', hh, F, hs, hD⟩, h4⟩ := h
  rw [hb] at hh
  injection hh with hh
  injection hh with e1 e2
  subst e1 e2
  exact ⟨h1, h2, D, n, ⟨es, c, heap_alloc_new w _, F, hs, hD⟩, h4.keep (by rw [World.size_alloc]; omega) (fun k hk _ => Below.heap_alloc _ _ k hk) fun _ _ h => h⟩
theorem PgM.block (h : PgM w G b l) : ∃ es c, w.heap[b]? = some (.map es c) := by
  obtain ⟨_, _, D, n, ⟨es, c, hh, _⟩, _⟩ := h
  exact ⟨es, c, hh⟩
end
end Go.Proofs.YtckomifecmemnaaGreat

/- How a store lies on its sectors: plain definitions. -/
namespace Go.Proofs.YtckomifecmemnaaGreat
open Dig
set_option linter.unusedVariables false

theorem flatB_length {α β : Type} (f : α → List β) {k : Nat} : ∀ (L : List α), (∀ x ∈ L, (f x).length = k) → (L.map f).flatten.length = L.length * k
  | [], _ => by simp
  | x :: L, h => by
    simp only [List.map_cons, List.flatten_cons, List.length_append, List.length_cons]
    rw [h x (by simp), flatB_length f L (fun y hy => h y (by simp [hy])), Nat.add_mul]
    omega
theorem flatB_part {α β : Type} (f : α → List β) {k : Nat} : ∀ (L : List α) (i : Nat) (hi : i < L.length), (∀ x ∈ L, (f x).length = k) → (((L.map f).flatten.drop (i * k)).take k) = f L[i]
  | [], _, hi, _ => by simp at hi
  | x :: L, 0, _, h => by
    simp only [List.map_cons, List.flatten_cons, Nat.zero_mul, List.drop_zero, List.getElem_cons_zero]
    rw [List.take_append_of_le_length (by rw [h x (by simp)]; exact Nat.le_refl _), List.take_of_length_le (by rw [h x (by simp)]; exact Nat.le_refl _)]
  | x :: L, i + 1, hi, h => by
    simp only [List.map_cons, List.flatten_cons, List.getElem_cons_succ]
    have e := h x (by simp)
    rw [show (i + 1) * k = (f x).length + i * k by rw [e, Nat.add_mul]; omega, ← List.drop_drop, List.drop_left]
    exact flatB_part f L i (by simpa using hi) fun y hy => h y (by simp [hy])
/-! ### Words -/
/-- A number in eight bytes, the highest first. -/
def be8 (n : Nat) : List UInt8 := (List.range 8).map fun i => oct (n / 256 ^ (7 - i) % 256)
theorem be8_length (n : Nat) : (be8 n).length = 8 := by simp [be8]
theorem beV_be8 {n : Nat} (h : n < 18446744073709551616) : beV (be8 n) = n := by
  have e : be8 n = [oct (n / 256 ^ 7 % 256), oct (n / 256 ^ 6 % 256), oct (n / 256 ^ 5 % 256), oct (n / 256 ^ 4 % 256), oct (n / 256 ^ 3 % 256), oct (n / 256 ^ 2 % 256), oct (n / 256 ^ 1 % 256), oct (n / 256 ^ 0 % 256)] := rfl
  rw [e]
  unfold beV
  simp only [List.foldl_cons, List.foldl_nil]
  repeat rw [oct_toNat (Nat.mod_lt _ (by omega))]
  simp only [Nat.reducePow]
  omega
def encW (ws : List Nat) : List UInt8 := (ws.map be8).flatten
theorem encW_length (ws : List Nat) : (encW ws).length = ws.length * 8 := flatB_length be8 ws fun x _ => be8_length x
/-- Word i of a header. -/
def wordS (h : List UInt8) (i : Nat) : Nat := beV ((h.drop (i * 8)).take 8)
theorem wordS_enc {ws : List Nat} {i : Nat} (hi : i < ws.length) (hw : ws[i] < 18446744073709551616) : wordS (encW ws) i = ws[i] := by
  unfold wordS encW
  rw [flatB_part be8 ws i hi fun x _ => be8_length x, beV_be8 hw]
theorem beV_lt (ts : List UInt8) : beV ts < 256 ^ ts.length := by
  have key : ∀ (ts : List UInt8) (a k : Nat), a < 256 ^ k → ts.foldl (fun a c => a * 256 + c.toNat) a < 256 ^ (k + ts.length) := by
    intro ts
    induction ts with
    | nil => intro a k h; simpa using h
    | cons c ts ih =>
      intro a k h
      rw [List.foldl_cons, List.length_cons]
      have h1 := ih (a * 256 + c.toNat) (k + 1) (by have := c.toNat_lt; rw [Nat.pow_succ]; omega)
      rw [show k + (ts.length + 1) = k + 1 + ts.length by omega]
      exact h1
  have h := key ts 0 0 (by simp)
  rw [Nat.zero_add] at h
  exact h
theorem wordS_lt (h : List UInt8) (i : Nat) : wordS h i < 18446744073709551616 := by
  have h1 := beV_lt ((h.drop (i * 8)).take 8)
  have h2 : ((h.drop (i * 8)).take 8).length ≤ 8 := List.length_take_le _ _
  exact Nat.lt_of_lt_of_le h1 (Nat.le_trans (Nat.pow_le_pow_right (by omega) h2) (by decide))
/-! ### Headers -/
/-- The version of a header; 0: none. -/
def hvS (h : List UInt8) : Nat := if wordS h 0 ≠ wordS h 7 ∨ 2147483647 < wordS h 0 then 0 else wordS h 0
def crcH (v size : Nat) (body : List UInt8) : Nat := crcX (crcN (encW [v, size, body.length])) body
def hdrS (v size : Nat) (body : List UInt8) : List UInt8 := encW [v, size, body.length, crcH v size body, 0, 0, 0, v]
theorem hdrS_length (v size : Nat) (body : List UInt8) : (hdrS v size body).length = 64 := encW_length _
theorem hdrS_word (v size : Nat) (body : List UInt8) (hv : v < 18446744073709551616) : wordS (hdrS v size body) 0 = v ∧ wordS (hdrS v size body) 7 = v := ⟨wordS_enc (ws := [v, size, body.length, crcH v size body, 0, 0, 0, v]) (i := 0) (by simp) hv, wordS_enc (ws := [v, size, body.length, crcH v size body, 0, 0, 0, v]) (i := 7) (by simp) hv⟩
theorem hdrS_len (v size : Nat) (body : List UInt8) (hb : body.length < 18446744073709551616) : wordS (hdrS v size body) 2 = body.length := wordS_enc (ws := [v, size, body.length, crcH v size body, 0, 0, 0, v]) (i := 2) (by simp) hb
theorem hvS_hdr {v size : Nat} {body : List UInt8} (hv : v ≤ 2147483647) : hvS (hdrS v size body) = v := by
  obtain ⟨h1, h2⟩ := hdrS_word v size body (by omega)
  unfold hvS
  rw [h1, h2, if_neg (by omega)]
theorem hvS_zero : hvS Z64 = 0 := by kernel_rfl
theorem beV_rep : ∀ n : Nat, beV (List.replicate n 0) = 0
  | 0 => rfl
  | n + 1 => by
    have h := beV_rep n
    unfold beV at h ⊢
    rw [List.replicate_succ, List.foldl_cons]
    exact h
theorem hdr_nonzero {v size : Nat} {body : List UInt8} (hv : 1 ≤ v) (hv2 : v < 18446744073709551616) : ∃ c ∈ hdrS v size body, c ≠ 0 := by
  refine Classical.byContradiction fun hn => ?_
  have hall : ∀ c ∈ hdrS v size body, c = 0 := fun c hc => Classical.byContradiction fun e => hn ⟨c, hc, e⟩
  have h1 := (hdrS_word v size body hv2).1
  have h2 : (hdrS v size body).take 8 = List.replicate 8 0 := List.eq_replicate_iff.2 ⟨by rw [List.length_take, hdrS_length]; rfl, fun c hc => hall c (List.mem_of_mem_take hc)⟩
  unfold wordS at h1
  rw [Nat.zero_mul, List.drop_zero, h2, beV_rep] at h1
  omega
/-! ### The mark -/
def markT : List UInt8 := [99, 114, 101, 100, 101, 110, 99, 101, 32, 112, 97, 103, 101, 115, 32, 49]
def markS : List UInt8 := List.replicate 48 0 ++ markT
theorem markS_length : markS.length = 64 := rfl
/-! ### Bodies -/
def encP (p : Pg) : List UInt8 := encU p.1 ++ encB p.2
def encV (l : List Pg) : List UInt8 := encU l.length ++ (l.map encP).flatten
def encK (K : List (List Pg)) : List UInt8 := (K.map encV).flatten
theorem encU_two {n : Nat} (h : n ≤ 1024) : (encU n).length ≤ 2 := encU_length 1 n (by omega)
theorem encP_length {p : Pg} (h : okPg p) : (encP p).length ≤ 64 * pageNeed p := by
  obtain ⟨h1, h2⟩ := h
  have e1 := encU_two (n := p.1) (by omega)
  have e2 := encU_two (n := p.2.length) (by omega)
  unfold encP encB pageNeed
  rw [List.length_append, List.length_append]
  omega
theorem encPs_length : ∀ l : List Pg, (∀ p ∈ l, okPg p) → (l.map encP).flatten.length ≤ 64 * (l.map pageNeed).sum
  | [], _ => by simp
  | p :: l, h => by
    have h1 := encP_length (h p List.mem_cons_self)
    have h2 := encPs_length l fun q hq => h q (List.mem_cons_of_mem _ hq)
    simp only [List.map_cons, List.flatten_cons, List.length_append, List.sum_cons]
    omega
theorem encV_length {l : List Pg} (h : ∀ p ∈ l, okPg p) (hl : l.length ≤ 1024) : (encV l).length ≤ 64 * listNeed l := by
  have h1 := encPs_length l h
  have h2 := encU_two hl
  unfold encV listNeed
  rw [List.length_append]
  omega
theorem encK_length : ∀ K : List (List Pg), (∀ l ∈ K, ∀ p ∈ l, okPg p) → (∀ l ∈ K, l.length ≤ 1024) → (encK K).length ≤ 64 * (K.map listNeed).sum
  | [], _, _ => by simp [encK]
  | l :: K, h, hl => by
    have h1 := encV_length (h l List.mem_cons_self) (hl l List.mem_cons_self)
    have h2 := encK_length K (fun q hq => h q (List.mem_cons_of_mem _ hq)) fun q hq => hl q (List.mem_cons_of_mem _ hq)
    unfold encK at h2 ⊢
    simp only [List.map_cons, List.flatten_cons, List.length_append, List.sum_cons]
    omega
theorem pageNeed_le {p : Pg} (h : okPg p) : pageNeed p ≤ 17 := by
  have := h.2
  unfold pageNeed
  omega
theorem listNeed_le : ∀ l : List Pg, (∀ p ∈ l, okPg p) → (l.map pageNeed).sum ≤ 17 * l.length
  | [], _ => by simp
  | p :: l, h => by
    have h1 := pageNeed_le (h p List.mem_cons_self)
    have h2 := listNeed_le l fun q hq => h q (List.mem_cons_of_mem _ hq)
    simp only [List.map_cons, List.sum_cons, List.length_cons]
    omega
theorem needK_le : ∀ K : List (List Pg), (∀ l ∈ K, ∀ p ∈ l, okPg p) → (∀ l ∈ K, l.length ≤ 256) → (K.map listNeed).sum ≤ 4354 * K.length
  | [], _, _ => by simp
  | l :: K, h, hl => by
    have h1 := listNeed_le l (h l List.mem_cons_self)
    have h3 := hl l List.mem_cons_self
    have h2 := needK_le K (fun q hq => h q (List.mem_cons_of_mem _ hq)) fun q hq => hl q (List.mem_cons_of_mem _ hq)
    simp only [List.map_cons, List.sum_cons, List.length_cons]
    unfold listNeed at h2 ⊢
    omega
/-! ### Half of the sectors -/
def halfS (n : Nat) : Nat := (n - 3) / 2
/-- Bytes i * 64 to i * 64 + 63. -/
def piece (b : List UInt8) (i : Nat) : List UInt8 := (b.drop (i * 64)).take 64
def cntS (b : List UInt8) : Nat := (b.length + 63) / 64
theorem padS_len {b : List UInt8} (h : b.length ≤ 64) : (padS b).length = 64 := by
  unfold padS
  rw [List.length_append, List.length_replicate]
  omega
theorem padS_self {b : List UInt8} (h : b.length = 64) : padS b = b := by
  unfold padS
  rw [h, Nat.sub_self, List.replicate_zero, List.append_nil]
theorem piece_le (b : List UInt8) (i : Nat) : (piece b i).length ≤ 64 := List.length_take_le _ _
/-- The bytes at the front of the padded pieces. -/
theorem pieces_take : ∀ (k : Nat) (b : List UInt8), b.length ≤ k * 64 → (((List.range k).map fun i => padS (piece b i)).flatten).take b.length = b := by
  intro k b hb
  have hlen : ∀ i ∈ List.range k, (padS (piece b i)).length = 64 := fun i _ => padS_len (piece_le b i)
  apply List.ext_getElem?
  intro j
  rw [List.getElem?_take]
  split
  · rename_i hj
    have h1 := flatB_part (fun i => padS (piece b i)) (List.range k) (j / 64) (by rw [List.length_range]; omega) hlen
    rw [List.getElem_range] at h1
    have h2 : (((List.range k).map fun i => padS (piece b i)).flatten)[j]? = (padS (piece b (j / 64)))[j % 64]? := by
      rw [← h1, List.getElem?_take, if_pos (Nat.mod_lt _ (by omega)), List.getElem?_drop]
      congr 1
      omega
    have hp : (piece b (j / 64))[j % 64]? = b[j]? := by
      unfold piece
      rw [List.getElem?_take, if_pos (Nat.mod_lt _ (by omega)), List.getElem?_drop]
      congr 1
      omega
    rw [h2]
    have hlt : j % 64 < (piece b (j / 64)).length := by
      unfold piece
      rw [List.length_take, List.length_drop]
      omega
    unfold padS
    rw [List.getElem?_append_left hlt, hp]
  · rename_i hj
    rw [List.getElem?_eq_none (by omega)]
/-! ### What the sectors hold -/
/-- The body and its header are in place. -/
def Body (L : List (List UInt8)) (n : Nat) (body : List UInt8) : Prop :=
  L[1 + n % 2]? = some (hdrS n L.length body) ∧ body.length ≤ halfS L.length * 64 ∧ ∀ i, i < cntS body → L[3 + n % 2 * halfS L.length + i]? = some (padS (piece body i))
/-- The sectors L hold the versions K, the last of which is n. -/
def FitK (L : List (List UInt8)) (g : Unit) (n : Nat) (K : List (List Pg)) : Prop :=
  (∀ x ∈ L, x.length = 64) ∧ 32 ≤ L.length ∧ L.length ≤ 8192 ∧ n ≤ 2147483647 ∧ K.length = min n 3 + 1 ∧ (∀ l ∈ K, Srt l ∧ ∀ p ∈ l, okPg p) ∧
  ((n = 0 ∧ K = [[]] ∧ L = List.replicate L.length Z64) ∨ (1 ≤ n ∧ L[0]? = some markS ∧ Body L n (encK K) ∧ ∃ h, L[1 + (n + 1) % 2]? = some h ∧ hvS h < n))
theorem fit_zero {n : Nat} (h1 : 32 ≤ n) (h2 : n ≤ 8192) : FitK (List.replicate n Z64) () 0 [[]] := by
  refine ⟨fun x hx => ?_, by rw [List.length_replicate]; exact h1, by rw [List.length_replicate]; exact h2, by omega, rfl, fun l hl => ?_, .inl ⟨rfl, rfl, by rw [List.length_replicate]⟩⟩
  · rw [List.eq_of_mem_replicate hx]
    rfl
  · rw [List.mem_singleton.1 hl]
    exact ⟨List.Pairwise.nil, fun p hp => (List.not_mem_nil hp).elim⟩
/-- The half that a version's body lies in. -/
theorem half_fits {n m : Nat} (h : 32 ≤ m) : 3 + n % 2 * halfS m + halfS m ≤ m := by
  have h1 : n % 2 < 2 := Nat.mod_lt _ (by omega)
  unfold halfS
  rcases Nat.lt_or_ge (n % 2) 1 with h2 | h2
  · have : n % 2 = 0 := by omega
    rw [this]
    omega
  · have : n % 2 = 1 := by omega
    rw [this]
    omega
end Go.Proofs.YtckomifecmemnaaGreat

/- The numbers of a map's pages in order; copies of maps. -/
namespace Go.Proofs.YtckomifecmemnaaGreat
open Go.RowKit Dig Go.Maps Go.Sort Go.Shelf
set_option linter.unusedVariables false

theorem sorts_pg (m : Nat) : AnyZI.SortsIn Tryz.prog Tryz.sortedI_ren Fence.wide m :=
  ⟨fun blk off cap ss W hH hblk hsz => callsIn_wide.2 (AnyM.slices_Sort_int Tryz.sortI blk off cap ss W hH hblk hsz),
   fun p cap W => callsIn_wide.2 (AnyM.slices_Sort_int_none Tryz.sortI p cap W)⟩
set_option maxHeartbeats 1000000 in
theorem numbers_raw {H : Type} (b nn : Nat) (D0 : DataW H) (R : Value → Option (DataW H × List MemPlace)) (w : World) (hown : w.ownsMap Tryz.prog 3 R b nn D0) (hmax : Maps.size D0 ≤ maxLen) (hbytes : Maps.size D0 * 8 ≤ 140737488355328) :
    Calls Tryz.prog 50 #[.map (some b)] w fun e w' => ∃ (v : Value) (ss : List Int), e = .returned v ∧ ss.Perm (intKeys D0) ∧
      w'.ownsRow w.heap.size 3 1 v ss.length ((ss.mergeSort (fun x y => decide (x ≤ y))).map encZ) ∧ Below w.heap.size w w' := by
  refine (callsIn_wide (n := 6)).1 ?_
  have hbl := hown.lt
  have hseq : SeqGives Fence.wide 2 Tryz.prog 89 #[.pointer (some ⟨w.heap.size, 0, none⟩)] encZ (fun ss => ss.Perm (intKeys D0)) (Maps.size D0) (w.alloc (.cells #[.map (some b)] 70)) :=
    AnyZI.keys_gives (ρ := Tryz.keysP_ren) { Tryz.keysP with } Fence.wide _ trivial rfl (by omega) w.heap.size b nn D0 _ (by simp) (by simp) (by
      obtain ⟨es, clock, hb, Ft, hs, hD⟩ := hown
      exact ⟨es, clock, (Below.heap_alloc _ _ b hbl).trans hb, Ft, hs, hD⟩)
  have cK : ∀ mb W, CallsIn Fence.wide 5 Tryz.prog 76 #[.map mb] W fun e w' => e = .returned (.func (.func 89) #[] #[.pointer (some ⟨W.heap.size, 0, none⟩)]) ∧ w' = W.alloc (.cells #[.map mb] 70) := fun mb W => AnyZI.keys_in Tryz.keysP Fence.wide 5 trivial rfl mb W
  have cS := AnyZI.sorted_in Tryz.sortedI Fence.wide 5 trivial trivial trivial trivial rfl (by omega) (sorts_pg _) (enters_of Tryz.func88 (by kernel_rfl) rfl) 89 #[.pointer (some ⟨w.heap.size, 0, none⟩)] trivial (enters_of Tryz.func89 (by kernel_rfl) rfl) _ _ hmax hbytes _ hseq
  change CallsIn _ _ Tryz.prog 75 _ _ _ at cS
  have hfK : Fence.wide.fn 76 := trivial
  have hfS : Fence.wide.fn 75 := trivial
  refine callsIn_of_wp Tryz.func50 rfl trivial ?_ rfl
  simp only [Tryz.ntmps50, List.size_toArray, List.length_cons, List.length_nil, Nat.reduceAdd, Nat.reduceSub, Array.replicate_succ, Array.replicate_zero, List.push_toArray, List.append_toArray, List.nil_append, List.cons_append]
  gi_wp2_with (first
    | (gi_at_call 76; refine (cK _ _).mono ?_; rintro e w' ⟨rfl, rfl⟩)
    | (gi_at_call 75; refine cS.mono ?_; rintro e w' ⟨v, ss, rfl, hS, hrow, hnil, hb⟩))
  go_ret
  exact ⟨v, ss, rfl, hS, ownsRow_base_a hrow (by simp), ((Below.refl _ w).alloc (Nat.le_refl _) _).trans (hb.mono (by simp))⟩
set_option maxHeartbeats 1000000 in
theorem numbers_none (w : World) : Calls Tryz.prog 50 #[.map none] w fun e w' => e = .returned (.slice none 0 0) ∧ Below w.heap.size w w' := by
  refine (callsIn_wide (n := 6)).1 ?_
  have hseq : SeqGives Fence.wide 2 Tryz.prog 89 #[.pointer (some ⟨w.heap.size, 0, none⟩)] encZ (fun ss : List Int => ss = []) 0 (w.alloc (.cells #[.map none] 70)) :=
    AnyZI.keys_gives_nil (ρ := Tryz.keysP_ren) { Tryz.keysP with } Fence.wide _ trivial rfl w.heap.size _ (by simp) (by simp)
  have cK : ∀ mb W, CallsIn Fence.wide 5 Tryz.prog 76 #[.map mb] W fun e w' => e = .returned (.func (.func 89) #[] #[.pointer (some ⟨W.heap.size, 0, none⟩)]) ∧ w' = W.alloc (.cells #[.map mb] 70) := fun mb W => AnyZI.keys_in Tryz.keysP Fence.wide 5 trivial rfl mb W
  have cS := AnyZI.sorted_in Tryz.sortedI Fence.wide 5 trivial trivial trivial trivial rfl (by omega) (sorts_pg _) (enters_of Tryz.func88 (by kernel_rfl) rfl) 89 #[.pointer (some ⟨w.heap.size, 0, none⟩)] trivial (enters_of Tryz.func89 (by kernel_rfl) rfl) _ 0 (Nat.zero_le _) (by omega) _ hseq
  change CallsIn _ _ Tryz.prog 75 _ _ _ at cS
  have hfK : Fence.wide.fn 76 := trivial
  have hfS : Fence.wide.fn 75 := trivial
  refine callsIn_of_wp Tryz.func50 rfl trivial ?_ rfl
  simp only [Tryz.ntmps50, List.size_toArray, List.length_cons, List.length_nil, Nat.reduceAdd, Nat.reduceSub, Array.replicate_succ, Array.replicate_zero, List.push_toArray, List.append_toArray, List.nil_append, List.cons_append]
  gi_wp2_with (first
    | (gi_at_call 76; refine (cK _ _).mono ?_; rintro e w' ⟨rfl, rfl⟩)
    | (gi_at_call 75; refine cS.mono ?_; rintro e w' ⟨v, ss, rfl, rfl, hrow, hnil, hb⟩; obtain rfl : v = .slice none 0 0 := hnil.2 rfl))
  go_ret
  exact ⟨rfl, ((Below.refl _ w).alloc (Nat.le_refl _) _).trans (hb.mono (by simp))⟩
section
variable {w : World} {G : Nat → Prop} {b : Nat} {l : List Pg}
/-- The numbers of a map's pages, ascending. -/
theorem numbers_c (h : PgM w G b l) : Calls Tryz.prog 50 #[.map (some b)] w fun e w' => ∃ v, e = .returned v ∧ w'.ownsRow w.heap.size 3 1 v l.length ((nosI l).map (Value.int .i64)) ∧ Below w.heap.size w w' := by
  have hfew := h.1.few h.2.1
  obtain ⟨D, n, ho, hp, hsz, hperm⟩ := h.size
  refine (numbers_raw b n D heldR w ho (by rw [hsz]; unfold maxLen; omega) (by rw [hsz]; omega)).mono ?_
  rintro e w' ⟨v, ss, rfl, hS, hrow, hB⟩
  have hps := hS.trans hperm.symm
  rw [sort_nosI h.1 hps, hps.length_eq] at hrow
  exact ⟨v, rfl, by simpa [nosI] using hrow, hB⟩
/-- A copy of a map. -/
theorem mclone_c (h : PgM w G b l) : Calls Tryz.prog 30 #[.map (some b)] w fun e w' => e = .returned (.map (some w.heap.size)) ∧ PgM w' G w.heap.size l ∧ w'.heap.size = w.heap.size + 1 ∧ Below w.heap.size w w' := by
  obtain ⟨es, c, hb⟩ := h.block
  refine (AnyW.maps_Clone Tryz.cloneP b es c w hb).mono ?_
  rintro e w' ⟨rfl, rfl⟩
  exact ⟨rfl, h.copy hb, World.size_alloc _ _, (Below.refl _ w).alloc (Nat.le_refl _) _⟩
end
end Go.Proofs.YtckomifecmemnaaGreat

/- A store of package pagestore in memory; its small methods. -/
namespace Go.Proofs.YtckomifecmemnaaGreat
set_option linter.unusedSimpArgs false
open Go.RowKit Dig
set_option linter.unusedVariables false

/-- The fields of a store. -/
def StoM (w : World) (m d a n last g k c wb : Nat) : Prop :=
  w.heap[m]? = some (.cells #[.pointer (some ⟨d, 0, none⟩), .int .i64 (a : Int), .int .i64 (n : Int), .int .i64 (last : Int), .slice (some ⟨g, 0, none⟩) k c, .map (some wb)] 74 (0, 0))
/-- The row of the kept versions' maps. -/
def KpV (w : World) (g c : Nat) (bs : List Nat) : Prop := g < w.heap.size ∧ bs.length ≤ c ∧ c ≤ maxLen ∧ ∀ (i x : Nat), bs[i]? = some x → w.cell? ⟨g, i, none⟩ = some (.map (some x))
/-- Where rows of bytes may lie. -/
def Row7 (F : Nat → Prop) (m k : Nat) : Prop := F k ∧ k ≠ m
def MemK (w : World) (F : Nat → Prop) (m d a n : Nat) (s : SS) (g c wb : Nat) (bs : List Nat) : Prop :=
  StoM w m d a n s.last g bs.length c wb ∧ KpV w g c bs ∧ bs.length = s.kept.length ∧ (∀ (i x : Nat) (l : List Pg), bs[i]? = some x → s.kept[i]? = some l → PgM w (Row7 F m) x l ∧ F x ∧ x ≠ wb) ∧
  PgM w (Row7 F m) wb s.work ∧ F m ∧ F wb ∧ F g ∧ g ≠ m ∧ (∀ k, F k → k < w.heap.size) ∧ s.kept.length = min s.last 3 + 1
/-- A store's objects. -/
def ObjK (w : World) (F : Nat → Prop) (m d a b : Nat) (u : Unit) (s : SS) : Prop := a + 32 ≤ b ∧ b ≤ 8192 ∧ ∃ (g c wb : Nat) (bs : List Nat), MemK w F m d a (b - a) s g c wb bs
section
variable {w w' : World} {F : Nat → Prop} {m d a b n last g k c wb : Nat} {s : SS} {bs : List Nat} {r : Value}
theorem StoM.cells (h : StoM w m d a n last g k c wb) : w.cell? ⟨m, 0, none⟩ = some (.pointer (some ⟨d, 0, none⟩)) ∧ w.cell? ⟨m, 1, none⟩ = some (.int .i64 (a : Int)) ∧ w.cell? ⟨m, 2, none⟩ = some (.int .i64 (n : Int)) ∧ w.cell? ⟨m, 3, none⟩ = some (.int .i64 (last : Int)) ∧ w.cell? ⟨m, 4, none⟩ = some (.slice (some ⟨g, 0, none⟩) k c) ∧ w.cell? ⟨m, 5, none⟩ = some (.map (some wb)) := by
  unfold StoM at h
  refine ⟨?_, ?_, ?_, ?_, ?_, ?_⟩ <;> rw [cell_of_row w m _ _ _ (0, 0) h] <;> rfl
theorem StoM.thaw (h : StoM w m d a n last g k c wb) (i : Nat) : w.frozen? ⟨m, i, none⟩ = false := by
  unfold StoM at h
  simp [World.frozen?, h]
theorem StoM.keepB (h : StoM w m d a n last g k c wb) (hk : w'.heap[m]? = w.heap[m]?) : StoM w' m d a n last g k c wb := by
  unfold StoM at h ⊢
  rw [hk]
  exact h
theorem StoM.work (h : StoM w m d a n last g k c wb) (u : Nat) : StoM (w.setCell ⟨m, 5, none⟩ (.map (some u))) m d a n last g k c u := by
  unfold StoM at h ⊢
  simp [World.setCell, Array.getElem?_modify, h]
theorem StoM.lt (h : StoM w m d a n last g k c wb) : m < w.heap.size := lt_of_heap h
theorem KpV.keepB (h : KpV w g c bs) (hk : w'.heap[g]? = w.heap[g]?) : KpV w' g c bs := by
  obtain ⟨h1, h2, h3, h4⟩ := h
  have h5 : w'.heap[g]? = w.heap[g]? := hk
  refine ⟨?_, h2, h3, fun i x hx => by rw [World.cell?_of_block (a := ⟨g, i, none⟩) hk]; exact h4 i x hx⟩
  rcases Nat.lt_or_ge g w'.heap.size with h | h
  · exact h
  · rw [Array.getElem?_eq_none h, Array.getElem?_eq_getElem h1] at h5
    cases h5
theorem KpV.at' (h : KpV w g c bs) {i x : Nat} (hx : bs[i]? = some x) : w.cell? ⟨g, i, none⟩ = some (.map (some x)) := by
  exact h.2.2.2 i x hx
theorem KpV.le (h : KpV w g c bs) : bs.length ≤ c := h.2.1
theorem KpV.lt (h : KpV w g c bs) : g < w.heap.size := h.1
/-- The row as a slice of cells. -/
theorem KpV.cel (h : KpV w g c bs) : Cel w (.slice (some ⟨g, 0, none⟩) bs.length c) 1 bs.length (bs.map fun b => Value.map (some b)) := by
  refine ⟨by simp, _, _, rfl, ⟨h.2.1, fun e => by cases e⟩, h.2.2.1, fun hp => ⟨g, 0, rfl, h.1, fun j v hj => ?_⟩⟩
  rw [List.getElem?_map] at hj
  cases hx : bs[j]? with
  | none => rw [hx] at hj; cases hj
  | some x =>
    rw [hx] at hj
    obtain rfl : Value.map (some x) = v := by simpa using hj
    rw [Nat.zero_add]
    exact h.2.2.2 j x hx
theorem MemK.few (h : MemK w F m d a n s g c wb bs) : okSS s ∧ fewS s ∧ SrtS s := by
  obtain ⟨-, -, h3, h4, h5, -, -, -, -, -, h11⟩ := h
  have hk : ∀ l ∈ s.kept, Srt l ∧ ∀ p ∈ l, okPg p := fun l hl => by
    obtain ⟨i, hi, rfl⟩ := List.mem_iff_getElem.1 hl
    obtain ⟨q, -⟩ := h4 i bs[i] s.kept[i] (List.getElem?_eq_getElem (by omega)) (List.getElem?_eq_getElem hi)
    exact ⟨q.1, q.2.1⟩
  exact ⟨⟨by omega, by omega, by omega, fun l hl => (hk l hl).2, h5.2.1⟩, ⟨h5.1.few h5.2.1, fun l hl => (hk l hl).1.few (hk l hl).2⟩, h5.1, fun l hl => (hk l hl).1⟩
theorem MemK.keep (h : MemK w F m d a n s g c wb bs) (hs : w.heap.size ≤ w'.heap.size) (hk : ∀ k, F k → w'.heap[k]? = w.heap[k]?) : MemK w' F m d a n s g c wb bs := by
  obtain ⟨h1, h2, h3, h4, h5, h6, h7, h8, h9, h10, h11⟩ := h
  refine ⟨h1.keepB (hk m h6), h2.keepB (hk g h8), h3, fun i x l i1 i2 => ?_, h5.keep hs (hk wb h7) (fun k _ hk2 => hk k hk2.1) (fun _ _ h => h), h6, h7, h8, h9, fun k hk2 => Nat.lt_of_lt_of_le (h10 k hk2) hs, h11⟩
  obtain ⟨q1, q2, q3⟩ := h4 i x l i1 i2
  exact ⟨q1.keep hs (hk _ q2) (fun k _ hk2 => hk k hk2.1) (fun _ _ h => h), q2, q3⟩
theorem ObjK.keep (h : ObjK w F m d a b () s) (hs : w.heap.size ≤ w'.heap.size) (hk : ∀ k, F k → w'.heap[k]? = w.heap[k]?) : ObjK w' F m d a b () s := by
  obtain ⟨h1, h2, g, c, wb, bs, hm⟩ := h
  exact ⟨h1, h2, g, c, wb, bs, hm.keep hs hk⟩
theorem ObjK.lt (h : ObjK w F m d a b () s) : ∀ k, F k → k < w.heap.size := by
  obtain ⟨h1, h2, g, c, wb, bs, h⟩ := h
  exact h.2.2.2.2.2.2.2.2.2.1
/-- A method that leaves all as it was. -/
theorem ObjK.still (h : ObjK w F m d a b () s) (hB : Below w.heap.size w w') (r : Value) : PSt ObjK w F m d a b () r s w' :=
  ⟨F, h.keep hB.size fun k hk => hB.block k (h.lt k hk), fun k hk => .inl hk, fun k _ hk hF => by have := h.lt k hF; omega, Turn.of_below _ hB⟩
/-! ### Small functions -/
theorem isPage_c (w : World) (no : Int) : Calls Tryz.prog 46 #[.int .i64 no] w fun e w' => e = .returned (.bool (decide (0 ≤ no ∧ no < 256))) ∧ w = w' := by
  by_cases h1 : 0 ≤ no
  · by_cases h2 : no < 256
    · rw [decide_eq_true (show 0 ≤ no ∧ no < 256 from ⟨h1, h2⟩)]
      go_enter Tryz.func46, Tryz.ntmps46
      go_wp2_with fail
      go_ret
      exact ⟨rfl, rfl⟩
    · rw [decide_eq_false (show ¬ (0 ≤ no ∧ no < 256) from fun h => h2 h.2)]
      go_enter Tryz.func46, Tryz.ntmps46
      go_wp2_with fail
      go_ret
      exact ⟨rfl, rfl⟩
  · rw [decide_eq_false (show ¬ (0 ≤ no ∧ no < 256) from fun h => h1 h.1)]
    go_enter Tryz.func46, Tryz.ntmps46
    go_wp2_with fail
    go_ret
    exact ⟨rfl, rfl⟩
/-- A history as a value. -/
def hisV (last g k c : Nat) : Value := .agg #[.int .i64 (last : Int), .slice (some ⟨g, 0, none⟩) k c]
theorem first_c (w : World) (last g k c : Nat) (h1 : last ≤ 1000000000) (h2 : k ≤ 1000) : Calls Tryz.prog 51 #[hisV last g k c] w (RVal w (.int .i64 ((last : Int) - k + 1))) := by
  unfold hisV
  go_enter Tryz.func51, Tryz.ntmps51
  go_wp2_with fail
  go_ret
  exact ⟨rfl, (Below.refl _ _).alloc (Nat.le_refl _) _⟩
theorem newest_c (h : KpV w g c bs) (last : Nat) (h1 : 1 ≤ bs.length) (h2 : bs.length ≤ 1000) {x : Nat} (hx : bs[bs.length - 1]? = some x) : Calls Tryz.prog 31 #[hisV last g bs.length c] w (RVal w (.map (some x))) := by
  have hc := h.at' hx
  have hlt := h.lt
  have hle := h.le
  unfold hisV
  obtain ⟨j, ej⟩ : ∃ j, bs.length - 1 = j := ⟨_, rfl⟩
  have hK : bs.length = j + 1 := by omega
  rw [ej] at hc
  rw [hK] at h2 hle ⊢
  have e1 : ((j + 1 : Nat) : Int) - 1 = (j : Int) := by omega
  have hBa : (w.alloc (.cells #[.int .i64 (last : Int), .slice (some ⟨g, 0, none⟩) (j + 1) c] 66)).cell? ⟨g, j, none⟩ = some (.map (some x)) := by rw [← hc]; exact ((Below.refl w.heap.size w).alloc (Nat.le_refl _) _).cell (p := ⟨g, j, none⟩) hlt
  clear h ej hK hc hx
  go_enter Tryz.func31, Tryz.ntmps31
  go_wp2_with fail
  go_ret
  exact ⟨rfl, (Below.refl _ _).alloc (Nat.le_refl _) _⟩
theorem version7_c (h : ObjK w F m d a b () s) (hl : s.last ≤ 1000000) : Calls Tryz.prog 32 #[.pointer (some ⟨m, 0, none⟩)] w fun e w' => e = .returned (.int .i64 (s.last : Int)) ∧ PSt ObjK w F m d a b () (.tuple #[]) s w' := by
  have H := Lib.hid (h.still (Below.refl _ w) (.tuple #[]))
  obtain ⟨-, -, g, c, wb, bs, hm⟩ := h
  obtain ⟨-, -, -, c3, -, -⟩ := hm.1.cells
  clear hm
  go_enter Tryz.func32, Tryz.ntmps32
  go_wp2_with fail
  go_ret
  exact ⟨rfl, H.out⟩
theorem range_two {b o : Nat} {x y : Value} (h0 : w.cell? ⟨b, o, none⟩ = some x) (h1 : w.cell? ⟨b, o + 1, none⟩ = some y) : w.rangeAt b o [x, y] := by
  intro j v hj
  match j, hj with
  | 0, hj =>
    obtain rfl : x = v := by simpa using hj
    exact h0
  | 1, hj =>
    obtain rfl : y = v := by simpa using hj
    exact h1
theorem size_pgs : (Tryz.prog.info? 70).map (·.size) = some 1 := by kernel_rfl
set_option maxRecDepth 20000 in
set_option maxHeartbeats 4000000 in
theorem hfind_c (h : KpV w g c bs) (last : Nat) (hl : last ≤ 1000000) (h1 : 1 ≤ bs.length) (h2 : bs.length ≤ 4) (h3 : bs.length ≤ last + 1) (v : Int) (v1 : -1000000 ≤ v) (v2 : v ≤ 2000000) : Calls Tryz.prog 74 #[hisV last g bs.length c, .int .i64 v] w fun e w' =>
    Below w.heap.size w w' ∧ (((v < (last : Int) - bs.length + 1 ∨ v > last) ∧ e = .returned (.tuple #[.map none, .bool false])) ∨ ∃ i x : Nat, bs[i]? = some x ∧ v = (last : Int) - bs.length + 1 + i ∧ e = .returned (.tuple #[.map (some x), .bool true])) := by
  have hlt := h.lt
  have hle := h.le
  have FC := Lib.hid (fun w => first_c w last g bs.length c (by omega) (by omega))
  unfold hisV at FC ⊢
  have H := Lib.hid h
  by_cases hv : v < (last : Int) - bs.length + 1
  · have HV := Lib.hid hv
    clear h h1 h2 h3
    go_enter Tryz.func74, Tryz.ntmps74
    go_wp2_with fail
    refine (FC.out _).mono ?_
    rintro e w2 ⟨rfl, hB⟩
    have B2 := Lib.hid (below_then ((Below.refl w.heap.size w).alloc (Nat.le_refl _) _) hB)
    clear hB FC
    go_wp2_with fail
    go_ret2
    exact ⟨B2.out, .inl ⟨.inl HV.out, rfl⟩⟩
  · by_cases hv2 : v > last
    · have HV := Lib.hid hv2
      clear h h1 h2 h3
      go_enter Tryz.func74, Tryz.ntmps74
      go_wp2_with fail
      refine (FC.out _).mono ?_
      rintro e w2 ⟨rfl, hB⟩
      have c0 : w2.cell? ⟨w.heap.size, 0, none⟩ = some (.int .i64 (last : Int)) := by
        rw [hB.cell (p := ⟨w.heap.size, 0, none⟩) (by rw [World.size_alloc]; show w.heap.size < _; omega), cell_of_row _ _ _ _ _ (0, 0) (heap_alloc_new w _)]
        rfl
      have B2 := Lib.hid (below_then ((Below.refl w.heap.size w).alloc (Nat.le_refl _) _) hB)
      clear hB FC
      go_wp2_with fail
      go_ret2
      exact ⟨B2.out, .inl ⟨.inr HV.out, rfl⟩⟩
    · obtain ⟨i, ei⟩ : ∃ i : Nat, v = (last : Int) - bs.length + 1 + i := ⟨(v - ((last : Int) - bs.length + 1)).toNat, by omega⟩
      have hi : i < bs.length := by omega
      obtain ⟨x, ex⟩ : ∃ x, bs[i]? = some x := ⟨bs[i], List.getElem?_eq_getElem hi⟩
      have hix := h.at' ex
      have EI := Lib.hid ei
      have HI := Lib.hid hi
      have hsub : v - ((last : Int) - bs.length + 1) = (i : Int) := by omega
      have SB := Lib.hid (show v - ((last : Int) - bs.length + 1) = (i : Int) ∧ -1000000000 ≤ v ∧ v ≤ 1000000000 ∧ -1000000000 ≤ (last : Int) - bs.length + 1 ∧ (last : Int) - bs.length + 1 ≤ 1000000000 from ⟨hsub, by omega, by omega, by omega, by omega⟩)
      have EX := Lib.hid ex
      clear h h1 h2 h3 ei hi ex hsub
      generalize bs.length = k at *
      obtain ⟨f0, ef⟩ : ∃ f0, (last : Int) - k + 1 = f0 := ⟨_, rfl⟩
      have EF := Lib.hid ef
      rw [ef] at hv SB FC
      clear ef
      go_enter Tryz.func74, Tryz.ntmps74
      go_wp2_with fail
      refine (FC.out _).mono ?_
      rintro e w2 ⟨rfl, hB⟩
      have c0 : w2.cell? ⟨w.heap.size, 0, none⟩ = some (.int .i64 (last : Int)) := by
        rw [hB.cell (p := ⟨w.heap.size, 0, none⟩) (by rw [World.size_alloc]; show w.heap.size < _; omega), cell_of_row _ _ _ _ _ (0, 0) (heap_alloc_new w _)]
        rfl
      have c1 : w2.cell? ⟨w.heap.size, 1, none⟩ = some (.slice (some ⟨g, 0, none⟩) k c) := by
        rw [hB.cell (p := ⟨w.heap.size, 1, none⟩) (by rw [World.size_alloc]; show w.heap.size < _; omega), cell_of_row _ _ _ _ _ (0, 0) (heap_alloc_new w _)]
        rfl
      have hB2 : Below w.heap.size w w2 := below_then ((Below.refl w.heap.size w).alloc (Nat.le_refl _) _) hB
      have cg : w2.cell? ⟨g, i, none⟩ = some (.map (some x)) := by rw [hB2.cell (p := ⟨g, i, none⟩) hlt]; exact hix
      have hsz : w.heap.size < w2.heap.size := Nat.lt_of_lt_of_le (by rw [World.size_alloc]; omega) hB.size
      have C1 := Lib.hid c1
      have CG := Lib.hid cg
      have ZS := Lib.hid hsz
      have ZG := Lib.hid hlt
      have B2 := Lib.hid hB2
      clear hB hix hB2 cg hsz hlt
      go_wp2_with fail
      refine wp_region_plan (S := fun W => Below w.heap.size w W ∧ W.cell? ⟨w.heap.size, 0, none⟩ = some (.int .i64 (last : Int)) ∧ W.cell? ⟨w.heap.size, 1, none⟩ = some (.slice (some ⟨g, 0, none⟩) k c) ∧ W.cell? ⟨g, i, none⟩ = some (.map (some x))) [(0, true), (1, true), (2, true), (3, true), (4, false), (5, true), (6, true), (7, true), (8, true), (9, true)] (by kernel_rfl) (by kernel_rfl) (by kernel_rfl) (by kernel_rfl) (fun _ _ d _ _ h => by cases d <;> exact h) ⟨B2.out.drew, c0, C1.out, CG.out⟩ ?_
      refine wkS_take (some 16) (.pointer (some ⟨w.heap.size, 1, none⟩)) (by kernel_rfl) (by kernel_rfl) (by kernel_rfl) (fun W hS => by kernel_rfl) ?_
      simp only [put_lit, put_non, List.set_cons_zero, List.set_cons_succ]
      refine wkS_take (some 17) (.slice (some ⟨g, 0, none⟩) k c) (by kernel_rfl) (by kernel_rfl) (by kernel_rfl) (fun W hS => exec_loadCell 64 (.tmp 16) ⟨w.heap.size, 1, none⟩ _ _ (by kernel_rfl) (by kernel_rfl) hS.2.2.1 Tryz.underlying64 rfl) ?_
      simp only [put_lit, put_non, List.set_cons_zero, List.set_cons_succ]
      refine wkS_take (some 18) (.int .i64 v) (by kernel_rfl) (by kernel_rfl) (by kernel_rfl) (fun W hS => by kernel_rfl) ?_
      simp only [put_lit, put_non, List.set_cons_zero, List.set_cons_succ]
      refine wkS_take (some 19) (.agg #[.int .i64 (last : Int), .slice (some ⟨g, 0, none⟩) k c]) (by kernel_rfl) (by kernel_rfl) (by kernel_rfl) (fun W hS => exec_loadC (cs := [.int .i64 (last : Int), .slice (some ⟨g, 0, none⟩) k c]) 2 Tryz.underlying66 rfl (by kernel_rfl) (range_two hS.2.1 hS.2.2.1) (by kernel_rfl) (by kernel_rfl)) ?_
      simp only [put_lit, put_non, List.set_cons_zero, List.set_cons_succ]
      refine wkS_call (some 20) 51 #[.agg #[.int .i64 (last : Int), .slice (some ⟨g, 0, none⟩) k c]] (by kernel_rfl) (by kernel_rfl) (by kernel_rfl) (fun w => (by kernel_rfl)) ?_
      refine (FC.out _).mono ?_
      rintro e w3 ⟨rfl, hB3⟩
      have hB3d : Below w2.heap.size w2 w3 := (Below.refl _ w2).drew.trans hB3
      have BW := Lib.hid (below_then B2.out hB3d)
      refine ⟨_, rfl, ⟨BW.out, by rw [hB3d.cell (p := ⟨w.heap.size, 0, none⟩) ZS.out]; exact c0, by rw [hB3d.cell (p := ⟨w.heap.size, 1, none⟩) ZS.out]; exact C1.out, by rw [hB3d.cell (p := ⟨g, i, none⟩) (Nat.lt_of_lt_of_le ZG.out B2.out.size)]; exact CG.out⟩, ?_⟩
      clear hB3 hB3d
      simp only [put_lit, put_non, List.set_cons_zero, List.set_cons_succ]
      refine wkS_take (some 21) (.int .i64 (i : Int)) (by kernel_rfl) (by kernel_rfl) (by kernel_rfl) (fun W hS => (exec_subI (.tmp 18) (.tmp 20) v f0 (by kernel_rfl) (by kernel_rfl) (by kernel_rfl) SB.out.2.1 SB.out.2.2.1 SB.out.2.2.2.1 SB.out.2.2.2.2).trans (by rw [SB.out.1])) ?_
      simp only [put_lit, put_non, List.set_cons_zero, List.set_cons_succ]
      refine wkS_take (some 22) (.pointer (some ⟨g, 0 + i * 1, none⟩)) (by kernel_rfl) (by kernel_rfl) (by kernel_rfl) (fun W hS => exec_indexC Tryz.underlying64 size_pgs 17 21 (n := k) (c := c) (j := i) (by kernel_rfl) (by kernel_rfl) (by kernel_rfl) HI.out) ?_
      simp only [put_lit, put_non, List.set_cons_zero, List.set_cons_succ]
      refine wkS_take (some 23) (.map (some x)) (by kernel_rfl) (by kernel_rfl) (by kernel_rfl) (fun W hS => exec_loadCell 70 (.tmp 22) ⟨g, 0 + i * 1, none⟩ _ _ (by kernel_rfl) (by kernel_rfl) (by rw [Nat.zero_add, Nat.mul_one]; exact hS.2.2.2) Tryz.underlying70 rfl) ?_
      simp only [put_lit, put_non, List.set_cons_zero, List.set_cons_succ]
      refine wkS_take (some 4) (.map (some x)) (by kernel_rfl) (by kernel_rfl) (by kernel_rfl) (fun W hS => by kernel_rfl) ?_
      simp only [put_lit, put_non, List.set_cons_zero, List.set_cons_succ]
      refine wkS_take (some 5) (.bool true) (by kernel_rfl) (by kernel_rfl) (by kernel_rfl) (fun W hS => by kernel_rfl) ?_
      simp only [put_lit, put_non, List.set_cons_zero, List.set_cons_succ]
      refine wkS_done ?_
      go_wp2_with fail
      go_ret2
      exact ⟨BW.out, .inr ⟨i, x, EX.out, EI.out, rfl⟩⟩
theorem findS_none {s : SS} {v : Int} (hk : s.kept.length ≤ s.last + 1) (h1 : v ≠ (s.last : Int) + 1) (h : v < (s.last : Int) - s.kept.length + 1 ∨ v > s.last) : findS s v = none := by
  unfold findS
  rw [if_neg h1, if_pos (by omega)]
theorem findS_some {s : SS} {v : Int} {i : Nat} (hi : i < s.kept.length) (hk : s.kept.length ≤ s.last + 1) (h : v = (s.last : Int) - s.kept.length + 1 + i) : findS s v = s.kept[i]? := by
  unfold findS
  rw [if_neg (by omega), if_neg (by omega), show ((s.kept.length : Int) - 1 - (s.last - v)).toNat = i by omega]
/-- What find hands back. -/
def FndK (w : World) (F : Nat → Prop) (m : Nat) (s : SS) (v : Int) (r : Option Nat) (ok : Bool) : Prop :=
  (findS s v = none ∧ r = none ∧ ok = false) ∨ ∃ b l, findS s v = some l ∧ r = some b ∧ ok = true ∧ PgM w (Row7 F m) b l
set_option maxHeartbeats 1000000 in
theorem find7_c {u : Unit} (h : ObjK w F m d a b u s) (hl : s.last ≤ 1000000) (v : Int) (v1 : -1000000 ≤ v) (v2 : v ≤ 2000000) : Calls Tryz.prog 49 #[.pointer (some ⟨m, 0, none⟩), .int .i64 v] w fun e w' =>
    ∃ r ok, e = .returned (.tuple #[.map r, .bool ok]) ∧ Below w.heap.size w w' ∧ FndK w F m s v r ok := by
  obtain ⟨-, -, g, c, wb, bs, hm⟩ := h
  obtain ⟨-, -, -, c3, c4, c5⟩ := hm.1.cells
  have HM := Lib.hid hm
  have hfew := hm.few.1
  by_cases hv : v = (s.last : Int) + 1
  · have HV := Lib.hid (show findS s v = some s.work by unfold findS; rw [if_pos hv])
    clear hm hfew
    generalize s.last = n at *
    go_enter Tryz.func49, Tryz.ntmps49
    go_wp2_with fail
    go_ret2
    exact ⟨_, _, rfl, Below.refl _ _, .inr ⟨wb, s.work, HV.out, rfl, rfl, HM.out.2.2.2.2.1⟩⟩
  · have hvb : (v == (s.last : Int) + 1) = false := by rw [beq_eq_false_iff_ne]; exact hv
    have HF := Lib.hid (hfind_c hm.2.1 s.last hl (by have := hm.2.2.1; have := hfew.1; omega) (by have := hm.2.2.1; have := hfew.2.1; omega) (by have := hm.2.2.1; have := hfew.2.2.1; omega) v v1 v2)
    have HQ := Lib.hid (show v ≠ (s.last : Int) + 1 ∧ s.kept.length ≤ s.last + 1 ∧ bs.length = s.kept.length from ⟨hv, hfew.2.2.1, hm.2.2.1⟩)
    unfold hisV at HF
    clear hm hfew
    obtain ⟨n, en⟩ : ∃ n, s.last = n := ⟨_, rfl⟩
    have EN := Lib.hid en
    rw [en] at c3 hvb hv hl HF
    clear en
    go_enter Tryz.func49, Tryz.ntmps49
    go_wp2_with fail
    refine (HF.out).mono ?_
    rintro e w2 ⟨hB, hres⟩
    have B2 := Lib.hid hB
    rcases hres with ⟨hn, rfl⟩ | ⟨i, x, hi, hi2, rfl⟩
    · have HN := Lib.hid hn
      clear hB hn HF
      go_wp2_with fail
      go_ret2
      refine ⟨_, _, rfl, B2.out, .inl ⟨findS_none HQ.out.2.1 HQ.out.1 ?_, rfl, rfl⟩⟩
      have h := HN.out
      rw [EN.out, ← HQ.out.2.2]
      exact h
    · have HN := Lib.hid hi2
      have hi3 : i < s.kept.length := by rw [← HQ.out.2.2]; exact (List.getElem?_eq_some_iff.1 hi).1
      have HI := Lib.hid hi3
      have HX := Lib.hid (HM.out.2.2.2.1 i x _ hi (List.getElem?_eq_getElem hi3)).1
      clear hB hi2 HF hi
      go_wp2_with fail
      go_ret2
      refine ⟨_, _, rfl, B2.out, .inr ⟨x, _, (findS_some (i := i) HI.out HQ.out.2.1 ?_).trans (List.getElem?_eq_getElem HI.out), rfl, rfl, HX.out⟩⟩
      have h := HN.out
      rw [EN.out, ← HQ.out.2.2]
      exact h
end
end Go.Proofs.YtckomifecmemnaaGreat

/- The methods of a store that do not access the disk. -/
namespace Go.Proofs.YtckomifecmemnaaGreat
set_option linter.unusedSimpArgs false
open Go.RowKit Dig Go.ChangeMaps Go.MapKept
set_option linter.unusedVariables false

/-! ### At the operation -/
section
variable {w : World} {ops : Array Oper} {rest : List Oper} {o : Oper} {a : Act} {Q : Exit → Act → World → Prop} {G : Nat → Prop} {b no : Nat} {l : List Pg}
theorem wp_lookP (hg : o.guard = none) (m x : Operand) (hop : o.op = Op.lookup 70 m x true) (hm : a.eval m = .map (some b)) (hx : a.eval x = .int .i64 (no : Int)) (h : PgM w G b l) (hno : no < 256)
    (hK : ∀ v, (∀ x, getP l no = some x → Byt w v x ∧ (0 < x.length → ∀ k, v.ownBlock = some k → G k)) → wpList Tryz.prog ops Q rest (a.put o.dst (.tuple #[v, .bool (getP l no).isSome])) w) : wpList Tryz.prog ops Q (o :: rest) a w := by
  refine wpList_plain hg fun K' hK' => ?_
  obtain ⟨v, hrun, hv⟩ := h.look hno
  unfold Oper.wp
  simp [execOp, hop, hm, hx, hrun, Result.andThen]
  exact hK' _ _ (hK v hv)
theorem wp_dropP (hg : o.guard = none) (m x : Operand) (hop : o.op = Op.call { callee := Callee.builtin Builtin.delete, args := #[m, x], argTypes := #[70, 3] }) (hm : a.eval m = .map (some b)) (hx : a.eval x = .int .i64 (no : Int)) (h : PgM w G b l) (hno : no < 256)
    (hK : ∀ w', PgM w' G b (withoutS l no) → w.mapTurned w' b → wpList Tryz.prog ops Q rest (a.put o.dst (.tuple #[])) w') : wpList Tryz.prog ops Q (o :: rest) a w := by
  refine wpList_plain hg fun K' hK' => ?_
  obtain ⟨w', hrun, r1, r2⟩ := h.drop hno o.type
  unfold Oper.wp
  simp [execOp, hop, resolve, invoke, builtin, hm, hx, hrun, Result.andThen]
  exact hK' _ _ (hK w' r1 r2)
theorem wp_lenP (hg : o.guard = none) (m : Operand) (hop : o.op = Op.call { callee := Callee.builtin Builtin.len, args := #[m], argTypes := #[70] }) (hm : a.eval m = .map (some b)) (h : PgM w G b l)
    (hK : wpList Tryz.prog ops Q rest (a.put o.dst (.int .i64 (l.length : Int))) w) : wpList Tryz.prog ops Q (o :: rest) a w := by
  refine wpList_plain hg fun K' hK' => ?_
  unfold Oper.wp
  simp [execOp, hop, resolve, invoke, builtin, hm, h.len o.type, Result.andThen]
  exact hK' _ _ hK
end
/-! ### Where a map turns -/
section
variable {w w' w1 w2 : World} {F G G' : Nat → Prop} {m d a b n g c wb x no : Nat} {s : SS} {bs : List Nat} {l : List Pg} {v u : Value} {ts : List UInt8} {z : Unit}
theorem PgM.below (h : PgM w G b l) (hB : Below w.heap.size w w') : PgM w' G b l := h.keep hB.size (hB.block b h.lt) (fun k hk _ => hB.block k hk) fun _ _ h => h
theorem PgM.wide (h : PgM w G b l) (hG : ∀ k, G k → G' k) : PgM w G' b l := h.keep (Nat.le_refl _) rfl (fun _ _ _ => rfl) fun k _ hk => hG k hk
theorem PgM.beside (h : PgM w G b l) (ht : w.mapTurned w' x) (hne : b ≠ x) : PgM w' G b l := by
  obtain ⟨h1, h2, D, n, ⟨es, clock, hh, F, hs, hD⟩, h4⟩ := h
  exact ⟨h1, h2, D, n, ⟨es, clock, by rw [turned_stay ht hne]; exact hh, F, hs, hD⟩, h4.turned ht⟩
theorem cells_ne {cs : Array Value} {T : TypeId} {fr : Nat × Nat} {es : Array MapEntry} {k : Nat} (h : w.heap[m]? = some (.cells cs T fr)) (hb : w.heap[b]? = some (.map es k)) : m ≠ b := by
  intro e
  rw [e, hb] at h
  cases h
theorem MemK.other (h : MemK w F m d a n s g c wb bs) : m ≠ wb ∧ g ≠ wb := by
  obtain ⟨es, k, hb⟩ := h.2.2.2.2.1.block
  refine ⟨cells_ne h.1 hb, fun e => ?_⟩
  have h11 := h.2.2.2.2.2.2.2.2.2.2
  have h3 := h.2.2.1
  have hc := h.2.1.at' (i := 0) (List.getElem?_eq_getElem (by omega))
  rw [e] at hc
  simp [World.cell?, hb] at hc
/-- The working copy turns. -/
theorem MemK.turned (h : MemK w F m d a n s g c wb bs) (ht : w.mapTurned w' wb) (hp : PgM w' (Row7 F m) wb l) : MemK w' F m d a n { s with work := l } g c wb bs := by
  obtain ⟨n1, n2⟩ := h.other
  obtain ⟨h1, h2, h3, h4, h5, h6, h7, h8, h9, h10, h11⟩ := h
  refine ⟨h1.keepB (turned_stay ht n1), h2.keepB (turned_stay ht n2), h3, fun i x l i1 i2 => ?_, hp, h6, h7, h8, h9, fun k hk => by rw [turned_size ht]; exact h10 k hk, h11⟩
  obtain ⟨q1, q2, q3⟩ := h4 i x l i1 i2
  exact ⟨q1.beside ht q3, q2, q3⟩
theorem MemK.wide (h : MemK w F m d a n s g c wb bs) {F' : Nat → Prop} (hF : ∀ k, F k → F' k) (hl : ∀ k, F' k → k < w.heap.size) : MemK w F' m d a n s g c wb bs := by
  obtain ⟨h1, h2, h3, h4, h5, h6, h7, h8, h9, h10, h11⟩ := h
  refine ⟨h1, h2, h3, fun i x l i1 i2 => ?_, h5.wide fun k hk => ⟨hF k hk.1, hk.2⟩, hF m h6, hF wb h7, hF g h8, h9, hl, h11⟩
  obtain ⟨q1, q2, q3⟩ := h4 i x l i1 i2
  exact ⟨q1.wide fun k hk => ⟨hF k hk.1, hk.2⟩, hF x q2, q3⟩
/-- The blocks F, and those of a new row that holds something. -/
def FPut (F : Nat → Prop) (ts : List UInt8) (w w' : World) (k : Nat) : Prop := F k ∨ (0 < ts.length ∧ w.heap.size ≤ k ∧ k < w'.heap.size)
theorem MemK.put (h : MemK w F m d a n s g c wb bs) (hB : Below w.heap.size w w1) (hv : OwB w.heap.size w1 v ts) (hx : ts.length ≤ 1024) (hno : no < 256) :
    ∃ w2, (Instr.mapUpdate 70 (.map (some wb)) (.int .i64 (no : Int)) v).run Tryz.prog w1 = .ok () w2 ∧ MemK w2 (FPut F ts w w1) m d a n { s with work := withS s.work no ts } g c wb bs ∧ w1.mapTurned w2 wb := by
  have hlt := h.2.2.2.2.2.2.2.2.2.1
  have hm := h.2.2.2.2.2.1
  have h1 : MemK w1 (FPut F ts w w1) m d a n s g c wb bs := (h.keep hB.size fun k hk => hB.block k (hlt k hk)).wide (fun k hk => .inl hk) fun k hk => hk.elim (fun hk => Nat.lt_of_lt_of_le (hlt k hk) hB.size) fun hk => hk.2.2
  obtain ⟨w2, hrun, hp, ht⟩ := h1.2.2.2.2.1.store hno hv.byt hx fun hpos k hk => by
    obtain ⟨q1, q2⟩ := hv.block k hk
    exact ⟨.inr ⟨hpos, q1, q2⟩, by have := hlt m hm; omega⟩
  exact ⟨w2, hrun, h1.turned ht hp, ht⟩
theorem turn_of (hB : Below w.heap.size w w1) (ht : w1.mapTurned w2 wb) (hF : F wb) : Turn F w w2 := by
  have hg := ht.grown
  exact ⟨hg.os.trans hB.os, hg.tape.trans hB.tape, hg.output.trans hB.output, Nat.le_trans hB.size hg.size, fun k hk hf => (turned_stay ht fun e => hf (by rw [e]; exact hF)).trans (hB.block k hk)⟩
/-! ### The methods -/
set_option maxHeartbeats 1000000 in
/-- A copy of bytes. -/
theorem bclone_c (h : Byt w v ts) (hl : ts.length ≤ 100000) : Calls Tryz.prog 47 #[v] w fun e w' => ∃ r, e = .returned r ∧ OwB w.heap.size w' r ts ∧ Below w.heap.size w w' := by
  have HV := Lib.hid h
  have HL := Lib.hid hl
  obtain ⟨A, c, rfl⟩ := h.form
  cases A with
  | none =>
    have h0 : ts = [] := by
      obtain ⟨A', c', e, ⟨h1, h2⟩, _⟩ := h
      injection e with e1 e2 e3
      have := h2 e1.symm
      exact List.eq_nil_of_length_eq_zero (by omega)
    subst h0
    have hnil : ∀ W n c, (binOp .eql 33 (.slice none n c) (.slice none 0 0)).run Tryz.prog W = .ok (.bool true) W := fun W n c => Lib.run_eql_slice_nil W _ _ none n c _ _ Tryz.underlying33
    clear h hl
    go_enter Tryz.func47, Tryz.ntmps47
    go_wp2_with fail
    go_ret
    exact ⟨_, rfl, OwB.nil _ _, Below.refl _ _⟩
  | some ad =>
    have hnil : ∀ W, (binOp .eql 33 (.slice (some ad) ts.length c) (.slice none 0 0)).run Tryz.prog W = .ok (.bool false) W := fun W => Lib.run_eql_slice_some_nil W _ _ _ Tryz.underlying33
    clear h hl
    go_enter Tryz.func47, Tryz.ntmps47
    go_wp2_with (first | ((with_reducible refine wp_noneB rfl rfl ?_); intro w4 hS4 hB4; have o4 := Lib.hid hS4; have BN4 := Lib.hid hB4; clear hS4 hB4) | (at_builtin; refine wp_appendB rfl _ _ rfl w.heap.size _ [] rfl o4.out _ ts rfl (HV.out.below BN4.out) (by have := HL.out; simp; omega) BN4.out.size ?_; intro v5 w5 hv5 hg5; have B5 := Lib.hid (below_ownB BN4.out hg5 o4.out (Nat.le_refl _)); have o5 := Lib.hid hv5; clear hv5 hg5))
    go_ret
    rw [List.nil_append] at o5
    exact ⟨_, rfl, o5.out, B5.out⟩
set_option maxHeartbeats 2000000 in
theorem get7_c (h : ObjK w F m d a b z s) (hl : s.last ≤ 1000000) (v no : Int) (v1 : -1000000 ≤ v) (v2 : v ≤ 2000000) : Calls Tryz.prog 24 #[.pointer (some ⟨m, 0, none⟩), .int .i64 v, .int .i64 no] w fun e w' =>
    ∃ r, e = .returned (.tuple #[r, .int .i64 (getS s v no).1]) ∧ OwB w.heap.size w' r (getS s v no).2 ∧ PSt ObjK w F m d a b z r s w' := by
  have H := Lib.hid h
  have HF := Lib.hid (find7_c h hl v v1 v2)
  clear h hl
  go_enter Tryz.func24, Tryz.ntmps24
  go_wp2_with fail
  refine (HF.out).mono ?_
  rintro e w2 ⟨r, ok, rfl, hB, hF⟩
  have B2 := Lib.hid hB
  clear HF hB
  rcases hF with ⟨hn, rfl, rfl⟩ | ⟨x, l, hs, rfl, rfl, hM⟩
  · have E := Lib.hid (show getS s v no = (7, []) by unfold getS; rw [hn])
    clear hn
    go_wp2_with fail
    go_ret2
    rw [E.out]
    exact ⟨_, rfl, OwB.nil _ _, H.out.still B2.out _⟩
  · have E0 := Lib.hid hs
    have M2 := Lib.hid (hM.below B2.out)
    clear hs hM
    go_wp2_with fail
    refine (isPage_c _ _).mono ?_
    rintro e w3 ⟨rfl, rfl⟩
    by_cases hp : 0 ≤ no ∧ no < 256
    · rw [decide_eq_true hp]
      obtain ⟨k, rfl⟩ := Int.eq_ofNat_of_zero_le hp.1
      have hk : k < 256 := by omega
      have HK := Lib.hid hk
      have E1 := Lib.hid (show getS s v (k : Int) = (match getP l k with | none => (7, []) | some b => (0, b)) by unfold getS; rw [E0.out]; simp only; rw [if_neg (by omega), Int.toNat_natCast]; cases getP l k <;> rfl)
      clear hp hk
      cases hg : getP l k with
      | none =>
        have HG := Lib.hid hg
        have hsm : (getP l k).isSome = false := by rw [hg]; rfl
        clear hg
        go_wp2_with (at_lookup; refine wp_lookP rfl _ _ rfl rfl rfl M2.out HK.out ?_; intro v3 hv3; rw [hsm]; clear hv3)
        go_ret2
        rw [E1.out, HG.out]
        exact ⟨_, rfl, OwB.nil _ _, H.out.still B2.out _⟩
      | some x3 =>
        have HG := Lib.hid hg
        have hsm : (getP l k).isSome = true := by rw [hg]; rfl
        have HX := Lib.hid (M2.out.2.1 _ (mem_of_getP hg)).2
        clear hg
        go_wp2_with (at_lookup; refine wp_lookP rfl _ _ rfl rfl rfl M2.out HK.out ?_; intro v3 hv3; rw [hsm]; have V3 := Lib.hid (hv3 _ HG.out).1; clear hv3)
        refine (bclone_c V3.out (Nat.le_trans HX.out (by omega))).mono ?_
        rintro e w4 ⟨r, rfl, hr, hB4⟩
        have R4 := Lib.hid (hr.mono B2.out.size)
        have B4 := Lib.hid (below_then B2.out hB4)
        clear hr hB4
        go_wp2_with fail
        go_ret2
        rw [E1.out, HG.out]
        exact ⟨_, rfl, R4.out, H.out.still B4.out _⟩
    · rw [decide_eq_false hp]
      have E := Lib.hid (show getS s v no = (6, []) by unfold getS; rw [E0.out]; simp only; rw [if_pos (by omega)])
      clear hp
      go_wp2_with fail
      go_ret2
      rw [E.out]
      exact ⟨_, rfl, OwB.nil _ _, H.out.still B2.out _⟩
set_option maxHeartbeats 1000000 in
theorem pages7_c (h : ObjK w F m d a b z s) (hl : s.last ≤ 1000000) (v : Int) (v1 : -1000000 ≤ v) (v2 : v ≤ 2000000) : Calls Tryz.prog 22 #[.pointer (some ⟨m, 0, none⟩), .int .i64 v] w fun e w' =>
    ∃ r, e = .returned r ∧ w'.ownsRow w.heap.size 3 1 r (pagesS s v).length ((pagesS s v).map fun p : Nat => Value.int .i64 (p : Int)) ∧ PSt ObjK w F m d a b z r s w' := by
  have H := Lib.hid h
  have HF := Lib.hid (find7_c h hl v v1 v2)
  clear h hl
  go_enter Tryz.func22, Tryz.ntmps22
  go_wp2_with fail
  refine (HF.out).mono ?_
  rintro e w2 ⟨r, ok, rfl, hB, hF⟩
  have B2 := Lib.hid hB
  clear HF hB
  rcases hF with ⟨hn, rfl, rfl⟩ | ⟨x, l, hs, rfl, rfl, hM⟩
  · have E := Lib.hid (show pagesS s v = [] by unfold pagesS; rw [hn]; rfl)
    clear hn
    go_wp2_with fail
    refine (numbers_none _).mono ?_
    rintro e w3 ⟨rfl, hB3⟩
    have B3 := Lib.hid (below_then B2.out hB3)
    clear hB3
    go_wp2_with fail
    go_ret
    rw [E.out]
    exact ⟨_, rfl, World.ownsRow_nil _ _ _ _, H.out.still B3.out _⟩
  · have E := Lib.hid (show pagesS s v = l.map (·.1) by unfold pagesS; rw [hs]; rfl)
    have M2 := Lib.hid (hM.below B2.out)
    clear hs hM
    go_wp2_with fail
    refine (numbers_c M2.out).mono ?_
    rintro e w3 ⟨r, rfl, hr, hB3⟩
    have B3 := Lib.hid (below_then B2.out hB3)
    have R3 := Lib.hid (ownsRow_base_a hr B2.out.size)
    clear hB3 hr
    go_wp2_with fail
    go_ret
    rw [E.out]
    exact ⟨_, rfl, by have h3 := R3.out; simpa [nosI, List.map_map, Function.comp_def] using h3, H.out.still B3.out _⟩
set_option maxHeartbeats 1000000 in
theorem delete7_c (h : ObjK w F m d a b z s) (no : Int) : Calls Tryz.prog 37 #[.pointer (some ⟨m, 0, none⟩), .int .i64 no] w fun e w' =>
    e = .returned (.int .i64 (deleteS s no).1) ∧ PSt ObjK w F m d a b z (.tuple #[]) (deleteS s no).2 w' := by
  have H := Lib.hid h
  obtain ⟨ha, hb, g, c, wb, bs, hm⟩ := h
  have HM := Lib.hid hm
  obtain ⟨-, -, -, -, -, c5⟩ := hm.1.cells
  have HA := Lib.hid (show a + 32 ≤ b ∧ b ≤ 8192 from ⟨ha, hb⟩)
  clear hm ha hb
  by_cases hp : 0 ≤ no ∧ no < 256
  · obtain ⟨k, rfl⟩ := Int.eq_ofNat_of_zero_le hp.1
    have hk : k < 256 := by omega
    have HK := Lib.hid hk
    have HD := Lib.hid (decide_eq_true hp)
    have E1 := Lib.hid (show deleteS s (k : Int) = (if (withoutS s.work k).length < s.work.length then (0, { s with work := withoutS s.work k }) else (7, s)) by unfold deleteS; rw [if_neg (by omega), Int.toNat_natCast])
    clear hp hk
    go_enter Tryz.func37, Tryz.ntmps37
    go_wp2_with fail
    refine (isPage_c _ _).mono ?_
    rintro e w3 ⟨rfl, rfl⟩
    rw [HD.out]
    cases hg : getP s.work k with
    | none =>
      have hsm : (getP s.work k).isSome = false := by rw [hg]; rfl
      have E := Lib.hid (show deleteS s (k : Int) = (7, s) by rw [E1.out, if_neg (del_none hg)])
      clear hg E1
      go_wp2_with (at_lookup; refine wp_lookP rfl _ _ rfl rfl rfl HM.out.2.2.2.2.1 HK.out ?_; intro v3 hv3; rw [hsm]; clear hv3)
      go_ret
      rw [E.out]
      exact ⟨rfl, H.out.still (Below.refl _ _) _⟩
    | some x3 =>
      have hsm : (getP s.work k).isSome = true := by rw [hg]; rfl
      have E := Lib.hid (show deleteS s (k : Int) = (0, { s with work := withoutS s.work k }) by rw [E1.out, if_pos (del_lt hg)])
      clear hg E1
      go_wp2_with (first | (at_lookup; refine wp_lookP rfl _ _ rfl rfl rfl HM.out.2.2.2.2.1 HK.out ?_; intro v3 hv3; rw [hsm]; clear hv3) | (at_delete; refine wp_dropP rfl _ _ rfl rfl rfl HM.out.2.2.2.2.1 HK.out ?_; intro w5 hp5 ht5; have P5 := Lib.hid hp5; have T5 := Lib.hid ht5; clear hp5 ht5))
      go_ret
      rw [E.out]
      exact ⟨rfl, F, ⟨HA.out.1, HA.out.2, g, c, wb, bs, HM.out.turned T5.out P5.out⟩, fun k hk => .inl hk, (fun k hk => by cases hk), turn_of (Below.refl _ _) T5.out HM.out.2.2.2.2.2.2.1⟩
  · have HD := Lib.hid (decide_eq_false hp)
    have E := Lib.hid (show deleteS s no = (6, s) by unfold deleteS; rw [if_pos (by omega)])
    clear hp
    go_enter Tryz.func37, Tryz.ntmps37
    go_wp2_with fail
    refine (isPage_c _ _).mono ?_
    rintro e w3 ⟨rfl, rfl⟩
    rw [HD.out]
    go_wp2_with fail
    go_ret
    rw [E.out]
    exact ⟨rfl, H.out.still (Below.refl _ _) _⟩
set_option maxRecDepth 20000 in
set_option maxHeartbeats 2000000 in
theorem put7_c (h : ObjK w F m d a b z s) (no : Int) (u : Value) (x : List UInt8) (hu : Byt w u x) (hx : x.length ≤ 100000) (hap : 0 < x.length → ∀ k, u.ownBlock = some k → ¬ F k) : Calls Tryz.prog 20 #[.pointer (some ⟨m, 0, none⟩), .int .i64 no, u] w fun e w' =>
    e = .returned (.int .i64 (putS s no x).1) ∧ PSt ObjK w F m d a b z u (putS s no x).2 w' := by
  have H := Lib.hid h
  have HU := Lib.hid hu
  have HX := Lib.hid hx
  have HAP := Lib.hid hap
  obtain ⟨A, cu, rfl⟩ := hu.form
  have hub := hu.bounds
  obtain ⟨ha, hb, g, c, wb, bs, hm⟩ := h
  have HM := Lib.hid hm
  obtain ⟨-, -, -, -, -, c5⟩ := hm.1.cells
  have HA := Lib.hid (show a + 32 ≤ b ∧ b ≤ 8192 from ⟨ha, hb⟩)
  clear hm ha hb hu hap hub
  by_cases hp : 0 ≤ no ∧ no < 256
  · obtain ⟨k, rfl⟩ := Int.eq_ofNat_of_zero_le hp.1
    have hk : k < 256 := by omega
    have HK := Lib.hid hk
    have HD := Lib.hid (decide_eq_true hp)
    by_cases hbig : 1024 < x.length
    · have hbi : (x.length : Int) > 1024 := by omega
      have E := Lib.hid (show putS s (k : Int) x = (4, s) by unfold putS; rw [if_neg (by omega), if_pos hbig])
      clear hp hk hbig hx
      generalize x.length = xn at *
      go_enter Tryz.func20, Tryz.ntmps20
      go_wp2_with fail
      refine (isPage_c _ _).mono ?_
      rintro e w3 ⟨rfl, rfl⟩
      rw [HD.out]
      go_wp2_with fail
      go_ret
      rw [E.out]
      exact ⟨rfl, H.out.still (Below.refl _ _) _⟩
    · have hbi : ¬ (x.length : Int) > 1024 := by omega
      have HL := Lib.hid (show x.length ≤ 1024 by omega)
      have E := Lib.hid (show putS s (k : Int) x = (0, { s with work := withS s.work k x }) by unfold putS; rw [if_neg (by omega), if_neg hbig, Int.toNat_natCast])
      clear hp hk hbig hx
      have HC := Lib.hid c5
      obtain ⟨xn, exn⟩ : ∃ xn, x.length = xn := ⟨_, rfl⟩
      have EXN := Lib.hid exn
      rw [exn] at hbi HU HAP ⊢
      clear exn
      go_enter Tryz.func20, Tryz.ntmps20
      go_wp2_with fail
      refine (isPage_c _ _).mono ?_
      rintro e w3 ⟨rfl, rfl⟩
      rw [HD.out]
      go_wp2_with fail
      refine wp_region_plan (S := fun W => W.cell? ⟨m, 5, none⟩ = some (.map (some wb))) [(0, true), (1, true), (2, true), (3, true), (4, true), (5, true), (6, false), (7, false)] (by kernel_rfl) (by kernel_rfl) (by kernel_rfl) (by kernel_rfl) (fun _ _ d _ _ h => by cases d <;> exact h) HC.out ?_
      refine wkS_take (some 13) (.pointer (some ⟨m, 0, none⟩)) (by kernel_rfl) (by kernel_rfl) (by kernel_rfl) (fun W hS => by kernel_rfl) ?_
      simp only [put_lit, put_non, List.set_cons_zero, List.set_cons_succ]
      refine wkS_take (some 14) (.pointer (some ⟨m, 0, none⟩)) (by kernel_rfl) (by kernel_rfl) (by kernel_rfl) (fun W hS => by kernel_rfl) ?_
      simp only [put_lit, put_non, List.set_cons_zero, List.set_cons_succ]
      refine wkS_take (some 15) (.pointer (some ⟨m, 5, none⟩)) (by kernel_rfl) (by kernel_rfl) (by kernel_rfl) (fun W hS => by kernel_rfl) ?_
      simp only [put_lit, put_non, List.set_cons_zero, List.set_cons_succ]
      refine wkS_take (some 16) (.map (some wb)) (by kernel_rfl) (by kernel_rfl) (by kernel_rfl) (fun W hS => exec_loadCell 70 (.tmp 15) ⟨m, 5, none⟩ _ _ (by kernel_rfl) (by kernel_rfl) hS Tryz.underlying70 rfl) ?_
      simp only [put_lit, put_non, List.set_cons_zero, List.set_cons_succ]
      refine wkS_take (some 17) (.int .i64 (k : Int)) (by kernel_rfl) (by kernel_rfl) (by kernel_rfl) (fun W hS => by kernel_rfl) ?_
      simp only [put_lit, put_non, List.set_cons_zero, List.set_cons_succ]
      refine wkS_take (some 18) (.slice A xn cu) (by kernel_rfl) (by kernel_rfl) (by kernel_rfl) (fun W hS => by kernel_rfl) ?_
      simp only [put_lit, put_non, List.set_cons_zero, List.set_cons_succ]
      refine wkS_call (some 19) 47 #[.slice A xn cu] (by kernel_rfl) (by kernel_rfl) (by kernel_rfl) (fun w => (by kernel_rfl)) ?_
      have HU2 : Byt w.drew (.slice A xn cu) x := HU.out
      refine (bclone_c HU2 (Nat.le_trans HL.out (by omega))).mono ?_
      rintro e w4 ⟨r4, rfl, hr, hB⟩
      have B4 := Lib.hid (show Below w.heap.size w w4 from (Below.refl _ _).drew.trans hB)
      have R4 := Lib.hid (show OwB w.heap.size w4 r4 x from hr)
      refine ⟨_, rfl, by rw [B4.out.cell (p := ⟨m, 5, none⟩) HM.out.1.lt]; exact HC.out, ?_⟩
      clear hr hB HU2
      obtain ⟨w5, hrun, hm5, ht5⟩ := HM.out.put (no := k) B4.out R4.out HL.out HK.out
      have HR := Lib.hid hrun
      have M5 := Lib.hid hm5
      have T5 := Lib.hid ht5
      clear hrun hm5 ht5
      simp only [put_lit, put_non, List.set_cons_zero, List.set_cons_succ]
      refine wkS_skipW none (by kernel_rfl) (by kernel_rfl) (by kernel_rfl) (exec_mapUpdate (m := .tmp 16) (x := .tmp 17) (v := .tmp 19) (by kernel_rfl) (by kernel_rfl) (by kernel_rfl) (by kernel_rfl) HR.out) M5.out.1.cells.2.2.2.2.2 ?_
      simp only [put_lit, put_non, List.set_cons_zero, List.set_cons_succ]
      refine wkS_done ?_
      go_wp2_with fail
      go_ret
      rw [E.out]
      refine ⟨rfl, FPut F x w w4, ⟨HA.out.1, HA.out.2, g, c, wb, bs, M5.out⟩, fun q hq => hq.imp id fun h => ⟨h.2.1, by rw [turned_size T5.out]; exact h.2.2⟩, fun q hq hlt hf => ?_, turn_of B4.out T5.out HM.out.2.2.2.2.2.2.1⟩
      rcases hf with hf | hf
      · have := HM.out.2.2.2.2.2.2.2.2.2.1 q hf
        omega
      · obtain ⟨A', c', e1, _, _, h5⟩ := HU.out
        obtain ⟨q2, off, e2, hlt2, _⟩ := h5 hf.1
        injection e1 with e1 _ _
        subst e1
        subst e2
        obtain rfl : q2 = q := by simpa [Value.ownBlock] using hq
        omega
  · have HD := Lib.hid (decide_eq_false hp)
    have E := Lib.hid (show putS s no x = (6, s) by unfold putS; rw [if_pos (by omega)])
    clear hp
    go_enter Tryz.func20, Tryz.ntmps20
    go_wp2_with fail
    refine (isPage_c _ _).mono ?_
    rintro e w3 ⟨rfl, rfl⟩
    rw [HD.out]
    go_wp2_with fail
    go_ret
    rw [E.out]
    exact ⟨rfl, H.out.still (Below.refl _ _) _⟩
end
end Go.Proofs.YtckomifecmemnaaGreat

/- Rollback and Versions of a store. -/
namespace Go.Proofs.YtckomifecmemnaaGreat
open Go.RowKit Dig Go.ChangeMaps Go.MapKept
set_option linter.unusedVariables false

theorem zero_i64 : (Tryz.prog.info? 3).map (fun i => (i.zero, i.size, i.bytes)) = some (some (.int .i64 0), 1, 8) := by kernel_rfl
section
variable {w w' wr w3 : World} {F : Nat → Prop} {m d a b n g c wb nb x : Nat} {s : SS} {bs : List Nat} {l : List Pg} {e : TypeId} {v : Value} {vs : List Value} {k : Nat} {z : Unit}
theorem below_own7 {B : Nat} (hB : Below B w wr) (hs : B ≤ wr.heap.size) (h : wr.ownsRow B e k v n vs) (hg : wr.grownBy w' v.ownBlock) : Below B w w' := hB.grown hg hs fun q hq => by
  rcases h.2 with ⟨rfl, _⟩ | ⟨g, _, _, rfl, hb, _⟩
  · cases hq
  · obtain rfl : g = q := by simpa [Value.ownBlock] using hq
    exact hb
theorem MemK.last (h : MemK w F m d a n s g c wb bs) : ∃ x l, 1 ≤ bs.length ∧ bs.length ≤ 4 ∧ bs[bs.length - 1]? = some x ∧ rollbackS s = { s with work := l } ∧ PgM w (Row7 F m) x l ∧ F x ∧ x ≠ wb := by
  obtain ⟨-, -, h3, h4, -, -, -, -, -, -, h11⟩ := h
  have hx : bs[bs.length - 1]? = some bs[bs.length - 1] := List.getElem?_eq_getElem (by omega)
  have hl : s.kept[s.kept.length - 1]? = some s.kept[s.kept.length - 1] := List.getElem?_eq_getElem (by omega)
  refine ⟨_, s.kept[s.kept.length - 1], by omega, by omega, hx, ?_, h4 _ _ _ hx (by rw [h3]; exact hl)⟩
  have hne : s.kept ≠ [] := fun e => by rw [e] at h11; simp at h11
  unfold rollbackS
  rw [List.getLastD_eq_getLast?, List.getLast?_eq_some_getLast hne, Option.getD_some, List.getLast_eq_getElem]
/-- Another map for the working copy. -/
theorem MemK.rolled (h : MemK w F m d a n s g c wb bs) (hB : Below w.heap.size w w3) (hp : PgM w3 (Row7 F m) nb l) (h1 : w.heap.size ≤ nb) (h2 : nb < w3.heap.size) :
    MemK (w3.setCell ⟨m, 5, none⟩ (.map (some nb))) (fun k => F k ∨ k = nb) m d a n { s with work := l } g c nb bs ∧ Turn F w (w3.setCell ⟨m, 5, none⟩ (.map (some nb))) := by
  have hlt := h.2.2.2.2.2.2.2.2.2.1
  have hF : F m := h.2.2.2.2.2.1
  have h3 := h.keep hB.size fun k hk => hB.block k (hlt k hk)
  obtain ⟨q1, q2, q3, q4, q5, q6, q7, q8, q9, q10, q11⟩ := h3
  have ot : ∀ k, k ≠ m → (w3.setCell ⟨m, 5, none⟩ (.map (some nb))).heap[k]? = w3.heap[k]? := fun k hk => Below.heap_setCell w3 ⟨m, 5, none⟩ _ k hk
  have hmb : ∀ {y : Nat} {l : List Pg}, PgM w3 (Row7 F m) y l → y ≠ m := fun hy => by
    obtain ⟨es, k, he⟩ := hy.block
    exact (cells_ne q1 he).symm
  refine ⟨⟨q1.work nb, q2.keepB (ot g q9), q3, fun i x l i1 i2 => ?_, ?_, .inl q6, .inr rfl, .inl q8, q9, fun k hk => ?_, q11⟩, ?_⟩
  · obtain ⟨p1, p2, p3⟩ := q4 i x l i1 i2
    exact ⟨p1.keep (by rw [size_set]; exact Nat.le_refl _) (ot x (hmb p1)) (fun k _ hk => ot k hk.2) (fun k _ hk => ⟨.inl hk.1, hk.2⟩), .inl p2, fun e => by have := hlt x p2; omega⟩
  · exact hp.keep (by rw [size_set]; exact Nat.le_refl _) (ot nb (hmb hp)) (fun k _ hk => ot k hk.2) fun k _ hk => ⟨.inl hk.1, hk.2⟩
  · rw [size_set]
    rcases hk with hk | rfl
    · exact q10 k hk
    · exact h2
  · refine ⟨hB.os, hB.tape, hB.output, by rw [size_set]; exact hB.size, fun k hk hf => ?_⟩
    rw [ot k fun e => hf (by rw [e]; exact hF)]
    exact hB.block k hk
set_option maxHeartbeats 1000000 in
theorem rollback7_c (h : ObjK w F m d a b z s) : Calls Tryz.prog 40 #[.pointer (some ⟨m, 0, none⟩)] w fun e w' => e = .returned (.tuple #[]) ∧ PSt ObjK w F m d a b z (.tuple #[]) (rollbackS s) w' := by
  obtain ⟨ha, hb, g, c, wb, bs, hm⟩ := h
  have HM := Lib.hid hm
  have HA := Lib.hid (show a + 32 ≤ b ∧ b ≤ 8192 from ⟨ha, hb⟩)
  obtain ⟨-, -, -, c3, c4, c5⟩ := hm.1.cells
  have HC := Lib.hid c5
  have z5 := Lib.hid (hm.1.thaw 5)
  obtain ⟨x, l, hl1, hl4, hx, hr, hpx, -, -⟩ := hm.last
  have NC := Lib.hid (fun w hk => newest_c (w := w) (g := g) (c := c) (bs := bs) hk s.last hl1 (by omega) hx)
  have R := Lib.hid hr
  have PX := Lib.hid hpx
  have KP := Lib.hid hm.2.1
  unfold hisV at NC
  clear hm hr hpx ha hb hl1 hl4 hx
  generalize bs.length = kn at *
  go_enter Tryz.func40, Tryz.ntmps40
  go_wp2_with fail
  refine (NC.out _ KP.out).mono ?_
  rintro e w2 ⟨rfl, hB⟩
  have B2 := Lib.hid hB
  have P2 := Lib.hid (PX.out.below hB)
  clear hB NC
  go_wp2_with fail
  refine (mclone_c P2.out).mono ?_
  rintro e w3 ⟨rfl, hp, hs, hB⟩
  have B3 := Lib.hid (below_then B2.out hB)
  obtain ⟨hfin, htn⟩ := HM.out.rolled B3.out hp B2.out.size (by rw [hs]; omega)
  have FN := Lib.hid hfin
  have TN := Lib.hid htn
  have NB := Lib.hid (show w.heap.size ≤ w2.heap.size ∧ w2.heap.size < w3.heap.size from ⟨B2.out.size, by rw [hs]; omega⟩)
  have d5 : w3.cell? ⟨m, 5, none⟩ = some (.map (some wb)) := by rw [B3.out.cell (p := ⟨m, 5, none⟩) HM.out.1.lt]; exact HC.out
  have zz : w3.frozen? ⟨m, 5, none⟩ = false := (HM.out.keep B3.out.size fun k hk => B3.out.block k (HM.out.2.2.2.2.2.2.2.2.2.1 k hk)).1.thaw 5
  clear hp hs hB hfin htn c3 c4 c5
  generalize w2.heap.size = nb at *
  go_wp2_with fail
  go_end0
  rw [R.out]
  refine ⟨rfl, _, ⟨HA.out.1, HA.out.2, g, c, nb, bs, FN.out⟩, fun k hk => ?_, (fun k hk => by cases hk), TN.out⟩
  rcases hk with hk | rfl
  · exact .inl hk
  · exact .inr ⟨NB.out.1, by rw [size_set]; exact NB.out.2⟩
theorem versions_range (n k : Int) (j : Nat) : (List.range (j + 1)).map (fun i : Nat => Value.int .i64 (n - k + 1 + (i : Int))) = (List.range j).map (fun i : Nat => Value.int .i64 (n - k + 1 + (i : Int))) ++ [Value.int .i64 (n - k + 1 + (j : Int))] := by
  rw [List.range_succ, List.map_append]
  rfl
set_option maxRecDepth 20000 in
set_option maxHeartbeats 4000000 in
theorem versions7_c (h : ObjK w F m d a b z s) (hl : s.last ≤ 1000000) : Calls Tryz.prog 23 #[.pointer (some ⟨m, 0, none⟩)] w fun e w' =>
    ∃ r, e = .returned r ∧ w'.ownsRow w.heap.size 3 1 r (versionsS s).length ((versionsS s).map (Value.int .i64)) ∧ PSt ObjK w F m d a b z r s w' := by
  have H := Lib.hid h
  obtain ⟨-, -, g, c, wb, bs, hm⟩ := h
  obtain ⟨-, -, -, c3, c4, -⟩ := hm.1.cells
  have hfew := hm.few.1
  have hbl := hm.2.2.1
  have hk4 : bs.length ≤ 4 := by have := hfew.2.1; omega
  have hkl : bs.length ≤ s.last + 1 := by have := hfew.2.2.1; omega
  have ML := Lib.hid hm.1.lt
  have hv : (versionsS s).length = bs.length ∧ (versionsS s).map (Value.int .i64) = (List.range bs.length).map (fun i : Nat => Value.int .i64 ((s.last : Int) - (bs.length : Nat) + 1 + (i : Int))) := by
    unfold versionsS
    rw [List.length_map, List.length_range, List.map_map, hbl]
    exact ⟨rfl, rfl⟩
  have V := Lib.hid hv
  have C3 := Lib.hid c3
  clear hm hfew hbl hv
  generalize bs.length = kn at *
  generalize s.last = ln at *
  have FC := Lib.hid (fun w => first_c w ln g kn c (by omega) (by omega))
  unfold hisV at FC
  have KL := Lib.hid (show kn ≤ 4 ∧ kn ≤ ln + 1 ∧ ln ≤ 1000000 from ⟨hk4, hkl, hl⟩)
  go_enter Tryz.func23, Tryz.ntmps23
  go_wp2_with fail
  refine (FC.out _).mono ?_
  rintro e w2 ⟨rfl, hB⟩
  have B2 := Lib.hid hB
  clear hB FC c3 c4
  obtain ⟨f0, ef⟩ : ∃ f0, (ln : Int) - kn + 1 = f0 := ⟨_, rfl⟩
  have EF := Lib.hid ef
  rw [ef]
  have hf0 : 0 ≤ f0 ∧ f0 ≤ 1000001 := by omega
  clear ef
  go_wp2_with fail
  go_loopw [3, 4] (fun ov iv wr => ∃ j : Nat, j ≤ kn ∧ iv = .int .i64 (f0 + (j : Int)) ∧ wr.ownsRow w.heap.size 3 1 ov j ((List.range j).map fun i : Nat => Value.int .i64 ((ln : Int) - kn + 1 + (i : Int))) ∧ Below w.heap.size w wr) (fun _ iv _ => kn - (intOf iv - f0).toNat)
  case atStart => exact ⟨0, Nat.zero_le _, by simp, World.ownsRow_nil _ _ _ _, B2.out⟩
  case round =>
    obtain ⟨j, hj, rfl, hO, hBr⟩ := hrel
    have OW := Lib.hid hO
    have BR := Lib.hid hBr
    have c3 : wr.cell? ⟨m, 3, none⟩ = some (.int .i64 (ln : Int)) := by rw [hBr.cell (p := ⟨m, 3, none⟩) ML.out]; exact C3.out
    have hfe := EF.out
    obtain ⟨q, eq⟩ : ∃ q, f0 + (j : Int) = q := ⟨_, rfl⟩
    have EQ := Lib.hid eq
    have hq : 0 ≤ q ∧ q ≤ 1000010 := by omega
    rw [eq]
    by_cases hjk : j < kn
    · have hle : q ≤ (ln : Int) := by omega
      have HJ := Lib.hid hjk
      clear hO hBr hfe eq hjk hj
      go_wp2_with (at_builtin; refine wp_appendG Tryz.underlying47 zero_i64 rfl (by omega) rfl _ _ rfl w.heap.size _ _ _ rfl (OW.out.alloc _) _ 1 [Value.int .i64 q] rfl (cel_one _ 3 rfl) (fun y hy => by rw [List.mem_singleton.1 hy]; rfl) (by have := HJ.out; have := KL.out; omega) (by omega) (by omega) (Nat.le_trans BR.out.size (World.grownBy_alloc _ _ none).size) ?_; intro v7 w7 hv hg hn; have O7 := Lib.hid hv; have B7 := Lib.hid (below_own7 (BR.out.alloc BR.out.size _) (Nat.le_trans BR.out.size (World.grownBy_alloc _ _ none).size) (OW.out.alloc _) hg); clear hv hg hn)
      go_roundw
      case rel =>
        refine ⟨j + 1, by have := HJ.out; omega, ?_, ?_, B7.out⟩
        · have := EQ.out
          congr 1
          omega
        · have hO7 := O7.out
          rw [versions_range, EF.out, EQ.out]
          rw [EF.out] at hO7
          exact hO7
      case measure =>
        have := EQ.out
        have := HJ.out
        simp only [intOf]
        omega
    · have hle : ¬ q ≤ (ln : Int) := by omega
      have hjk2 : j = kn := by omega
      subst hjk2
      clear hO hBr hfe eq hjk hj
      go_wp2_with fail
      go_ret
      rw [V.out.1, V.out.2]
      exact ⟨_, rfl, OW.out, H.out.still BR.out _⟩
end
end Go.Proofs.YtckomifecmemnaaGreat

/- Words and headers of the sectors of a store. -/
namespace Go.Proofs.YtckomifecmemnaaGreat
open Go.RowKit Dig
set_option linter.unusedVariables false

/-- Words as values. -/
def U64 (ws : List Nat) : List Value := ws.map fun n : Nat => Value.int .u64 (n : Int)
theorem be8_take (n j : Nat) (hj : j < 8) : (be8 n).take (j + 1) = (be8 n).take j ++ [oct (n / 256 ^ (7 - j) % 256)] := by
  rw [List.take_add_one]
  congr 1
  unfold be8
  rw [List.getElem?_map, List.getElem?_range hj]
  rfl
theorem beV_snoc (ts : List UInt8) (c : UInt8) : beV (ts ++ [c]) = beV ts * 256 + c.toNat := by
  unfold beV
  rw [List.foldl_append]
  rfl
theorem encW_take {ws : List Nat} {i n : Nat} (h : ws[i]? = some n) : encW (ws.take (i + 1)) = encW (ws.take i) ++ be8 n := by
  unfold encW
  rw [List.take_add_one, h, List.map_append, List.flatten_append]
  simp
theorem info_u64 : (Tryz.prog.info? 34).map (fun i => (i.zero, i.size, i.bytes)) = some (some (.int .u64 0), 1, 8) := by kernel_rfl
section
variable {w w' : World} {v : Value} {ws : List Nat} {ts body : List UInt8}
set_option maxRecDepth 20000 in
set_option maxHeartbeats 8000000 in
theorem encodeWords_c (h : Cel w v 1 ws.length (U64 ws)) (hw : ∀ x ∈ ws, x < 18446744073709551616) (hl : ws.length ≤ 8) : Calls Tryz.prog 84 #[v] w fun e w' => ∃ r, e = .returned r ∧ OwB w.heap.size w' r (encW ws) ∧ Below w.heap.size w w' := by
  have H := Lib.hid h
  have HW := Lib.hid hw
  have HL := Lib.hid hl
  obtain ⟨A, c, rfl⟩ := h.form
  obtain ⟨kn, ek⟩ : ∃ k, ws.length = k := ⟨_, rfl⟩
  have EK := Lib.hid ek
  rw [ek] at hl H ⊢
  clear h hw ek
  go_enter Tryz.func84, Tryz.ntmps84
  go_wp2_with fail
  go_loopw [3, 9] (fun ov iv wr => ∃ i : Nat, i ≤ kn ∧ iv = .int .i64 (i : Int) ∧ OwB w.heap.size wr ov (encW (ws.take i)) ∧ Below w.heap.size w wr) (fun _ iv _ => kn - (intOf iv).toNat)
  case atStart => exact ⟨0, Nat.zero_le _, rfl, OwB.nil _ _, Below.refl _ _⟩
  case round =>
    obtain ⟨i, hi, rfl, hO, hBr⟩ := hrel
    have OW := Lib.hid hO
    have BR := Lib.hid hBr
    by_cases hik : i < kn
    · have HI : (i : Int) < kn := by omega
      have HIK := Lib.hid hik
      obtain ⟨n, hn⟩ : ∃ n, ws[i]? = some n := ⟨ws[i]'(by rw [EK.out]; exact hik), List.getElem?_eq_getElem _⟩
      have hnw := HW.out n (List.mem_of_getElem? hn)
      have HN := Lib.hid hn
      obtain ⟨b, off, rfl, hb, hrg⟩ := (H.out.below hBr).range (by omega)
      have cn : wr.cell? ⟨b, off + i, none⟩ = some (.int .u64 (n : Int)) := hrg i _ (by unfold U64; rw [List.getElem?_map, hn]; rfl)
      have HNW := Lib.hid hnw
      have hnw2 : (n : Int) < 18446744073709551616 := by omega
      clear hO hBr hik hn hrg hb hi
      generalize wr = w4 at *
      go_wp2_with fail
      go_loopw [3, 13] (fun ov jv wr => ∃ j : Nat, j ≤ 8 ∧ jv = .int .i64 (j : Int) ∧ OwB w.heap.size wr ov (encW (ws.take i) ++ (be8 n).take j) ∧ Below w.heap.size w wr) (fun _ jv _ => 8 - (intOf jv).toNat)
      case atStart => exact ⟨0, Nat.zero_le _, rfl, by rw [List.take_zero, List.append_nil]; exact OW.out, BR.out⟩
      case round =>
        obtain ⟨j, hj, rfl, hO, hBr⟩ := hrel
        have OJ := Lib.hid hO
        have BJ := Lib.hid hBr
        have hlen : (encW (ws.take i) ++ (be8 n).take j).length ≤ 1000 := by
          have h1 := encW_length (ws.take i)
          have h2 : (ws.take i).length ≤ 8 := Nat.le_trans (List.length_take_le _ _) (by have := HIK.out; have := HL.out; omega)
          have h3 : ((be8 n).take j).length ≤ j := List.length_take_le _ _
          rw [List.length_append]
          omega
        have LJ := Lib.hid hlen
        clear hO hBr hlen cn
        rcases (by omega : j = 8 ∨ j = 0 ∨ j = 1 ∨ j = 2 ∨ j = 3 ∨ j = 4 ∨ j = 5 ∨ j = 6 ∨ j = 7) with rfl | rfl | rfl | rfl | rfl | rfl | rfl | rfl | rfl
        · clear hj
          go_wp2_with fail
          go_roundw
          case rel =>
            refine ⟨i + 1, by have := HIK.out; omega, by go_num, ?_, BJ.out⟩
            have h8 := OJ.out
            rw [show (be8 n).take 8 = be8 n from List.take_of_length_le (by rw [be8_length]; exact Nat.le_refl _)] at h8
            rw [encW_take HN.out]
            exact h8
          case measure => simp [intOf]; omega
        · clear hj
          have TK := Lib.hid (be8_take n 0 (by omega))
          go_wp2_with (at_builtin; refine wp_appendB rfl _ _ rfl w.heap.size _ _ rfl (OJ.out.alloc _) _ [oct (n / 256 ^ (7 - 0) % 256)] rfl (Byt.one _ _ _ (by rw [oct_toNat (Nat.mod_lt _ (by omega))]; simp only [Nat.reducePow, Nat.reduceSub]; omega)) (by have := LJ.out; simp only [List.length_append, List.length_singleton] at this ⊢; omega) (Nat.le_trans BJ.out.size (World.grownBy_alloc _ _ none).size) ?_; intro v5 w5 hv5 hg5; have O5 := Lib.hid hv5; have B5 := Lib.hid ((BJ.out.alloc BJ.out.size _).grown hg5 (Nat.le_trans BJ.out.size (World.grownBy_alloc _ _ none).size) (fun k hk => (OJ.out.block k hk).1)); clear hv5 hg5)
          go_roundw
          case rel =>
            refine ⟨1, by omega, by go_num, ?_, B5.out⟩
            have h5 := O5.out
            rw [List.append_assoc, ← TK.out] at h5
            exact h5
          case measure => simp [intOf]
        · clear hj
          have TK := Lib.hid (be8_take n 1 (by omega))
          go_wp2_with (at_builtin; refine wp_appendB rfl _ _ rfl w.heap.size _ _ rfl (OJ.out.alloc _) _ [oct (n / 256 ^ (7 - 1) % 256)] rfl (Byt.one _ _ _ (by rw [oct_toNat (Nat.mod_lt _ (by omega))]; simp only [Nat.reducePow, Nat.reduceSub]; omega)) (by have := LJ.out; simp only [List.length_append, List.length_singleton] at this ⊢; omega) (Nat.le_trans BJ.out.size (World.grownBy_alloc _ _ none).size) ?_; intro v5 w5 hv5 hg5; have O5 := Lib.hid hv5; have B5 := Lib.hid ((BJ.out.alloc BJ.out.size _).grown hg5 (Nat.le_trans BJ.out.size (World.grownBy_alloc _ _ none).size) (fun k hk => (OJ.out.block k hk).1)); clear hv5 hg5)
          go_roundw
          case rel =>
            refine ⟨2, by omega, by go_num, ?_, B5.out⟩
            have h5 := O5.out
            rw [List.append_assoc, ← TK.out] at h5
            exact h5
          case measure => simp [intOf]
        · clear hj
          have TK := Lib.hid (be8_take n 2 (by omega))
          go_wp2_with (at_builtin; refine wp_appendB rfl _ _ rfl w.heap.size _ _ rfl (OJ.out.alloc _) _ [oct (n / 256 ^ (7 - 2) % 256)] rfl (Byt.one _ _ _ (by rw [oct_toNat (Nat.mod_lt _ (by omega))]; simp only [Nat.reducePow, Nat.reduceSub]; omega)) (by have := LJ.out; simp only [List.length_append, List.length_singleton] at this ⊢; omega) (Nat.le_trans BJ.out.size (World.grownBy_alloc _ _ none).size) ?_; intro v5 w5 hv5 hg5; have O5 := Lib.hid hv5; have B5 := Lib.hid ((BJ.out.alloc BJ.out.size _).grown hg5 (Nat.le_trans BJ.out.size (World.grownBy_alloc _ _ none).size) (fun k hk => (OJ.out.block k hk).1)); clear hv5 hg5)
          go_roundw
          case rel =>
            refine ⟨3, by omega, by go_num, ?_, B5.out⟩
            have h5 := O5.out
            rw [List.append_assoc, ← TK.out] at h5
            exact h5
          case measure => simp [intOf]
        · clear hj
          have TK := Lib.hid (be8_take n 3 (by omega))
          go_wp2_with (at_builtin; refine wp_appendB rfl _ _ rfl w.heap.size _ _ rfl (OJ.out.alloc _) _ [oct (n / 256 ^ (7 - 3) % 256)] rfl (Byt.one _ _ _ (by rw [oct_toNat (Nat.mod_lt _ (by omega))]; simp only [Nat.reducePow, Nat.reduceSub]; omega)) (by have := LJ.out; simp only [List.length_append, List.length_singleton] at this ⊢; omega) (Nat.le_trans BJ.out.size (World.grownBy_alloc _ _ none).size) ?_; intro v5 w5 hv5 hg5; have O5 := Lib.hid hv5; have B5 := Lib.hid ((BJ.out.alloc BJ.out.size _).grown hg5 (Nat.le_trans BJ.out.size (World.grownBy_alloc _ _ none).size) (fun k hk => (OJ.out.block k hk).1)); clear hv5 hg5)
          go_roundw
          case rel =>
            refine ⟨4, by omega, by go_num, ?_, B5.out⟩
            have h5 := O5.out
            rw [List.append_assoc, ← TK.out] at h5
            exact h5
          case measure => simp [intOf]
        · clear hj
          have TK := Lib.hid (be8_take n 4 (by omega))
          go_wp2_with (at_builtin; refine wp_appendB rfl _ _ rfl w.heap.size _ _ rfl (OJ.out.alloc _) _ [oct (n / 256 ^ (7 - 4) % 256)] rfl (Byt.one _ _ _ (by rw [oct_toNat (Nat.mod_lt _ (by omega))]; simp only [Nat.reducePow, Nat.reduceSub]; omega)) (by have := LJ.out; simp only [List.length_append, List.length_singleton] at this ⊢; omega) (Nat.le_trans BJ.out.size (World.grownBy_alloc _ _ none).size) ?_; intro v5 w5 hv5 hg5; have O5 := Lib.hid hv5; have B5 := Lib.hid ((BJ.out.alloc BJ.out.size _).grown hg5 (Nat.le_trans BJ.out.size (World.grownBy_alloc _ _ none).size) (fun k hk => (OJ.out.block k hk).1)); clear hv5 hg5)
          go_roundw
          case rel =>
            refine ⟨5, by omega, by go_num, ?_, B5.out⟩
            have h5 := O5.out
            rw [List.append_assoc, ← TK.out] at h5
            exact h5
          case measure => simp [intOf]
        · clear hj
          have TK := Lib.hid (be8_take n 5 (by omega))
          go_wp2_with (at_builtin; refine wp_appendB rfl _ _ rfl w.heap.size _ _ rfl (OJ.out.alloc _) _ [oct (n / 256 ^ (7 - 5) % 256)] rfl (Byt.one _ _ _ (by rw [oct_toNat (Nat.mod_lt _ (by omega))]; simp only [Nat.reducePow, Nat.reduceSub]; omega)) (by have := LJ.out; simp only [List.length_append, List.length_singleton] at this ⊢; omega) (Nat.le_trans BJ.out.size (World.grownBy_alloc _ _ none).size) ?_; intro v5 w5 hv5 hg5; have O5 := Lib.hid hv5; have B5 := Lib.hid ((BJ.out.alloc BJ.out.size _).grown hg5 (Nat.le_trans BJ.out.size (World.grownBy_alloc _ _ none).size) (fun k hk => (OJ.out.block k hk).1)); clear hv5 hg5)
          go_roundw
          case rel =>
            refine ⟨6, by omega, by go_num, ?_, B5.out⟩
            have h5 := O5.out
            rw [List.append_assoc, ← TK.out] at h5
            exact h5
          case measure => simp [intOf]
        · clear hj
          have TK := Lib.hid (be8_take n 6 (by omega))
          go_wp2_with (at_builtin; refine wp_appendB rfl _ _ rfl w.heap.size _ _ rfl (OJ.out.alloc _) _ [oct (n / 256 ^ (7 - 6) % 256)] rfl (Byt.one _ _ _ (by rw [oct_toNat (Nat.mod_lt _ (by omega))]; simp only [Nat.reducePow, Nat.reduceSub]; omega)) (by have := LJ.out; simp only [List.length_append, List.length_singleton] at this ⊢; omega) (Nat.le_trans BJ.out.size (World.grownBy_alloc _ _ none).size) ?_; intro v5 w5 hv5 hg5; have O5 := Lib.hid hv5; have B5 := Lib.hid ((BJ.out.alloc BJ.out.size _).grown hg5 (Nat.le_trans BJ.out.size (World.grownBy_alloc _ _ none).size) (fun k hk => (OJ.out.block k hk).1)); clear hv5 hg5)
          go_roundw
          case rel =>
            refine ⟨7, by omega, by go_num, ?_, B5.out⟩
            have h5 := O5.out
            rw [List.append_assoc, ← TK.out] at h5
            exact h5
          case measure => simp [intOf]
        · clear hj
          have TK := Lib.hid (be8_take n 7 (by omega))
          go_wp2_with (at_builtin; refine wp_appendB rfl _ _ rfl w.heap.size _ _ rfl (OJ.out.alloc _) _ [oct (n / 256 ^ (7 - 7) % 256)] rfl (Byt.one _ _ _ (by rw [oct_toNat (Nat.mod_lt _ (by omega))]; simp only [Nat.reducePow, Nat.reduceSub]; omega)) (by have := LJ.out; simp only [List.length_append, List.length_singleton] at this ⊢; omega) (Nat.le_trans BJ.out.size (World.grownBy_alloc _ _ none).size) ?_; intro v5 w5 hv5 hg5; have O5 := Lib.hid hv5; have B5 := Lib.hid ((BJ.out.alloc BJ.out.size _).grown hg5 (Nat.le_trans BJ.out.size (World.grownBy_alloc _ _ none).size) (fun k hk => (OJ.out.block k hk).1)); clear hv5 hg5)
          go_roundw
          case rel =>
            refine ⟨8, by omega, by go_num, ?_, B5.out⟩
            have h5 := O5.out
            rw [List.append_assoc, ← TK.out] at h5
            exact h5
          case measure => simp [intOf]
    · have HI : ¬ (i : Int) < kn := by omega
      have hik2 : i = kn := by omega
      subst hik2
      clear hO hBr hik hi
      go_wp2_with fail
      go_ret
      refine ⟨_, rfl, ?_, BR.out⟩
      have h8 := OW.out
      rw [List.take_of_length_le (by rw [EK.out]; exact Nat.le_refl _)] at h8
      exact h8
set_option maxRecDepth 20000 in
set_option maxHeartbeats 4000000 in
theorem word_c {b off c : Nat} (h : Byt w (.slice (some ⟨b, off, none⟩) 64 c) ts) (hl : ts.length = 64) (i : Nat) (hi : i ≤ 7) : Calls Tryz.prog 81 #[.slice (some ⟨b, off, none⟩) 64 c, .int .i64 (i : Int)] w fun e w' => e = .returned (.int .u64 (wordS ts i : Int)) ∧ w = w' := by
  have hbd := h.bounds
  have hcs := h.cells (by omega)
  obtain ⟨b', off', e, -, hcell⟩ := hcs
  obtain ⟨rfl, rfl⟩ : b = b' ∧ off = off' := by simpa using e
  have HC := Lib.hid (fun j hj => hcell j (by rw [hl]; exact hj))
  have HL := Lib.hid hl
  have h64 := hbd.2.1
  have hmx : c ≤ 9223372036854775807 := hbd.2.2
  have HIL := Lib.hid hi
  have hii : (i : Int) ≤ 7 := by omega
  obtain ⟨q, hq⟩ : ∃ q, i * 8 = q := ⟨_, rfl⟩
  have hqi : (i : Int) * 8 = (q : Int) := by omega
  have hq56 : q ≤ 56 := by omega
  have HQ := Lib.hid (show q ≤ 56 from hq56)
  have hcq : 8 ≤ c - q := by omega
  have hqn : q ≤ 64 := by omega
  have hq64 : 8 ≤ 64 - q := by omega
  have WS : Hid (wordS ts i = beV ((ts.drop q).take 8)) := Lib.hid (by unfold wordS; rw [hq])
  clear h hl hbd hcell e hi hq
  go_enter Tryz.func81, Tryz.ntmps81
  go_wp2_with fail
  go_loopw [5, 14] (fun nv jv w4 => ∃ j : Nat, j ≤ 8 ∧ jv = .int .i64 (j : Int) ∧ nv = .int .u64 (beV ((ts.drop q).take j) : Int) ∧ w4 = w) (fun _ jv _ => 8 - (intOf jv).toNat)
  case atStart => exact ⟨0, Nat.zero_le _, rfl, rfl, rfl⟩
  case round =>
    obtain ⟨j, hj, rfl, rfl, rfl⟩ := hrel
    by_cases hj8 : j < 8
    · have HJ : (j : Int) < 8 := by omega
      have hcj := HC.out (q + j) (by have := HQ.out; omega)
      rw [← Nat.add_assoc] at hcj
      have hsn : (ts.drop q).take (j + 1) = (ts.drop q).take j ++ [ts.getD (q + j) 0] := by
        rw [List.take_add_one, List.getElem?_drop, List.getD_eq_getElem?_getD, List.getElem?_eq_getElem (by rw [HL.out]; have := HQ.out; omega)]
        rfl
      have hbv := beV_snoc ((ts.drop q).take j) (ts.getD (q + j) 0)
      rw [← hsn] at hbv
      have BV := Lib.hid hbv
      have hlt := beV_lt ((ts.drop q).take j)
      have hle : ((ts.drop q).take j).length ≤ 7 := Nat.le_trans (List.length_take_le _ _) (by omega)
      have hlt2 : beV ((ts.drop q).take j) < 256 ^ 7 := Nat.lt_of_lt_of_le hlt (Nat.pow_le_pow_right (by omega) hle)
      have hx := (ts.getD (q + j) 0).toNat_lt
      generalize (ts.getD (q + j) 0).toNat = x at *
      generalize beV ((ts.drop q).take j) = a at *
      have ha : a ≤ 72057594037927935 := by have : (256 : Nat) ^ 7 = 72057594037927936 := by decide
                                            omega
      have hai : (a : Int) * 256 ≤ 18446744073709551360 := by omega
      have hxi : (x : Int) ≤ 255 := by omega
      have hor : bits .or .u64 ((a : Int) * 256) (x : Int) = ((a * 256 + x : Nat) : Int) := by
        have h1 := u64_or_nat (a * 256) x (by omega) (by omega)
        rw [show ((a * 256 : Nat) : Int) = (a : Int) * 256 by omega] at h1
        rw [h1]
        congr 1
        have h2 := Nat.shiftLeft_add_eq_or_of_lt (i := 8) (b := x) (by omega) a
        rw [Nat.shiftLeft_eq] at h2
        rw [← h2]
      have HO := Lib.hid hor
      clear hlt hle hlt2 hsn hbv hx ha hj8
      go_wp2_with fail
      go_roundw
      case rel => exact ⟨j + 1, by omega, by go_num, by rw [BV.out, Int.natCast_add, Int.natCast_mul]; rfl, by trivial⟩
      case measure => simp [intOf]; omega
    · have HJ : ¬ (j : Int) < 8 := by omega
      have hj2 : j = 8 := by omega
      subst hj2
      clear hj hj8
      have e := WS.out
      go_wp2_with fail
      go_ret
      exact ⟨rfl, rfl⟩
set_option maxHeartbeats 1000000 in
theorem headerVersion_c {b off c : Nat} (h : Byt w (.slice (some ⟨b, off, none⟩) 64 c) ts) (hl : ts.length = 64) : Calls Tryz.prog 57 #[.slice (some ⟨b, off, none⟩) 64 c] w fun e w' => e = .returned (.int .i64 (hvS ts : Int)) ∧ w = w' := by
  have W0 := Lib.hid (word_c h hl 0 (by omega))
  have W7 := Lib.hid (word_c h hl 7 (by omega))
  have l0 := wordS_lt ts 0
  have l7 := wordS_lt ts 7
  have HV : Hid (hvS ts = if wordS ts 0 ≠ wordS ts 7 ∨ 2147483647 < wordS ts 0 then 0 else wordS ts 0) := Lib.hid rfl
  clear h hl
  generalize wordS ts 0 = x at *
  generalize wordS ts 7 = y at *
  by_cases hxy : x = y
  · subst hxy
    by_cases hbig : 2147483647 < x
    · have hbi : (x : Int) > 2147483647 := by omega
      have E := HV.out
      rw [if_pos (.inr hbig)] at E
      have E := Lib.hid E
      clear HV hbig
      go_enter Tryz.func57, Tryz.ntmps57
      go_wp2_with fail
      refine (W0.out).mono ?_
      rintro e w1 ⟨rfl, rfl⟩
      go_wp2_with fail
      refine (W7.out).mono ?_
      rintro e w1 ⟨rfl, rfl⟩
      go_wp2_with fail
      go_ret
      rw [E.out]
      exact ⟨rfl, rfl⟩
    · have hbi : ¬ (x : Int) > 2147483647 := by omega
      have E := HV.out
      rw [if_neg (by omega)] at E
      have E := Lib.hid E
      clear HV hbig
      go_enter Tryz.func57, Tryz.ntmps57
      go_wp2_with fail
      refine (W0.out).mono ?_
      rintro e w1 ⟨rfl, rfl⟩
      go_wp2_with fail
      refine (W7.out).mono ?_
      rintro e w1 ⟨rfl, rfl⟩
      go_wp2_with fail
      go_ret
      rw [E.out]
      exact ⟨rfl, rfl⟩
  · have hne : ((x : Int) == (y : Int)) = false := by rw [beq_eq_false_iff_ne]; omega
    have hnb : ((x : Int) != (y : Int)) = true := by simp [bne, hne]
    have E := HV.out
    rw [if_pos (.inl hxy)] at E
    have E := Lib.hid E
    clear HV hxy
    go_enter Tryz.func57, Tryz.ntmps57
    go_wp2_with fail
    refine (W0.out).mono ?_
    rintro e w1 ⟨rfl, rfl⟩
    go_wp2_with fail
    refine (W7.out).mono ?_
    rintro e w1 ⟨rfl, rfl⟩
    go_wp2_with fail
    go_ret
    rw [E.out]
    exact ⟨rfl, rfl⟩
end
end Go.Proofs.YtckomifecmemnaaGreat

/- Headers, the mark, and the numbers of sectors. -/
namespace Go.Proofs.YtckomifecmemnaaGreat
open Go.RowKit Dig
set_option linter.unusedVariables false

section
variable {w w' : World} {u : Value} {ts body : List UInt8}
theorem arr_put {g i : Nat} {cs : Array Value} {T : TypeId} {fr : Nat × Nat} (h : w.heap[g]? = some (.cells cs T fr)) (x : Value) : (w.setCell ⟨g, i, none⟩ x).heap[g]? = some (.cells (cs.setIfInBounds i x) T fr) := by
  simp [World.setCell, Array.getElem?_modify, h]
/-- A front part of a row. -/
theorem cel_front {g n c : Nat} {cs : Array Value} {T : TypeId} {vs : List Value} (h : w.heap[g]? = some (.cells cs T (0, 0))) (hv : cs.toList.take n = vs) (hn : vs.length = n) (hc : n ≤ c) (hm : c ≤ 1000000) : Cel w (.slice (some ⟨g, 0, none⟩) n c) 1 n vs := by
  refine ⟨by omega, some ⟨g, 0, none⟩, c, rfl, ⟨hc, fun e => by cases e⟩, by unfold maxLen; omega, fun hp => ⟨g, 0, rfl, lt_of_heap h, fun j y hj => ?_⟩⟩
  have hjl : j < n := by
    have := (List.getElem?_eq_some_iff.1 hj).1
    omega
  rw [Nat.zero_add, cell_of_row w g j _ _ (0, 0) h, ← hj, ← hv, List.getElem?_take, if_pos hjl, Array.getElem?_toList]
theorem below_put {g i B : Nat} {x : Value} (h : Below B w w') (hB : B ≤ g) : Below B w (w'.setCell ⟨g, i, none⟩ x) := h.setCell (p := ⟨g, i, none⟩) hB x
set_option maxRecDepth 20000 in
set_option maxHeartbeats 4000000 in
theorem header_c (h : Byt w u body) (hb : body.length ≤ 1000000000) (v size : Nat) (hv : v ≤ 2147483647) (hs : size ≤ 8192) : Calls Tryz.prog 69 #[.int .i64 (v : Int), .int .i64 (size : Int), u] w fun e w' => ∃ r, e = .returned r ∧ OwB w.heap.size w' r (hdrS v size body) ∧ Below w.heap.size w w' := by
  have H := Lib.hid h
  have HB := Lib.hid hb
  have HV := Lib.hid (show v ≤ 2147483647 ∧ size ≤ 8192 from ⟨hv, hs⟩)
  obtain ⟨A, c, rfl⟩ := h.form
  obtain ⟨bn, eb⟩ : ∃ k, body.length = k := ⟨_, rfl⟩
  have EB := Lib.hid eb
  rw [eb] at hb H ⊢
  have hvi : (v : Int) ≤ 2147483647 := by omega
  have hsi : (size : Int) ≤ 8192 := by omega
  have hbi : (bn : Int) ≤ 1000000000 := by omega
  clear h eb hb hv hs
  go_enter Tryz.func69, Tryz.ntmps69
  go_wp2_with fail
  obtain ⟨W1, eW⟩ : ∃ W, W = w.alloc (.cells #[.int .u64 (v : Int), .int .u64 (size : Int), .int .u64 (bn : Int), .int .u64 0, .int .u64 0, .int .u64 0, .int .u64 0, .int .u64 0] 120) := ⟨_, rfl⟩
  have hh1 : W1.heap[w.heap.size]? = some (.cells #[.int .u64 (v : Int), .int .u64 (size : Int), .int .u64 (bn : Int), .int .u64 0, .int .u64 0, .int .u64 0, .int .u64 0, .int .u64 0] 120 (0, 0)) := by rw [eW]; exact heap_alloc_new w _
  have hB1 : Below w.heap.size w W1 := by rw [eW]; exact (Below.refl _ _).alloc (Nat.le_refl _) _
  have hs1 : W1.heap.size = w.heap.size + 1 := by rw [eW]; exact World.size_alloc _ _
  rw [← eW]
  have C1 := Lib.hid (cel_front (n := 3) (c := 8) (vs := U64 [v, size, bn]) hh1 rfl rfl (by omega) (by omega))
  have HH1 := Lib.hid hh1
  have B1 := Lib.hid hB1
  have S1 := Lib.hid hs1
  clear eW hh1 hB1 hs1
  refine (encodeWords_c (ws := [v, size, bn]) C1.out (by have := HV.out; intro x hx; simp only [List.mem_cons, List.not_mem_nil, or_false] at hx; omega) (by simp)).mono ?_
  rintro e w2 ⟨r, rfl, hr, hB⟩
  have R2 := Lib.hid hr.byt
  have L2 := Lib.hid (show (encW [v, size, bn]).length ≤ 1000000000 by rw [encW_length]; simp)
  have B2 := Lib.hid hB
  clear hr hB C1
  go_wp2_with fail
  refine (crc_c R2.out L2.out).mono ?_
  rintro e w3 ⟨rfl, hB⟩
  have B3 := Lib.hid (below_then B2.out hB)
  have U3 := Lib.hid ((H.out.below B1.out).below (show Below W1.heap.size W1 w3 from B3.out))
  have EN := Lib.hid (show crcH v size body = crcX (crcN (encW [v, size, bn])) body by unfold crcH; rw [EB.out])
  have hcl := crcN_lt (encW [v, size, bn])
  generalize crcN (encW [v, size, bn]) = cr at *
  have CL := Lib.hid hcl
  have hxl := Lib.hid (crcX_lt body hcl)
  clear hB R2 L2 B2 hcl
  go_wp2_with fail
  refine (extend_c U3.out HB.out cr CL.out).mono ?_
  rintro e w4 ⟨rfl, hB⟩
  have B4 := Lib.hid (below_then B3.out hB)
  have hg : w.heap.size < W1.heap.size := by rw [S1.out]; omega
  have hh4 : w4.heap[w.heap.size]? = some (.cells #[.int .u64 (v : Int), .int .u64 (size : Int), .int .u64 (bn : Int), .int .u64 0, .int .u64 0, .int .u64 0, .int .u64 0, .int .u64 0] 120 (0, 0)) := by rw [B4.out.block _ hg]; exact HH1.out
  have hxl2 := hxl.out
  rw [← EN.out] at hxl2 ⊢
  obtain ⟨X, eX⟩ : ∃ X, crcH v size body = X := ⟨_, rfl⟩
  have EX := Lib.hid eX
  rw [eX] at hxl2 ⊢
  have hxi : (X : Int) < 4294967296 := by omega
  have hh5 := arr_put (i := 3) hh4 (.int .u64 (X : Int))
  have hh6 := arr_put (i := 7) hh5 (.int .u64 (v : Int))
  have HH6 := Lib.hid hh6
  have c3 : w4.cell? ⟨w.heap.size, 3, none⟩ = some (.int .u64 0) := by rw [cell_of_row w4 _ _ _ _ (0, 0) hh4]; rfl
  have z3 : w4.frozen? ⟨w.heap.size, 3, none⟩ = false := by simp [World.frozen?, hh4]
  have c7 : (w4.setCell ⟨w.heap.size, 3, none⟩ (.int .u64 (X : Int))).cell? ⟨w.heap.size, 7, none⟩ = some (.int .u64 0) := by rw [cell_of_row _ _ _ _ _ (0, 0) hh5]; rfl
  have z7 : (w4.setCell ⟨w.heap.size, 3, none⟩ (.int .u64 (X : Int))).frozen? ⟨w.heap.size, 7, none⟩ = false := by simp [World.frozen?, hh5]
  have BF := Lib.hid (below_put (i := 7) (x := .int .u64 (v : Int)) (below_put (i := 3) (x := .int .u64 (X : Int)) (B1.out.trans (B4.out.mono (by omega))) (Nat.le_refl _)) (Nat.le_refl _))
  clear hB B3 hg hh4 eX hxl2 hh5 hh6 U3 hxl CL EN B1 S1 B4
  go_wp2_with fail
  have C6 := cel_front (n := 8) (c := 8) (vs := U64 [v, size, bn, X, 0, 0, 0, v]) HH6.out rfl rfl (by omega) (by omega)
  have XL := Lib.hid (show X < 18446744073709551616 by omega)
  have S6 := Lib.hid BF.out.size
  refine (encodeWords_c (ws := [v, size, bn, X, 0, 0, 0, v]) C6 (by have := HV.out; have := XL.out; intro x hx; simp only [List.mem_cons, List.not_mem_nil, or_false] at hx; omega) (by simp)).mono ?_
  rintro e w7 ⟨r, rfl, hr, hB⟩
  have RF := Lib.hid (hr.mono S6.out)
  have BZ := Lib.hid (BF.out.trans (hB.mono S6.out))
  clear hr hB C6 c3 z3 c7 z7
  go_wp2_with fail
  go_ret
  refine ⟨_, rfl, ?_, BZ.out⟩
  have hr := RF.out
  unfold hdrS
  rw [EX.out, EB.out]
  exact hr
/-! ### The mark -/
set_option maxHeartbeats 1000000 in
theorem mark_c (w : World) : Calls Tryz.prog 56 #[] w fun e w' => ∃ r, e = .returned r ∧ OwB w.heap.size w' r markS ∧ Below w.heap.size w w' := by
  obtain ⟨i0, hi, hz0, hz1, hz2⟩ := info_parts info_byte
  go_enter Tryz.func56, Tryz.ntmps56
  go_wp2_with (first | (at_make; refine wp_makeB rfl _ _ rfl _ _ 48 rfl rfl (by omega) (by omega) (by omega) ?_; intro w1 hO1 hB1; have O1 := Lib.hid (show OwB w.heap.size w1 (.slice (some ⟨w.heap.size, 0, none⟩) 48 48) (List.replicate 48 0) from .inr ⟨w.heap.size, [], rfl, Nat.le_refl _, by unfold maxLen; simp, by rw [List.append_nil]; exact hO1⟩); have B1 := Lib.hid hB1; clear hO1 hB1) | (at_builtin; refine Lib.wpList_append_own_string _ rfl _ _ 33 9 rfl w.heap.size 5 i0 Tryz.underlying33 Tryz.underlying9 hi hz0 hz1 hz2 _ 48 (Y (List.replicate 48 0)) rfl O1.out.ownsRow ⟨#[99, 114, 101, 100, 101, 110, 99, 101, 32, 112, 97, 103, 101, 115, 32, 49]⟩ rfl (by unfold maxLen; decide) (by decide) B1.out.size ?_; intro v5 w5 hv5 hg5 hn5; have V5 := Lib.hid hv5; have B5 := Lib.hid (B1.out.grown hg5 B1.out.size (fun k hk => (O1.out.block k hk).1)); clear hv5 hg5 hn5))
  go_ret
  refine ⟨_, rfl, ?_, B5.out⟩
  have h5 := V5.out
  refine OwB.of_ownsRow (ts := markS) ?_
  exact h5
/-! ### Numbers -/
/-- A region as a value. -/
def regV (d a n : Nat) : Value := .agg #[.pointer (some ⟨d, 0, none⟩), .int .i64 (a : Int), .int .i64 (n : Int)]
theorem half_c (w : World) (d a n : Nat) (h1 : 32 ≤ n) (h2 : n ≤ 8192) : Calls Tryz.prog 67 #[regV d a n] w (RVal w (.int .i64 (halfS n : Int))) := by
  unfold regV
  have hq : Int.tdiv ((n : Int) - 3) 2 = ((halfS n : Nat) : Int) := by
    rw [Int.tdiv_eq_ediv_of_nonneg (by omega)]
    unfold halfS
    omega
  have hq2 : ((n : Int) - 3) / 2 = ((halfS n : Nat) : Int) := by
    unfold halfS
    omega
  go_enter Tryz.func67, Tryz.ntmps67
  go_wp2_with fail
  go_ret
  exact ⟨rfl, (Below.refl _ _).alloc (Nat.le_refl _) _⟩
theorem capacity_c (w : World) (d a n : Nat) (h1 : 32 ≤ n) (h2 : n ≤ 8192) : Calls Tryz.prog 35 #[regV d a n] w (RVal w (.int .i64 ((halfS n * 64 : Nat) : Int))) := by
  have HC := Lib.hid (fun w => half_c w d a n h1 h2)
  have hh : halfS n ≤ 4096 := by unfold halfS; omega
  have hhi : ((halfS n : Nat) : Int) ≤ 4096 := by omega
  unfold regV at HC ⊢
  generalize halfS n = hn at *
  go_enter Tryz.func35, Tryz.ntmps35
  go_wp2_with fail
  refine (HC.out _).mono ?_
  rintro e w2 ⟨rfl, hB⟩
  have B2 := Lib.hid (below_then ((Below.refl w.heap.size w).alloc (Nat.le_refl _) _) hB)
  clear hB HC
  go_wp2_with fail
  go_ret
  exact ⟨by first | rfl | (simp; omega), B2.out⟩
theorem headerSector_c (w : World) (d a n v : Nat) (hv : v ≤ 2147483647) : Calls Tryz.prog 59 #[regV d a n, .int .i64 (v : Int)] w (RVal w (.int .i64 ((1 + v % 2 : Nat) : Int))) := by
  have hq : Int.tmod (v : Int) 2 = ((v % 2 : Nat) : Int) := by rw [Int.tmod_eq_emod_of_nonneg (by omega)]; omega
  have hq2 : (v : Int) % 2 = ((v % 2 : Nat) : Int) := by omega
  have h2 : v % 2 ≤ 1 := by omega
  have hvi : (v : Int) ≤ 2147483647 := by omega
  generalize v % 2 = vq at *
  unfold regV
  go_enter Tryz.func59, Tryz.ntmps59
  go_wp2_with fail
  go_ret
  exact ⟨by first | rfl | (simp; omega), (Below.refl _ _).alloc (Nat.le_refl _) _⟩
theorem bodySector_c (w : World) (d a n v : Nat) (hv : v ≤ 2147483647) (h1 : 32 ≤ n) (h2 : n ≤ 8192) : Calls Tryz.prog 68 #[regV d a n, .int .i64 (v : Int)] w (RVal w (.int .i64 ((3 + v % 2 * halfS n : Nat) : Int))) := by
  have HC := Lib.hid (fun w => half_c w d a n h1 h2)
  have hh : halfS n ≤ 4096 := by unfold halfS; omega
  have hq : Int.tmod (v : Int) 2 = ((v % 2 : Nat) : Int) := by rw [Int.tmod_eq_emod_of_nonneg (by omega)]; omega
  have hq2 : (v : Int) % 2 = ((v % 2 : Nat) : Int) := by omega
  have h3 : v % 2 ≤ 1 := by omega
  have hvi : (v : Int) ≤ 2147483647 := by omega
  obtain ⟨p, ep⟩ : ∃ p, v % 2 * halfS n = p := ⟨_, rfl⟩
  have EP := Lib.hid ep
  have hp : p ≤ 4096 := by
    rcases (by omega : v % 2 = 0 ∨ v % 2 = 1) with h | h <;> rw [h] at ep <;> omega
  have hm : ((v % 2 : Nat) : Int) * ((halfS n : Nat) : Int) = (p : Int) := by rw [← ep, Int.natCast_mul]
  unfold regV at HC ⊢
  generalize halfS n = hn at *
  generalize v % 2 = vq at *
  rw [EP.out]
  clear ep
  go_enter Tryz.func68, Tryz.ntmps68
  go_wp2_with fail
  refine (HC.out _).mono ?_
  rintro e w2 ⟨rfl, hB⟩
  have B2 := Lib.hid (below_then ((Below.refl w.heap.size w).alloc (Nat.le_refl _) _) hB)
  clear hB HC
  go_wp2_with fail
  go_ret
  exact ⟨by first | rfl | (simp; omega), B2.out⟩
/-- A sector of the contents. -/
theorem psector_c (w : World) (b off m c k : Nat) (hk : k * 64 + 64 ≤ m) (hm : m ≤ c) (hc : m ≤ 100000000) : Calls Tryz.prog 58 #[.slice (some ⟨b, off, none⟩) m c, .int .i64 (k : Int)] w fun e w' => e = .returned (.slice (some ⟨b, off + k * 64, none⟩) 64 (c - k * 64)) ∧ w = w' := by
  have hki : (k : Int) ≤ 100000000 := by omega
  obtain ⟨q, hq⟩ : ∃ q, q = k * 64 := ⟨_, rfl⟩
  have hqi : (k : Int) * 64 = (q : Int) := by omega
  rw [← hq] at hk ⊢
  have hqm : q ≤ m := by omega
  have hq64 : 64 ≤ m - q := by omega
  clear hq
  go_enter Tryz.func58, Tryz.ntmps58
  go_wp2_with fail
  go_ret
  exact ⟨rfl, rfl⟩
end
end Go.Proofs.YtckomifecmemnaaGreat

/- Bodies of the landed package pagestore: what encodeVersions writes. -/
namespace Go.Proofs.YtckomifecmemnaaGreat
open Go.RowKit Dig
set_option linter.unusedVariables false
section
variable {w : World}
theorem run_appendX (base : Nat) (t ty e : TypeId) (i : TypeInfo) (z : Value) (size bytes : Nat) (ht : Tryz.prog.underlying t = some (.slice e)) (hi : Tryz.prog.info? e = some i) (hz : i.zero = some z)
    (hsize : i.size = size) (hby : i.bytes = bytes) (hzs : z.cells.size = size) (hsz : 0 < size)
    (v : Value) (n : Nat) (xs : List Value) (hown : w.ownsRow base e size v n xs)
    (a : Addr) (m c : Nat) (news : List Value) (hl : news.length = m * size) (hnews : ∀ j u, news[j]? = some u → w.cell? (a.add j) = some u) (h1 : ∀ u ∈ news, u.oneCell' = true)
    (h63 : n + m ≤ 100000000) (hbytes : (n + m) * bytes ≤ 140737488355328) (hm : 0 < m) (hbase : base ≤ w.heap.size) :
    ∃ v' w', (Builtin.append_ #[t, t] ty #[v, .slice (some a) m c]).run Tryz.prog w = .ok v' w' ∧ w'.ownsRow base e size v' (n + m) (xs ++ news) ∧ w.grownBy w' v.ownBlock ∧
      (v'.ownBlock = v.ownBlock ∨ ∃ b, v'.ownBlock = some b ∧ w.heap.size ≤ b) := by
  obtain ⟨v', w', hr, h2, h3, -⟩ := run_append_own (P := Tryz.prog) w base t ty e i z size bytes ht hi hz hsize hby hzs hsz v n xs hown a m c news hl hnews h1 (by unfold maxLen; omega) hbytes hbase
  refine ⟨v', w', hr, h2, h3, ?_⟩
  rcases hown.2 with ⟨rfl, rfl⟩ | ⟨g, cap, cur, rfl, hbg, hg, hnc, hcm, hcs, htake⟩
  · obtain rfl : xs = [] := List.eq_nil_of_length_eq_zero (by simpa using hown.1)
    obtain ⟨v2, w2, hr2, h4, -, h5⟩ := run_append_own (P := Tryz.prog) w w.heap.size t ty e i z size bytes ht hi hz hsize hby hzs hsz (.slice none 0 0) 0 [] (World.ownsRow_nil w _ e size) a m c news hl hnews h1 (by unfold maxLen; omega) hbytes (Nat.le_refl _)
    rw [hr] at hr2
    injection hr2 with e1 e2
    subst e1 e2
    rcases h4.2 with ⟨e3, _⟩ | ⟨g, cap, cur, rfl, hbg, _⟩
    · have := (h5.1 e3).2
      omega
    · exact .inr ⟨g, rfl, hbg⟩
  · by_cases hroom : n + m ≤ cap
    · obtain ⟨w2, hr2, -, -⟩ := run_append_fits (P := Tryz.prog) w base t ty e i size ht hi hsize g n cap xs hown a m c news hl hnews h1 hroom
      rw [hr] at hr2
      injection hr2 with e1 e2
      subst e1
      exact .inl rfl
    · have holds : ∀ j u, xs[j]? = some u → w.cell? ((⟨g, 0, none⟩ : Addr).add j) = some u := hown.cells (g := g) rfl
      have hr2 := run_append_grow (P := Tryz.prog) w t ty e i z ht hi hz ⟨g, 0, none⟩ n cap xs (by rw [hsize]; exact hown.1) holds a m c news (by rw [hsize]; exact hl) hnews (by omega) (by omega) (growslice_fits (by omega) (by rw [hby]; exact hbytes))
      rw [hr] at hr2
      injection hr2 with e1 e2
      subst e1
      exact .inr ⟨_, rfl, Nat.le_refl _⟩
/-- append(s, x...) of bytes, with where the row lies. -/
theorem wp_appendX {ops : Array Oper} {rest : List Oper} {o : Oper} {a : Act} {Q : Exit → Act → World → Prop} (hgd : o.guard = none) (s x : Operand) (ho : o.op = .call { callee := .builtin .append, args := #[s, x], argTypes := #[33, 33] })
    (base : Nat) (v : Value) (ts : List UInt8) (hs : a.eval s = v) (hown : OwB base w v ts) (u : Value) (us : List UInt8) (hx : a.eval x = u) (hr : Byt w u us) (hp : 0 < us.length)
    (hb : ts.length + us.length ≤ 100000000) (hbase : base ≤ w.heap.size)
    (h : ∀ v' w', OwB base w' v' (ts ++ us) → w.grownBy w' v.ownBlock → (v'.ownBlock = v.ownBlock ∨ ∃ b, v'.ownBlock = some b ∧ w.heap.size ≤ b) → wpList Tryz.prog ops Q rest (a.put o.dst v') w') :
    wpList Tryz.prog ops Q (o :: rest) a w := by
  obtain ⟨i0, hi, hz0, hz1, hz2⟩ := info_parts info_byte
  obtain ⟨A, c, rfl⟩ := hr.form
  obtain ⟨b, off, rfl, hlt, hcell⟩ := hr.cells hp
  have hnews : ∀ j y, (Y us)[j]? = some y → w.cell? ((⟨b, off, none⟩ : Addr).add j) = some y := by
    intro j y hj
    have hjl : j < us.length := by
      have := (List.getElem?_eq_some_iff.1 hj).1
      rwa [Y_length] at this
    have e : (⟨b, off, none⟩ : Addr).add j = ⟨b, off + j, none⟩ := by unfold Addr.add; split <;> simp_all
    rw [e, hcell j hjl, ← hj, Y_get us j hjl]
  refine wpList_plain hgd fun K hK => ?_
  obtain ⟨v', w', hrun, h2, h3, h4⟩ := run_appendX (w := w) base 33 o.type 5 i0 (.int .u8 0) 1 1 Tryz.underlying33 hi hz0 hz1 hz2 rfl (by omega) v ts.length (Y ts) hown.ownsRow ⟨b, off, none⟩ us.length c (Y us) (by rw [Y_length, Nat.mul_one]) hnews (Y_oneCell us) hb (by omega) hp hbase
  unfold Oper.wp execOp
  simp only [ho, resolve, invoke, builtin, Sem.run_bind, Sem.run_pure, Result.andThen_ok, List.map_toArray, List.map_cons, List.map_nil, hs, hx, hrun]
  refine hK _ _ (h v' w' (OwB.of_ownsRow (ts := ts ++ us) ?_) h3 h4)
  rw [List.length_append, Y_append]
  exact h2
end
section
variable {w w' : World} {ops : Array Oper} {rest : List Oper} {o : Oper} {a : Act} {Q : Exit → Act → World → Prop} {G : Nat → Prop} {b no : Nat} {l : List Pg} {x : List UInt8}
/-- 'p[no]' of a page that is there. -/
theorem PgM.get (h : PgM w G b l) (hm : (no, x) ∈ l) : ∃ v, (Instr.lookup 70 (.map (some b)) (.int .i64 (no : Int)) false).run Tryz.prog w = .ok v w ∧ Byt w v x := by
  obtain ⟨h1, h2, D, n, ho, hp⟩ := h
  have hno : no < 256 := (h2 _ hm).1
  obtain ⟨v, ps, hrun, hv⟩ := ho.lookup (t := 70) pg_key Tryz.underlying70 (z := .slice none 0 0) (by kernel_rfl) (zd := .held (.slice none 0 0)) (zp := []) rfl (pg_of (k := no) (by omega))
  obtain ⟨_, v', hat, hb, _⟩ := hp.2 _ hm
  have e : v = v' := by
    have h3 : heldR v = some (D.atKey (kI no) (.held (.slice none 0 0)), ps) := hv
    rw [hat] at h3
    have h4 : v = v' ∧ ps = [] := by simpa [heldR] using h3
    exact h4.1
  rw [e] at hrun
  exact ⟨v', hrun, hb⟩
theorem wp_getP (hg : o.guard = none) (m y : Operand) (hop : o.op = Op.lookup 70 m y false) (hm : a.eval m = .map (some b)) (hx : a.eval y = .int .i64 (no : Int)) (h : PgM w G b l) (hl : (no, x) ∈ l)
    (hK : ∀ v, Byt w v x → wpList Tryz.prog ops Q rest (a.put o.dst v) w) : wpList Tryz.prog ops Q (o :: rest) a w := by
  refine wpList_plain hg fun K' hK' => ?_
  obtain ⟨v, hrun, hv⟩ := h.get hl
  unfold Oper.wp
  simp [execOp, hop, hm, hx, hrun, Result.andThen]
  exact hK' _ _ (hK v hv)
end
theorem encK_take {K : List (List Pg)} {i : Nat} {l : List Pg} (h : K[i]? = some l) : encK (K.take (i + 1)) = encK (K.take i) ++ encV l := by
  unfold encK
  rw [List.take_add_one, h, List.map_append, List.flatten_append]
  simp
theorem encPs_take {l : List Pg} {j : Nat} {p : Pg} (h : l[j]? = some p) : ((l.take (j + 1)).map encP).flatten = ((l.take j).map encP).flatten ++ encP p := by
  rw [List.take_add_one, h, List.map_append, List.flatten_append]
  simp
theorem encPs_le {l : List Pg} (h : ∀ p ∈ l, okPg p) (hl : l.length ≤ 256) (j : Nat) : ((l.take j).map encP).flatten.length ≤ 278528 := by
  have h1 := encPs_length (l.take j) fun p hp => h p (List.mem_of_mem_take hp)
  have h2 := listNeed_le (l.take j) fun p hp => h p (List.mem_of_mem_take hp)
  have h3 : (l.take j).length ≤ 256 := Nat.le_trans (List.length_take_le' _ _) hl
  omega
theorem encK_le {K : List (List Pg)} (h : ∀ l ∈ K, ∀ p ∈ l, okPg p) (hl : ∀ l ∈ K, l.length ≤ 256) (hk : K.length ≤ 4) (i : Nat) : (encK (K.take i)).length ≤ 1114624 := by
  have h1 := encK_length (K.take i) (fun l hq => h l (List.mem_of_mem_take hq)) fun l hq => Nat.le_trans (hl l (List.mem_of_mem_take hq)) (by omega)
  have h2 := needK_le (K.take i) (fun l hq => h l (List.mem_of_mem_take hq)) fun l hq => hl l (List.mem_of_mem_take hq)
  have h3 : (K.take i).length ≤ 4 := Nat.le_trans (List.length_take_le' _ _) hk
  omega
section
variable {w w' wr : World} {v : Value} {bs : List Nat} {K : List (List Pg)} {G : Nat → Prop}
set_option maxRecDepth 20000 in
set_option maxHeartbeats 8000000 in
theorem encodeVersions_c (h : Cel w v 1 bs.length (bs.map fun b => Value.map (some b))) (hp : ∀ (i x : Nat) (l : List Pg), bs[i]? = some x → K[i]? = some l → PgM w G x l) (hk : bs.length = K.length) (h4 : K.length ≤ 4) :
    Calls Tryz.prog 34 #[v] w fun e w' => ∃ r, e = .returned r ∧ OwB w.heap.size w' r (encK K) ∧ Below w.heap.size w w' := by
  have H := Lib.hid h
  have HP := Lib.hid hp
  have HK := Lib.hid hk
  have H4 := Lib.hid h4
  have hok : ∀ l ∈ K, Srt l ∧ ∀ p ∈ l, okPg p := fun l hl => by
    obtain ⟨i, hi, rfl⟩ := List.mem_iff_getElem.1 hl
    have q := hp i bs[i] K[i] (List.getElem?_eq_getElem (by omega)) (List.getElem?_eq_getElem hi)
    exact ⟨q.1, q.2.1⟩
  have HLE := Lib.hid (fun i => encK_le (fun l hl => (hok l hl).2) (fun l hl => (hok l hl).1.few (hok l hl).2) h4 i)
  obtain ⟨A, c, rfl⟩ := h.form
  obtain ⟨kn, ek⟩ : ∃ k, bs.length = k := ⟨_, rfl⟩
  have EK := Lib.hid ek
  rw [ek] at H ⊢
  have hk4 : kn ≤ 4 := by omega
  clear h hp hk h4 ek hok
  go_enter Tryz.func34, Tryz.ntmps34
  go_wp2_with fail
  go_loopw [3, 10] (fun ov iv wr => ∃ i : Nat, i ≤ kn ∧ iv = .int .i64 (i : Int) ∧ OwB w.heap.size wr ov (encK (K.take i)) ∧ Below w.heap.size w wr) (fun _ iv _ => kn - (intOf iv).toNat)
  case atStart => exact ⟨0, Nat.zero_le _, rfl, OwB.nil _ _, Below.refl _ _⟩
  case round =>
    obtain ⟨i, hi, rfl, hO, hBr⟩ := hrel
    have OW := Lib.hid hO
    have BR := Lib.hid hBr
    by_cases hik : i < kn
    · have HI : (i : Int) < kn := by omega
      have HIK := Lib.hid hik
      obtain ⟨x, hx⟩ : ∃ x, bs[i]? = some x := ⟨bs[i]'(by rw [EK.out]; exact hik), List.getElem?_eq_getElem _⟩
      obtain ⟨l, hl⟩ : ∃ l, K[i]? = some l := ⟨K[i]'(by rw [← HK.out, EK.out]; exact hik), List.getElem?_eq_getElem _⟩
      have HL := Lib.hid hl
      have HP0 := Lib.hid (HP.out i x l hx hl)
      have M1 := Lib.hid (HP0.out.below hBr)
      have hfew := M1.out.1.few M1.out.2.1
      have LF := Lib.hid hfew
      have hli : (l.length : Int) ≤ 256 := by omega
      obtain ⟨b, off, rfl, hb, hrg⟩ := (H.out.below hBr).range (by omega)
      have cx : wr.cell? ⟨b, off + i, none⟩ = some (.map (some x)) := hrg i _ (by rw [List.getElem?_map, hx]; rfl)
      have LK := Lib.hid (HLE.out i)
      have LP := Lib.hid (fun j => encPs_le M1.out.2.1 hfew j)
      clear hO hBr hik hx hl hrg hb hi hfew
      generalize wr = w4 at *
      go_wp2_with (at_len; refine wp_lenP rfl _ rfl rfl M1.out ?_)
      refine (encUint_c _ l.length (by have := LF.out; omega)).mono ?_
      rintro e w5 ⟨r, rfl, hr, hB5⟩
      have R5 := Lib.hid hr
      have O5 := Lib.hid (OW.out.below hB5 (Nat.le_refl _))
      have B5 := Lib.hid (BR.out.trans (hB5.mono BR.out.size))
      clear hr hB5 cx OW BR M1
      go_wp2_with (at_builtin; refine wp_appendX rfl _ _ rfl w.heap.size _ _ rfl O5.out _ _ rfl R5.out.byt (encU_pos _) (by have := LK.out; have := encU_two (n := l.length) (by have := LF.out; omega); omega) B5.out.size ?_; intro v6 w6 hv6 hg6 hn6; have O6 := Lib.hid hv6; have B6 := Lib.hid (B5.out.grown hg6 B5.out.size (fun k hk => (O5.out.block k hk).1)); clear hv6 hg6 hn6)
      clear O5 B5 R5
      have M6 := Lib.hid (HP0.out.below B6.out)
      refine (numbers_c M6.out).mono ?_
      rintro e w7 ⟨nv, rfl, hnr, hB7⟩
      have CN := Lib.hid (own_cel hnr)
      have O7 := Lib.hid (O6.out.below hB7 (Nat.le_refl _))
      have B7 := Lib.hid (B6.out.trans (hB7.mono B6.out.size))
      have NB := Lib.hid (show ∀ k, nv.ownBlock = some k → v6.ownBlock ≠ some k ∧ k < w7.heap.size from fun k hk => ⟨fun e => by
        have h1 := (O6.out.block k e).2
        rcases hnr.2 with ⟨rfl, _⟩ | ⟨g, _, _, rfl, hb, _⟩
        · cases hk
        · obtain rfl : g = k := by simpa [Value.ownBlock] using hk
          omega, by
        rcases hnr.2 with ⟨rfl, _⟩ | ⟨g, _, _, rfl, hb, hh, _⟩
        · cases hk
        · obtain rfl : g = k := by simpa [Value.ownBlock] using hk
          exact lt_of_heap hh⟩)
      obtain ⟨An, cn, rfl⟩ := CN.out.form
      clear hnr hB7 O6 B6 M6
      obtain ⟨ln, eln⟩ : ∃ n, l.length = n := ⟨_, rfl⟩
      have ELN := Lib.hid eln
      rw [eln] at hli CN NB ⊢
      clear eln
      go_wp2_with fail
      go_loopw [3, 23] (fun ov jv wr => ∃ j : Nat, j ≤ ln ∧ jv = .int .i64 (j : Int) ∧ OwB w.heap.size wr ov (encK (K.take i) ++ encU l.length ++ ((l.take j).map encP).flatten) ∧ Below w.heap.size w wr ∧ Cel wr (.slice An ln cn) 1 ln ((nosI l).map (Value.int .i64)) ∧ (∀ k, (Value.slice An ln cn).ownBlock = some k → ov.ownBlock ≠ some k ∧ k < wr.heap.size)) (fun _ jv _ => ln - (intOf jv).toNat)
      case atStart => exact ⟨0, Nat.zero_le _, rfl, by rw [List.take_zero, List.map_nil, List.flatten_nil, List.append_nil]; exact O7.out, B7.out, CN.out, NB.out⟩
      case round =>
        clear CN NB O7 B7
        obtain ⟨j, hj, rfl, hO, hBr, hC, hN⟩ := hrel
        have OJ := Lib.hid hO
        have BJ := Lib.hid hBr
        have CJ := Lib.hid hC
        have NJ := Lib.hid hN
        generalize wr = w8 at *
        by_cases hjn : j < ln
        · have HJ : (j : Int) < ln := by omega
          have HJN := Lib.hid hjn
          obtain ⟨p, hpj⟩ : ∃ p, l[j]? = some p := ⟨l[j]'(by rw [ELN.out]; exact hjn), List.getElem?_eq_getElem _⟩
          have PJ := Lib.hid hpj
          have PM := Lib.hid (List.mem_of_getElem? hpj)
          have POK := Lib.hid (HP0.out.2.1 p PM.out)
          obtain ⟨nb, no, e1, hnb, hrg⟩ := hC.range (by omega)
          subst e1
          have cp : w8.cell? ⟨nb, no + j, none⟩ = some (.int .i64 (p.1 : Int)) := hrg j _ (by unfold nosI; rw [List.getElem?_map, List.getElem?_map, hpj]; rfl)
          have hp1 : (p.1 : Int) < 256 := by have := POK.out.1; omega
          have hlen := LP.out j
          have hkl := LK.out
          have hul := encU_two (n := l.length) (by have := LF.out; omega)
          have LEN := Lib.hid (show (encK (K.take i) ++ encU l.length ++ ((l.take j).map encP).flatten).length ≤ 1400000 by rw [List.length_append, List.length_append]; omega)
          have U1 := Lib.hid (encU_two (n := p.1) (by have := POK.out.1; omega))
          have U2 := Lib.hid (show (encB p.2).length ≤ 1026 by have h1 := encU_two (n := p.2.length) POK.out.2; have := POK.out.2; unfold encB; rw [List.length_append]; omega)
          have U3 := Lib.hid (show 0 < (encB p.2).length by have h1 := encU_pos p.2.length; unfold encB; rw [List.length_append]; omega)
          have PU := Lib.hid (Nat.le_trans POK.out.2 (show 1024 ≤ 1000000000 by omega))
          have TK := Lib.hid (encPs_take hpj)
          clear hO hBr hC hN hjn hpj hrg hnb hlen hkl hul hj
          obtain ⟨p1, p2⟩ := p
          simp only at cp hp1
          go_wp2_with fail
          refine (encUint_c _ p1 (by omega)).mono ?_
          rintro e w9 ⟨r, rfl, hr, hB9⟩
          have R9 := Lib.hid hr
          have O9 := Lib.hid (OJ.out.below hB9 (Nat.le_refl _))
          have B9 := Lib.hid (BJ.out.trans (hB9.mono BJ.out.size))
          have C9 := Lib.hid (CJ.out.below hB9)
          have N9 := Lib.hid (fun k hk => (⟨(NJ.out k hk).1, Nat.lt_of_lt_of_le (NJ.out k hk).2 hB9.size⟩ : _ ∧ k < w9.heap.size))
          clear hr hB9 cp OJ BJ CJ NJ
          go_wp2_with (first | (at_builtin; have _t := R9; refine wp_appendX rfl _ _ rfl w.heap.size _ _ rfl O9.out _ _ rfl R9.out.byt (encU_pos _) (by have := LEN.out; have := U1.out; omega) B9.out.size ?_; intro v10 w10 hv10 hg10 hn10; have O10 := Lib.hid hv10; have B10 := Lib.hid (B9.out.grown hg10 B9.out.size (fun k hk => (O9.out.block k hk).1)); have C10 := Lib.hid (C9.out.grown hg10 (fun k hk => (N9.out k hk).1)); have N10 := Lib.hid (fun k hk => (⟨by
              rcases hn10 with e | ⟨q, e, hq⟩
              · rw [e]; exact (N9.out k hk).1
              · rw [e]; intro e2; injection e2 with e2; have := (N9.out k hk).2; omega, Nat.lt_of_lt_of_le (N9.out k hk).2 hg10.size⟩ : v10.ownBlock ≠ some k ∧ k < w10.heap.size)); clear hv10 hg10 hn10 R9; have M10 := Lib.hid (HP0.out.below B10.out)) | (at_lookup; refine wp_getP rfl _ _ rfl rfl rfl M10.out PM.out ?_; intro v11 hv11; have V11 := Lib.hid hv11; clear hv11))
          clear O9 B9 C9 N9
          refine (encBytes_c V11.out PU.out).mono ?_
          rintro e w12 ⟨r, rfl, hr, hB12⟩
          have R12 := Lib.hid hr
          have O12 := Lib.hid (O10.out.below hB12 (Nat.le_refl _))
          have B12 := Lib.hid (B10.out.trans (hB12.mono B10.out.size))
          have C12 := Lib.hid (C10.out.below hB12)
          have N12 := Lib.hid (fun k hk => (⟨(N10.out k hk).1, Nat.lt_of_lt_of_le (N10.out k hk).2 hB12.size⟩ : _ ∧ k < w12.heap.size))
          clear hr hB12 O10 B10 C10 N10 V11 M10
          go_wp2_with (at_builtin; refine wp_appendX rfl _ _ rfl w.heap.size _ _ rfl O12.out _ _ rfl R12.out.byt U3.out (by have := LEN.out; have := U1.out; have := U2.out; simp only [List.length_append] at *; omega) B12.out.size ?_; intro v13 w13 hv13 hg13 hn13; have O13 := Lib.hid hv13; have B13 := Lib.hid (B12.out.grown hg13 B12.out.size (fun k hk => (O12.out.block k hk).1)); have C13 := Lib.hid (C12.out.grown hg13 (fun k hk => (N12.out k hk).1)); have N13 := Lib.hid (fun k hk => (⟨by
              rcases hn13 with e | ⟨q, e, hq⟩
              · rw [e]; exact (N12.out k hk).1
              · rw [e]; intro e2; injection e2 with e2; have := (N12.out k hk).2; omega, Nat.lt_of_lt_of_le (N12.out k hk).2 hg13.size⟩ : v13.ownBlock ≠ some k ∧ k < w13.heap.size)); clear hv13 hg13 hn13)
          go_roundw
          case rel =>
            refine ⟨j + 1, by have := HJN.out; omega, by go_num, ?_, B13.out, C13.out, N13.out⟩
            have h := O13.out
            rw [TK.out]
            unfold encP
            simp only [List.append_assoc] at h ⊢
            exact h
          case measure => have := HJN.out; simp only [intOf]; omega
        · have HJ : ¬ (j : Int) < ln := by omega
          have hj2 : j = ln := by omega
          subst hj2
          clear hO hBr hC hN hjn hj
          go_wp2_with fail
          go_roundw
          case rel =>
            refine ⟨i + 1, by have := HIK.out; omega, by go_num, ?_, BJ.out⟩
            have h := OJ.out
            rw [show l.take j = l from List.take_of_length_le (by rw [ELN.out]; exact Nat.le_refl _)] at h
            rw [encK_take HL.out]
            unfold encV
            rw [← List.append_assoc]
            exact h
          case measure => have := HIK.out; simp only [intOf]; omega
    · have HI : ¬ (i : Int) < kn := by omega
      have hik2 : i = kn := by omega
      subst hik2
      clear hO hBr hik hi
      go_wp2_with fail
      go_ret
      refine ⟨_, rfl, ?_, BR.out⟩
      have h8 := OW.out
      rw [List.take_of_length_le (by rw [← HK.out, EK.out]; exact Nat.le_refl _)] at h8
      exact h8
end
end Go.Proofs.YtckomifecmemnaaGreat

/- Bodies of the landed package pagestore: what decodeVersions reads. -/
namespace Go.Proofs.YtckomifecmemnaaGreat
open Go.RowKit Dig Go.ChangeMaps Go.MapKept
set_option linter.unusedVariables false

theorem withS_snoc {l : List Pg} {j : Nat} {p : Pg} (h : Srt l) (hp : l[j]? = some p) : withS (l.take j) p.1 p.2 = l.take (j + 1) := by
  have hs : Srt (l.take (j + 1)) := List.Pairwise.sublist (List.take_sublist _ _) h
  have e : l.take (j + 1) = l.take j ++ [p] := by rw [List.take_add_one, hp]; rfl
  rw [e] at hs ⊢
  unfold Srt at hs
  rw [List.pairwise_append] at hs
  have hlt : ∀ q ∈ l.take j, q.1 < p.1 := fun q hq => hs.2.2 q hq p (List.mem_singleton.2 rfl)
  rw [withS_ins hs.1]
  unfold insP
  rw [List.filter_eq_self.2 fun q hq => by simpa using hlt q hq, List.filter_eq_nil_iff.2 fun q hq => by have := hlt q hq; simp; omega]
section
variable {w w' w2 wr : World} {G G' : Nat → Prop} {g b nb no x : Nat} {l : List Pg} {s : RS} {v : Value} {ts : List UInt8} {K : List (List Pg)} {bs : List Nat}
/-- A map of pages beside a reader. -/
theorem PgM.reader (h : PgM w G b l) (hr : Rdr 139 w g s) (hg : w.grownBy w' (some g)) : PgM w' G b l := by
  obtain ⟨es, c, he⟩ := h.block
  have hne : g ≠ b := by
    obtain ⟨⟨A, n, c, hh, _⟩, _⟩ := hr
    exact cells_ne hh he
  obtain ⟨h1, h2, D, n, ⟨es, clock, hh, F, hs, hD⟩, h4⟩ := h
  refine ⟨h1, h2, D, n, ⟨es, clock, by rw [hg.block b (lt_of_heap hh) (by simpa using hne.symm)]; exact hh, F, hs, hD⟩, h4.1, fun p hp => ?_⟩
  obtain ⟨q1, v, q2, q3, q4⟩ := h4.2 p hp
  exact ⟨q1, v, q2, q3.beside hr hg, q4⟩
/-- A page is put into a map of the call's own. -/
theorem wp_storeP {ops : Array Oper} {rest : List Oper} {o : Oper} {a : Act} {Q : Exit → Act → World → Prop} (hg : o.guard = none) (m y z : Operand) (hop : o.op = Op.mapUpdate 70 m y z) (hm : a.eval m = .map (some b)) (hx : a.eval y = .int .i64 (no : Int)) (hz : a.eval z = v) (h : PgM w G b l) (hno : no < 256)
    (hv : Byt w v ts) (ht : ts.length ≤ 1024) (hG : 0 < ts.length → ∀ k, v.ownBlock = some k → G k)
    (hK : ∀ w', PgM w' G b (withS l no ts) → w.mapTurned w' b → wpList Tryz.prog ops Q rest (a.put o.dst undef) w') : wpList Tryz.prog ops Q (o :: rest) a w := by
  refine wpList_plain hg fun K' hK' => ?_
  obtain ⟨w', hrun, r1, r2⟩ := h.store hno hv ht hG
  unfold Oper.wp
  simp [execOp, hop, hm, hx, hz, hrun, Result.andThen]
  exact hK' _ _ (hK w' r1 r2)
theorem Rdr.turned (h : Rdr 139 w g s) {es : Array MapEntry} {c : Nat} (hb : w.heap[b]? = some (.map es c)) (ht : w.mapTurned w' b) : Rdr 139 w' g s := by
  obtain ⟨⟨A, n, c, hh, hy⟩, hok⟩ := h
  refine ⟨⟨A, n, c, by rw [turned_stay ht (cells_ne hh hb)]; exact hh, byt_stay hy (by rw [turned_size ht]; exact Nat.le_refl _) fun hp k hk e => turned_stay ht fun e2 => byt_row hy hp hb (by rw [e, e2])⟩, hok⟩
/-- A row of the reader's own is replaced, a map of the call's own turns: what lay before stays. -/
theorem grown_turned (h : w.grownBy w2 (some g)) (hB : w.heap.size ≤ b) (ht : w2.mapTurned w' b) : w.grownBy w' (some g) := by
  have hg := ht.grown
  exact ⟨hg.os.trans h.os, hg.tape.trans h.tape, hg.output.trans h.output, Nat.le_trans h.size hg.size, fun k hk hne => (turned_stay ht (by omega)).trans (h.block k hk hne)⟩
set_option maxRecDepth 20000 in
set_option maxHeartbeats 8000000 in
theorem decodePages_c (rest : List UInt8) (h : Rdr 139 w g (encV l ++ rest, 0)) (hs : Srt l) (ho : ∀ p ∈ l, okPg p) (hl : (encV l ++ rest).length ≤ 100000000) :
    Calls Tryz.prog 94 #[.pointer (some ⟨g, 0, none⟩)] w fun e w' => ∃ nb, e = .returned (.map (some nb)) ∧ w.heap.size ≤ nb ∧ PgM w' (fun k => w.heap.size ≤ k) nb l ∧ Rdr 139 w' g (rest, 0) ∧ w.grownBy w' (some g) := by
  have H := Lib.hid h
  have SO := Lib.hid (show Srt l ∧ (∀ p ∈ l, okPg p) ∧ l.length ≤ 256 from ⟨hs, ho, hs.few ho⟩)
  have HL := Lib.hid hl
  clear h hs ho hl
  go_enter Tryz.func94, Tryz.ntmps94
  go_wp2_with fail
  rw [run_makeMap]
  simp only [Result.andThen]
  rw [Oper.upon_value]
  have R1 := Lib.hid (H.out.below ((Below.refl w.heap.size w).alloc (Nat.le_refl _) (.map #[] 0)))
  have M1 := Lib.hid (PgM.made w (fun k => w.heap.size ≤ k))
  have G1 := Lib.hid (World.grownBy_alloc w (.map #[] 0) (some g))
  have S1 := Lib.hid (show w.heap.size < (w.alloc (.map #[] 0)).heap.size by rw [World.size_alloc]; omega)
  generalize w.alloc (.map #[] 0) = w1 at *
  have UE : uintS 256 (encV l ++ rest, 0) = (l.length, ((l.map encP).flatten ++ rest, 0)) := by
    unfold encV
    rw [List.append_assoc]
    exact uintS_enc _ SO.out.2.2 (by have := SO.out.2.2; omega)
  have LR : ((l.map encP).flatten ++ rest).length ≤ 100000000 := by
    have := HL.out
    unfold encV at this
    simp only [List.length_append] at this ⊢
    omega
  have LR := Lib.hid LR
  have UEH := Lib.hid UE
  clear UE
  go_wp2_with fail
  refine (uint_c R1.out (Nat.le_trans HL.out (by show 100000000 ≤ 1000000000; omega)) 256 (by omega)).mono ?_
  rintro e w2 ⟨rfl, hR, hG⟩
  rw [UEH.out] at hR ⊢
  simp only at hR ⊢
  have R2 := Lib.hid hR
  have M2 := Lib.hid (M1.out.reader R1.out hG)
  have G2 := Lib.hid (grown_then G1.out hG)
  clear hR hG R1 M1 G1 UEH
  obtain ⟨ln, eln⟩ : ∃ n, l.length = n := ⟨_, rfl⟩
  have ELN := Lib.hid eln
  have hli : (l.length : Int) ≤ 256 := by have := SO.out.2.2; omega
  rw [eln] at hli ⊢
  clear eln
  go_wp2_with fail
  go_loopw [8] (fun jv wr => ∃ j : Nat, j ≤ ln ∧ jv = .int .u64 (j : Int) ∧ Rdr 139 wr g (((l.drop j).map encP).flatten ++ rest, 0) ∧ PgM wr (fun k => w.heap.size ≤ k) w.heap.size (l.take j) ∧ w.grownBy wr (some g)) (fun jv _ => ln - (intOf jv).toNat)
  case atStart => exact ⟨0, Nat.zero_le _, rfl, R2.out, M2.out, G2.out⟩
  case round =>
    clear R2 M2 G2 S1
    obtain ⟨j, hj, rfl, hR, hM, hG⟩ := hrel
    have R4 := Lib.hid hR
    have M4 := Lib.hid hM
    have G4 := Lib.hid hG
    generalize wr = w4 at *
    by_cases hjn : j < ln
    · have HJ : (j : Int) < ln := by omega
      have HJN := Lib.hid hjn
      obtain ⟨p, hpj⟩ : ∃ p, l[j]? = some p := ⟨l[j]'(by rw [ELN.out]; exact hjn), List.getElem?_eq_getElem _⟩
      have POK := Lib.hid (SO.out.2.1 p (List.mem_of_getElem? hpj))
      have WS := Lib.hid (withS_snoc SO.out.1 hpj)
      have hd : l.drop j = p :: l.drop (j + 1) := by
        obtain ⟨hlt, e⟩ := List.getElem?_eq_some_iff.1 hpj
        rw [List.drop_eq_getElem_cons hlt, e]
      have hdat : ((l.drop j).map encP).flatten ++ rest = encU p.1 ++ (encB p.2 ++ (((l.drop (j + 1)).map encP).flatten ++ rest)) := by
        rw [hd, List.map_cons, List.flatten_cons]
        unfold encP
        simp only [List.append_assoc]
      have hlen : (((l.drop j).map encP).flatten ++ rest).length ≤ 100000000 := by
        have h1 := LR.out
        have h2 : ((l.drop j).map encP).flatten.length ≤ (l.map encP).flatten.length := by
          conv => rhs; rw [← List.take_append_drop j l, List.map_append, List.flatten_append, List.length_append]
          omega
        simp only [List.length_append] at h1 ⊢
        omega
      have R4 := Lib.hid (show Rdr 139 w4 g (encU p.1 ++ (encB p.2 ++ (((l.drop (j + 1)).map encP).flatten ++ rest)), 0) by rw [← hdat]; exact R4.out)
      rw [hdat] at hlen
      have LEN := Lib.hid hlen
      clear hR hM hG hjn hpj hd hdat hlen hj
      obtain ⟨p1, p2⟩ := p
      simp only at R4 LEN
      have hp1 : p1 < 256 := POK.out.1
      have hp1i : (p1 : Int) < 256 := by omega
      have UE := Lib.hid (uintS_enc (max := 255) (encB p2 ++ (((l.drop (j + 1)).map encP).flatten ++ rest)) (show p1 ≤ 255 by omega) (by omega))
      have BE := Lib.hid (bytesS_enc (max := 1024) p2 (((l.drop (j + 1)).map encP).flatten ++ rest) POK.out.2 (Nat.lt_of_le_of_lt POK.out.2 (by omega)))
      go_wp2_with fail
      refine (uint_c R4.out (Nat.le_trans LEN.out (by omega)) 255 (by omega)).mono ?_
      rintro e w5 ⟨rfl, hR, hG⟩
      rw [UE.out] at hR ⊢
      simp only at hR ⊢
      have R5 := Lib.hid hR
      have M5 := Lib.hid (M4.out.reader R4.out hG)
      have G5 := Lib.hid (grown_then G4.out hG)
      have LEN5 := Lib.hid (show (encB p2 ++ (((l.drop (j + 1)).map encP).flatten ++ rest)).length ≤ 100000000 by have := LEN.out; simp only [List.length_append] at this ⊢; omega)
      clear hR hG R4 M4 G4 UE LEN
      go_wp2_with fail
      refine (bytes_c R5.out (Nat.le_trans LEN5.out (by omega)) 1024 (by omega) (by omega)).mono ?_
      rw [show ((1024 : Int).toNat) = 1024 from rfl, BE.out]
      rintro e w6 ⟨r, rfl, hr, hR, hG, hK⟩
      simp only at hr hR
      have V6 := Lib.hid hr
      have R6 := Lib.hid hR
      have K6 := Lib.hid (fun k hk => Nat.le_trans G5.out.size (hK k hk))
      have M6 := Lib.hid (M5.out.reader R5.out hG)
      have G6 := Lib.hid (grown_then G5.out hG)
      clear hr hR hG hK R5 M5 G5 BE LEN5
      have HP1 := Lib.hid hp1
      clear hp1
      go_wp2_with (at_mapUpdate; refine wp_storeP rfl _ _ _ rfl rfl rfl rfl M6.out HP1.out V6.out POK.out.2 (fun _ k hk => K6.out k hk) ?_; intro w7 hM7 ht7; obtain ⟨es, ce, hes⟩ := M6.out.block; have M7 := Lib.hid hM7; have R7 := Lib.hid (R6.out.turned hes ht7); have G7 := Lib.hid (grown_turned G6.out (Nat.le_refl _) ht7); clear hM7 ht7 hes)
      go_roundw
      case rel =>
        refine ⟨j + 1, by have := HJN.out; omega, by go_num, R7.out, ?_, G7.out⟩
        have h := M7.out
        rw [WS.out] at h
        exact h
      case measure => have := HJN.out; simp only [intOf]; omega
    · have HJ : ¬ (j : Int) < ln := by omega
      have hj2 : j = ln := by omega
      subst hj2
      clear hR hM hG hjn hj
      go_wp2_with fail
      go_ret
      refine ⟨_, rfl, Nat.le_refl _, ?_, ?_, G4.out⟩
      · have h := M4.out
        rw [show l.take j = l from List.take_of_length_le (by rw [ELN.out]; exact Nat.le_refl _)] at h
        exact h
      · have h := R4.out
        rw [show l.drop j = [] from List.drop_of_length_le (by rw [ELN.out]; exact Nat.le_refl _)] at h
        exact h
end
end Go.Proofs.YtckomifecmemnaaGreat

/- A row of maps of the call's own. -/
namespace Go.Proofs.YtckomifecmemnaaGreat
open Go.RowKit Dig Go.ChangeMaps Go.MapKept
set_option linter.unusedVariables false

def mpsV (bs : List Nat) : List Value := bs.map fun b => Value.map (some b)
/-- A row of maps, all cells of which are maps. -/
def RowM (base : Nat) (w : World) (v : Value) (bs : List Nat) : Prop :=
  (v = .slice none 0 0 ∧ bs = []) ∨ ∃ (g cap : Nat) (cur : Array Value), v = .slice (some ⟨g, 0, none⟩) bs.length cap ∧ base ≤ g ∧ w.heap[g]? = some (.cells cur 70 (0, 0)) ∧ bs.length ≤ cap ∧ cap ≤ maxLen ∧ cur.size = cap ∧ cur.toList.take bs.length = mpsV bs ∧ ∀ c ∈ cur.toList, ∃ r, c = Value.map r
theorem info_pgs : (Tryz.prog.info? 70).map (fun i => (i.zero, i.size, i.bytes)) = some (some (.map none), 1, 8) := by kernel_rfl
theorem mpsV_length (bs : List Nat) : (mpsV bs).length = bs.length := by simp [mpsV]
theorem mpsV_map {bs : List Nat} : ∀ c ∈ mpsV bs, ∃ r, c = Value.map r := fun c hc => by
  obtain ⟨b, _, rfl⟩ := List.mem_map.1 hc
  exact ⟨_, rfl⟩
theorem zero_maps (n : Nat) : ∀ c ∈ (Builtin.zeroCells (Value.map none).cells n).toList, ∃ r, c = Value.map r := by
  intro c hc
  have h1 : (Value.map none).cells = #[Value.map none] := rfl
  rw [h1] at hc
  have h2 : c = Value.map none := by
    simp [Builtin.zeroCells] at hc
    obtain ⟨i, _, e⟩ := hc
    rw [Nat.mod_one] at e
    simpa using e.symm
  exact ⟨none, h2⟩
section
variable {w w' : World} {base g x nb : Nat} {v : Value} {bs : List Nat} {G : Nat → Prop} {l : List Pg} {s : RS}
theorem RowM.own (h : RowM base w v bs) : w.ownsRow base 70 1 v bs.length (mpsV bs) := by
  rcases h with ⟨rfl, rfl⟩ | ⟨g, cap, cur, rfl, h1, h2, h3, h4, h5, h6, h7⟩
  · exact World.ownsRow_nil _ _ _ _
  · exact ⟨by rw [mpsV_length, Nat.mul_one], .inr ⟨g, cap, cur, rfl, h1, h2, h3, h4, by rw [h5, Nat.mul_one], by rw [Nat.mul_one]; exact h6⟩⟩
theorem RowM.keep (h : RowM base w v bs) (hk : ∀ k, v.ownBlock = some k → w'.heap[k]? = w.heap[k]?) : RowM base w' v bs := by
  rcases h with ⟨rfl, rfl⟩ | ⟨g, cap, cur, rfl, h1, h2, h3⟩
  · exact .inl ⟨rfl, rfl⟩
  · exact .inr ⟨g, cap, cur, rfl, h1, by rw [hk g rfl]; exact h2, h3⟩
theorem RowM.block (h : RowM base w v bs) : ∀ k, v.ownBlock = some k → base ≤ k ∧ k < w.heap.size := fun k hk => by
  rcases h with ⟨rfl, rfl⟩ | ⟨g, cap, cur, rfl, h1, h2, h3⟩
  · cases hk
  · obtain rfl : g = k := by simpa [Value.ownBlock] using hk
    exact ⟨h1, lt_of_heap h2⟩
/-- Bytes do not lie in a row of maps. -/
theorem RowM.bytes {u : Value} {ts : List UInt8} (h : RowM base w v bs) (hb : Byt w u ts) (hp : 0 < ts.length) : ∀ k, v.ownBlock = some k → u.ownBlock ≠ some k := fun k hk he => by
  rcases h with ⟨rfl, rfl⟩ | ⟨g, cap, cur, rfl, h1, h2, h3, h4, h5, h6, h7⟩
  · cases hk
  · obtain rfl : g = k := by simpa [Value.ownBlock] using hk
    obtain ⟨A, c, e1, _, _, hc⟩ := hb
    obtain ⟨b, off, e2, _, hcell⟩ := hc hp
    subst e2
    rw [e1] at he
    obtain rfl : b = g := by simpa [Value.ownBlock] using he
    have h8 := hcell 0 hp
    rw [cell_of_row w b _ _ _ (0, 0) h2] at h8
    obtain ⟨r, hr⟩ := h7 _ (Array.mem_toList_iff.2 (Array.mem_of_getElem? h8))
    cases hr
theorem RowM.reader (h : RowM base w v bs) (hr : Rdr 139 w g s) (hne : v.ownBlock ≠ some g) (hg : w.grownBy w' v.ownBlock) : Rdr 139 w' g s := by
  obtain ⟨⟨A, n, c, hh, hb⟩, hok⟩ := hr
  refine ⟨⟨A, n, c, by rw [hg.block g (lt_of_heap hh) hne.symm]; exact hh, byt_stay hb hg.size fun hp k hk e => hg.block k hk fun e2 => h.bytes hb hp k e2.symm e⟩, hok⟩
theorem RowM.pages (h : RowM base w v bs) (hp : PgM w G x l) (hg : w.grownBy w' v.ownBlock) : PgM w' G x l := by
  obtain ⟨es, c, he⟩ := hp.block
  have hne : some x ≠ v.ownBlock := by
    rcases h with ⟨rfl, rfl⟩ | ⟨g, cap, cur, rfl, h1, h2, h3⟩
    · simp [Value.ownBlock]
    · intro e
      have e : x = g := by simpa [Value.ownBlock] using e
      exact cells_ne h2 he e.symm
  obtain ⟨h1, h2, D, n, ⟨es, clock, hh, F, hs, hD⟩, h4⟩ := hp
  refine ⟨h1, h2, D, n, ⟨es, clock, by rw [hg.block x (lt_of_heap hh) hne]; exact hh, F, hs, hD⟩, h4.1, fun p hp => ?_⟩
  obtain ⟨q1, u, q2, q3, q4⟩ := h4.2 p hp
  exact ⟨q1, u, q2, byt_stay q3 hg.size fun hp k hk e => hg.block k hk fun e2 => h.bytes q3 hp k e2.symm e, q4⟩
/-- append(s, m) of a map. -/
theorem run_pushM (h : RowM base w v bs) (hl : bs.length ≤ 1000) (hbase : base ≤ w.heap.size) (a : Addr) (ty : TypeId) (ha : w.cell? (a.add 0) = some (.map (some x))) :
    ∃ v' w', (Builtin.append_ #[64, 64] ty #[v, .slice (some a) 1 1]).run Tryz.prog w = .ok v' w' ∧ RowM base w' v' (bs ++ [x]) ∧ w.grownBy w' v.ownBlock ∧ (v'.ownBlock = v.ownBlock ∨ ∃ b, v'.ownBlock = some b ∧ w.heap.size ≤ b) := by
  obtain ⟨i0, hi, hz0, hz1, hz2⟩ := info_parts info_pgs
  have hnews : ∀ j u, [Value.map (some x)][j]? = some u → w.cell? (a.add j) = some u := by
    intro j u hj
    match j, hj with
    | 0, hj =>
      obtain rfl : Value.map (some x) = u := by simpa using hj
      exact ha
  have key : ∀ (olds : List Value) (cap : Nat), olds = mpsV bs → cap < bs.length + 1 →
      RowM base (w.drew.alloc (.cells (olds.toArray ++ [Value.map (some x)].toArray ++ Builtin.zeroCells (Value.map none).cells (grownCap w (bs.length + 1) cap 70 - (bs.length + 1))) 70)) (.slice (some ⟨w.heap.size, 0, none⟩) (bs.length + 1) (grownCap w (bs.length + 1) cap 70)) (bs ++ [x]) ∧
      w.grownBy (w.drew.alloc (.cells (olds.toArray ++ [Value.map (some x)].toArray ++ Builtin.zeroCells (Value.map none).cells (grownCap w (bs.length + 1) cap 70 - (bs.length + 1))) 70)) v.ownBlock := by
    intro olds cap he hc
    subst he
    have hge := grownCap_ge w (bs.length + 1) cap 70
    have hcm := grownCap_le_maxLen w (bs.length + 1) cap 70 (by unfold maxLen; omega)
    refine ⟨.inr ⟨w.heap.size, _, _, by rw [List.length_append]; rfl, hbase, heap_alloc_new w.drew _, by rw [List.length_append]; exact hge, hcm, ?_, ?_, fun c hc => ?_⟩, ⟨rfl, rfl, rfl, by simp, fun k hk _ => Below.heap_alloc w.drew _ k hk⟩⟩
    · have hz1 : (Value.map none).cells.size = 1 := rfl
      simp only [Array.size_append, List.size_toArray, size_zeroCells, hz1, mpsV_length, List.length_singleton]
      omega
    · rw [Array.toList_append, Array.toList_append]
      have hlen : (bs ++ [x]).length = ((mpsV bs).toArray.toList ++ [Value.map (some x)].toArray.toList).length := by simp [mpsV]
      rw [hlen, List.take_left]
      simp [mpsV]
    · rw [Array.toList_append, Array.toList_append] at hc
      rcases List.mem_append.1 hc with hc | hc
      · rcases List.mem_append.1 hc with hc | hc
        · exact mpsV_map c hc
        · exact ⟨_, List.mem_singleton.1 hc⟩
      · exact zero_maps _ c hc
  rcases h with ⟨rfl, rfl⟩ | ⟨g, cap, cur, rfl, h1, h2, h3, h4, h5, h6, h7⟩
  · have hr := run_append_nil (P := Tryz.prog) w 64 ty 70 i0 (.map none) Tryz.underlying64 hi hz0 a 1 1 [Value.map (some x)] (by rw [hz1]; rfl) hnews (by omega) (by omega) (by rw [hz2]; omega)
    obtain ⟨k1, k2⟩ := key [] 0 rfl (by simp)
    have e0 : ([] : List Value).toArray ++ [Value.map (some x)].toArray = [Value.map (some x)].toArray := by simp
    rw [e0] at k1 k2
    exact ⟨_, _, hr, k1, k2, .inr ⟨_, rfl, Nat.le_refl _⟩⟩
  · by_cases hroom : bs.length + 1 ≤ cap
    · have hr := run_append_room (P := Tryz.prog) w 64 ty 70 i0 Tryz.underlying64 hi g bs.length cap cur h2 a 1 1 [Value.map (some x)] (by rw [hz1]; rfl) hnews (fun u hu => by rw [List.mem_singleton.1 hu]; rfl) hroom (by rw [hz1, h5]; simp; omega)
      rw [hz1, Nat.mul_one] at hr
      refine ⟨_, _, hr, .inr ⟨g, cap, _, by rw [List.length_append]; rfl, h1, setRow_heap w g cur _ _ _ h2, by rw [List.length_append]; exact hroom, h4, ?_, ?_, fun c hc => ?_⟩, ⟨rfl, rfl, rfl, by simp, fun k _ hk => setRow_other w g k _ (fun e => hk (by simp [Value.ownBlock, e]))⟩, .inl rfl⟩
      · simp only [List.size_toArray, List.length_append, List.length_take, List.length_drop, Array.length_toList, h5, List.length_singleton]
        omega
      · have hlen : (bs ++ [x]).length = (cur.toList.take bs.length ++ [Value.map (some x)]).length := by rw [h6]; simp [mpsV]
        rw [List.toList_toArray, hlen, List.take_left, h6]
        simp [mpsV]
      · rw [List.toList_toArray] at hc
        rcases List.mem_append.1 hc with hc | hc
        · rcases List.mem_append.1 hc with hc | hc
          · exact h7 c (List.mem_of_mem_take hc)
          · exact ⟨_, List.mem_singleton.1 hc⟩
        · exact h7 c (List.mem_of_mem_drop hc)
    · have holds : ∀ j u, (mpsV bs)[j]? = some u → w.cell? ((⟨g, 0, none⟩ : Addr).add j) = some u := fun j u hj => by
        have e : (⟨g, 0, none⟩ : Addr).add j = ⟨g, 0 + j, none⟩ := by unfold Addr.add; split <;> simp_all
        have hjl : j < bs.length := by
          have := (List.getElem?_eq_some_iff.1 hj).1
          rwa [mpsV_length] at this
        rw [e, Nat.zero_add, cell_of_row w g j _ _ (0, 0) h2, ← hj, ← h6, List.getElem?_take, if_pos hjl, Array.getElem?_toList]
      have hr := run_append_grow (P := Tryz.prog) w 64 ty 70 i0 (.map none) Tryz.underlying64 hi hz0 ⟨g, 0, none⟩ bs.length cap (mpsV bs) (by rw [hz1, mpsV_length, Nat.mul_one]) holds a 1 1 [Value.map (some x)] (by rw [hz1]; rfl) hnews (by omega) (by omega) (growslice_fits (by omega) (by rw [hz2]; omega))
      obtain ⟨k1, k2⟩ := key (mpsV bs) cap rfl (by omega)
      exact ⟨_, _, hr, k1, k2, .inr ⟨_, rfl, Nat.le_refl _⟩⟩
theorem wp_pushM {ops : Array Oper} {rest : List Oper} {o : Oper} {a : Act} {Q : Exit → Act → World → Prop} (hgd : o.guard = none) (s y : Operand) (ho : o.op = .call { callee := .builtin .append, args := #[s, y], argTypes := #[64, 64] })
    (base : Nat) (v : Value) (bs : List Nat) (hs : a.eval s = v) (h : RowM base w v bs) (g x : Nat) (hx : a.eval y = .slice (some ⟨g, 0, none⟩) 1 1) (hc : w.cell? ⟨g, 0, none⟩ = some (.map (some x))) (hl : bs.length ≤ 1000) (hbase : base ≤ w.heap.size)
    (hK : ∀ v' w', RowM base w' v' (bs ++ [x]) → w.grownBy w' v.ownBlock → (v'.ownBlock = v.ownBlock ∨ ∃ b, v'.ownBlock = some b ∧ w.heap.size ≤ b) → wpList Tryz.prog ops Q rest (a.put o.dst v') w') : wpList Tryz.prog ops Q (o :: rest) a w := by
  refine wpList_plain hgd fun K hK' => ?_
  obtain ⟨v', w', hrun, h2, h3, h4⟩ := run_pushM h hl hbase ⟨g, 0, none⟩ o.type (by have e : (⟨g, 0, none⟩ : Addr).add 0 = ⟨g, 0, none⟩ := rfl; rw [e]; exact hc)
  unfold Oper.wp execOp
  simp only [ho, resolve, invoke, builtin, Sem.run_bind, Sem.run_pure, Result.andThen_ok, List.map_toArray, List.map_cons, List.map_nil, hs, hx, hrun]
  exact hK' _ _ (hK v' w' h2 h3 h4)
/-- What decodeVersions hands back: a row of maps that hold the versions. -/
def KepM (w : World) (B : Nat) (kv : Value) (bs : List Nat) (K : List (List Pg)) : Prop :=
  RowM B w kv bs ∧ bs.length = K.length ∧ ∀ (i x : Nat) (l : List Pg), bs[i]? = some x → K[i]? = some l → PgM w (fun k => B ≤ k) x l ∧ B ≤ x
set_option maxRecDepth 20000 in
set_option maxHeartbeats 8000000 in
theorem decodeVersions_c {K : List (List Pg)} {n : Nat} (h : Byt w v (encK K)) (hk : K.length = min n 3 + 1) (hok : ∀ l ∈ K, Srt l ∧ ∀ p ∈ l, okPg p) (hl : (encK K).length ≤ 2000000) (hn : n ≤ 2147483647) :
    Calls Tryz.prog 82 #[.int .i64 (n : Int), v] w fun e w' => ∃ kv bs, e = .returned (.tuple #[kv, .bool true]) ∧ KepM w' w.heap.size kv bs K ∧ Below w.heap.size w w' := by
  have HK := Lib.hid hok
  have HL := Lib.hid (show ∃ us, us = encK K ∧ us.length ≤ 2000000 from ⟨_, rfl, hl⟩)
  have HN := Lib.hid (newReader_c h (Nat.le_trans hl (by omega)))
  obtain ⟨q, hq⟩ : ∃ q : Nat, min (n : Int) 3 = (q : Int) := ⟨min n 3, by omega⟩
  have hq3 : q ≤ 3 := by omega
  have hkq : K.length = q + 1 := by omega
  have KQ := Lib.hid hkq
  have Q3 := Lib.hid hq3
  obtain ⟨A, c, rfl⟩ := h.form
  generalize (encK K).length = en at *
  clear h hok hl hk hkq
  go_enter Tryz.func82, Tryz.ntmps82
  go_wp2_with fail
  refine (HN.out).mono ?_
  rintro e w2 ⟨g, rfl, hg, hR, hB⟩
  have R2 := Lib.hid hR
  have B2 := Lib.hid hB
  have GB := Lib.hid hg
  clear hR hB hg HN
  go_wp2_with fail
  go_loopw [7, 13] (fun ov iv wr => ∃ (i : Nat) (bs : List Nat), i ≤ q + 1 ∧ iv = .int .i64 (i : Int) ∧ bs.length = i ∧ RowM w.heap.size wr ov bs ∧ (∀ (j x : Nat) (l : List Pg), bs[j]? = some x → K[j]? = some l → PgM wr (fun k => w.heap.size ≤ k) x l ∧ w.heap.size ≤ x) ∧ ov.ownBlock ≠ some g ∧ Rdr 139 wr g (((K.drop i).map encV).flatten, 0) ∧ Below w.heap.size w wr) (fun _ iv _ => q + 1 - (intOf iv).toNat)
  case atStart => exact ⟨0, [], Nat.zero_le _, rfl, rfl, .inl ⟨rfl, rfl⟩, fun j x l hj => by simp at hj, by simp [Value.ownBlock], R2.out, B2.out⟩
  case round =>
    clear R2 B2
    obtain ⟨i, bs, hi, rfl, hbs, hO, hP, hne, hR, hBr⟩ := hrel
    have OW := Lib.hid hO
    have PW := Lib.hid hP
    have NE := Lib.hid hne
    have RW := Lib.hid hR
    have BW := Lib.hid hBr
    have BS := Lib.hid hbs
    clear hO hP hne hR hbs
    generalize wr = w4 at *
    by_cases hik : i < q + 1
    · have HI : (i : Int) < (q : Int) + 1 := by omega
      have HIK := Lib.hid hik
      obtain ⟨l, hl⟩ : ∃ l, K[i]? = some l := ⟨K[i]'(by rw [KQ.out]; exact hik), List.getElem?_eq_getElem _⟩
      have LL := Lib.hid hl
      have LOK := Lib.hid (HK.out l (List.mem_of_getElem? hl))
      have hd : K.drop i = l :: K.drop (i + 1) := by
        obtain ⟨hlt, e⟩ := List.getElem?_eq_some_iff.1 hl
        rw [List.drop_eq_getElem_cons hlt, e]
      have hlen : (encV l ++ ((K.drop (i + 1)).map encV).flatten).length ≤ 100000000 := by
        have h2 : ((K.drop i).map encV).flatten.length ≤ (encK K).length := by
          unfold encK
          conv => rhs; rw [← List.take_append_drop i K, List.map_append, List.flatten_append, List.length_append]
          omega
        rw [hd, List.map_cons, List.flatten_cons] at h2
        obtain ⟨us, eu, hu⟩ := HL.out
        rw [eu] at hu
        omega
      have R4 := Lib.hid (show Rdr 139 w4 g (encV l ++ ((K.drop (i + 1)).map encV).flatten, 0) by have h := RW.out; rw [hd, List.map_cons, List.flatten_cons] at h; exact h)
      have LEN := Lib.hid hlen
      clear hd hlen hl hik hBr hi RW
      go_wp2_with fail
      refine (decodePages_c _ R4.out LOK.out.1 LOK.out.2 LEN.out).mono ?_
      rintro e w5 ⟨nb, rfl, hnb, hM, hR, hG⟩
      have R5 := Lib.hid hR
      have M5 := Lib.hid (show PgM w5 (fun k => w.heap.size ≤ k) nb l ∧ w.heap.size ≤ nb from ⟨hM.wide fun k hk => Nat.le_trans BW.out.size hk, Nat.le_trans BW.out.size hnb⟩)
      have O5 := Lib.hid (OW.out.keep (w' := w5) fun k hk => hG.block k (OW.out.block k hk).2 (fun e => NE.out (by rw [hk, e])))
      have P5 := Lib.hid (fun j x l hj hl => (⟨(PW.out j x l hj hl).1.reader R4.out hG, (PW.out j x l hj hl).2⟩ : PgM w5 (fun k => w.heap.size ≤ k) x l ∧ w.heap.size ≤ x))
      have B5 := Lib.hid (BW.out.grown hG BW.out.size (fun k e => by injection e with e; have := GB.out; omega))
      have GL := Lib.hid R5.out.lt
      clear hM hR hG hnb OW PW BW R4 LEN
      have AL := Lib.hid ((Below.refl w5.heap.size w5).alloc (Nat.le_refl _) (.cells #[.map (some nb)] 70))
      have OA := Lib.hid (O5.out.keep (w' := w5.alloc (.cells #[.map (some nb)] 70)) fun k hk => AL.out.block k (O5.out.block k hk).2)
      have CA := Lib.hid (show (w5.alloc (.cells #[.map (some nb)] 70)).cell? ⟨w5.heap.size, 0, none⟩ = some (.map (some nb)) by rw [cell_of_row _ _ _ _ _ (0, 0) (heap_alloc_new w5 _)]; rfl)
      have hb4 : bs.length ≤ 1000 := by have := BS.out; have := HIK.out; have := Q3.out; omega
      have B4 := Lib.hid hb4
      clear hb4
      go_wp2_with (at_builtin; refine wp_pushM rfl _ _ rfl w.heap.size _ bs rfl OA.out w5.heap.size nb rfl CA.out B4.out (Nat.le_trans B5.out.size AL.out.size) ?_; intro v7 w7 hv7 hg7 hn7; have O7 := Lib.hid hv7; have G7 := Lib.hid hg7; have N7 := Lib.hid hn7; clear hv7 hg7 hn7)
      go_roundw
      case rel =>
        refine ⟨i + 1, bs ++ [nb], by have := HIK.out; omega, by go_num, by rw [List.length_append, BS.out]; rfl, O7.out, fun j x l2 hj hl2 => ?_, ?_, ?_, ?_⟩
        · rcases Nat.lt_or_ge j bs.length with h | h
          · rw [List.getElem?_append_left h] at hj
            exact ⟨OA.out.pages ((P5.out j x l2 hj hl2).1.below AL.out) G7.out, (P5.out j x l2 hj hl2).2⟩
          · have hj2 : j = i := by
              have h2 := (List.getElem?_eq_some_iff.1 hj).1
              rw [List.length_append, List.length_singleton] at h2
              have := BS.out
              omega
            subst hj2
            rw [List.getElem?_append_right h, BS.out, Nat.sub_self] at hj
            obtain rfl : nb = x := by simpa using hj
            obtain rfl : l = l2 := by
              have h3 := LL.out
              rw [hl2] at h3
              injection h3 with h3
              exact h3.symm
            exact ⟨OA.out.pages (M5.out.1.below AL.out) G7.out, M5.out.2⟩
        · rcases N7.out with e | ⟨b, e, hb⟩
          · rw [e]
            exact NE.out
          · rw [e]
            intro e2
            injection e2 with e2
            have := GL.out
            have := AL.out.size
            omega
        · exact OA.out.reader (R5.out.below AL.out) NE.out G7.out
        · exact (B5.out.alloc B5.out.size _).grown G7.out (Nat.le_trans B5.out.size AL.out.size) fun k hk => (OA.out.block k hk).1
      case measure => have := HIK.out; simp only [intOf]; omega
    · have HI : ¬ (i : Int) < (q : Int) + 1 := by omega
      have hi2 : i = q + 1 := by omega
      have hd : K.drop i = [] := List.drop_of_length_le (by rw [KQ.out, hi2]; exact Nat.le_refl _)
      have RZ := Lib.hid (show Rdr 139 w4 g ([], 0) by have h := RW.out; rw [hd] at h; exact h)
      have ER := Lib.hid (err_c RZ.out)
      have RM := Lib.hid (remaining_c RZ.out)
      have HI2 := Lib.hid hi2
      clear hBr hik hi hd hi2 RW
      go_wp2_with fail
      refine (ER.out).mono ?_
      rintro e w5 ⟨rfl, rfl⟩
      go_wp2_with fail
      refine (RM.out).mono ?_
      rintro e w5 ⟨rfl, rfl⟩
      go_wp2_with fail
      go_ret2
      exact ⟨_, bs, rfl, ⟨OW.out, by rw [BS.out, HI2.out, KQ.out], PW.out⟩, BW.out⟩
end
end Go.Proofs.YtckomifecmemnaaGreat

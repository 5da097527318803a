/- Polynomials as lists of coefficients: trailing zeros, sums, products, values, derivatives. Plain mathematics. -/
import Derived.Test.YtjemnankgjjgcaaRati
namespace Go.Proofs.Ytjemnankgjjgcaa
namespace Dig

/-- The coefficient of a power. -/
def cf (p : List Rat) (i : Nat) : Rat := p.getD i 0
def mk (n : Nat) (f : Nat → Rat) : List Rat := (List.range n).map f
/-- Without trailing zeros. -/
def tr : List Rat → List Rat
  | [] => []
  | a :: p => if tr p = [] ∧ a = 0 then [] else a :: tr p

theorem cf_nil (i : Nat) : cf [] i = 0 := by simp [cf]
theorem cf_zero (a : Rat) (p : List Rat) : cf (a :: p) 0 = a := by simp [cf]
theorem cf_succ (a : Rat) (p : List Rat) (i : Nat) : cf (a :: p) (i + 1) = cf p i := by simp [cf]
theorem cf_over {p : List Rat} {i : Nat} (h : p.length ≤ i) : cf p i = 0 := by
  simp [cf, List.getD_eq_getElem?_getD, List.getElem?_eq_none h]
theorem cf_mem {p : List Rat} {i : Nat} (h : i < p.length) : cf p i ∈ p := by
  simp [cf, List.getD_eq_getElem?_getD, List.getElem?_eq_getElem h]
theorem mk_length (n : Nat) (f : Nat → Rat) : (mk n f).length = n := by simp [mk]
theorem cf_mk (n : Nat) (f : Nat → Rat) (i : Nat) : cf (mk n f) i = if i < n then f i else 0 := by
  unfold cf mk
  rw [List.getD_eq_getElem?_getD, List.getElem?_map]
  by_cases h : i < n
  · rw [List.getElem?_range h]; simp [h]
  · rw [List.getElem?_eq_none (by simpa using h)]; simp [h]
theorem list_ext {p q : List Rat} (hl : p.length = q.length) (h : ∀ i, i < p.length → cf p i = cf q i) : p = q := by
  apply List.ext_getElem hl
  intro i h1 h2
  have := h i h1
  simpa [cf, List.getD_eq_getElem?_getD, List.getElem?_eq_getElem h1, List.getElem?_eq_getElem h2] using this
theorem mk_cf (p : List Rat) : mk p.length (cf p) = p := list_ext (mk_length _ _) (fun i h => by rw [mk_length] at h; rw [cf_mk, if_pos h])
theorem mk_succ (n : Nat) (f : Nat → Rat) : mk (n + 1) f = mk n f ++ [f n] := by
  unfold mk; rw [List.range_succ, List.map_append]; rfl
theorem mk_congr {n : Nat} {f g : Nat → Rat} (h : ∀ i, i < n → f i = g i) : mk n f = mk n g :=
  list_ext (by rw [mk_length, mk_length]) fun i hi => by rw [mk_length] at hi; rw [cf_mk, cf_mk, if_pos hi, if_pos hi, h i hi]
theorem cf_take (p : List Rat) (n i : Nat) : cf (p.take n) i = if i < n then cf p i else 0 := by
  by_cases h : i < n
  · rw [if_pos h]; simp [cf, List.getD_eq_getElem?_getD, h]
  · rw [if_neg h, cf_over]; rw [List.length_take]; omega
theorem cf_drop (p : List Rat) (n i : Nat) : cf (p.drop n) i = cf p (n + i) := by
  simp [cf, List.getD_eq_getElem?_getD, List.getElem?_drop]

theorem tr_zero : ∀ {p : List Rat}, (∀ i, cf p i = 0) → tr p = []
  | [], _ => rfl
  | a :: p, h => by
    have h1 := tr_zero (p := p) (fun i => by have := h (i + 1); rwa [cf_succ] at this)
    have h2 := h 0
    rw [cf_zero] at h2
    simp [tr, h1, h2]
theorem cf_tr : ∀ (p : List Rat) (i : Nat), cf (tr p) i = cf p i
  | [], _ => rfl
  | a :: p, i => by
    unfold tr
    split
    · rename_i h
      obtain ⟨h1, h2⟩ := h
      cases i with
      | zero => rw [cf_nil, cf_zero, h2]
      | succ i => rw [cf_nil, cf_succ, ← cf_tr p i, h1, cf_nil]
    · cases i with
      | zero => rw [cf_zero, cf_zero]
      | succ i => rw [cf_succ, cf_succ, cf_tr p i]
theorem tr_ext : ∀ {p q : List Rat}, (∀ i, cf p i = cf q i) → tr p = tr q
  | [], q, h => (tr_zero fun i => by rw [← h i, cf_nil]).symm
  | a :: p, [], h => tr_zero fun i => by rw [h i, cf_nil]
  | a :: p, b :: q, h => by
    have h1 := tr_ext (p := p) (q := q) (fun i => by have := h (i + 1); rwa [cf_succ, cf_succ] at this)
    have h2 := h 0
    rw [cf_zero, cf_zero] at h2
    simp [tr, h1, h2]
theorem tr_tr (p : List Rat) : tr (tr p) = tr p := tr_ext (cf_tr p)
theorem tr_le : ∀ (p : List Rat), (tr p).length ≤ p.length
  | [] => Nat.le_refl _
  | a :: p => by
    unfold tr
    split
    · simp
    · simpa using tr_le p
theorem tr_id : ∀ {p : List Rat}, (p.length = 0 ∨ cf p (p.length - 1) ≠ 0) → tr p = p
  | [], _ => rfl
  | a :: p, h => by
    have h := h.resolve_left (by simp)
    cases p with
    | nil =>
      have h : a ≠ 0 := h
      simp [tr, h]
    | cons b p =>
      have h' : cf (b :: p) ((b :: p).length - 1) ≠ 0 := by
        have e : (a :: b :: p).length - 1 = ((b :: p).length - 1) + 1 := by simp
        rwa [e, cf_succ] at h
      have h1 := tr_id (p := b :: p) (.inr h')
      rw [tr, h1]
      simp
theorem tr_last : ∀ (p : List Rat), (tr p).length = 0 ∨ cf (tr p) ((tr p).length - 1) ≠ 0
  | [] => .inl rfl
  | a :: p => by
    unfold tr
    split
    · exact .inl rfl
    · rename_i h
      right
      rcases tr_last p with h1 | h1
      · have h2 := List.eq_nil_of_length_eq_zero h1
        have h3 : a ≠ 0 := fun e => h ⟨h2, e⟩
        rw [h2]
        exact h3
      · have h0 : 0 < (tr p).length := by
          rcases Nat.eq_zero_or_pos (tr p).length with h2 | h2
          · exact absurd (cf_over (by omega)) h1
          · exact h2
        rw [List.length_cons, show (tr p).length + 1 - 1 = ((tr p).length - 1) + 1 by omega, cf_succ]
        exact h1
theorem tr_take {p : List Rat} {n : Nat} (hn : n ≤ p.length) (h0 : ∀ i, n ≤ i → i < p.length → cf p i = 0) (h1 : n = 0 ∨ cf p (n - 1) ≠ 0) : tr p = p.take n := by
  have e : tr p = tr (p.take n) := tr_ext fun i => by
    rw [cf_take]
    split
    · rfl
    · rcases Nat.lt_or_ge i p.length with h | h
      · exact h0 i (by omega) h
      · exact cf_over h
  rw [e]
  apply tr_id
  rw [List.length_take, Nat.min_eq_left hn]
  rcases h1 with h1 | h1
  · exact .inl h1
  · rcases Nat.eq_zero_or_pos n with h2 | h2
    · exact .inl h2
    · right; rw [cf_take, if_pos (by omega)]; exact h1
theorem tr_nil_iff (p : List Rat) : tr p = [] ↔ ∀ i, cf p i = 0 := ⟨fun h i => by rw [← cf_tr, h, cf_nil], tr_zero⟩
theorem tr_prefix (p : List Rat) : tr p = p.take (tr p).length := by
  apply list_ext
  · rw [List.length_take, Nat.min_eq_left (tr_le p)]
  · intro i hi
    rw [cf_take, if_pos hi, cf_tr]

/-- The value at x. -/
def ev : List Rat → Rat → Rat
  | [], _ => 0
  | a :: p, x => a + x * ev p x
theorem ev_zero : ∀ {p : List Rat} (x : Rat), (∀ i, cf p i = 0) → ev p x = 0
  | [], _, _ => rfl
  | a :: p, x, h => by
    have h2 := h 0
    rw [cf_zero] at h2
    rw [ev, ev_zero (p := p) x (fun i => by have := h (i + 1); rwa [cf_succ] at this), h2]
    grind
theorem ev_ext : ∀ {p q : List Rat} (x : Rat), (∀ i, cf p i = cf q i) → ev p x = ev q x
  | [], q, x, h => (ev_zero x fun i => by rw [← h i, cf_nil]).symm
  | a :: p, [], x, h => ev_zero x fun i => by rw [h i, cf_nil]
  | a :: p, b :: q, x, h => by
    have h1 := ev_ext (p := p) (q := q) x (fun i => by have := h (i + 1); rwa [cf_succ, cf_succ] at this)
    have h2 := h 0
    rw [cf_zero, cf_zero] at h2
    rw [ev, ev, h1, h2]
theorem ev_tr (p : List Rat) (x : Rat) : ev (tr p) x = ev p x := ev_ext x (cf_tr p)

/-- The product of two sequences. -/
def conv (f g : Nat → Rat) : Nat → Rat
  | 0 => f 0 * g 0
  | k + 1 => f 0 * g (k + 1) + conv (fun i => f (i + 1)) g k
theorem conv_congr : ∀ {f f' g g' : Nat → Rat} (k : Nat), (∀ i, i ≤ k → f i = f' i) → (∀ i, i ≤ k → g i = g' i) → conv f g k = conv f' g' k
  | f, f', g, g', 0, hf, hg => by simp only [conv, hf 0 (Nat.le_refl _), hg 0 (Nat.le_refl _)]
  | f, f', g, g', k + 1, hf, hg => by
    simp only [conv, hf 0 (Nat.zero_le _), hg (k + 1) (Nat.le_refl _)]
    rw [conv_congr (f := fun i => f (i + 1)) (f' := fun i => f' (i + 1)) (g := g) (g' := g') k (fun i hi => hf (i + 1) (by omega)) (fun i hi => hg i (by omega))]
theorem conv_right : ∀ (f g : Nat → Rat) (k : Nat), conv f g (k + 1) = conv f (fun i => g (i + 1)) k + f (k + 1) * g 0
  | f, g, 0 => by simp only [conv]
  | f, g, k + 1 => by
    have := conv_right (fun i => f (i + 1)) g k
    rw [conv, this, conv]
    grind
theorem conv_comm : ∀ (f g : Nat → Rat) (k : Nat), conv f g k = conv g f k
  | f, g, 0 => by simp only [conv]; grind
  | f, g, k + 1 => by
    rw [conv, conv_right g f k, conv_comm (fun i => f (i + 1)) g k]
    grind
theorem conv_add : ∀ (f g h : Nat → Rat) (k : Nat), conv (fun i => f i + g i) h k = conv f h k + conv g h k
  | f, g, h, 0 => by simp only [conv]; grind
  | f, g, h, k + 1 => by
    have := conv_add (fun i => f (i + 1)) (fun i => g (i + 1)) h k
    simp only [conv, this]
    grind
theorem conv_scale : ∀ (a : Rat) (f h : Nat → Rat) (k : Nat), conv (fun i => a * f i) h k = a * conv f h k
  | a, f, h, 0 => by simp only [conv]; grind
  | a, f, h, k + 1 => by
    have := conv_scale a (fun i => f (i + 1)) h k
    simp only [conv, this]
    grind
theorem conv_assoc : ∀ (f g h : Nat → Rat) (k : Nat), conv (conv f g) h k = conv f (conv g h) k
  | f, g, h, 0 => by simp only [conv]; grind
  | f, g, h, k + 1 => by
    have h1 : conv (fun i => conv f g (i + 1)) h k = conv (fun i => f 0 * g (i + 1)) h k + conv (conv (fun i => f (i + 1)) g) h k := conv_add _ _ _ _
    have h2 := conv_scale (f 0) (fun i => g (i + 1)) h k
    have h3 := conv_assoc (fun i => f (i + 1)) g h k
    rw [conv, h1, h2, h3]
    simp only [conv]
    grind
theorem conv_addr (f g h : Nat → Rat) (k : Nat) : conv f (fun i => g i + h i) k = conv f g k + conv f h k := by
  rw [conv_comm, conv_add, conv_comm g, conv_comm h]
theorem conv_scaler (a : Rat) (f h : Nat → Rat) (k : Nat) : conv f (fun i => a * h i) k = a * conv f h k := by
  rw [conv_comm, conv_scale, conv_comm]
theorem conv_zero_l : ∀ (f g : Nat → Rat) (k : Nat), (∀ i, f i = 0) → conv f g k = 0
  | f, g, 0, h => by simp only [conv, h]; grind
  | f, g, k + 1, h => by
    simp only [conv, h]
    rw [conv_zero_l (fun _ => 0) g k (fun _ => rfl)]
    grind
/-- i times the i-th element. -/
def eul (f : Nat → Rat) (i : Nat) : Rat := (i : Rat) * f i
theorem natCast_succ (k : Nat) : ((k + 1 : Nat) : Rat) = (k : Rat) + 1 := by push_cast; rfl
theorem conv_eul : ∀ (f g : Nat → Rat) (k : Nat), (k : Rat) * conv f g k = conv (eul f) g k + conv f (eul g) k
  | f, g, 0 => by simp only [conv, eul]; grind
  | f, g, k + 1 => by
    have h1 := conv_eul (fun i => f (i + 1)) g k
    have h2 : conv (fun i => eul f (i + 1)) g k = conv (eul (fun i => f (i + 1))) g k + conv (fun i => f (i + 1)) g k := by
      rw [← conv_add]
      apply conv_congr
      · intro i _
        simp only [eul, natCast_succ]
        grind
      · intro i _; rfl
    have h3 : eul f 0 = 0 := by simp [eul]
    have h4 : eul g (k + 1) = ((k : Rat) + 1) * g (k + 1) := by rw [eul, natCast_succ]
    rw [conv, conv, conv, h2, h3, h4, natCast_succ]
    grind
/-- The derivative of a sequence. -/
def der (f : Nat → Rat) (i : Nat) : Rat := ((i : Rat) + 1) * f (i + 1)
theorem der_conv (f g : Nat → Rat) (k : Nat) : der (conv f g) k = conv (der f) g k + conv f (der g) k := by
  have h := conv_eul f g (k + 1)
  have e : ∀ (f : Nat → Rat), (fun i => eul f (i + 1)) = der f := fun f => by
    funext i; simp only [eul, der, natCast_succ]
  have z : ∀ (f : Nat → Rat), eul f 0 = 0 := fun f => by simp [eul]
  have h1 : conv (eul f) g (k + 1) = conv (der f) g k := by
    rw [conv, z, e]; grind
  have h2 : conv f (eul g) (k + 1) = conv f (der g) k := by
    rw [conv_right, z, e]; grind
  rw [h1, h2] at h
  rw [der, ← h, natCast_succ]
theorem conv_over : ∀ (f g : Nat → Rat) (m n k : Nat), (∀ i, m ≤ i → f i = 0) → (∀ i, n ≤ i → g i = 0) → m + n ≤ k + 1 → conv f g k = 0
  | f, g, 0, n, k, hf, hg, hk => conv_zero_l f g k (fun i => hf i (Nat.zero_le _))
  | f, g, m + 1, n, 0, hf, hg, hk => by
    have : n = 0 := by omega
    simp only [conv, hg 0 (by omega)]; grind
  | f, g, m + 1, n, k + 1, hf, hg, hk => by
    rw [conv, hg (k + 1) (by omega), conv_over (fun i => f (i + 1)) g m n k (fun i hi => hf (i + 1) (by omega)) hg (by omega)]
    grind
theorem conv_top : ∀ (f g : Nat → Rat) (m n : Nat), (∀ i, m < i → f i = 0) → (∀ i, n < i → g i = 0) → conv f g (m + n) = f m * g n
  | f, g, 0, 0, hf, hg => rfl
  | f, g, 0, n + 1, hf, hg => by
    rw [show 0 + (n + 1) = n + 1 by omega, conv, conv_zero_l _ g n (fun i => hf (i + 1) (by omega))]
    grind
  | f, g, m + 1, n, hf, hg => by
    rw [show m + 1 + n = (m + n) + 1 by omega, conv, hg (m + n + 1) (by omega), conv_top (fun i => f (i + 1)) g m n (fun i hi => hf (i + 1) (by omega)) hg]
    grind

def padd (p q : List Rat) : List Rat := tr (mk (max p.length q.length) fun i => cf p i + cf q i)
def pmul (p q : List Rat) : List Rat := tr (mk (p.length + q.length) (conv (cf p) (cf q)))
def pscale (p : List Rat) (a : Rat) : List Rat := tr (p.map (a * ·))
def pder (p : List Rat) : List Rat := tr (mk (p.length - 1) (der (cf p)))
theorem cf_padd (p q : List Rat) (i : Nat) : cf (padd p q) i = cf p i + cf q i := by
  rw [padd, cf_tr, cf_mk]
  split
  · rfl
  · rw [cf_over (p := p) (by omega), cf_over (p := q) (by omega)]; grind
theorem cf_pmul (p q : List Rat) (i : Nat) : cf (pmul p q) i = conv (cf p) (cf q) i := by
  rw [pmul, cf_tr, cf_mk]
  split
  · rfl
  · exact (conv_over _ _ p.length q.length i (fun _ h => cf_over h) (fun _ h => cf_over h) (by omega)).symm
theorem cf_map (p : List Rat) (f : Rat → Rat) (h0 : f 0 = 0) (i : Nat) : cf (p.map f) i = f (cf p i) := by
  rcases Nat.lt_or_ge i p.length with h | h
  · simp [cf, List.getD_eq_getElem?_getD, List.getElem?_map, List.getElem?_eq_getElem h]
  · rw [cf_over (by simpa using h), cf_over h, h0]
theorem cf_pscale (p : List Rat) (a : Rat) (i : Nat) : cf (pscale p a) i = a * cf p i := by
  rw [pscale, cf_tr, cf_map _ _ (by grind)]
theorem cf_pder (p : List Rat) (i : Nat) : cf (pder p) i = der (cf p) i := by
  rw [pder, cf_tr, cf_mk]
  split
  · rfl
  · rw [der, cf_over (by omega)]; grind
theorem norm_ext {p q : List Rat} (hp : tr p = p) (hq : tr q = q) (h : ∀ i, cf p i = cf q i) : p = q := by
  rw [← hp, ← hq]; exact tr_ext h
theorem tr_padd (p q : List Rat) : tr (padd p q) = padd p q := tr_tr _
theorem tr_pmul (p q : List Rat) : tr (pmul p q) = pmul p q := tr_tr _
theorem tr_pscale (p : List Rat) (a : Rat) : tr (pscale p a) = pscale p a := tr_tr _
theorem tr_pder (p : List Rat) : tr (pder p) = pder p := tr_tr _
theorem cf_fun_padd (p q : List Rat) : cf (padd p q) = fun i => cf p i + cf q i := funext (cf_padd p q)
theorem cf_fun_pmul (p q : List Rat) : cf (pmul p q) = conv (cf p) (cf q) := funext (cf_pmul p q)
theorem cf_fun_pscale (p : List Rat) (a : Rat) : cf (pscale p a) = fun i => a * cf p i := funext (cf_pscale p a)
theorem cf_fun_pder (p : List Rat) : cf (pder p) = der (cf p) := funext (cf_pder p)
theorem cf_fun_tr (p : List Rat) : cf (tr p) = cf p := funext (cf_tr p)

theorem padd_comm (p q : List Rat) : padd p q = padd q p := norm_ext (tr_padd _ _) (tr_padd _ _) fun i => by rw [cf_padd, cf_padd]; grind
theorem pmul_comm (p q : List Rat) : pmul p q = pmul q p := norm_ext (tr_pmul _ _) (tr_pmul _ _) fun i => by rw [cf_pmul, cf_pmul, conv_comm]
theorem pmul_assoc (p q r : List Rat) : pmul (pmul p q) r = pmul p (pmul q r) := norm_ext (tr_pmul _ _) (tr_pmul _ _) fun i => by
  rw [cf_pmul, cf_pmul, cf_fun_pmul, cf_fun_pmul, conv_assoc]
theorem pmul_padd (p q r : List Rat) : pmul p (padd q r) = padd (pmul p q) (pmul p r) := norm_ext (tr_pmul _ _) (tr_padd _ _) fun i => by
  rw [cf_pmul, cf_padd, cf_fun_padd, conv_addr, cf_pmul, cf_pmul]
theorem pder_pmul (p q : List Rat) : pder (pmul p q) = padd (pmul (pder p) q) (pmul p (pder q)) := norm_ext (tr_pder _) (tr_padd _ _) fun i => by
  rw [cf_pder, cf_padd, cf_fun_pmul, der_conv, cf_pmul, cf_pmul, cf_fun_pder, cf_fun_pder]
theorem pder_linear (p q : List Rat) (a : Rat) : pder (padd p (pscale q a)) = padd (pder p) (pscale (pder q) a) := norm_ext (tr_pder _) (tr_padd _ _) fun i => by
  rw [cf_pder, cf_padd, cf_pder, cf_pscale, cf_pder, der, der, der, cf_padd, cf_pscale]; grind
theorem pmul_tr (p q : List Rat) : pmul (tr p) (tr q) = pmul p q := norm_ext (tr_pmul _ _) (tr_pmul _ _) fun i => by
  rw [cf_pmul, cf_pmul, cf_fun_tr, cf_fun_tr]
theorem pder_tr (p : List Rat) : pder (tr p) = pder p := norm_ext (tr_pder _) (tr_pder _) fun i => by
  rw [cf_pder, cf_pder, cf_fun_tr]

theorem ev_addf : ∀ (p q : List Rat) (x : Rat), ev (mk (max p.length q.length) fun i => cf p i + cf q i) x = ev p x + ev q x
  | [], q, x => by
    rw [show ev [] x = 0 from rfl, show (0 : Rat) + ev q x = ev q x by grind]
    refine ev_ext x fun i => ?_
    rw [cf_mk]
    split
    · rw [cf_nil]; grind
    · rw [cf_over (p := q)]; simp at *; omega
  | a :: p, [], x => by
    rw [show ev [] x = 0 from rfl, show ev (a :: p) x + 0 = ev (a :: p) x by grind]
    refine ev_ext x fun i => ?_
    rw [cf_mk]
    split
    · rw [cf_nil]; grind
    · rw [cf_over (p := a :: p)]; simp at *; omega
  | a :: p, b :: q, x => by
    have h := ev_addf p q x
    have e : ev (mk (max (a :: p).length (b :: q).length) fun i => cf (a :: p) i + cf (b :: q) i) x = ev ((a + b) :: mk (max p.length q.length) fun i => cf p i + cf q i) x := by
      refine ev_ext x fun i => ?_
      cases i with
      | zero => rw [cf_mk, cf_zero, if_pos (by simp), cf_zero, cf_zero]
      | succ i =>
        rw [cf_mk, cf_succ (a + b), cf_mk, cf_succ, cf_succ]
        by_cases hi : i < max p.length q.length
        · rw [if_pos hi, if_pos (by simp only [List.length_cons]; omega)]
        · rw [if_neg hi, if_neg (by simp only [List.length_cons]; omega)]
    rw [e, ev, h, ev, ev]
    grind
theorem ev_padd (p q : List Rat) (x : Rat) : ev (padd p q) x = ev p x + ev q x := by rw [padd, ev_tr, ev_addf]
theorem ev_map : ∀ (p : List Rat) (a x : Rat), ev (p.map (a * ·)) x = a * ev p x
  | [], a, x => by simp only [List.map_nil, ev]; grind
  | b :: p, a, x => by
    rw [List.map_cons, ev, ev_map p a x, ev]; grind
theorem ev_pscale (p : List Rat) (a x : Rat) : ev (pscale p a) x = a * ev p x := by rw [pscale, ev_tr, ev_map]
theorem ev_pmul : ∀ (p q : List Rat) (x : Rat), ev (pmul p q) x = ev p x * ev q x
  | [], q, x => by
    rw [ev_zero x (fun i => by rw [cf_pmul]; exact conv_zero_l _ _ _ cf_nil), show ev [] x = 0 from rfl]; grind
  | a :: p, q, x => by
    have h := ev_pmul p q x
    have e : ev (pmul (a :: p) q) x = ev (padd (q.map (a * ·)) (0 :: pmul p q)) x := by
      refine ev_ext x fun i => ?_
      rw [cf_pmul, cf_padd, cf_map _ _ (by grind)]
      cases i with
      | zero => rw [conv, cf_zero, cf_zero]; grind
      | succ i =>
        rw [conv, cf_zero, cf_succ, cf_pmul]
        congr 1
    rw [e, ev_padd, ev_map, ev, h, ev]
    grind
/-- The sum of a list. -/
def lsum : List Rat → Rat
  | [] => 0
  | a :: p => a + lsum p
def lprod : List Rat → Rat
  | [] => 1
  | a :: p => a * lprod p
theorem lsum_append : ∀ (p q : List Rat), lsum (p ++ q) = lsum p + lsum q
  | [], q => by simp only [List.nil_append, lsum]; grind
  | a :: p, q => by rw [List.cons_append, lsum, lsum_append p q, lsum]; grind
theorem lprod_append : ∀ (p q : List Rat), lprod (p ++ q) = lprod p * lprod q
  | [], q => by simp only [List.nil_append, lprod]; grind
  | a :: p, q => by rw [List.cons_append, lprod, lprod_append p q, lprod]; grind
theorem lsum_reverse : ∀ (p : List Rat), lsum p.reverse = lsum p
  | [] => rfl
  | a :: p => by rw [List.reverse_cons, lsum_append, lsum_reverse p]; simp only [lsum]; grind
theorem lprod_reverse : ∀ (p : List Rat), lprod p.reverse = lprod p
  | [] => rfl
  | a :: p => by rw [List.reverse_cons, lprod_append, lprod_reverse p]; simp only [lprod]; grind
theorem ev_one : ∀ (p : List Rat), ev p 1 = lsum p
  | [] => rfl
  | a :: p => by rw [ev, ev_one p, lsum]; grind
theorem ev_pairs : ∀ (p : List Rat) (x : Rat), ev (mk ((p.length + 1) / 2) fun i => cf p (2 * i) + cf p (2 * i + 1) * x) (x * x) = ev p x
  | [], x => rfl
  | [a], x => by
    rw [show ([a] : List Rat).length = 1 from rfl, show (1 + 1) / 2 = 0 + 1 from rfl, mk_succ]
    simp only [mk, List.range_zero, List.map_nil, List.nil_append, ev]
    rw [show 2 * 0 = 0 from rfl, cf_zero, cf_succ, cf_nil]
    grind
  | a :: b :: p, x => by
    have h := ev_pairs p x
    have e : ev (mk (((a :: b :: p).length + 1) / 2) fun i => cf (a :: b :: p) (2 * i) + cf (a :: b :: p) (2 * i + 1) * x) (x * x) = ev ((a + b * x) :: mk ((p.length + 1) / 2) fun i => cf p (2 * i) + cf p (2 * i + 1) * x) (x * x) := by
      refine ev_ext _ fun i => ?_
      have hl : (a :: b :: p).length = p.length + 2 := rfl
      cases i with
      | zero => rw [cf_mk, if_pos (by rw [hl]; omega), cf_zero, show 2 * 0 = 0 from rfl, cf_zero, cf_succ, cf_zero]
      | succ i =>
        rw [cf_mk, cf_succ (a + b * x), cf_mk, hl, show 2 * (i + 1) = 2 * i + 1 + 1 by omega, cf_succ, cf_succ, show 2 * i + 1 + 1 + 1 = (2 * i + 1) + 1 + 1 by omega, cf_succ, cf_succ]
        by_cases hi : i < (p.length + 1) / 2
        · rw [if_pos hi, if_pos (by omega)]
        · rw [if_neg hi, if_neg (by omega)]
    rw [e, ev, h, ev, ev]
    grind
end Dig
end Go.Proofs.Ytjemnankgjjgcaa

/- Products of polynomials by sums of whole numbers above a common denominator. Plain mathematics. -/
namespace Go.Proofs.Ytjemnankgjjgcaa
namespace Dig

def sumQ : Nat → (Nat → Rat) → Rat
  | 0, _ => 0
  | n + 1, F => sumQ n F + F n
def sumZ : Nat → (Nat → Int) → Int
  | 0, _ => 0
  | n + 1, F => sumZ n F + F n
theorem sumQ_left : ∀ (n : Nat) (F : Nat → Rat), sumQ (n + 1) F = F 0 + sumQ n fun i => F (i + 1)
  | 0, F => by simp only [sumQ]; grind
  | n + 1, F => by rw [sumQ, sumQ_left n F, sumQ]; grind
theorem conv_sumQ : ∀ (f g : Nat → Rat) (k : Nat), conv f g k = sumQ (k + 1) fun i => f i * g (k - i)
  | f, g, 0 => by simp only [conv, sumQ]; grind
  | f, g, k + 1 => by
    rw [conv, conv_sumQ (fun i => f (i + 1)) g k, sumQ_left (k + 1)]
    congr 1
    have : ∀ n, (∀ i, i < n → i ≤ k) → sumQ n (fun i => f (i + 1) * g (k - i)) = sumQ n (fun i => f (i + 1) * g (k + 1 - (i + 1))) := by
      intro n hn
      induction n with
      | zero => rfl
      | succ n ih =>
        rw [sumQ, sumQ, ih (fun i hi => hn i (by omega)), show k + 1 - (n + 1) = k - n by omega]
    exact this _ (fun i hi => by omega)
theorem sumQ_cast (n : Nat) (F : Nat → Rat) (G : Nat → Int) (c : Rat) (h : ∀ i, i < n → F i = (G i : Rat) * c) : sumQ n F = (sumZ n G : Rat) * c := by
  induction n with
  | zero => simp [sumQ, sumZ]
  | succ n ih =>
    rw [sumQ, sumZ, ih (fun i hi => h i (by omega)), h n (by omega)]
    push_cast
    grind
theorem conv_sumZ (f g : Nat → Rat) (z y : Nat → Int) (c e : Rat) (k : Nat) (hf : ∀ i, f i = (z i : Rat) * c) (hg : ∀ i, g i = (y i : Rat) * e) :
    conv f g k = (sumZ (k + 1) (fun i => z i * y (k - i)) : Rat) * (c * e) := by
  rw [conv_sumQ]
  refine sumQ_cast _ _ _ _ fun i _ => ?_
  rw [hf, hg]
  push_cast
  grind
theorem sumZ_same {F : Nat → Int} : ∀ {a b : Nat}, a ≤ b → (∀ i, a ≤ i → i < b → F i = 0) → sumZ b F = sumZ a F
  | a, 0, h, _ => by rw [Nat.le_zero.1 h]
  | a, b + 1, h, hz => by
    rcases Nat.eq_or_lt_of_le h with h1 | h1
    · rw [h1]
    · rw [sumZ, sumZ_same (a := a) (b := b) (by omega) (fun i h2 h3 => hz i h2 (by omega)), hz b (by omega) (by omega), Int.add_zero]
theorem sumZ_none {F : Nat → Int} {a : Nat} (h : ∀ i, i < a → F i = 0) : sumZ a F = 0 := sumZ_same (a := 0) (Nat.zero_le _) fun i _ hi => h i hi
end Dig
end Go.Proofs.Ytjemnankgjjgcaa

/- A region that draws its order and stores into a variable that it reads: what its loads read until that store comes up, and what holds all along. -/
import Derived.Deep.MidRow
import Derived.Test.YtjemnankgjjgcaaLoad
import Derived.Test.YtjemnankgjjgcaaPlans
import Derived.Test.YtjemnankgjjgcaaPlyb
import Derived.Test.YtjemnankgjjgcaaPrfm
import Derived.Test.YtjemnankgjjgcaaSzp
namespace Go.Proofs.Ytjemnankgjjgcaa
open Go.RowKit Dig
section
variable {P : Program} {ops : Array Oper} {Q : Exit → Act → World → Prop} {md : Region.Mode}
theorem and_self_of {A B : Prop} (a : A) (b : A → B) : A ∧ B := ⟨a, b a⟩
/-- T until operation k has come up; U all along. -/
def tillU (k : Nat) (T U : World → Prop) (L : Array Bool) (w : World) : Prop := (L.getD k false = false → T w) ∧ U w
variable {k : Nat} {T U : World → Prop}
theorem tillU_mono {i : Nat} (hik : i ≠ k) {L : Array Bool} {w : World} (h : tillU k T U L w) : tillU k T U (L.setIfInBounds i true) w := ⟨fun e => h.1 (by rwa [getD_ne false hik] at e), h.2⟩
theorem tillU_back {i : Nat} (hik : i ≠ k) {L : Array Bool} {w : World} (h : tillU k T U (L.setIfInBounds i true) w) : tillU k T U L w := ⟨fun e => h.1 (by rwa [getD_ne false hik]), h.2⟩
/-- An operation that yields in every world where U holds. -/
theorem lu_u {i n : Nat} {L : Array Bool} {a : Act} {w : World} (d : Option Tmp) (v : Value) (hs : Region.noSelect ops = true) (hf : Region.free md ops L i = true) (hr : (Region.ready md ops L).contains i = true)
    (hi : (ops[i]?).isSome = true) (hd : (opI ops i).dst = d) (hw : Region.wanted (opI ops i) (yielded ops a.tmps) = true) (hv : ∀ w, U w → (execOp a.eval (opI ops i)).run P w = .ok (.value v) w)
    (hik : i ≠ k) (hsh : shutB md ops L = true) (hQ : ∀ c (a : Act) d v w, Q (.panic c) (a.put d v) w → Q (.panic c) a w) (hS : tillU k T U L w)
    (h : tillU k T U (L.setIfInBounds i true) w → wpL P md ops Q (tillU k T U) n (L.setIfInBounds i true) (a.put d v) w) : wpL P md ops Q (tillU k T U) (n + 1) L a w := by
  obtain ⟨o, ho⟩ := Option.isSome_iff_exists.1 hi
  have e : opI ops i = o := by unfold opI; rw [ho]; rfl
  rw [e] at hd hw hv
  rw [← hd] at h
  have hr' : i ∈ Region.ready md ops L := by simpa using hr
  exact L_first (T := U) ho (Region.noSelect_spec hs) (fun c a w h => hQ c a o.dst v w h) (fun _ _ h => tillU_mono hik h)
    (fun _ _ h => tillU_back hik h) (fun _ _ _ _ h => h.2) n L a w (Region.free_spec ho hf) (shut_of hsh) hr' (.inl ⟨hw, fun w hw => hv w hw⟩) hS (h (tillU_mono hik hS))
/-- A load of what the store k hits; the store waits for m, which waits for the load. -/
theorem lu_t {i n m : Nat} {L : Array Bool} {a : Act} {w : World} (d : Option Tmp) (v : Value) (hs : Region.noSelect ops = true) (hf : Region.free md ops L i = true) (hr : (Region.ready md ops L).contains i = true)
    (hi : (ops[i]?).isSome = true) (hd : (opI ops i).dst = d) (hw : Region.wanted (opI ops i) (yielded ops a.tmps) = true) (hv : ∀ w, T w → (execOp a.eval (opI ops i)).run P w = .ok (.value v) w)
    (hkm : waits md ops k m = true) (hmi : waits md ops m i = true)
    (hik : i ≠ k) (hsh : shutB md ops L = true) (hQ : ∀ c (a : Act) d v w, Q (.panic c) (a.put d v) w → Q (.panic c) a w) (hS : tillU k T U L w)
    (h : tillU k T U (L.setIfInBounds i true) w → wpL P md ops Q (tillU k T U) n (L.setIfInBounds i true) (a.put d v) w) : wpL P md ops Q (tillU k T U) (n + 1) L a w := by
  obtain ⟨o, ho⟩ := Option.isSome_iff_exists.1 hi
  have e : opI ops i = o := by unfold opI; rw [ho]; rfl
  rw [e] at hd hw hv
  rw [← hd] at h
  have hr' : i ∈ Region.ready md ops L := by simpa using hr
  exact L_first (T := T) ho (Region.noSelect_spec hs) (fun c a w h => hQ c a o.dst v w h) (fun _ _ h => tillU_mono hik h)
    (fun _ _ h => tillU_back hik h) (fun L w h0 h2 h3 => h3.1 (shut_waits h0 hkm (shut_waits h0 hmi h2))) n L a w (Region.free_spec ho hf) (shut_of hsh) hr' (.inl ⟨hw, hv⟩) hS (h (tillU_mono hik hS))
/-- The same where another operation l stands between: k waits for m, m for l, l for the load. -/
theorem lu_t3 {i n m l : Nat} {L : Array Bool} {a : Act} {w : World} (d : Option Tmp) (v : Value) (hs : Region.noSelect ops = true) (hf : Region.free md ops L i = true) (hr : (Region.ready md ops L).contains i = true)
    (hi : (ops[i]?).isSome = true) (hd : (opI ops i).dst = d) (hw : Region.wanted (opI ops i) (yielded ops a.tmps) = true) (hv : ∀ w, T w → (execOp a.eval (opI ops i)).run P w = .ok (.value v) w)
    (hkm : waits md ops k m = true) (hml : waits md ops m l = true) (hli : waits md ops l i = true)
    (hik : i ≠ k) (hsh : shutB md ops L = true) (hQ : ∀ c (a : Act) d v w, Q (.panic c) (a.put d v) w → Q (.panic c) a w) (hS : tillU k T U L w)
    (h : tillU k T U (L.setIfInBounds i true) w → wpL P md ops Q (tillU k T U) n (L.setIfInBounds i true) (a.put d v) w) : wpL P md ops Q (tillU k T U) (n + 1) L a w := by
  obtain ⟨o, ho⟩ := Option.isSome_iff_exists.1 hi
  have e : opI ops i = o := by unfold opI; rw [ho]; rfl
  rw [e] at hd hw hv
  rw [← hd] at h
  have hr' : i ∈ Region.ready md ops L := by simpa using hr
  exact L_first (T := T) ho (Region.noSelect_spec hs) (fun c a w h => hQ c a o.dst v w h) (fun _ _ h => tillU_mono hik h)
    (fun _ _ h => tillU_back hik h) (fun L w h0 h2 h3 => h3.1 (shut_waits h0 hkm (shut_waits h0 hml (shut_waits h0 hli h2)))) n L a w (Region.free_spec ho hf) (shut_of hsh) hr' (.inl ⟨hw, hv⟩) hS (h (tillU_mono hik hS))
end
section
variable {ev : Operand → Value} {o : Oper} {w : World}
/-- The address of an element of a list of fractions. -/
theorem exec_index (x i : Tmp) {b off n c j : Nat} {z : Int} (ho : o.op = .indexAddr 24 (.tmp x) (.tmp i)) (hx : ev (.tmp x) = .slice (some ⟨b, off, none⟩) n c) (hi : ev (.tmp i) = .int .i64 z) (hz : z = (j : Int)) (hj : j < n) :
    (execOp ev o).run Try.prog w = .ok (.value (.pointer (some ⟨b, off + j * 3, none⟩))) w := by
  subst hz
  have hu : Try.prog.underlying 24 = some (.slice 29) := by kernel_rfl
  obtain ⟨i0, hi0, hz0, hz1, hz2⟩ := info_parts info_frac
  have hr : (Instr.indexAt 24 (.slice (some ⟨b, off, none⟩) n c) (.int .i64 (j : Int))).run Try.prog w = .ok (.pointer (some ⟨b, off + j * 3, none⟩)) w := by
    simp [Instr.indexAt, run_underlying hu, asIntOf, hj, sizeOf, typeInfo, hi0, hz1, Sem.run_bind, Addr.add]
  unfold execOp
  simp only [ho, hx, hi, Sem.run_bind, hr, Result.andThen_ok, Sem.run_pure]
/-- The load of an element. -/
theorem exec_loadAt (t : Tmp) {b q : Nat} {tb : Bool} {x y : Value} (hc : w.cell? ⟨b, q, none⟩ = some (.bool tb) ∧ w.cell? ⟨b, q + 1, none⟩ = some x ∧ w.cell? ⟨b, q + 2, none⟩ = some y) (ho : o.op = .load 29 (.tmp t)) (hx : ev (.tmp t) = .pointer (some ⟨b, q, none⟩)) :
    (execOp ev o).run Try.prog w = .ok (.value (.agg #[.bool tb, x, y])) w := by
  obtain ⟨c0, c1, c2⟩ := hc
  have hr : w.rangeAt b q [.bool tb, x, y] := fun j v hv => by
    match j, hv with
    | 0, hv => cases hv; exact c0
    | 1, hv => cases hv; exact c1
    | 2, hv => cases hv; exact c2
    | j + 3, hv => simp at hv
  unfold execOp
  simp only [ho, hx, run_loadAt_mid (P := Try.prog) w b q 29 [.bool tb, x, y] ((Try.prog.underlying 29).getD .bool) hr (by kernel_rfl) (by kernel_rfl) (by kernel_rfl), Sem.run_bind, Result.andThen_ok, Sem.run_pure]
/-- The sum of two whole numbers that stays within the bounds. -/
theorem exec_add (s t : Tmp) {x y : Int} {m : Nat} (ho : o.op = .binOp .add 3 (.tmp s) (.tmp t) 3) (hs : ev (.tmp s) = .int .i64 x) (ht : ev (.tmp t) = .int .i64 y) (h : x + y = (m : Int)) (hm : m ≤ 9223372036854775807) :
    (execOp ev o).run Try.prog w = .ok (.value (.int .i64 (m : Int))) w := by
  have e : IntKind.i64.wrap (x + y) = (m : Int) := by rw [h]; exact IntWalk.i64_in _ (by omega)
  unfold execOp
  simp [ho, hs, ht, eqGuard, binOp, go_sem, e]
/-- The storing of an element. -/
theorem exec_storeAt (t s : Tmp) {b q : Nat} {tb : Bool} {u0 u1 u2 : Value} {A A' : Option Addr} {m c m' c' : Nat} (hc : w.cell? ⟨b, q, none⟩ = some u0 ∧ w.cell? ⟨b, q + 1, none⟩ = some u1 ∧ w.cell? ⟨b, q + 2, none⟩ = some u2) (hf : ∀ j, w.frozen? ⟨b, j, none⟩ = false)
    (ho : o.op = .store 29 (.tmp t) (.tmp s)) (hx : ev (.tmp t) = .pointer (some ⟨b, q, none⟩)) (hy : ev (.tmp s) = .agg #[.bool tb, .slice A m c, .slice A' m' c']) :
    (execOp ev o).run Try.prog w = .ok .skip (stor3o w b q (.bool tb) (.slice A m c) (.slice A' m' c')) := by
  obtain ⟨c0, c1, c2⟩ := hc
  have ht : w.there b q 3 := fun j hj => by
    match j, hj with
    | 0, _ => exact ⟨by rw [show q + 0 = q from rfl, c0]; rfl, hf _⟩
    | 1, _ => exact ⟨by rw [c1]; rfl, hf _⟩
    | 2, _ => exact ⟨by rw [c2]; rfl, hf _⟩
    | j + 3, hj => omega
  have hr := run_storeAt_mid (P := Try.prog) w b q 29 #[.bool tb, .slice A m c, .slice A' m' c'] ht (by kernel_rfl) (by kernel_rfl)
  unfold execOp
  simp only [ho, hx, hy, Sem.run_bind, hr, Result.andThen_ok, Sem.run_pure]
  rfl
end
section
variable {ev : Operand → Value} {o : Oper} {w : World}
/-- A row of one fraction. -/
theorem exec_buildF (t : Tmp) {b : Bool} {A A' : Option Addr} {m c m' c' : Nat} (ho : o.op = .buildSlice 24 1 #[(0, .tmp t)]) (hv : ev (.tmp t) = .agg #[.bool b, .slice A m c, .slice A' m' c']) :
    (execOp ev o).run Try.prog w = .ok (.value (.slice (some ⟨w.heap.size, 0, none⟩) 1 1)) (w.alloc (.cells #[.bool b, .slice A m c, .slice A' m' c'] 29)) := by
  cases o
  simp only at ho
  subst ho
  unfold execOp
  go_simp
end
/-- The append of one fraction onto a list of the call's own. -/
theorem op_appF {ops : Array Oper} {Q : Exit → Act → World → Prop} {E : World → Value → Rat → Prop} (HK : Keeps E) {i : Nat} {K : Act → World → Prop} {a : Act} {w : World} (d : Option Tmp) (s t : Operand) (hi : (ops[i]?).isSome = true) (hd : (opI ops i).dst = d)
    (hw : Region.wanted (opI ops i) (yielded ops a.tmps) = true) (ho : (opI ops i).op = .call { callee := .builtin .append, args := #[s, t], argTypes := #[24, 24] })
    {base : Nat} {v u : Value} {qs ps : List Rat} (hs : a.eval s = v) (ht : a.eval t = u) (hown : Ofl E base w v qs) (hr : Fls E w u ps) (hp : 0 < ps.length) (hb : qs.length + ps.length ≤ 1000000000000) (hbase : base ≤ w.heap.size)
    (h : ∀ v' w', Grew E base w v qs ps v' w' → K (a.put d v') w') : wpOp Try.prog ops Q i K a w := by
  obtain ⟨v', w', hrun, hG⟩ := run_append_f (ty := (opI ops i).type) HK (T := 24) (by kernel_rfl) hown hr hp hb hbase
  refine op_do d v' w' hi hd hw ?_ (h v' w' hG)
  unfold execOp
  simp [ho, resolve, invoke, builtin, hs, ht, hrun, Result.andThen]
end Go.Proofs.Ytjemnankgjjgcaa

/- The contracts of the reference functions PolyAdd and PolyDerivative. -/
namespace Go.Proofs.Ytjemnankgjjgcaa
set_option linter.unusedSimpArgs false
open Go.RowKit Dig
set_option linter.unusedVariables false
section
variable {w : World} {v va vb : Value} {qs ps : List Rat} {p q : Rat} {k l : Nat}
set_option maxHeartbeats 16000000 in
theorem polyAdd_r (ha : Fls (FV k) w va ps) (hb : Fls (FV l) w vb qs) (hk : k ≤ 40000) (hl : l ≤ 40000) (h2 : 2 ≤ k) (h2' : 2 ≤ l) (hm : ps.length ≤ 1000000000) (hm' : qs.length ≤ 1000000000) :
    Calls Try.prog 16 #[va, vb] w (RPF w (padd ps qs) (4 + k + l)) := by
  obtain ⟨A, c, rfl⟩ := ha.form
  obtain ⟨B, d, rfl⟩ := hb.form
  have HA := Lib.hid (fun w1 (hr : Below w.heap.size w w1) => (Fls.below ha (keeps_FV k) hr).cells (n := ps.length))
  have HB := Lib.hid (fun w1 (hr : Below w.heap.size w w1) => (Fls.below hb (keeps_FV l) hr).cells (n := qs.length))
  have OA := Lib.hid (fun j (h : ps.length ≤ j) => cf_over h)
  have OB := Lib.hid (fun j (h : qs.length ≤ j) => cf_over h)
  have HK := Lib.hid (keeps_CV (4 + k + l))
  have F0 := Lib.hid fracInt0_v
  have hP : padd ps qs = tr (mk (max ps.length qs.length) fun i => cf ps i + cf qs i) := rfl
  rw [hP]
  clear ha hb hP
  generalize ps.length = n at *
  generalize qs.length = m at *
  go_enter Try.func16, Try.ntmps16
  go_wp2_with fail
  go_loopw [5, 6] (fun p i wr => ∃ j : Nat, j ≤ max n m ∧ i = .int .i64 j ∧ Ofl (CV (4 + k + l)) w.heap.size wr p (mk j fun i => cf ps i + cf qs i) ∧ Below w.heap.size w wr) (fun _ i _ => max n m - (intOf i).toNat)
  case atStart => exact ⟨0, Nat.zero_le _, rfl, Ofl.nil _ _ _, Below.refl _ _⟩
  case round =>
    obtain ⟨j, hj, rfl, hO, hB⟩ := hrel
    have HO := Lib.hid hO
    have HBB := Lib.hid hB
    by_cases hjp : j < n
    · have HI : (j : Int) < n := by omega
      by_cases hjq : j < m
      · have HI2 : (j : Int) < m := by omega
        obtain ⟨bp, offp, rfl, hbp, hcellp⟩ := HA.out _ hB (by omega)
        obtain ⟨tbp, Xp, xmp, xcp, Yp, ymp, ycp, c0p, c1p, c2p, hvp⟩ := hcellp j hjp
        have SBp := Lib.hid (fun w1 (hr : Below wr.heap.size wr w1) => (show w1.cell? ⟨bp, offp + j * 3, none⟩ = some (.bool tbp) ∧ w1.cell? ⟨bp, offp + j * 3 + 1, none⟩ = some (.slice Xp xmp xcp) ∧ w1.cell? ⟨bp, offp + j * 3 + 2, none⟩ = some (.slice Yp ymp ycp) from ⟨(hr.cell (p := ⟨bp, _, none⟩) hbp).trans c0p, (hr.cell (p := ⟨bp, _, none⟩) hbp).trans c1p, (hr.cell (p := ⟨bp, _, none⟩) hbp).trans c2p⟩))
        have SVp := Lib.hid (fun w1 (hr : Below wr.heap.size wr w1) => FracV.below (w' := w1) hvp hr)
        clear hcellp hvp c0p c1p c2p
        obtain ⟨bq, offq, rfl, hbq, hcellq⟩ := HB.out _ hB (by omega)
        obtain ⟨tbq, Xq, xmq, xcq, Yq, ymq, ycq, c0q, c1q, c2q, hvq⟩ := hcellq j hjq
        have SBq := Lib.hid (fun w1 (hr : Below wr.heap.size wr w1) => (show w1.cell? ⟨bq, offq + j * 3, none⟩ = some (.bool tbq) ∧ w1.cell? ⟨bq, offq + j * 3 + 1, none⟩ = some (.slice Xq xmq xcq) ∧ w1.cell? ⟨bq, offq + j * 3 + 2, none⟩ = some (.slice Yq ymq ycq) from ⟨(hr.cell (p := ⟨bq, _, none⟩) hbq).trans c0q, (hr.cell (p := ⟨bq, _, none⟩) hbq).trans c1q, (hr.cell (p := ⟨bq, _, none⟩) hbq).trans c2q⟩))
        have SVq := Lib.hid (fun w1 (hr : Below wr.heap.size wr w1) => FracV.below (w' := w1) hvq hr)
        clear hcellq hvq c0q c1q c2q
        clear hO hB
        go_wp2_with fail
        refine (F0.out _).mono ?_
        rintro e w1 ⟨u, rfl, hu, hB1⟩
        obtain ⟨b, C, o, r, C', o', r', rfl, hb, hvx, hvy⟩ := hu.parts
        obtain ⟨y1, g, ew, eg, hBW, hF⟩ := var1 w1 b (.slice C o r) (.slice C' o' r')
        have hg : wr.heap.size ≤ g := by have := hB1.size; omega
        have hu := CanF.below hu hBW
        have hK := below_then hB1 hBW
        clear hb hvx hvy hB1 hBW
        go_wp2_with fail
        refine lw_begin (S := tillU 6 (fun w' => Fcl w' g b (.slice C o r) (.slice C' o' r')) (fun w' => Below wr.heap.size wr w')) 7 (by kernel_rfl) (by kernel_rfl) ?_
        have hD := (Below.refl y1.heap.size y1).drew
        have hF := hF.below hD
        have hu := CanF.below hu hD
        have hK := below_then hK hD
        clear hD
        generalize y1.drew = y1d at *
        have hS : tillU 6 (fun w' => Fcl w' g b (.slice C o r) (.slice C' o' r')) (fun w' => Below wr.heap.size wr w') (Array.replicate 7 false) _ := ⟨fun _ => hF, hK⟩
        refine lu_t (i := 0) (m := 5) (some 25) (.agg #[.bool b, .slice C o r, .slice C' o' r']) (by kernel_rfl) (by kernel_rfl) (by kernel_rfl) (by kernel_rfl) (by kernel_rfl) (by kernel_rfl) (fun w hT => exec_load3 7 hT (by kernel_rfl) (by kernel_rfl)) (by kernel_rfl) (by kernel_rfl) (by decide) (by kernel_rfl) (fun _ _ d _ _ h => by cases d <;> exact h) hS (fun hS => ?_)
        simp only [put_lit, put_non, List.set_cons_zero, List.set_cons_succ]
        refine lu_u (i := 1) (some 26) (.slice (some ⟨bp, offp, none⟩) n c) (by kernel_rfl) (by kernel_rfl) (by kernel_rfl) (by kernel_rfl) (by kernel_rfl) (by kernel_rfl) (fun w hU => by kernel_rfl) (by decide) (by kernel_rfl) (fun _ _ d _ _ h => by cases d <;> exact h) hS (fun hS => ?_)
        simp only [put_lit, put_non, List.set_cons_zero, List.set_cons_succ]
        refine lu_u (i := 2) (some 27) (.int .i64 j) (by kernel_rfl) (by kernel_rfl) (by kernel_rfl) (by kernel_rfl) (by kernel_rfl) (by kernel_rfl) (fun w hU => by kernel_rfl) (by decide) (by kernel_rfl) (fun _ _ d _ _ h => by cases d <;> exact h) hS (fun hS => ?_)
        simp only [put_lit, put_non, List.set_cons_zero, List.set_cons_succ]
        refine lu_u (i := 3) (some 28) (.pointer (some ⟨bp, offp + j * 3, none⟩)) (by kernel_rfl) (by kernel_rfl) (by kernel_rfl) (by kernel_rfl) (by kernel_rfl) (by kernel_rfl) (fun w hU => exec_index (c := c) 26 27 (by kernel_rfl) (by kernel_rfl) (by kernel_rfl) rfl hjp) (by decide) (by kernel_rfl) (fun _ _ d _ _ h => by cases d <;> exact h) hS (fun hS => ?_)
        simp only [put_lit, put_non, List.set_cons_zero, List.set_cons_succ]
        refine lu_u (i := 4) (some 29) (.agg #[.bool tbp, .slice Xp xmp xcp, .slice Yp ymp ycp]) (by kernel_rfl) (by kernel_rfl) (by kernel_rfl) (by kernel_rfl) (by kernel_rfl) (by kernel_rfl) (fun w hU => exec_loadAt 28 (SBp.out _ hU) (by kernel_rfl) (by kernel_rfl)) (by decide) (by kernel_rfl) (fun _ _ d _ _ h => by cases d <;> exact h) hS (fun hS => ?_)
        simp only [put_lit, put_non, List.set_cons_zero, List.set_cons_succ]
        refine lw_one (i := 5) (by kernel_rfl) ?_
        refine op_call (some 30) 52 #[.agg #[.bool b, .slice C o r, .slice C' o' r'], .agg #[.bool tbp, .slice Xp xmp xcp, .slice Yp ymp ycp]] (by kernel_rfl) (by kernel_rfl) (by kernel_rfl) (fun w => by kernel_rfl) ?_
        refine (fracAdd_v hu.fracV (SVp.out _ hK) (by omega) (by omega) (by omega) (by omega)).mono ?_
        rintro e y1e ⟨u, rfl, hu2, hB⟩
        have hF := hF.below hB
        have hK := below_then hK hB
        obtain ⟨bb1, D1, d1, f1, D1', d1', f1', rfl, hb2, hvx2, hvy2⟩ := hu2.parts
        clear hB hu hu2
        refine ⟨_, rfl, ?_⟩
        refine and_self_of ⟨fun _ => hF, hK⟩ (fun hS => ?_)
        simp only [put_lit, put_non, List.set_cons_zero, List.set_cons_succ]
        refine lw_one (i := 6) (by kernel_rfl) ?_
        refine op_skip none (stor3 y1e g (.bool bb1) (.slice D1 d1 f1) (.slice D1' d1' f1')) (by kernel_rfl) (by kernel_rfl) (by kernel_rfl) (exec_store3 7 30 hF (by kernel_rfl) (by kernel_rfl) (by kernel_rfl)) ?_
        have hu := CanF.ofParts hb2 (hvx2.put3 hF (.bool bb1) (.slice D1 d1 f1) (.slice D1' d1' f1')) (hvy2.put3 hF (.bool bb1) (.slice D1 d1 f1) (.slice D1' d1' f1'))
        have hK := below_put3 hK hg (.bool bb1) (.slice D1 d1 f1) (.slice D1' d1' f1')
        have hF := hF.put3 bb1 (.slice D1 d1 f1) (.slice D1' d1' f1')
        clear hb2 hvx2 hvy2
        generalize stor3 y1e g (.bool bb1) (.slice D1 d1 f1) (.slice D1' d1' f1') = y2 at *
        refine and_self_of ⟨fun h => absurd (h.symm.trans (by kernel_rfl)) Bool.false_ne_true, hK⟩ (fun hS => ?_)
        simp only [put_lit, put_non, List.set_cons_zero, List.set_cons_succ]
        refine lw_done (by kernel_rfl) ?_
        go_wp2_with fail
        refine lw_begin (S := tillU 6 (fun w' => Fcl w' g bb1 (.slice D1 d1 f1) (.slice D1' d1' f1')) (fun w' => Below wr.heap.size wr w')) 7 (by kernel_rfl) (by kernel_rfl) ?_
        have hD := (Below.refl y2.heap.size y2).drew
        have hF := hF.below hD
        have hu := CanF.below hu hD
        have hK := below_then hK hD
        clear hD
        generalize y2.drew = y2d at *
        have hS : tillU 6 (fun w' => Fcl w' g bb1 (.slice D1 d1 f1) (.slice D1' d1' f1')) (fun w' => Below wr.heap.size wr w') (Array.replicate 7 false) _ := ⟨fun _ => hF, hK⟩
        refine lu_t (i := 0) (m := 5) (some 35) (.agg #[.bool bb1, .slice D1 d1 f1, .slice D1' d1' f1']) (by kernel_rfl) (by kernel_rfl) (by kernel_rfl) (by kernel_rfl) (by kernel_rfl) (by kernel_rfl) (fun w hT => exec_load3 7 hT (by kernel_rfl) (by kernel_rfl)) (by kernel_rfl) (by kernel_rfl) (by decide) (by kernel_rfl) (fun _ _ d _ _ h => by cases d <;> exact h) hS (fun hS => ?_)
        simp only [put_lit, put_non, List.set_cons_zero, List.set_cons_succ]
        refine lu_u (i := 1) (some 36) (.slice (some ⟨bq, offq, none⟩) m d) (by kernel_rfl) (by kernel_rfl) (by kernel_rfl) (by kernel_rfl) (by kernel_rfl) (by kernel_rfl) (fun w hU => by kernel_rfl) (by decide) (by kernel_rfl) (fun _ _ d _ _ h => by cases d <;> exact h) hS (fun hS => ?_)
        simp only [put_lit, put_non, List.set_cons_zero, List.set_cons_succ]
        refine lu_u (i := 2) (some 37) (.int .i64 j) (by kernel_rfl) (by kernel_rfl) (by kernel_rfl) (by kernel_rfl) (by kernel_rfl) (by kernel_rfl) (fun w hU => by kernel_rfl) (by decide) (by kernel_rfl) (fun _ _ d _ _ h => by cases d <;> exact h) hS (fun hS => ?_)
        simp only [put_lit, put_non, List.set_cons_zero, List.set_cons_succ]
        refine lu_u (i := 3) (some 38) (.pointer (some ⟨bq, offq + j * 3, none⟩)) (by kernel_rfl) (by kernel_rfl) (by kernel_rfl) (by kernel_rfl) (by kernel_rfl) (by kernel_rfl) (fun w hU => exec_index (c := d) 36 37 (by kernel_rfl) (by kernel_rfl) (by kernel_rfl) rfl hjq) (by decide) (by kernel_rfl) (fun _ _ d _ _ h => by cases d <;> exact h) hS (fun hS => ?_)
        simp only [put_lit, put_non, List.set_cons_zero, List.set_cons_succ]
        refine lu_u (i := 4) (some 39) (.agg #[.bool tbq, .slice Xq xmq xcq, .slice Yq ymq ycq]) (by kernel_rfl) (by kernel_rfl) (by kernel_rfl) (by kernel_rfl) (by kernel_rfl) (by kernel_rfl) (fun w hU => exec_loadAt 38 (SBq.out _ hU) (by kernel_rfl) (by kernel_rfl)) (by decide) (by kernel_rfl) (fun _ _ d _ _ h => by cases d <;> exact h) hS (fun hS => ?_)
        simp only [put_lit, put_non, List.set_cons_zero, List.set_cons_succ]
        refine lw_one (i := 5) (by kernel_rfl) ?_
        refine op_call (some 40) 52 #[.agg #[.bool bb1, .slice D1 d1 f1, .slice D1' d1' f1'], .agg #[.bool tbq, .slice Xq xmq xcq, .slice Yq ymq ycq]] (by kernel_rfl) (by kernel_rfl) (by kernel_rfl) (fun w => by kernel_rfl) ?_
        refine (fracAdd_v hu.fracV (SVq.out _ hK) (by omega) (by omega) (by omega) (by omega)).mono ?_
        rintro e y2e ⟨u, rfl, hu2, hB⟩
        have hF := hF.below hB
        have hK := below_then hK hB
        obtain ⟨bb2, D2, d2, f2, D2', d2', f2', rfl, hb2, hvx2, hvy2⟩ := hu2.parts
        clear hB hu hu2
        refine ⟨_, rfl, ?_⟩
        refine and_self_of ⟨fun _ => hF, hK⟩ (fun hS => ?_)
        simp only [put_lit, put_non, List.set_cons_zero, List.set_cons_succ]
        refine lw_one (i := 6) (by kernel_rfl) ?_
        refine op_skip none (stor3 y2e g (.bool bb2) (.slice D2 d2 f2) (.slice D2' d2' f2')) (by kernel_rfl) (by kernel_rfl) (by kernel_rfl) (exec_store3 7 40 hF (by kernel_rfl) (by kernel_rfl) (by kernel_rfl)) ?_
        have hu := CanF.ofParts hb2 (hvx2.put3 hF (.bool bb2) (.slice D2 d2 f2) (.slice D2' d2' f2')) (hvy2.put3 hF (.bool bb2) (.slice D2 d2 f2) (.slice D2' d2' f2'))
        have hK := below_put3 hK hg (.bool bb2) (.slice D2 d2 f2) (.slice D2' d2' f2')
        have hF := hF.put3 bb2 (.slice D2 d2 f2) (.slice D2' d2' f2')
        clear hb2 hvx2 hvy2
        generalize stor3 y2e g (.bool bb2) (.slice D2 d2 f2) (.slice D2' d2' f2') = y3 at *
        refine and_self_of ⟨fun h => absurd (h.symm.trans (by kernel_rfl)) Bool.false_ne_true, hK⟩ (fun hS => ?_)
        simp only [put_lit, put_non, List.set_cons_zero, List.set_cons_succ]
        refine lw_done (by kernel_rfl) ?_
        rw [show 0 + cf ps j + cf qs j = cf ps j + cf qs j by grind] at hu
        have hu := hu.le (show _ ≤ 4 + k + l by omega)
        have HE := Lib.hid (CanF.elem hu)
        obtain ⟨m0, m1, m2⟩ := hF.cells
        have hAl : Below y3.heap.size y3 (y3.alloc (.cells #[.bool bb2, .slice D2 d2 f2, .slice D2' d2' f2'] 29)) := (Below.refl _ _).alloc (Nat.le_refl _) _
        have hB2 := below_then hK hAl
        have HO2 := Lib.hid (HO.out.below HK.out hB2)
        have HB2 := Lib.hid (below_then HBB.out hB2)
        have hsz : w.heap.size ≤ y3.heap.size + 1 := by have := HBB.out.size; have := hK.size; omega
        clear hu hAl hB2 hF hK
        go_wp2_with (at_builtin; refine wp_append_f HK.out 24 (by kernel_rfl) rfl _ _ rfl w.heap.size u5 (mk j fun i => cf ps i + cf qs i) rfl HO2.out (.slice (some ⟨y3.heap.size, 0, none⟩) 1 1) [cf ps j + cf qs j] rfl HE.out (by simp) (by rw [mk_length]; simp; omega) (by simp; omega) ?_; intro v' w' hG)
        obtain ⟨hG1, hG2, hG3, A9, n9, c9, rfl⟩ := hG
        go_roundw
        case rel => exact ⟨j + 1, by omega, by go_num, by rw [mk_succ]; exact hG1, HB2.out.grown hG2 HB2.out.size (fun k e => HO2.out.inside e)⟩
        case measure => simp [intOf]; omega
      · have HI2 : ¬ (j : Int) < m := by omega
        obtain ⟨bp, offp, rfl, hbp, hcellp⟩ := HA.out _ hB (by omega)
        obtain ⟨tbp, Xp, xmp, xcp, Yp, ymp, ycp, c0p, c1p, c2p, hvp⟩ := hcellp j hjp
        have SBp := Lib.hid (fun w1 (hr : Below wr.heap.size wr w1) => (show w1.cell? ⟨bp, offp + j * 3, none⟩ = some (.bool tbp) ∧ w1.cell? ⟨bp, offp + j * 3 + 1, none⟩ = some (.slice Xp xmp xcp) ∧ w1.cell? ⟨bp, offp + j * 3 + 2, none⟩ = some (.slice Yp ymp ycp) from ⟨(hr.cell (p := ⟨bp, _, none⟩) hbp).trans c0p, (hr.cell (p := ⟨bp, _, none⟩) hbp).trans c1p, (hr.cell (p := ⟨bp, _, none⟩) hbp).trans c2p⟩))
        have SVp := Lib.hid (fun w1 (hr : Below wr.heap.size wr w1) => FracV.below (w' := w1) hvp hr)
        clear hcellp hvp c0p c1p c2p
        clear hO hB
        go_wp2_with fail
        refine (F0.out _).mono ?_
        rintro e w1 ⟨u, rfl, hu, hB1⟩
        obtain ⟨b, C, o, r, C', o', r', rfl, hb, hvx, hvy⟩ := hu.parts
        obtain ⟨y1, g, ew, eg, hBW, hF⟩ := var1 w1 b (.slice C o r) (.slice C' o' r')
        have hg : wr.heap.size ≤ g := by have := hB1.size; omega
        have hu := CanF.below hu hBW
        have hK := below_then hB1 hBW
        clear hb hvx hvy hB1 hBW
        go_wp2_with fail
        refine lw_begin (S := tillU 6 (fun w' => Fcl w' g b (.slice C o r) (.slice C' o' r')) (fun w' => Below wr.heap.size wr w')) 7 (by kernel_rfl) (by kernel_rfl) ?_
        have hD := (Below.refl y1.heap.size y1).drew
        have hF := hF.below hD
        have hu := CanF.below hu hD
        have hK := below_then hK hD
        clear hD
        generalize y1.drew = y1d at *
        have hS : tillU 6 (fun w' => Fcl w' g b (.slice C o r) (.slice C' o' r')) (fun w' => Below wr.heap.size wr w') (Array.replicate 7 false) _ := ⟨fun _ => hF, hK⟩
        refine lu_t (i := 0) (m := 5) (some 25) (.agg #[.bool b, .slice C o r, .slice C' o' r']) (by kernel_rfl) (by kernel_rfl) (by kernel_rfl) (by kernel_rfl) (by kernel_rfl) (by kernel_rfl) (fun w hT => exec_load3 7 hT (by kernel_rfl) (by kernel_rfl)) (by kernel_rfl) (by kernel_rfl) (by decide) (by kernel_rfl) (fun _ _ d _ _ h => by cases d <;> exact h) hS (fun hS => ?_)
        simp only [put_lit, put_non, List.set_cons_zero, List.set_cons_succ]
        refine lu_u (i := 1) (some 26) (.slice (some ⟨bp, offp, none⟩) n c) (by kernel_rfl) (by kernel_rfl) (by kernel_rfl) (by kernel_rfl) (by kernel_rfl) (by kernel_rfl) (fun w hU => by kernel_rfl) (by decide) (by kernel_rfl) (fun _ _ d _ _ h => by cases d <;> exact h) hS (fun hS => ?_)
        simp only [put_lit, put_non, List.set_cons_zero, List.set_cons_succ]
        refine lu_u (i := 2) (some 27) (.int .i64 j) (by kernel_rfl) (by kernel_rfl) (by kernel_rfl) (by kernel_rfl) (by kernel_rfl) (by kernel_rfl) (fun w hU => by kernel_rfl) (by decide) (by kernel_rfl) (fun _ _ d _ _ h => by cases d <;> exact h) hS (fun hS => ?_)
        simp only [put_lit, put_non, List.set_cons_zero, List.set_cons_succ]
        refine lu_u (i := 3) (some 28) (.pointer (some ⟨bp, offp + j * 3, none⟩)) (by kernel_rfl) (by kernel_rfl) (by kernel_rfl) (by kernel_rfl) (by kernel_rfl) (by kernel_rfl) (fun w hU => exec_index (c := c) 26 27 (by kernel_rfl) (by kernel_rfl) (by kernel_rfl) rfl hjp) (by decide) (by kernel_rfl) (fun _ _ d _ _ h => by cases d <;> exact h) hS (fun hS => ?_)
        simp only [put_lit, put_non, List.set_cons_zero, List.set_cons_succ]
        refine lu_u (i := 4) (some 29) (.agg #[.bool tbp, .slice Xp xmp xcp, .slice Yp ymp ycp]) (by kernel_rfl) (by kernel_rfl) (by kernel_rfl) (by kernel_rfl) (by kernel_rfl) (by kernel_rfl) (fun w hU => exec_loadAt 28 (SBp.out _ hU) (by kernel_rfl) (by kernel_rfl)) (by decide) (by kernel_rfl) (fun _ _ d _ _ h => by cases d <;> exact h) hS (fun hS => ?_)
        simp only [put_lit, put_non, List.set_cons_zero, List.set_cons_succ]
        refine lw_one (i := 5) (by kernel_rfl) ?_
        refine op_call (some 30) 52 #[.agg #[.bool b, .slice C o r, .slice C' o' r'], .agg #[.bool tbp, .slice Xp xmp xcp, .slice Yp ymp ycp]] (by kernel_rfl) (by kernel_rfl) (by kernel_rfl) (fun w => by kernel_rfl) ?_
        refine (fracAdd_v hu.fracV (SVp.out _ hK) (by omega) (by omega) (by omega) (by omega)).mono ?_
        rintro e y1e ⟨u, rfl, hu2, hB⟩
        have hF := hF.below hB
        have hK := below_then hK hB
        obtain ⟨bb1, D1, d1, f1, D1', d1', f1', rfl, hb2, hvx2, hvy2⟩ := hu2.parts
        clear hB hu hu2
        refine ⟨_, rfl, ?_⟩
        refine and_self_of ⟨fun _ => hF, hK⟩ (fun hS => ?_)
        simp only [put_lit, put_non, List.set_cons_zero, List.set_cons_succ]
        refine lw_one (i := 6) (by kernel_rfl) ?_
        refine op_skip none (stor3 y1e g (.bool bb1) (.slice D1 d1 f1) (.slice D1' d1' f1')) (by kernel_rfl) (by kernel_rfl) (by kernel_rfl) (exec_store3 7 30 hF (by kernel_rfl) (by kernel_rfl) (by kernel_rfl)) ?_
        have hu := CanF.ofParts hb2 (hvx2.put3 hF (.bool bb1) (.slice D1 d1 f1) (.slice D1' d1' f1')) (hvy2.put3 hF (.bool bb1) (.slice D1 d1 f1) (.slice D1' d1' f1'))
        have hK := below_put3 hK hg (.bool bb1) (.slice D1 d1 f1) (.slice D1' d1' f1')
        have hF := hF.put3 bb1 (.slice D1 d1 f1) (.slice D1' d1' f1')
        clear hb2 hvx2 hvy2
        generalize stor3 y1e g (.bool bb1) (.slice D1 d1 f1) (.slice D1' d1' f1') = y2 at *
        refine and_self_of ⟨fun h => absurd (h.symm.trans (by kernel_rfl)) Bool.false_ne_true, hK⟩ (fun hS => ?_)
        simp only [put_lit, put_non, List.set_cons_zero, List.set_cons_succ]
        refine lw_done (by kernel_rfl) ?_
        rw [show 0 + cf ps j = cf ps j + cf qs j by rw [OB.out j (by omega)]; grind] at hu
        have hu := hu.le (show _ ≤ 4 + k + l by omega)
        have HE := Lib.hid (CanF.elem hu)
        obtain ⟨m0, m1, m2⟩ := hF.cells
        have hAl : Below y2.heap.size y2 (y2.alloc (.cells #[.bool bb1, .slice D1 d1 f1, .slice D1' d1' f1'] 29)) := (Below.refl _ _).alloc (Nat.le_refl _) _
        have hB2 := below_then hK hAl
        have HO2 := Lib.hid (HO.out.below HK.out hB2)
        have HB2 := Lib.hid (below_then HBB.out hB2)
        have hsz : w.heap.size ≤ y2.heap.size + 1 := by have := HBB.out.size; have := hK.size; omega
        clear hu hAl hB2 hF hK
        go_wp2_with (at_builtin; refine wp_append_f HK.out 24 (by kernel_rfl) rfl _ _ rfl w.heap.size u5 (mk j fun i => cf ps i + cf qs i) rfl HO2.out (.slice (some ⟨y2.heap.size, 0, none⟩) 1 1) [cf ps j + cf qs j] rfl HE.out (by simp) (by rw [mk_length]; simp; omega) (by simp; omega) ?_; intro v' w' hG)
        obtain ⟨hG1, hG2, hG3, A9, n9, c9, rfl⟩ := hG
        go_roundw
        case rel => exact ⟨j + 1, by omega, by go_num, by rw [mk_succ]; exact hG1, HB2.out.grown hG2 HB2.out.size (fun k e => HO2.out.inside e)⟩
        case measure => simp [intOf]; omega
    · have HI : ¬ (j : Int) < n := by omega
      by_cases hjq : j < m
      · have HI2 : (j : Int) < m := by omega
        obtain ⟨bq, offq, rfl, hbq, hcellq⟩ := HB.out _ hB (by omega)
        obtain ⟨tbq, Xq, xmq, xcq, Yq, ymq, ycq, c0q, c1q, c2q, hvq⟩ := hcellq j hjq
        have SBq := Lib.hid (fun w1 (hr : Below wr.heap.size wr w1) => (show w1.cell? ⟨bq, offq + j * 3, none⟩ = some (.bool tbq) ∧ w1.cell? ⟨bq, offq + j * 3 + 1, none⟩ = some (.slice Xq xmq xcq) ∧ w1.cell? ⟨bq, offq + j * 3 + 2, none⟩ = some (.slice Yq ymq ycq) from ⟨(hr.cell (p := ⟨bq, _, none⟩) hbq).trans c0q, (hr.cell (p := ⟨bq, _, none⟩) hbq).trans c1q, (hr.cell (p := ⟨bq, _, none⟩) hbq).trans c2q⟩))
        have SVq := Lib.hid (fun w1 (hr : Below wr.heap.size wr w1) => FracV.below (w' := w1) hvq hr)
        clear hcellq hvq c0q c1q c2q
        clear hO hB
        go_wp2_with fail
        refine (F0.out _).mono ?_
        rintro e w1 ⟨u, rfl, hu, hB1⟩
        obtain ⟨b, C, o, r, C', o', r', rfl, hb, hvx, hvy⟩ := hu.parts
        obtain ⟨y1, g, ew, eg, hBW, hF⟩ := var1 w1 b (.slice C o r) (.slice C' o' r')
        have hg : wr.heap.size ≤ g := by have := hB1.size; omega
        have hu := CanF.below hu hBW
        have hK := below_then hB1 hBW
        clear hb hvx hvy hB1 hBW
        go_wp2_with fail
        refine lw_begin (S := tillU 6 (fun w' => Fcl w' g b (.slice C o r) (.slice C' o' r')) (fun w' => Below wr.heap.size wr w')) 7 (by kernel_rfl) (by kernel_rfl) ?_
        have hD := (Below.refl y1.heap.size y1).drew
        have hF := hF.below hD
        have hu := CanF.below hu hD
        have hK := below_then hK hD
        clear hD
        generalize y1.drew = y1d at *
        have hS : tillU 6 (fun w' => Fcl w' g b (.slice C o r) (.slice C' o' r')) (fun w' => Below wr.heap.size wr w') (Array.replicate 7 false) _ := ⟨fun _ => hF, hK⟩
        refine lu_t (i := 0) (m := 5) (some 35) (.agg #[.bool b, .slice C o r, .slice C' o' r']) (by kernel_rfl) (by kernel_rfl) (by kernel_rfl) (by kernel_rfl) (by kernel_rfl) (by kernel_rfl) (fun w hT => exec_load3 7 hT (by kernel_rfl) (by kernel_rfl)) (by kernel_rfl) (by kernel_rfl) (by decide) (by kernel_rfl) (fun _ _ d _ _ h => by cases d <;> exact h) hS (fun hS => ?_)
        simp only [put_lit, put_non, List.set_cons_zero, List.set_cons_succ]
        refine lu_u (i := 1) (some 36) (.slice (some ⟨bq, offq, none⟩) m d) (by kernel_rfl) (by kernel_rfl) (by kernel_rfl) (by kernel_rfl) (by kernel_rfl) (by kernel_rfl) (fun w hU => by kernel_rfl) (by decide) (by kernel_rfl) (fun _ _ d _ _ h => by cases d <;> exact h) hS (fun hS => ?_)
        simp only [put_lit, put_non, List.set_cons_zero, List.set_cons_succ]
        refine lu_u (i := 2) (some 37) (.int .i64 j) (by kernel_rfl) (by kernel_rfl) (by kernel_rfl) (by kernel_rfl) (by kernel_rfl) (by kernel_rfl) (fun w hU => by kernel_rfl) (by decide) (by kernel_rfl) (fun _ _ d _ _ h => by cases d <;> exact h) hS (fun hS => ?_)
        simp only [put_lit, put_non, List.set_cons_zero, List.set_cons_succ]
        refine lu_u (i := 3) (some 38) (.pointer (some ⟨bq, offq + j * 3, none⟩)) (by kernel_rfl) (by kernel_rfl) (by kernel_rfl) (by kernel_rfl) (by kernel_rfl) (by kernel_rfl) (fun w hU => exec_index (c := d) 36 37 (by kernel_rfl) (by kernel_rfl) (by kernel_rfl) rfl hjq) (by decide) (by kernel_rfl) (fun _ _ d _ _ h => by cases d <;> exact h) hS (fun hS => ?_)
        simp only [put_lit, put_non, List.set_cons_zero, List.set_cons_succ]
        refine lu_u (i := 4) (some 39) (.agg #[.bool tbq, .slice Xq xmq xcq, .slice Yq ymq ycq]) (by kernel_rfl) (by kernel_rfl) (by kernel_rfl) (by kernel_rfl) (by kernel_rfl) (by kernel_rfl) (fun w hU => exec_loadAt 38 (SBq.out _ hU) (by kernel_rfl) (by kernel_rfl)) (by decide) (by kernel_rfl) (fun _ _ d _ _ h => by cases d <;> exact h) hS (fun hS => ?_)
        simp only [put_lit, put_non, List.set_cons_zero, List.set_cons_succ]
        refine lw_one (i := 5) (by kernel_rfl) ?_
        refine op_call (some 40) 52 #[.agg #[.bool b, .slice C o r, .slice C' o' r'], .agg #[.bool tbq, .slice Xq xmq xcq, .slice Yq ymq ycq]] (by kernel_rfl) (by kernel_rfl) (by kernel_rfl) (fun w => by kernel_rfl) ?_
        refine (fracAdd_v hu.fracV (SVq.out _ hK) (by omega) (by omega) (by omega) (by omega)).mono ?_
        rintro e y1e ⟨u, rfl, hu2, hB⟩
        have hF := hF.below hB
        have hK := below_then hK hB
        obtain ⟨bb1, D1, d1, f1, D1', d1', f1', rfl, hb2, hvx2, hvy2⟩ := hu2.parts
        clear hB hu hu2
        refine ⟨_, rfl, ?_⟩
        refine and_self_of ⟨fun _ => hF, hK⟩ (fun hS => ?_)
        simp only [put_lit, put_non, List.set_cons_zero, List.set_cons_succ]
        refine lw_one (i := 6) (by kernel_rfl) ?_
        refine op_skip none (stor3 y1e g (.bool bb1) (.slice D1 d1 f1) (.slice D1' d1' f1')) (by kernel_rfl) (by kernel_rfl) (by kernel_rfl) (exec_store3 7 40 hF (by kernel_rfl) (by kernel_rfl) (by kernel_rfl)) ?_
        have hu := CanF.ofParts hb2 (hvx2.put3 hF (.bool bb1) (.slice D1 d1 f1) (.slice D1' d1' f1')) (hvy2.put3 hF (.bool bb1) (.slice D1 d1 f1) (.slice D1' d1' f1'))
        have hK := below_put3 hK hg (.bool bb1) (.slice D1 d1 f1) (.slice D1' d1' f1')
        have hF := hF.put3 bb1 (.slice D1 d1 f1) (.slice D1' d1' f1')
        clear hb2 hvx2 hvy2
        generalize stor3 y1e g (.bool bb1) (.slice D1 d1 f1) (.slice D1' d1' f1') = y2 at *
        refine and_self_of ⟨fun h => absurd (h.symm.trans (by kernel_rfl)) Bool.false_ne_true, hK⟩ (fun hS => ?_)
        simp only [put_lit, put_non, List.set_cons_zero, List.set_cons_succ]
        refine lw_done (by kernel_rfl) ?_
        rw [show 0 + cf qs j = cf ps j + cf qs j by rw [OA.out j (by omega)]] at hu
        have hu := hu.le (show _ ≤ 4 + k + l by omega)
        have HE := Lib.hid (CanF.elem hu)
        obtain ⟨m0, m1, m2⟩ := hF.cells
        have hAl : Below y2.heap.size y2 (y2.alloc (.cells #[.bool bb1, .slice D1 d1 f1, .slice D1' d1' f1'] 29)) := (Below.refl _ _).alloc (Nat.le_refl _) _
        have hB2 := below_then hK hAl
        have HO2 := Lib.hid (HO.out.below HK.out hB2)
        have HB2 := Lib.hid (below_then HBB.out hB2)
        have hsz : w.heap.size ≤ y2.heap.size + 1 := by have := HBB.out.size; have := hK.size; omega
        clear hu hAl hB2 hF hK
        go_wp2_with (at_builtin; refine wp_append_f HK.out 24 (by kernel_rfl) rfl _ _ rfl w.heap.size u5 (mk j fun i => cf ps i + cf qs i) rfl HO2.out (.slice (some ⟨y2.heap.size, 0, none⟩) 1 1) [cf ps j + cf qs j] rfl HE.out (by simp) (by rw [mk_length]; simp; omega) (by simp; omega) ?_; intro v' w' hG)
        obtain ⟨hG1, hG2, hG3, A9, n9, c9, rfl⟩ := hG
        go_roundw
        case rel => exact ⟨j + 1, by omega, by go_num, by rw [mk_succ]; exact hG1, HB2.out.grown hG2 HB2.out.size (fun k e => HO2.out.inside e)⟩
        case measure => simp [intOf]; omega
      · have HI2 : ¬ (j : Int) < m := by omega
        obtain rfl : j = max n m := by omega
        have hf := hO.fls
        obtain ⟨B2, c2, eB⟩ := hf.form
        have NR := Lib.hid (polyNorm_r (hf.weaken (E' := FV (4 + k + l)) (fun v q _ h => CanF.fracV h)) (by omega) (by omega) (by rw [mk_length]; omega))
        clear hO hB HO hf
        subst eB
        go_wp2_with fail
        refine (NR.out).mono ?_
        rintro e w2 ⟨x, rfl, hx, hB2⟩
        obtain ⟨B3, c3, rfl⟩ := hx.form
        have HX := Lib.hid hx
        clear hx
        go_wp2_with fail
        go_ret
        exact ⟨_, rfl, HX.out, below_then HBB.out hB2⟩
set_option maxHeartbeats 16000000 in
theorem polyDer_r (ha : Fls (FV k) w va ps) (hk : k ≤ 40000) (h2 : 2 ≤ k) (hm : ps.length ≤ 1000000000) :
    Calls Try.prog 22 #[va] w (RPF w (pder ps) (k + 2)) := by
  obtain ⟨A, c, rfl⟩ := ha.form
  have HA := Lib.hid (fun w1 (hr : Below w.heap.size w w1) => (Fls.below ha (keeps_FV k) hr).cells (n := ps.length))
  have HK := Lib.hid (keeps_CV (k + 2))
  have HD := Lib.hid (fun t (h1 : 1 ≤ t) => (show cf ps t * (t : Rat) = der (cf ps) (t - 1) by
    obtain ⟨i, rfl⟩ : ∃ i, t = i + 1 := ⟨t - 1, by omega⟩
    rw [Nat.add_sub_cancel, der, ← natCast_succ]; grind))
  have hP : pder ps = tr (mk (ps.length - 1) (der (cf ps))) := rfl
  rw [hP]
  clear ha hP
  generalize ps.length = n at *
  generalize der (cf ps) = DR at *
  go_enter Try.func22, Try.ntmps22
  go_wp2_with fail
  go_loopw [3, 4] (fun p i wr => ∃ t : Nat, 1 ≤ t ∧ t ≤ max n 1 ∧ i = .int .i64 t ∧ Ofl (CV (k + 2)) w.heap.size wr p (mk (t - 1) DR) ∧ Below w.heap.size w wr) (fun _ i _ => n - (intOf i).toNat)
  case atStart => exact ⟨1, by omega, by omega, rfl, Ofl.nil _ _ _, Below.refl _ _⟩
  case round =>
    obtain ⟨t, ht1, ht, rfl, hO, hB⟩ := hrel
    have HBB := Lib.hid hB
    by_cases hjp : t < n
    · have HI : (t : Int) < n := by omega
      obtain ⟨bp, offp, rfl, hbp, hcellp⟩ := HA.out _ (Below.refl _ _) (by omega)
      obtain ⟨tbp, Xp, xmp, xcp, Yp, ymp, ycp, c0p, c1p, c2p, hvp⟩ := hcellp t hjp
      have SBp := Lib.hid (fun w1 (hr : Below w.heap.size w w1) => (show w1.cell? ⟨bp, offp + t * 3, none⟩ = some (.bool tbp) ∧ w1.cell? ⟨bp, offp + t * 3 + 1, none⟩ = some (.slice Xp xmp xcp) ∧ w1.cell? ⟨bp, offp + t * 3 + 2, none⟩ = some (.slice Yp ymp ycp) from ⟨(hr.cell (p := ⟨bp, _, none⟩) hbp).trans c0p, (hr.cell (p := ⟨bp, _, none⟩) hbp).trans c1p, (hr.cell (p := ⟨bp, _, none⟩) hbp).trans c2p⟩))
      have SVp := Lib.hid (fun w1 (hr : Below w.heap.size w w1) => FracV.below (w' := w1) hvp hr)
      clear hcellp hvp c0p c1p c2p
      clear hB
      go_wp2_with fail
      refine lw_begin (S := tillU 99 (fun _ => True) (fun w' => Below w.heap.size w w')) 11 (by kernel_rfl) (by kernel_rfl) ?_
      have hD := (Below.refl wr.heap.size wr).drew
      have hO := hO.below HK.out hD
      have hK := below_then HBB.out hD
      clear hD
      generalize wr.drew = y0 at *
      have hS : tillU 99 (fun _ => True) (fun w' => Below w.heap.size w w') (Array.replicate 11 false) _ := ⟨fun _ => trivial, hK⟩
      refine lu_u (i := 0) (some 11) (u3) (by kernel_rfl) (by kernel_rfl) (by kernel_rfl) (by kernel_rfl) (by kernel_rfl) (by kernel_rfl) (fun w hU => by kernel_rfl) (by decide) (by kernel_rfl) (fun _ _ d _ _ h => by cases d <;> exact h) hS (fun hS => ?_)
      simp only [put_lit, put_non, List.set_cons_zero, List.set_cons_succ]
      refine lu_u (i := 1) (some 12) (.slice (some ⟨bp, offp, none⟩) n c) (by kernel_rfl) (by kernel_rfl) (by kernel_rfl) (by kernel_rfl) (by kernel_rfl) (by kernel_rfl) (fun w hU => by kernel_rfl) (by decide) (by kernel_rfl) (fun _ _ d _ _ h => by cases d <;> exact h) hS (fun hS => ?_)
      simp only [put_lit, put_non, List.set_cons_zero, List.set_cons_succ]
      refine lu_u (i := 2) (some 13) (.int .i64 t) (by kernel_rfl) (by kernel_rfl) (by kernel_rfl) (by kernel_rfl) (by kernel_rfl) (by kernel_rfl) (fun w hU => by kernel_rfl) (by decide) (by kernel_rfl) (fun _ _ d _ _ h => by cases d <;> exact h) hS (fun hS => ?_)
      simp only [put_lit, put_non, List.set_cons_zero, List.set_cons_succ]
      refine lu_u (i := 3) (some 14) (.pointer (some ⟨bp, offp + t * 3, none⟩)) (by kernel_rfl) (by kernel_rfl) (by kernel_rfl) (by kernel_rfl) (by kernel_rfl) (by kernel_rfl) (fun w hU => exec_index (c := c) 12 13 (by kernel_rfl) (by kernel_rfl) (by kernel_rfl) rfl hjp) (by decide) (by kernel_rfl) (fun _ _ d _ _ h => by cases d <;> exact h) hS (fun hS => ?_)
      simp only [put_lit, put_non, List.set_cons_zero, List.set_cons_succ]
      refine lu_u (i := 4) (some 15) (.agg #[.bool tbp, .slice Xp xmp xcp, .slice Yp ymp ycp]) (by kernel_rfl) (by kernel_rfl) (by kernel_rfl) (by kernel_rfl) (by kernel_rfl) (by kernel_rfl) (fun w hU => exec_loadAt 14 (SBp.out _ hU) (by kernel_rfl) (by kernel_rfl)) (by decide) (by kernel_rfl) (fun _ _ d _ _ h => by cases d <;> exact h) hS (fun hS => ?_)
      simp only [put_lit, put_non, List.set_cons_zero, List.set_cons_succ]
      refine lu_u (i := 5) (some 16) (.int .i64 t) (by kernel_rfl) (by kernel_rfl) (by kernel_rfl) (by kernel_rfl) (by kernel_rfl) (by kernel_rfl) (fun w hU => by kernel_rfl) (by decide) (by kernel_rfl) (fun _ _ d _ _ h => by cases d <;> exact h) hS (fun hS => ?_)
      simp only [put_lit, put_non, List.set_cons_zero, List.set_cons_succ]
      refine lw_one (i := 6) (by kernel_rfl) ?_
      refine op_call (some 17) 51 #[.int .i64 t] (by kernel_rfl) (by kernel_rfl) (by kernel_rfl) (fun w => by kernel_rfl) ?_
      refine (fracInt_v _ t (by omega)).mono ?_
      rintro e y1 ⟨u, rfl, hu, hB⟩
      have hO := hO.below HK.out hB
      have hK := below_then hK hB
      obtain ⟨b, C, o, r, C', o', r', rfl, hb, hvx, hvy⟩ := hu.parts
      clear hb hvx hvy hB
      refine ⟨_, rfl, ?_⟩
      refine and_self_of ⟨fun _ => trivial, hK⟩ (fun hS => ?_)
      simp only [put_lit, put_non, List.set_cons_zero, List.set_cons_succ]
      refine lw_one (i := 7) (by kernel_rfl) ?_
      refine op_call (some 18) 56 #[.agg #[.bool tbp, .slice Xp xmp xcp, .slice Yp ymp ycp], .agg #[.bool b, .slice C o r, .slice C' o' r']] (by kernel_rfl) (by kernel_rfl) (by kernel_rfl) (fun w => by kernel_rfl) ?_
      refine (fracMul_v (SVp.out _ hK) hu.fracV (by omega) (by omega) (by omega)).mono ?_
      rintro e y2 ⟨u, rfl, hu2, hB⟩
      have hO := hO.below HK.out hB
      have hK := below_then hK hB
      obtain ⟨b2, D, d1, d2, D', d1', d2', rfl, hb, hvx, hvy⟩ := hu2.parts
      clear hb hvx hvy hB hu
      refine ⟨_, rfl, ?_⟩
      refine and_self_of ⟨fun _ => trivial, hK⟩ (fun hS => ?_)
      simp only [put_lit, put_non, List.set_cons_zero, List.set_cons_succ]
      refine lw_one (i := 8) (by kernel_rfl) ?_
      refine op_do (some 19) (.slice (some ⟨y2.heap.size, 0, none⟩) 1 1) ((y2.alloc (.cells #[.bool b2, .slice D d1 d2, .slice D' d1' d2'] 29))) (by kernel_rfl) (by kernel_rfl) (by kernel_rfl) (exec_buildF 18 (by kernel_rfl) (by kernel_rfl)) ?_
      rw [show cf ps t * (t : Rat) = DR (t - 1) from HD.out t ht1] at hu2
      have hE := CanF.elem hu2
      have hAl : Below y2.heap.size y2 (y2.alloc (.cells #[.bool b2, .slice D d1 d2, .slice D' d1' d2'] 29)) := (Below.refl _ _).alloc (Nat.le_refl _) _
      have hO := hO.below HK.out hAl
      have hs := hK.size
      have hK := below_then hK hAl
      have hs3 := hK.size
      clear hAl hu2 hs
      generalize y2.heap.size = gE at *
      generalize (y2.alloc (.cells #[.bool b2, .slice D d1 d2, .slice D' d1' d2'] 29)) = y3 at *
      refine and_self_of ⟨fun _ => trivial, hK⟩ (fun hS => ?_)
      simp only [put_lit, put_non, List.set_cons_zero, List.set_cons_succ]
      refine lw_one (i := 9) (by kernel_rfl) ?_
      refine op_appF HK.out (some 20) (.tmp 11) (.tmp 19) (by kernel_rfl) (by kernel_rfl) (by kernel_rfl) (by kernel_rfl) (by kernel_rfl) (by kernel_rfl) hO hE (by simp) (by simp [mk_length]; omega) (by first | omega | (simp; omega)) ?_
      intro v' w' hG
      obtain ⟨hG1, hG2, hG3, A9, n9, c9, rfl⟩ := hG
      have hK := hK.grown hG2 hK.size (fun k e => hO.inside e)
      refine and_self_of ⟨fun _ => trivial, hK⟩ (fun hS => ?_)
      simp only [put_lit, put_non, List.set_cons_zero, List.set_cons_succ]
      refine lu_u (i := 10) (some 3) (.slice A9 n9 c9) (by kernel_rfl) (by kernel_rfl) (by kernel_rfl) (by kernel_rfl) (by kernel_rfl) (by kernel_rfl) (fun w hU => by kernel_rfl) (by decide) (by kernel_rfl) (fun _ _ d _ _ h => by cases d <;> exact h) hS (fun hS => ?_)
      simp only [put_lit, put_non, List.set_cons_zero, List.set_cons_succ]
      refine lw_done (by kernel_rfl) ?_
      go_wp2_with fail
      go_roundw
      case rel => exact ⟨t + 1, by omega, by omega, by go_num, by rw [show t + 1 - 1 = (t - 1) + 1 by omega, mk_succ]; exact hG1, hK⟩
      case measure => simp [intOf]; omega
    · have HI : ¬ (t : Int) < n := by omega
      have e1 : t - 1 = n - 1 := by omega
      rw [e1] at hO
      have hf := hO.fls
      obtain ⟨B2, c2, eB⟩ := hf.form
      have NR := Lib.hid (polyNorm_r (hf.weaken (E' := FV (k + 2)) (fun v q _ h => CanF.fracV h)) (by omega) (by omega) (by rw [mk_length]; omega))
      clear hO hB hf
      subst eB
      go_wp2_with fail
      refine (NR.out).mono ?_
      rintro e w2 ⟨x, rfl, hx, hB2⟩
      obtain ⟨B3, c3, rfl⟩ := hx.form
      have HX := Lib.hid hx
      clear hx
      go_wp2_with fail
      go_ret
      exact ⟨_, rfl, HX.out, below_then HBB.out hB2⟩
end
end Go.Proofs.Ytjemnankgjjgcaa

/- The contracts of the reference functions PolyEval, PolyTotal and PolyMean. -/
namespace Go.Proofs.Ytjemnankgjjgcaa
set_option linter.unusedSimpArgs false
open Go.RowKit Dig
set_option linter.unusedVariables false
section
variable {w : World} {v va vb : Value} {qs ps : List Rat} {p q : Rat} {k l : Nat}
namespace Dig
theorem drop_cf {ps : List Rat} {j : Nat} (h : j < ps.length) : ps.drop j = cf ps j :: ps.drop (j + 1) := by
  rw [List.drop_eq_getElem_cons h, cf, List.getD_eq_getElem?_getD, List.getElem?_eq_getElem h]
  rfl
theorem ev_drop {ps : List Rat} {m : Nat} (x : Rat) (h : m - 1 < ps.length) (h0 : 0 < m) : ev (ps.drop m) x * x + cf ps (m - 1) = ev (ps.drop (m - 1)) x := by
  rw [drop_cf h, ev, show m - 1 + 1 = m by omega]
  grind
theorem ev_dropped (ps : List Rat) (x : Rat) : ev (ps.drop ps.length) x = 0 := by rw [List.drop_length]; rfl
end Dig
set_option maxHeartbeats 16000000 in
theorem polyEval_r {N : Nat} {x : Rat} (ha : Fls (FV k) w va ps) (hb : FracV w vb x l) (h2 : 2 ≤ k) (h2' : 2 ≤ l) (hn : ps.length ≤ N) (hN : 2 + N * (k + l + 1) ≤ 40000) :
    Calls Try.prog 25 #[va, vb] w (RCanF w (ev ps x) (2 + N * (k + l + 1))) := by
  have hN1 : k + l + 1 ≤ N * (k + l + 1) ∨ N = 0 := by
    rcases Nat.eq_zero_or_pos N with h | h
    · exact .inr h
    · exact .inl (Nat.le_mul_of_pos_left _ h)
  obtain ⟨A, c, rfl⟩ := ha.form
  obtain ⟨nb, B, i, x1, B', i', x1', s, t, rfl, hs, ht, hq⟩ := hb.parts
  have HA := Lib.hid (fun w1 (hr : Below w.heap.size w w1) => (Fls.below ha (keeps_FV k) hr).cells (n := ps.length))
  have HXV := Lib.hid (fun w1 (hr : Below w.heap.size w w1) => FracV.below (w' := w1) hb hr)
  have HS := Lib.hid (fun m => ev_drop (ps := ps) (m := m) x)
  have H0 := Lib.hid (ev_dropped ps x)
  have HE := Lib.hid (show ev (ps.drop 0) x = ev ps x by rw [List.drop_zero])
  have hlen := ha.lens.2
  clear ha hb hs ht hq
  obtain ⟨n, hnn⟩ : ∃ n, ps.length = n := ⟨_, rfl⟩
  rw [hnn] at HA HS H0 hn hlen ⊢
  clear hnn
  obtain ⟨S, hS⟩ : ∃ S, k + l + 1 = S := ⟨_, rfl⟩
  rw [hS] at hN hN1 ⊢
  have hMS := Lib.hid (fun m (h : m ≤ n) => Nat.mul_le_mul_right S (Nat.le_trans h hn))
  obtain ⟨w0, g0, g1, ew, eg0, eg1, hB0, hX, hR⟩ := two_boxes w nb (.slice B i x1) (.slice B' i' x1')
  have F0 := Lib.hid (fracInt0_v w0)
  have HW := Lib.hid ew
  go_enter Try.func25, Try.ntmps25
  go_wp2_with fail
  refine (F0.out).mono ?_
  rintro e w1 ⟨u, rfl, hu, hB1⟩
  obtain ⟨b, C, o, r, C', o', r', rfl, hb, hvx, hvy⟩ := hu.parts
  obtain ⟨y1, g, ew1, eg, hBW, hF⟩ := var1 w1 b (.slice C o r) (.slice C' o' r')
  have hr1 := hR.lt
  have hgb : w.heap.size ≤ g := by have := hB1.size; omega
  have hgg : g1 < g := by have := hB1.size; omega
  have hu := CanF.below hu hBW
  have hX := (hX.below hB1).below hBW
  have hR := (hR.below hB1).below hBW
  have hK := below_then (below_then hB0 hB1) hBW
  rw [← H0.out] at hu
  clear hb hvx hvy hB1 hBW hB0
  go_wp2_with fail
  go_loopw [6] (fun iv wr => ∃ m : Nat, m ≤ n ∧ iv = .int .i64 ((m : Int) - 1) ∧ ∃ b C o r C' o' r', Fcl wr g b (.slice C o r) (.slice C' o' r') ∧ CanF wr (.agg #[.bool b, .slice C o r, .slice C' o' r']) (ev (ps.drop m) x) (2 + (n - m) * S) ∧ Fcl wr g0 nb (.slice B i x1) (.slice B' i' x1') ∧ Fcl wr g1 false (.slice none 0 0) (.slice none 0 0) ∧ Below w.heap.size w wr) (fun iv _ => (intOf iv + 1).toNat)
  case atStart => exact ⟨n, Nat.le_refl _, rfl, b, C, o, r, C', o', r', hF, by rw [Nat.sub_self, Nat.zero_mul]; exact hu, hX, hR, hK⟩
  case round =>
    clear hF hu hX hR hK ew1 eg
    obtain ⟨m, hm, rfl, b, C, o, r, C', o', r', hF, hu, hX, hR, hK⟩ := hrel
    by_cases h0 : 0 < m
    · have HI : (0 : Int) ≤ (m : Int) - 1 := by omega
      have hjp : m - 1 < n := by omega
      obtain ⟨bp, offp, rfl, hbp, hcellp⟩ := HA.out _ (Below.refl _ _) (by omega)
      obtain ⟨tbp, Xp, xmp, xcp, Yp, ymp, ycp, c0p, c1p, c2p, hvp⟩ := hcellp (m - 1) hjp
      have SBp := Lib.hid (fun w1 (hr : Below w.heap.size w w1) => (show w1.cell? ⟨bp, offp + (m - 1) * 3, none⟩ = some (.bool tbp) ∧ w1.cell? ⟨bp, offp + (m - 1) * 3 + 1, none⟩ = some (.slice Xp xmp xcp) ∧ w1.cell? ⟨bp, offp + (m - 1) * 3 + 2, none⟩ = some (.slice Yp ymp ycp) from ⟨(hr.cell (p := ⟨bp, _, none⟩) hbp).trans c0p, (hr.cell (p := ⟨bp, _, none⟩) hbp).trans c1p, (hr.cell (p := ⟨bp, _, none⟩) hbp).trans c2p⟩))
      have SVp := Lib.hid (fun w1 (hr : Below w.heap.size w w1) => FracV.below (w' := w1) hvp hr)
      clear hcellp hvp c0p c1p c2p
      have hms := hMS.out (n - m) (by omega)
      have hms1 := hMS.out (n - m + 1) (by omega)
      have hsm : (n - m + 1) * S = (n - m) * S + S := Nat.succ_mul _ _
      generalize hMM : (n - m) * S = MM at *
      obtain ⟨c0, c1, c2⟩ := hF.cells
      clear c0 c1 c2
      go_wp2_with fail
      refine lw_begin (S := tillU 8 (fun w' => Fcl w' g b (.slice C o r) (.slice C' o' r')) (fun w' => Below w.heap.size w w' ∧ Fcl w' g0 nb (.slice B i x1) (.slice B' i' x1'))) 9 (by kernel_rfl) (by kernel_rfl) ?_
      have hB := (Below.refl wr.heap.size wr).drew
      have hF := hF.below hB
      have hX := hX.below hB
      have hR := hR.below hB
      have hK := below_then hK hB
      have hu := CanF.below hu hB
      clear hB
      generalize wr.drew = y0 at *
      have hS : tillU 8 (fun w' => Fcl w' g b (.slice C o r) (.slice C' o' r')) (fun w' => Below w.heap.size w w' ∧ Fcl w' g0 nb (.slice B i x1) (.slice B' i' x1')) (Array.replicate 9 false) _ := ⟨fun _ => hF, ⟨hK, hX⟩⟩
      refine lu_t3 (i := 0) (m := 7) (l := 2) (some 15) (.agg #[.bool b, .slice C o r, .slice C' o' r']) (by kernel_rfl) (by kernel_rfl) (by kernel_rfl) (by kernel_rfl) (by kernel_rfl) (by kernel_rfl) (fun w hT => exec_load3 5 hT (by kernel_rfl) (by kernel_rfl)) (by kernel_rfl) (by kernel_rfl) (by kernel_rfl) (by decide) (by kernel_rfl) (fun _ _ d _ _ h => by cases d <;> exact h) hS (fun hS => ?_)
      simp only [put_lit, put_non, List.set_cons_zero, List.set_cons_succ]
      refine lu_u (i := 1) (some 16) (.agg #[.bool nb, .slice B i x1, .slice B' i' x1']) (by kernel_rfl) (by kernel_rfl) (by kernel_rfl) (by kernel_rfl) (by kernel_rfl) (by kernel_rfl) (fun w hU => exec_load3 3 hU.2 (by kernel_rfl) (by kernel_rfl)) (by decide) (by kernel_rfl) (fun _ _ d _ _ h => by cases d <;> exact h) hS (fun hS => ?_)
      simp only [put_lit, put_non, List.set_cons_zero, List.set_cons_succ]
      refine lu_u (i := 3) (some 18) (.slice (some ⟨bp, offp, none⟩) n c) (by kernel_rfl) (by kernel_rfl) (by kernel_rfl) (by kernel_rfl) (by kernel_rfl) (by kernel_rfl) (fun w hU => by kernel_rfl) (by decide) (by kernel_rfl) (fun _ _ d _ _ h => by cases d <;> exact h) hS (fun hS => ?_)
      simp only [put_lit, put_non, List.set_cons_zero, List.set_cons_succ]
      refine lu_u (i := 4) (some 19) (.int .i64 ((m : Int) - 1)) (by kernel_rfl) (by kernel_rfl) (by kernel_rfl) (by kernel_rfl) (by kernel_rfl) (by kernel_rfl) (fun w hU => by kernel_rfl) (by decide) (by kernel_rfl) (fun _ _ d _ _ h => by cases d <;> exact h) hS (fun hS => ?_)
      simp only [put_lit, put_non, List.set_cons_zero, List.set_cons_succ]
      refine lu_u (i := 5) (some 20) (.pointer (some ⟨bp, offp + (m - 1) * 3, none⟩)) (by kernel_rfl) (by kernel_rfl) (by kernel_rfl) (by kernel_rfl) (by kernel_rfl) (by kernel_rfl) (fun w hU => exec_index (c := c) (j := m - 1) (z := (m : Int) - 1) 18 19 (by kernel_rfl) (by kernel_rfl) (by kernel_rfl) (by omega) hjp) (by decide) (by kernel_rfl) (fun _ _ d _ _ h => by cases d <;> exact h) hS (fun hS => ?_)
      simp only [put_lit, put_non, List.set_cons_zero, List.set_cons_succ]
      refine lu_u (i := 6) (some 21) (.agg #[.bool tbp, .slice Xp xmp xcp, .slice Yp ymp ycp]) (by kernel_rfl) (by kernel_rfl) (by kernel_rfl) (by kernel_rfl) (by kernel_rfl) (by kernel_rfl) (fun w hU => exec_loadAt 20 (SBp.out _ hU.1) (by kernel_rfl) (by kernel_rfl)) (by decide) (by kernel_rfl) (fun _ _ d _ _ h => by cases d <;> exact h) hS (fun hS => ?_)
      simp only [put_lit, put_non, List.set_cons_zero, List.set_cons_succ]
      refine lw_one (i := 2) (by kernel_rfl) ?_
      refine op_call (some 17) 56 #[.agg #[.bool b, .slice C o r, .slice C' o' r'], .agg #[.bool nb, .slice B i x1, .slice B' i' x1']] (by kernel_rfl) (by kernel_rfl) (by kernel_rfl) (fun w => by kernel_rfl) ?_
      refine (fracMul_v hu.fracV (HXV.out _ hK) (by omega) (by omega) (by omega)).mono ?_
      rintro e y1 ⟨u, rfl, hu2, hB⟩
      have hF := hF.below hB
      have hX := hX.below hB
      have hR := hR.below hB
      have hK := below_then hK hB
      obtain ⟨b2, D, d1, d2, D', d1', d2', rfl, hb2, hvx2, hvy2⟩ := hu2.parts
      clear hB hu hb2 hvx2 hvy2
      refine ⟨_, rfl, ?_⟩
      refine and_self_of ⟨fun _ => hF, ⟨hK, hX⟩⟩ (fun hS => ?_)
      simp only [put_lit, put_non, List.set_cons_zero, List.set_cons_succ]
      refine lw_one (i := 7) (by kernel_rfl) ?_
      refine op_call (some 22) 52 #[.agg #[.bool b2, .slice D d1 d2, .slice D' d1' d2'], .agg #[.bool tbp, .slice Xp xmp xcp, .slice Yp ymp ycp]] (by kernel_rfl) (by kernel_rfl) (by kernel_rfl) (fun w => by kernel_rfl) ?_
      refine (fracAdd_v hu2.fracV (SVp.out _ hK) (by omega) (by omega) (by omega) (by omega)).mono ?_
      rintro e y2 ⟨u, rfl, hu, hB⟩
      have hF := hF.below hB
      have hX := hX.below hB
      have hR := hR.below hB
      have hK := below_then hK hB
      obtain ⟨b3, E, e1, e2, E', e1', e2', rfl, hb3, hvx3, hvy3⟩ := hu.parts
      clear hB hu hu2
      refine ⟨_, rfl, ?_⟩
      refine and_self_of ⟨fun _ => hF, ⟨hK, hX⟩⟩ (fun hS => ?_)
      simp only [put_lit, put_non, List.set_cons_zero, List.set_cons_succ]
      refine lw_one (i := 8) (by kernel_rfl) ?_
      refine op_skip none (stor3 y2 g (.bool b3) (.slice E e1 e2) (.slice E' e1' e2')) (by kernel_rfl) (by kernel_rfl) (by kernel_rfl) (exec_store3 5 22 hF (by kernel_rfl) (by kernel_rfl) (by kernel_rfl)) ?_
      have hu := CanF.ofParts hb3 (hvx3.put3 hF (.bool b3) (.slice E e1 e2) (.slice E' e1' e2')) (hvy3.put3 hF (.bool b3) (.slice E e1 e2) (.slice E' e1' e2'))
      have hK := below_put3 hK hgb (.bool b3) (.slice E e1 e2) (.slice E' e1' e2')
      have hX := hX.far (g2 := g) (by omega) (.bool b3) (.slice E e1 e2) (.slice E' e1' e2')
      have hR := hR.far (g2 := g) (by omega) (.bool b3) (.slice E e1 e2) (.slice E' e1' e2')
      have hF := hF.put3 b3 (.slice E e1 e2) (.slice E' e1' e2')
      clear hb3 hvx3 hvy3
      generalize stor3 y2 g (.bool b3) (.slice E e1 e2) (.slice E' e1' e2') = y3 at *
      refine and_self_of ⟨fun h => absurd (h.symm.trans (by kernel_rfl)) Bool.false_ne_true, ⟨hK, hX⟩⟩ (fun hS => ?_)
      simp only [put_lit, put_non, List.set_cons_zero, List.set_cons_succ]
      refine lw_done (by kernel_rfl) ?_
      rw [HS.out m hjp h0] at hu
      have hu := hu.le (show _ ≤ 2 + (n - (m - 1)) * S by rw [show n - (m - 1) = n - m + 1 by omega, hsm]; omega)
      go_wp2_with fail
      go_roundw
      case rel => exact ⟨m - 1, by omega, by go_num, b3, E, e1, e2, E', e1', e2', hF, hu, hX, hR, hK⟩
      case measure => simp [intOf]; omega
    · obtain rfl : m = 0 := by omega
      rw [HE.out, Nat.sub_zero] at hu
      have hu := hu.le (show _ ≤ 2 + N * S by have := hMS.out n (Nat.le_refl _); omega)
      obtain ⟨hb, hvx, hvy⟩ := hu.open
      obtain ⟨c0, c1, c2⟩ := hF.cells
      obtain ⟨k0, k1, k2⟩ := hR.cells
      obtain ⟨f0, f1, f2⟩ := hR.frozen
      clear hu
      go_wp2_with fail
      refine bodyPost_ret (v := .agg #[.bool b, .slice C o r, .slice C' o' r']) (by rw [results_one rfl]; go_simp) rfl ?_
      exact RCanF.stored hb hvx hvy hR hK (by omega) _
set_option maxHeartbeats 8000000 in
theorem polyTotal_r {N : Nat} (ha : Fls (FV k) w va ps) (h2 : 2 ≤ k) (hn : ps.length ≤ N) (hN : 2 + N * (k + 3) ≤ 40000) :
    Calls Try.prog 27 #[va] w (RCanF w (lsum ps) (2 + N * (k + 3))) := by
  have R0 := Lib.hid (Fcl.new w false (.slice none 0 0) (.slice none 0 0))
  have hB0 : Below w.heap.size w (w.alloc (.cells #[.bool false, .slice none 0 0, .slice none 0 0] 29)) := (Below.refl _ _).alloc (Nat.le_refl _) _
  have EV := fun w1 v1 (hr : Below w.heap.size w w1) (h : CanF w1 v1 1 2) => polyEval_r (w := w1) (N := N) (Fls.below ha (keeps_FV k) hr) h.fracV h2 (by omega) hn hN
  rw [ev_one] at EV
  have HEV := Lib.hid EV
  obtain ⟨A, c, rfl⟩ := ha.form
  clear ha EV
  go_enter Try.func27, Try.ntmps27
  go_wp2_with fail
  refine (fracOne_v _).mono ?_
  rintro e w1 ⟨u, rfl, hu, hB1⟩
  have R1 := R0.out.below hB1
  have hB := below_then hB0 hB1
  have HU := Lib.hid (HEV.out _ _ hB hu)
  clear hu
  go_wp2_with fail
  refine (HU.out).mono ?_
  rintro e w2 ⟨v, rfl, hv, hB2⟩
  have R2 := R1.below hB2
  have hB := below_then hB hB2
  obtain ⟨b, C, o, r, C', o', r', rfl, hb, hvx, hvy⟩ := hv.parts
  obtain ⟨k0, k1, k2⟩ := R2.cells
  obtain ⟨f0, f1, f2⟩ := R2.frozen
  clear hv
  go_wp2_with fail
  refine bodyPost_ret (v := .agg #[.bool b, .slice C o r, .slice C' o' r']) (by rw [results_one rfl]; go_simp) rfl ?_
  exact RCanF.stored hb hvx hvy R2 hB (Nat.le_refl _) _
set_option maxHeartbeats 8000000 in
theorem polyMean_r {N : Nat} (ha : Fls (FV k) w va ps) (h2 : 2 ≤ k) (hn : ps.length ≤ N) (hN : 2 + N * (k + 5) ≤ 40000) (hk : k ≤ 30000) (hm : ps.length ≤ 1000000000) :
    Calls Try.prog 29 #[va] w (RCanF w (lsum (pder ps)) (2 + N * (k + 5))) := by
  have R0 := Lib.hid (Fcl.new w false (.slice none 0 0) (.slice none 0 0))
  have hB0 : Below w.heap.size w (w.alloc (.cells #[.bool false, .slice none 0 0, .slice none 0 0] 29)) := (Below.refl _ _).alloc (Nat.le_refl _) _
  have DR := Lib.hid (polyDer_r (Fls.below ha (keeps_FV k) hB0) (by omega) h2 hm)
  have TT := Lib.hid (fun w1 v1 (h : Fls (CV (k + 2)) w1 v1 (pder ps)) => polyTotal_r (w := w1) (N := N) h.fv (by omega) (pder_len hn) (by omega))
  obtain ⟨A, c, rfl⟩ := ha.form
  clear ha
  go_enter Try.func29, Try.ntmps29
  go_wp2_with fail
  refine (DR.out).mono ?_
  rintro e w1 ⟨u, rfl, hu, hB1⟩
  have R1 := R0.out.below hB1
  have hB := below_then hB0 hB1
  have HU := Lib.hid (TT.out _ _ hu)
  obtain ⟨A2, c2, rfl⟩ := hu.form
  clear hu
  go_wp2_with fail
  refine (HU.out).mono ?_
  rintro e w2 ⟨v, rfl, hv, hB2⟩
  have R2 := R1.below hB2
  have hB := below_then hB hB2
  obtain ⟨b, C, o, r, C', o', r', rfl, hb, hvx, hvy⟩ := hv.parts
  obtain ⟨k0, k1, k2⟩ := R2.cells
  obtain ⟨f0, f1, f2⟩ := R2.frozen
  clear hv
  go_wp2_with fail
  refine bodyPost_ret (v := .agg #[.bool b, .slice C o r, .slice C' o' r']) (by rw [results_one rfl]; go_simp) rfl ?_
  exact RCanF.stored hb hvx hvy R2 hB (Nat.le_refl _) _
end
end Go.Proofs.Ytjemnankgjjgcaa

/- The contracts of the reference functions PolyMul, PolyScale, PolyTruncate and PolyPrefix. -/
namespace Go.Proofs.Ytjemnankgjjgcaa
set_option linter.unusedSimpArgs false
open Go.RowKit Dig
set_option linter.unusedVariables false
theorem show_ptr {P : Program} {ev : Operand → Value} {o : Oper} {w : World} {g j : Nat} (h : (execOp ev o).run P w = .ok (.value (.pointer (some ⟨g, 0 + j * 3, none⟩))) w) : (execOp ev o).run P w = .ok (.value (.pointer (some ⟨g, j * 3, none⟩))) w := by
  rwa [Nat.zero_add] at h
namespace Dig
theorem pmul_none {p q : List Rat} (h : p.length = 0 ∨ q.length = 0) : pmul p q = [] := by
  unfold pmul
  refine tr_zero fun i => ?_
  rw [cf_mk]
  split
  · rcases h with h | h
    · exact conv_zero_l _ _ _ (fun i => cf_over (by omega))
    · rw [conv_comm]
      exact conv_zero_l _ _ _ (fun i => cf_over (by omega))
  · rfl
theorem pscale_mul (p : List Rat) (a : Rat) : pmul p [a] = pscale p a := norm_ext (tr_pmul _ _) (tr_pscale _ _) fun i => by
  rw [cf_pmul, cf_pscale, conv_comm]
  cases i with
  | zero => rfl
  | succ i =>
    rw [conv, conv_zero_l (fun i => cf [a] (i + 1)) (cf p) i (fun i => by rw [cf_over]; simp)]
    rw [cf_zero]
    grind
theorem lsum_tr (p : List Rat) : lsum (tr p) = lsum p := by rw [← ev_one, ← ev_one, ev_tr]
theorem take_len {p : List Rat} {n : Nat} (m : Nat) (h : p.length ≤ n) : (p.take m).length ≤ n := by rw [List.length_take]; omega
end Dig
section
variable {w : World} {v va vb : Value} {qs ps : List Rat} {p q : Rat} {k l : Nat}
set_option maxHeartbeats 4000000 in
theorem polyMul_none (ha : Fls (FV k) w va ps) (hb : Fls (FV l) w vb qs) (K : Nat) (h0 : ps.length = 0 ∨ qs.length = 0) :
    Calls Try.prog 18 #[va, vb] w (RPF w (pmul ps qs) K) := by
  obtain ⟨A, c, rfl⟩ := ha.form
  obtain ⟨B, d, rfl⟩ := hb.form
  rw [pmul_none h0]
  by_cases h1 : ps.length = 0
  · have HI : ((ps.length : Int) == 0) = true := by rw [h1]; rfl
    clear ha hb h0 h1
    generalize ps.length = n at *
    generalize qs.length = m at *
    go_enter Try.func18, Try.ntmps18
    go_wp2_with fail
    go_ret
    exact ⟨_, rfl, Fls.nil _ _, Below.refl _ _⟩
  · have HI : ((ps.length : Int) == 0) = false := by rw [beq_eq_false_iff_ne]; omega
    have HI2 : ((qs.length : Int) == 0) = true := by rw [h0.resolve_left h1]; rfl
    clear ha hb h0 h1
    generalize ps.length = n at *
    generalize qs.length = m at *
    go_enter Try.func18, Try.ntmps18
    go_wp2_with fail
    go_ret
    exact ⟨_, rfl, Fls.nil _ _, Below.refl _ _⟩
set_option maxHeartbeats 16000000 in
theorem polyMul_some {N : Nat} (ha : Fls (FV k) w va ps) (hb : Fls (FV l) w vb qs) (h2 : 2 ≤ k) (h2' : 2 ≤ l) (hn : ps.length ≤ N) (hN : 2 + N * (k + l + 1) ≤ 40000) (hmb : qs.length ≤ 100000) (hn0 : 0 < ps.length) (hm0 : 0 < qs.length) :
    Calls Try.prog 18 #[va, vb] w (RPF w (pmul ps qs) (2 + N * (k + l + 1))) := by
  have hN1 : k + l + 1 ≤ N * (k + l + 1) := Nat.le_mul_of_pos_left _ (by omega)
  have hN2 : N ≤ N * (k + l + 1) := Nat.le_mul_of_pos_right _ (by omega)
  obtain ⟨A, c, rfl⟩ := ha.form
  obtain ⟨B, d, rfl⟩ := hb.form
  have HA := Lib.hid (fun w1 (hr : Below w.heap.size w w1) => (Fls.below ha (keeps_FV k) hr).cells (n := ps.length))
  have HB := Lib.hid (fun w1 (hr : Below w.heap.size w w1) => (Fls.below hb (keeps_FV l) hr).cells (n := qs.length))
  have HP := Lib.hid (acc_mul ps qs)
  have HR := Lib.hid (fun (S : Nat) w1 g N1 i (h : MulRow S ps qs w1 g N1 i qs.length) => h.row)
  clear ha hb
  obtain ⟨n, hnn⟩ : ∃ n, ps.length = n := ⟨_, rfl⟩
  obtain ⟨m, hmm⟩ : ∃ m, qs.length = m := ⟨_, rfl⟩
  rw [hnn] at HA HP hn hn0 ⊢
  rw [hmm] at HB HP HR hmb hm0 ⊢
  clear hnn hmm
  obtain ⟨S, hS⟩ : ∃ S, k + l + 1 = S := ⟨_, rfl⟩
  rw [hS] at hN hN1 hN2 ⊢
  have hMS := Lib.hid (fun m (h : m ≤ n) => Nat.mul_le_mul_right S (Nat.le_trans h hn))
  obtain ⟨N1, hN1e⟩ : ∃ N1, n + m - 1 = N1 := ⟨_, rfl⟩
  rw [hN1e] at HP
  have HI : ((n : Int) == 0) = false := by rw [beq_eq_false_iff_ne]; omega
  have HI2 : ((m : Int) == 0) = false := by rw [beq_eq_false_iff_ne]; omega
  have HJ := Lib.hid (show (n : Int) + (m : Int) - 1 = (N1 : Int) by omega)
  go_enter Try.func18, Try.ntmps18
  go_wp2_with (at_make; refine wp_make_f 24 (by kernel_rfl) rfl _ _ rfl _ _ N1 rfl rfl HJ.out HJ.out (by omega) ?_; intro w2 hF2 hB2; generalize hge : w.heap.size = g at hF2 ⊢)
  have hg : w.heap.size ≤ g := Nat.le_of_eq hge
  have hI0 : MulRow S ps qs w2 g N1 0 0 := MulRow.start hF2
  clear hF2 hge
  go_loopw [6] (fun iv wr => ∃ i : Nat, i ≤ n ∧ iv = .int .i64 i ∧ MulRow S ps qs wr g N1 i 0 ∧ Below w.heap.size w wr) (fun iv _ => n - (intOf iv).toNat)
  case atStart => exact ⟨0, Nat.zero_le _, rfl, hI0, hB2⟩
  case round =>
    clear hI0 hB2
    obtain ⟨i, hi, rfl, hI, hB⟩ := hrel
    by_cases hin : i < n
    · have HIL : (i : Int) < n := by omega
      go_wp2_with fail
      go_loopw [7] (fun kv wx => ∃ kk : Nat, kk ≤ m ∧ kv = .int .i64 kk ∧ MulRow S ps qs wx g N1 i kk ∧ Below w.heap.size w wx) (fun kv _ => m - (intOf kv).toNat)
      case atStart => exact ⟨0, Nat.zero_le _, rfl, hI, hB⟩
      case round =>
        clear hI hB
        obtain ⟨kk, hkk, rfl, hI, hK⟩ := hrel
        by_cases hkm : kk < m
        · have HKL : (kk : Int) < m := by omega
          have hN1' : i + kk < N1 := by omega
          obtain ⟨tb, X, xm, xc, Y, ym, yc, t0, t1, t2, hv⟩ := hI.cells hN1'
          have hT : _ ∧ _ ∧ _ := ⟨t0, t1, t2⟩
          obtain ⟨bp, offp, rfl, hbp, hcellp⟩ := HA.out _ (Below.refl _ _) (by omega)
          obtain ⟨tbp, Xp, xmp, xcp, Yp, ymp, ycp, c0p, c1p, c2p, hvp⟩ := hcellp i hin
          have SBp := Lib.hid (fun w1 (hr : Below w.heap.size w w1) => (show w1.cell? ⟨bp, offp + i * 3, none⟩ = some (.bool tbp) ∧ w1.cell? ⟨bp, offp + i * 3 + 1, none⟩ = some (.slice Xp xmp xcp) ∧ w1.cell? ⟨bp, offp + i * 3 + 2, none⟩ = some (.slice Yp ymp ycp) from ⟨(hr.cell (p := ⟨bp, _, none⟩) hbp).trans c0p, (hr.cell (p := ⟨bp, _, none⟩) hbp).trans c1p, (hr.cell (p := ⟨bp, _, none⟩) hbp).trans c2p⟩))
          have SVp := Lib.hid (fun w1 (hr : Below w.heap.size w w1) => FracV.below (w' := w1) hvp hr)
          clear hcellp hvp c0p c1p c2p
          obtain ⟨bq, offq, rfl, hbq, hcellq⟩ := HB.out _ (Below.refl _ _) (by omega)
          obtain ⟨tbq, Xq, xmq, xcq, Yq, ymq, ycq, c0q, c1q, c2q, hvq⟩ := hcellq kk hkm
          have SBq := Lib.hid (fun w1 (hr : Below w.heap.size w w1) => (show w1.cell? ⟨bq, offq + kk * 3, none⟩ = some (.bool tbq) ∧ w1.cell? ⟨bq, offq + kk * 3 + 1, none⟩ = some (.slice Xq xmq xcq) ∧ w1.cell? ⟨bq, offq + kk * 3 + 2, none⟩ = some (.slice Yq ymq ycq) from ⟨(hr.cell (p := ⟨bq, _, none⟩) hbq).trans c0q, (hr.cell (p := ⟨bq, _, none⟩) hbq).trans c1q, (hr.cell (p := ⟨bq, _, none⟩) hbq).trans c2q⟩))
          have SVq := Lib.hid (fun w1 (hr : Below w.heap.size w w1) => FracV.below (w' := w1) hvq hr)
          clear hcellq hvq c0q c1q c2q
          have hms := hMS.out i (by omega)
          have hms1 := hMS.out (i + 1) (by omega)
          have hsm : (i + 1) * S = i * S + S := Nat.succ_mul _ _
          clear t0 t1 t2
          go_wp2_with fail
          refine lw_begin (S := tillU 21 (fun w' => w'.cell? ⟨g, (i + kk) * 3, none⟩ = some (.bool tb) ∧ w'.cell? ⟨g, (i + kk) * 3 + 1, none⟩ = some (.slice X xm xc) ∧ w'.cell? ⟨g, (i + kk) * 3 + 2, none⟩ = some (.slice Y ym yc)) (fun w' => Below w.heap.size w w')) 22 (by kernel_rfl) (by kernel_rfl) ?_
          have hB := (Below.refl wr.heap.size wr).drew
          have hT : _ ∧ _ ∧ _ := ⟨(hB.cell (p := ⟨g, (i + kk) * 3, none⟩) hI.lt).trans hT.1, (hB.cell (p := ⟨g, (i + kk) * 3 + 1, none⟩) hI.lt).trans hT.2.1, (hB.cell (p := ⟨g, (i + kk) * 3 + 2, none⟩) hI.lt).trans hT.2.2⟩
          have hI := hI.below hB
          have hv := FracV.below hv hB
          have hK := below_then hK hB
          clear hB
          generalize wr.drew = y0 at *
          have hS : tillU 21 (fun w' => w'.cell? ⟨g, (i + kk) * 3, none⟩ = some (.bool tb) ∧ w'.cell? ⟨g, (i + kk) * 3 + 1, none⟩ = some (.slice X xm xc) ∧ w'.cell? ⟨g, (i + kk) * 3 + 2, none⟩ = some (.slice Y ym yc)) (fun w' => Below w.heap.size w w') (Array.replicate 22 false) _ := ⟨fun _ => hT, hK⟩
          refine lu_u (i := 0) (some 35) (.slice (some ⟨g, 0, none⟩) N1 N1) (by kernel_rfl) (by kernel_rfl) (by kernel_rfl) (by kernel_rfl) (by kernel_rfl) (by kernel_rfl) (fun w hU => by kernel_rfl) (by decide) (by kernel_rfl) (fun _ _ d _ _ h => by cases d <;> exact h) hS (fun hS => ?_)
          simp only [put_lit, put_non, List.set_cons_zero, List.set_cons_succ]
          refine lu_u (i := 1) (some 36) (.int .i64 i) (by kernel_rfl) (by kernel_rfl) (by kernel_rfl) (by kernel_rfl) (by kernel_rfl) (by kernel_rfl) (fun w hU => by kernel_rfl) (by decide) (by kernel_rfl) (fun _ _ d _ _ h => by cases d <;> exact h) hS (fun hS => ?_)
          simp only [put_lit, put_non, List.set_cons_zero, List.set_cons_succ]
          refine lu_u (i := 2) (some 37) (.int .i64 kk) (by kernel_rfl) (by kernel_rfl) (by kernel_rfl) (by kernel_rfl) (by kernel_rfl) (by kernel_rfl) (fun w hU => by kernel_rfl) (by decide) (by kernel_rfl) (fun _ _ d _ _ h => by cases d <;> exact h) hS (fun hS => ?_)
          simp only [put_lit, put_non, List.set_cons_zero, List.set_cons_succ]
          refine lu_u (i := 3) (some 38) (.int .i64 ((i + kk : Nat) : Int)) (by kernel_rfl) (by kernel_rfl) (by kernel_rfl) (by kernel_rfl) (by kernel_rfl) (by kernel_rfl) (fun w hU => exec_add (x := (i : Int)) (y := (kk : Int)) (m := i + kk) 36 37 (by kernel_rfl) (by kernel_rfl) (by kernel_rfl) (by omega) (by omega)) (by decide) (by kernel_rfl) (fun _ _ d _ _ h => by cases d <;> exact h) hS (fun hS => ?_)
          simp only [put_lit, put_non, List.set_cons_zero, List.set_cons_succ]
          refine lu_u (i := 4) (some 39) (.slice (some ⟨g, 0, none⟩) N1 N1) (by kernel_rfl) (by kernel_rfl) (by kernel_rfl) (by kernel_rfl) (by kernel_rfl) (by kernel_rfl) (fun w hU => by kernel_rfl) (by decide) (by kernel_rfl) (fun _ _ d _ _ h => by cases d <;> exact h) hS (fun hS => ?_)
          simp only [put_lit, put_non, List.set_cons_zero, List.set_cons_succ]
          refine lu_u (i := 5) (some 40) (.int .i64 i) (by kernel_rfl) (by kernel_rfl) (by kernel_rfl) (by kernel_rfl) (by kernel_rfl) (by kernel_rfl) (fun w hU => by kernel_rfl) (by decide) (by kernel_rfl) (fun _ _ d _ _ h => by cases d <;> exact h) hS (fun hS => ?_)
          simp only [put_lit, put_non, List.set_cons_zero, List.set_cons_succ]
          refine lu_u (i := 6) (some 41) (.int .i64 kk) (by kernel_rfl) (by kernel_rfl) (by kernel_rfl) (by kernel_rfl) (by kernel_rfl) (by kernel_rfl) (fun w hU => by kernel_rfl) (by decide) (by kernel_rfl) (fun _ _ d _ _ h => by cases d <;> exact h) hS (fun hS => ?_)
          simp only [put_lit, put_non, List.set_cons_zero, List.set_cons_succ]
          refine lu_u (i := 7) (some 42) (.int .i64 ((i + kk : Nat) : Int)) (by kernel_rfl) (by kernel_rfl) (by kernel_rfl) (by kernel_rfl) (by kernel_rfl) (by kernel_rfl) (fun w hU => exec_add (x := (i : Int)) (y := (kk : Int)) (m := i + kk) 40 41 (by kernel_rfl) (by kernel_rfl) (by kernel_rfl) (by omega) (by omega)) (by decide) (by kernel_rfl) (fun _ _ d _ _ h => by cases d <;> exact h) hS (fun hS => ?_)
          simp only [put_lit, put_non, List.set_cons_zero, List.set_cons_succ]
          refine lu_u (i := 8) (some 43) (.pointer (some ⟨g, (i + kk) * 3, none⟩)) (by kernel_rfl) (by kernel_rfl) (by kernel_rfl) (by kernel_rfl) (by kernel_rfl) (by kernel_rfl) (fun w hU => show_ptr (exec_index (b := g) (off := 0) (n := N1) (c := N1) (j := i + kk) 39 42 (by kernel_rfl) (by kernel_rfl) (by kernel_rfl) rfl (by omega))) (by decide) (by kernel_rfl) (fun _ _ d _ _ h => by cases d <;> exact h) hS (fun hS => ?_)
          simp only [put_lit, put_non, List.set_cons_zero, List.set_cons_succ]
          refine lu_t (i := 9) (m := 19) (some 44) (.agg #[.bool tb, .slice X xm xc, .slice Y ym yc]) (by kernel_rfl) (by kernel_rfl) (by kernel_rfl) (by kernel_rfl) (by kernel_rfl) (by kernel_rfl) (fun w hT => exec_loadAt 43 hT (by kernel_rfl) (by kernel_rfl)) (by kernel_rfl) (by kernel_rfl) (by decide) (by kernel_rfl) (fun _ _ d _ _ h => by cases d <;> exact h) hS (fun hS => ?_)
          simp only [put_lit, put_non, List.set_cons_zero, List.set_cons_succ]
          refine lu_u (i := 10) (some 45) (.slice (some ⟨bp, offp, none⟩) n c) (by kernel_rfl) (by kernel_rfl) (by kernel_rfl) (by kernel_rfl) (by kernel_rfl) (by kernel_rfl) (fun w hU => by kernel_rfl) (by decide) (by kernel_rfl) (fun _ _ d _ _ h => by cases d <;> exact h) hS (fun hS => ?_)
          simp only [put_lit, put_non, List.set_cons_zero, List.set_cons_succ]
          refine lu_u (i := 11) (some 46) (.int .i64 i) (by kernel_rfl) (by kernel_rfl) (by kernel_rfl) (by kernel_rfl) (by kernel_rfl) (by kernel_rfl) (fun w hU => by kernel_rfl) (by decide) (by kernel_rfl) (fun _ _ d _ _ h => by cases d <;> exact h) hS (fun hS => ?_)
          simp only [put_lit, put_non, List.set_cons_zero, List.set_cons_succ]
          refine lu_u (i := 12) (some 47) (.pointer (some ⟨bp, offp + i * 3, none⟩)) (by kernel_rfl) (by kernel_rfl) (by kernel_rfl) (by kernel_rfl) (by kernel_rfl) (by kernel_rfl) (fun w hU => exec_index (c := c) 45 46 (by kernel_rfl) (by kernel_rfl) (by kernel_rfl) rfl hin) (by decide) (by kernel_rfl) (fun _ _ d _ _ h => by cases d <;> exact h) hS (fun hS => ?_)
          simp only [put_lit, put_non, List.set_cons_zero, List.set_cons_succ]
          refine lu_u (i := 13) (some 48) (.agg #[.bool tbp, .slice Xp xmp xcp, .slice Yp ymp ycp]) (by kernel_rfl) (by kernel_rfl) (by kernel_rfl) (by kernel_rfl) (by kernel_rfl) (by kernel_rfl) (fun w hU => exec_loadAt 47 (SBp.out _ hU) (by kernel_rfl) (by kernel_rfl)) (by decide) (by kernel_rfl) (fun _ _ d _ _ h => by cases d <;> exact h) hS (fun hS => ?_)
          simp only [put_lit, put_non, List.set_cons_zero, List.set_cons_succ]
          refine lu_u (i := 14) (some 49) (.slice (some ⟨bq, offq, none⟩) m d) (by kernel_rfl) (by kernel_rfl) (by kernel_rfl) (by kernel_rfl) (by kernel_rfl) (by kernel_rfl) (fun w hU => by kernel_rfl) (by decide) (by kernel_rfl) (fun _ _ d _ _ h => by cases d <;> exact h) hS (fun hS => ?_)
          simp only [put_lit, put_non, List.set_cons_zero, List.set_cons_succ]
          refine lu_u (i := 15) (some 50) (.int .i64 kk) (by kernel_rfl) (by kernel_rfl) (by kernel_rfl) (by kernel_rfl) (by kernel_rfl) (by kernel_rfl) (fun w hU => by kernel_rfl) (by decide) (by kernel_rfl) (fun _ _ d _ _ h => by cases d <;> exact h) hS (fun hS => ?_)
          simp only [put_lit, put_non, List.set_cons_zero, List.set_cons_succ]
          refine lu_u (i := 16) (some 51) (.pointer (some ⟨bq, offq + kk * 3, none⟩)) (by kernel_rfl) (by kernel_rfl) (by kernel_rfl) (by kernel_rfl) (by kernel_rfl) (by kernel_rfl) (fun w hU => exec_index (c := d) 49 50 (by kernel_rfl) (by kernel_rfl) (by kernel_rfl) rfl hkm) (by decide) (by kernel_rfl) (fun _ _ d _ _ h => by cases d <;> exact h) hS (fun hS => ?_)
          simp only [put_lit, put_non, List.set_cons_zero, List.set_cons_succ]
          refine lu_u (i := 17) (some 52) (.agg #[.bool tbq, .slice Xq xmq xcq, .slice Yq ymq ycq]) (by kernel_rfl) (by kernel_rfl) (by kernel_rfl) (by kernel_rfl) (by kernel_rfl) (by kernel_rfl) (fun w hU => exec_loadAt 51 (SBq.out _ hU) (by kernel_rfl) (by kernel_rfl)) (by decide) (by kernel_rfl) (fun _ _ d _ _ h => by cases d <;> exact h) hS (fun hS => ?_)
          simp only [put_lit, put_non, List.set_cons_zero, List.set_cons_succ]
          refine lw_one (i := 18) (by kernel_rfl) ?_
          refine op_call (some 53) 56 #[.agg #[.bool tbp, .slice Xp xmp xcp, .slice Yp ymp ycp], .agg #[.bool tbq, .slice Xq xmq xcq, .slice Yq ymq ycq]] (by kernel_rfl) (by kernel_rfl) (by kernel_rfl) (fun w => by kernel_rfl) ?_
          refine (fracMul_v (SVp.out _ hK) (SVq.out _ hK) (by omega) (by omega) h2).mono ?_
          rintro e y1 ⟨u, rfl, hu2, hB⟩
          have hT : _ ∧ _ ∧ _ := ⟨(hB.cell (p := ⟨g, (i + kk) * 3, none⟩) hI.lt).trans hT.1, (hB.cell (p := ⟨g, (i + kk) * 3 + 1, none⟩) hI.lt).trans hT.2.1, (hB.cell (p := ⟨g, (i + kk) * 3 + 2, none⟩) hI.lt).trans hT.2.2⟩
          have hI := hI.below hB
          have hv := FracV.below hv hB
          have hK := below_then hK hB
          obtain ⟨b2, D, d1, d2, D', d1', d2', rfl, hb2, hvx2, hvy2⟩ := hu2.parts
          clear hB hb2 hvx2 hvy2
          refine ⟨_, rfl, ?_⟩
          refine and_self_of ⟨fun _ => hT, hK⟩ (fun hS => ?_)
          simp only [put_lit, put_non, List.set_cons_zero, List.set_cons_succ]
          refine lw_one (i := 19) (by kernel_rfl) ?_
          refine op_call (some 54) 52 #[.agg #[.bool tb, .slice X xm xc, .slice Y ym yc], .agg #[.bool b2, .slice D d1 d2, .slice D' d1' d2']] (by kernel_rfl) (by kernel_rfl) (by kernel_rfl) (fun w => by kernel_rfl) ?_
          refine (fracAdd_v hv hu2.fracV (by omega) (by omega) (by omega) (by omega)).mono ?_
          rintro e y2 ⟨u, rfl, hu, hB⟩
          have hT : _ ∧ _ ∧ _ := ⟨(hB.cell (p := ⟨g, (i + kk) * 3, none⟩) hI.lt).trans hT.1, (hB.cell (p := ⟨g, (i + kk) * 3 + 1, none⟩) hI.lt).trans hT.2.1, (hB.cell (p := ⟨g, (i + kk) * 3 + 2, none⟩) hI.lt).trans hT.2.2⟩
          have hI := hI.below hB
          have hv := FracV.below hv hB
          have hK := below_then hK hB
          obtain ⟨b3, E, e1, e2, E', e1', e2', rfl, hb3, hvx3, hvy3⟩ := hu.parts
          clear hB hu2 hb3 hvx3 hvy3
          refine ⟨_, rfl, ?_⟩
          refine and_self_of ⟨fun _ => hT, hK⟩ (fun hS => ?_)
          simp only [put_lit, put_non, List.set_cons_zero, List.set_cons_succ]
          refine lu_u (i := 20) (some 55) (.pointer (some ⟨g, (i + kk) * 3, none⟩)) (by kernel_rfl) (by kernel_rfl) (by kernel_rfl) (by kernel_rfl) (by kernel_rfl) (by kernel_rfl) (fun w hU => show_ptr (exec_index (b := g) (off := 0) (n := N1) (c := N1) (j := i + kk) 35 38 (by kernel_rfl) (by kernel_rfl) (by kernel_rfl) rfl (by omega))) (by decide) (by kernel_rfl) (fun _ _ d _ _ h => by cases d <;> exact h) hS (fun hS => ?_)
          simp only [put_lit, put_non, List.set_cons_zero, List.set_cons_succ]
          refine lw_one (i := 21) (by kernel_rfl) ?_
          refine op_skip none (stor3o y2 g ((i + kk) * 3) (.bool b3) (.slice E e1 e2) (.slice E' e1' e2')) (by kernel_rfl) (by kernel_rfl) (by kernel_rfl) (exec_storeAt 55 54 hT hI.frozen (by kernel_rfl) (by kernel_rfl) (by kernel_rfl)) ?_
          have hI := hI.set hN1' (hu.le (show _ ≤ 2 + (i + 1) * S by omega))
          have hK := below_stor3o hK hg ((i + kk) * 3) (.bool b3) (.slice E e1 e2) (.slice E' e1' e2')
          clear hu hv hT
          generalize stor3o y2 g ((i + kk) * 3) (.bool b3) (.slice E e1 e2) (.slice E' e1' e2') = y3 at *
          refine and_self_of ⟨fun h => absurd (h.symm.trans (by kernel_rfl)) Bool.false_ne_true, hK⟩ (fun hS => ?_)
          simp only [put_lit, put_non, List.set_cons_zero, List.set_cons_succ]
          refine lw_done (by kernel_rfl) ?_
          go_wp2_with fail
          go_roundw
          case rel => exact ⟨kk + 1, by omega, by go_num, hI, hK⟩
          case measure => simp [intOf]; omega
        · have HKL : ¬ (kk : Int) < m := by omega
          obtain rfl : kk = m := by omega
          have hI := HR.out _ _ _ _ _ hI
          go_wp2_with fail
          go_roundw
          case rel => exact ⟨i + 1, by omega, by go_num, hI, hK⟩
          case measure => simp [intOf]; omega
    · have HIL : ¬ (i : Int) < n := by omega
      obtain rfl : i = n := by omega
      have hms := hMS.out i (by omega)
      have hf := hI.done (by omega)
      have NR := polyNorm_r (hf.weaken (E' := FV (2 + N * S)) (fun v q _ h => FracV.le h (by omega))) (by omega) (by omega) (by rw [mk_length]; omega)
      rw [HP.out] at NR
      have NR := Lib.hid NR
      have HBB := Lib.hid hB
      clear hI hB hf
      go_wp2_with fail
      refine (NR.out).mono ?_
      rintro e w2 ⟨x, rfl, hx, hB2⟩
      obtain ⟨B3, c3, rfl⟩ := hx.form
      have HX := Lib.hid hx
      clear hx
      go_wp2_with fail
      go_ret
      exact ⟨_, rfl, HX.out, below_then HBB.out hB2⟩
theorem polyMul_r {N : Nat} (ha : Fls (FV k) w va ps) (hb : Fls (FV l) w vb qs) (h2 : 2 ≤ k) (h2' : 2 ≤ l) (hn : ps.length ≤ N) (hN : 2 + N * (k + l + 1) ≤ 40000) (hmb : qs.length ≤ 100000) :
    Calls Try.prog 18 #[va, vb] w (RPF w (pmul ps qs) (2 + N * (k + l + 1))) := by
  by_cases h0 : ps.length = 0 ∨ qs.length = 0
  · exact polyMul_none ha hb _ h0
  · exact polyMul_some ha hb h2 h2' hn hN hmb (by omega) (by omega)
set_option maxHeartbeats 4000000 in
theorem polyScale_r {N : Nat} {a : Rat} (ha : Fls (FV k) w va ps) (hb : FracV w vb a l) (h2 : 2 ≤ k) (h2' : 2 ≤ l) (hn : ps.length ≤ N) (hN : 2 + N * (k + l + 1) ≤ 40000) :
    Calls Try.prog 20 #[va, vb] w (RPF w (pscale ps a) (2 + N * (k + l + 1))) := by
  obtain ⟨A, c, rfl⟩ := ha.form
  obtain ⟨nb, B, i, x1, B', i', x1', s, t, rfl, hs, ht, hq⟩ := hb.parts
  obtain ⟨W, g, ew, eg, hBW, hX⟩ := var1 w nb (.slice B i x1) (.slice B' i' x1')
  have hb := FracV.below hb hBW
  have hE := FracV.elem hb
  have hAl : Below W.heap.size W (W.alloc (.cells #[.bool nb, .slice B i x1, .slice B' i' x1'] 29)) := (Below.refl _ _).alloc (Nat.le_refl _) _
  have hB := below_then hBW hAl
  have MR := polyMul_r (N := N) (Fls.below ha (keeps_FV k) hB) hE h2 h2' hn hN (by simp)
  rw [pscale_mul] at MR
  have HMR := Lib.hid MR
  have HBB := Lib.hid hB
  obtain ⟨c0, c1, c2⟩ := hX.cells
  have HW := Lib.hid ew
  clear ha hs ht hq hb hE hAl hB MR hBW hX hn hN
  generalize ps.length = n at *
  go_enter Try.func20, Try.ntmps20
  go_wp2_with fail
  refine (HMR.out).mono ?_
  rintro e w2 ⟨x, rfl, hx, hB2⟩
  obtain ⟨B3, c3, rfl⟩ := hx.form
  have HXX := Lib.hid hx
  clear hx
  go_wp2_with fail
  go_ret
  exact ⟨_, rfl, HXX.out, below_then HBB.out hB2⟩
set_option maxHeartbeats 4000000 in
theorem polyTruncate_r (ha : Fls (FV k) w va ps) (hk : k ≤ 40000) (h2 : 2 ≤ k) (hm : ps.length ≤ 1000000000) (i : Int) (hi : -9223372036854775808 ≤ i) (hi2 : i ≤ 9223372036854775807) :
    Calls Try.prog 35 #[va, .int .i64 i] w (RPF w (tr (ps.take i.toNat)) k) := by
  obtain ⟨A, c, rfl⟩ := ha.form
  have hc := ha.lens.2
  obtain ⟨n, hn⟩ : ∃ n, ps.length = n := ⟨_, rfl⟩
  by_cases h : i < (n : Int)
  · have hT := ha.take (n := i.toNat) (by omega)
    have NR := Lib.hid (polyNorm_r hT (by omega) h2 (by rw [List.length_take]; omega))
    rw [hn] at hc ⊢
    have e : (max i 0).toNat = i.toNat := by omega
    have HE := Lib.hid e
    clear ha hT hn
    go_enter Try.func35, Try.ntmps35
    go_wp2_with fail
    refine (NR.out).mono ?_
    rintro e w2 ⟨x, rfl, hx, hB2⟩
    obtain ⟨B3, c3, rfl⟩ := hx.form
    have HX := Lib.hid hx
    clear hx
    go_wp2_with fail
    go_ret
    exact ⟨_, rfl, HX.out, hB2⟩
  · have hT : ps.take i.toNat = ps := List.take_of_length_le (by omega)
    have NR := polyNorm_r ha (by omega) h2 hm
    rw [hT]
    have NR := Lib.hid NR
    rw [hn] at hc NR ⊢
    clear ha hT hn
    go_enter Try.func35, Try.ntmps35
    go_wp2_with fail
    refine (NR.out).mono ?_
    rintro e w2 ⟨x, rfl, hx, hB2⟩
    obtain ⟨B3, c3, rfl⟩ := hx.form
    have HX := Lib.hid hx
    clear hx
    go_wp2_with fail
    go_ret
    exact ⟨_, rfl, HX.out, hB2⟩
set_option maxHeartbeats 4000000 in
theorem polyPrefix_r {N : Nat} (ha : Fls (FV k) w va ps) (h2 : 2 ≤ k) (hn : ps.length ≤ N) (hN : 2 + N * (k + 3) ≤ 40000) (hk : k ≤ 30000) (hm : ps.length ≤ 1000000000) (i : Int) (hi : -9223372036854775808 ≤ i) (hi2 : i ≤ 9223372036854775807) :
    Calls Try.prog 34 #[va, .int .i64 i] w (RCanF w (lsum (ps.take i.toNat)) (2 + N * (k + 3))) := by
  have R0 := Lib.hid (Fcl.new w false (.slice none 0 0) (.slice none 0 0))
  have hB0 : Below w.heap.size w (w.alloc (.cells #[.bool false, .slice none 0 0, .slice none 0 0] 29)) := (Below.refl _ _).alloc (Nat.le_refl _) _
  have DR := Lib.hid (polyTruncate_r (Fls.below ha (keeps_FV k) hB0) (by omega) h2 hm i hi hi2)
  have TT := fun w1 v1 (h : Fls (CV k) w1 v1 (tr (ps.take i.toNat))) => polyTotal_r (w := w1) (N := N) h.fv (by omega) (tr_len (take_len _ hn)) (by omega)
  rw [lsum_tr] at TT
  have TT := Lib.hid TT
  obtain ⟨A, c, rfl⟩ := ha.form
  clear ha
  go_enter Try.func34, Try.ntmps34
  go_wp2_with fail
  refine (DR.out).mono ?_
  rintro e w1 ⟨u, rfl, hu, hB1⟩
  have R1 := R0.out.below hB1
  have hB := below_then hB0 hB1
  have HU := Lib.hid (TT.out _ _ hu)
  obtain ⟨A2, c2, rfl⟩ := hu.form
  clear hu
  go_wp2_with fail
  refine (HU.out).mono ?_
  rintro e w2 ⟨v, rfl, hv, hB2⟩
  have R2 := R1.below hB2
  have hB := below_then hB hB2
  obtain ⟨b, C, o, r, C', o', r', rfl, hb, hvx, hvy⟩ := hv.parts
  obtain ⟨k0, k1, k2⟩ := R2.cells
  obtain ⟨f0, f1, f2⟩ := R2.frozen
  clear hv
  go_wp2_with fail
  refine bodyPost_ret (v := .agg #[.bool b, .slice C o r, .slice C' o' r']) (by rw [results_one rfl]; go_simp) rfl ?_
  exact RCanF.stored hb hvx hvy R2 hB (Nat.le_refl _) _
end
end Go.Proofs.Ytjemnankgjjgcaa

/- Stage 8: the arguments of the laws, and what the worlds hold where they are called. -/
import Derived.LaidSub
import Derived.Lib.LaidTab
import Derived.Test.YtpbkmkcfhkdjjaaDoorVvi
namespace Go.Proofs.YtpbkmkcfhkdjjaaDoor
open Go.RowKit Go.ChangeShapes Go.WideShapes Go.Deep Dig
set_option linter.unusedVariables false

/-- An argument that is one value. -/
theorem val_of_trod {H : Type} {enc : TypeId × Value → H} {P : Program} {w : World} {base fuel : Nat} {spare : Nat → Bool} {held : Bool} {e : TypeId} {f0 f1 f2 : Field} {cs : Array Value} {x : DataW H × List MemPlace}
    (he : P.underlying e = some (.struct #[f0, f1, f2])) (hC : P.cellsOf e = 3) (o : f0.offset = 0 ∧ f1.offset = 1 ∧ f2.offset = 2) (c : P.cellsOf f0.type = 1 ∧ P.cellsOf f1.type = 1 ∧ P.cellsOf f2.type = 1)
    (i0 : P.underlying f0.type = some (.int .i64)) (i1 : P.underlying f1.type = some (.int .i64)) (i2 : P.underlying f2.type = some .string) (hsz : cs.size = 3)
    (hd : DataW.trod enc P w base spare held fuel e cs.toList = some x) : ∃ y : Vl, Value.agg cs = vV y ∧ OkVl y := by
  obtain ⟨o0, o1, o2⟩ := o
  obtain ⟨c0, c1, c2⟩ := c
  obtain ⟨cs⟩ := cs
  obtain ⟨ys, k, _, _, _, hyl, hf⟩ := DataW.trod_struct he hd
  match cs, hsz, ys, hyl with
  | [x0, x1, x2], _, [y0, y1, y2], _ =>
    have d0 := hf 0 f0 rfl
    rw [o0, c0] at d0
    have d1 := hf 1 f1 rfl
    rw [o1, c1] at d1
    have d2 := hf 2 f2 rfl
    rw [o2, c2] at d2
    obtain ⟨z0, e0, _, g0⟩ := DataW.trod_int i0 d0
    obtain rfl : x0 = .int .i64 z0 := by simpa using e0
    have b0 := wf_i64 g0
    obtain ⟨z1, e1, _, g1⟩ := DataW.trod_int i1 d1
    obtain rfl : x1 = .int .i64 z1 := by simpa using e1
    have b1 := wf_i64 g1
    obtain ⟨z2, e2, _, g2⟩ := DataW.trod_string i2 d2
    obtain rfl : x2 = .string z2 := by simpa using e2
    exact ⟨(z0, z1, z2.data.toList), rfl, b0, b1, by unfold maxLen at g2; simpa [← ByteArray.size_data] using g2⟩
set_option maxRecDepth 20000 in
theorem errW_of {W : World} {name nm : String} {d : DataW Unit} {g : Nat} {t : TypeId} {ms : Array (String × TypeId)} (h : laidMet Tryd.prog [(name, .iface nm d)] W) (hg : Tryd.prog.globalNamed name = some g) (hty : (Tryd.prog.globals[g]?).map (·.type) = some t) (ht : Tryd.prog.underlying t = some (.interface ms)) : ErrW W g := by
  obtain ⟨ps, ⟨g', t', cs, fuel, p, q, hg', ht', hvar, hd, _, _⟩, _⟩ := h
  obtain rfl := Option.some.inj (hg.symm.trans hg')
  obtain rfl := Option.some.inj (hty.symm.trans ht')
  have hc := World.var?_cell hg hvar 0
  cases fuel with
  | zero => simp [DataW.trod] at hd
  | succ fuel =>
    obtain ⟨cs⟩ := cs
    cases cs with
    | nil => simp [DataW.trod, ht] at hd
    | cons x r =>
      cases r with
      | cons y r => simp [DataW.trod, ht] at hd
      | nil =>
        have hx : W.cell? ⟨g, 0, none⟩ = some x := by simpa using hc
        by_cases h1 : ∃ u v, x = .iface u v
        · obtain ⟨u, v, rfl⟩ := h1
          exact ⟨_, hx, .inr ⟨u, v, rfl⟩⟩
        · by_cases h2 : x = .nilIface
          · exact ⟨_, hx, .inl h2⟩
          · exfalso
            cases x <;> first | (simp [DataW.trod, ht] at hd; done) | exact h1 ⟨_, _, rfl⟩ | exact h2 rfl
/-- What the listed variables say of the world. -/
theorem std_of {W : World} {l : List (String × DataW Unit)} (hL : laidMet Tryd.prog l W) (hsh : W.ShapedOpen Tryd.prog) {e1 e2 : DataW Unit}
    (hT : (l.filter fun x => x.1 == "internal/strconv.uint64pow10") = [("internal/strconv.uint64pow10", Lib.tabData .u64 Lib.pow10Tab)]) (h1 : (l.filter fun x => x.1 == "strconv.ErrSyntax") = [("strconv.ErrSyntax", e1)]) (h2 : (l.filter fun x => x.1 == "strconv.ErrRange") = [("strconv.ErrRange", e2)]) (k1 : ∃ n d, e1 = .iface n d) (k2 : ∃ n d, e2 = .iface n d) : Std W := by
  obtain ⟨n1, d1, rfl⟩ := k1
  obtain ⟨n2, d2, rfl⟩ := k2
  have a1 := hL.filter (fun x => x.1 == "internal/strconv.uint64pow10")
  have a2 := hL.filter (fun x => x.1 == "strconv.ErrSyntax")
  have a3 := hL.filter (fun x => x.1 == "strconv.ErrRange")
  rw [hT] at a1
  rw [h1] at a2
  rw [h2] at a3
  refine ⟨Tryd.laysM143.s1_3 W hsh, Lib.tabIs_of_head tab_global (t := 127) (e := 59) (n := 20) (by kernel_rfl) (by kernel_rfl) (by kernel_rfl) (by kernel_rfl) (by kernel_rfl) a1, errW_of a2 (by kernel_rfl) (by kernel_rfl) Tryd.underlying86, errW_of a3 (by kernel_rfl) (by kernel_rfl) Tryd.underlying86⟩
end Go.Proofs.YtpbkmkcfhkdjjaaDoor

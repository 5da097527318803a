/- The reference's page store: Get, NewStore. -/
import Derived.Test.YtckomifecmemnaaGreatPse
namespace Go.Proofs.YtckomifecmemnaaGreat
open Go.RowKit Dig
set_option linter.unusedVariables false

theorem getP_take (l : List Pg) (no : Nat) {j : Nat} (hj : j < l.length) : getP (l.take (j + 1)) no = (getP (l.take j) no).or (if l[j].1 = no then some l[j].2 else none) := by
  unfold getP
  rw [List.take_add_one, List.getElem?_eq_getElem hj, List.find?_append]
  cases h : List.find? (fun p : Pg => decide (p.1 = no)) (l.take j) with
  | some x => simp
  | none =>
    by_cases e : l[j].1 = no
    · simp [e]
    · simp [e]
theorem getP_found {l : List Pg} {no : Nat} {j : Nat} {x : List UInt8} (h : getP (l.take j) no = some x) : getP l no = some x := by
  unfold getP at h ⊢
  have e : l = l.take j ++ l.drop j := (List.take_append_drop j l).symm
  rw [e, List.find?_append]
  cases h2 : List.find? (fun p : Pg => decide (p.1 = no)) (l.take j) with
  | none => rw [h2] at h; cases h
  | some y => rw [h2] at h; simpa using h
/-- What Get answers for a page that is or is not there. -/
def getO : Option (List UInt8) → Int × List UInt8
  | none => (7, [])
  | some b => (0, b)
section
variable {w : World} {R : Nat → Prop} {m : Nat} {s : SS}
set_option maxHeartbeats 4000000 in
set_option maxRecDepth 20000 in
theorem rget_c (h : RSto w R m s) (hlast : s.last ≤ 1000000) (v : Int) (hv1 : -1000000 ≤ v) (hv2 : v ≤ 2000000) (hlen : ∀ l, findS s v = some l → l.length ≤ 1000 ∧ ∀ p ∈ l, p.2.length ≤ 2000) (no : Int) :
    Calls Tryz.prog 43 #[.pointer (some ⟨m, 0, none⟩), .int .i64 v, .int .i64 no] w fun e w' => ∃ r, e = .returned (.tuple #[r, .int .i64 (getS s v no).1]) ∧ OwB w.heap.size w' r (getS s v no).2 ∧ Below w.heap.size w w' := by
  have FD := Lib.hid (rfind_c h hlast v hv1 hv2)
  have HLW := Lib.hid (show ∀ x, (R x ∧ x ≠ m) → x < w.heap.size from fun x hx => h.2.2.1 x hx.1)
  unfold getS
  clear h hlast
  cases hf : findS s v with
  | none =>
    rw [hf] at FD
    clear hlen hf
    go_enter Tryz.func43, Tryz.ntmps43
    go_wp2_with fail
    refine (FD.out).mono ?_
    rintro e w1 ⟨r, rfl, hp, hB⟩
    have HB := Lib.hid hB
    clear hp hB FD
    go_wp2_with fail
    go_ret2
    exact ⟨_, rfl, OwB.nil _ _, HB.out⟩
  | some l =>
    rw [hf] at FD
    obtain ⟨hl1, hl2⟩ := hlen l hf
    have HL2 := Lib.hid hl2
    have hli : (l.length : Int) ≤ 1000 := by omega
    clear hlen hf hl2
    by_cases hn : no < 0 ∨ 256 ≤ no
    · simp only [if_pos hn]
      rcases hn with hn | hn
      · go_enter Tryz.func43, Tryz.ntmps43
        go_wp2_with fail
        refine (FD.out).mono ?_
        rintro e w1 ⟨r, rfl, hp, hB⟩
        have HB := Lib.hid hB
        clear hp hB FD
        go_wp2_with fail
        go_ret2
        exact ⟨_, rfl, OwB.nil _ _, HB.out⟩
      · have hn0 : ¬ no < 0 := by omega
        have hn1 : no ≥ 256 := hn
        clear hn
        go_enter Tryz.func43, Tryz.ntmps43
        go_wp2_with fail
        refine (FD.out).mono ?_
        rintro e w1 ⟨r, rfl, hp, hB⟩
        have HB := Lib.hid hB
        clear hp hB FD
        go_wp2_with fail
        go_ret2
        exact ⟨_, rfl, OwB.nil _ _, HB.out⟩
    · simp only [if_neg hn]
      obtain ⟨k, rfl⟩ := Int.eq_ofNat_of_zero_le (show 0 ≤ no by omega)
      rw [Int.toNat_natCast]
      have hn0 : ¬ (k : Int) < 0 := by omega
      have hn1 : ¬ (k : Int) ≥ 256 := by omega
      clear hn
      obtain ⟨G, hG⟩ : ∃ g, getO (getP l k) = g := ⟨_, rfl⟩
      show Calls _ _ _ _ (fun e w' => ∃ r, e = .returned (.tuple #[r, .int .i64 (getO (getP l k)).1]) ∧ OwB w.heap.size w' r (getO (getP l k)).2 ∧ Below w.heap.size w w')
      rw [hG]
      have HGG := Lib.hid hG
      clear hG
      go_enter Tryz.func43, Tryz.ntmps43
      go_wp2_with fail
      refine (FD.out).mono ?_
      rintro e w1 ⟨r, rfl, hp, hB⟩
      have hp : PgsV w (fun b => R b ∧ b ≠ m) r l := hp
      have HP := Lib.hid hp
      obtain ⟨A, c, rfl⟩ := hp.form
      have HB := Lib.hid hB
      clear hp hB FD
      go_wp2_with fail
      go_loopw [10] (fun i wr => ∃ j : Nat, j ≤ l.length ∧ i = .int .i64 j ∧ getP (l.take j) k = none ∧ Below w.heap.size w wr) (fun i _ => l.length - (intOf i).toNat)
      case atStart => exact ⟨0, Nat.zero_le _, rfl, rfl, HB.out⟩
      case round =>
        obtain ⟨j, hj, rfl, hg, hBr⟩ := hrel
        have BR := Lib.hid hBr
        by_cases hjm : j < l.length
        · have HJ : (j : Int) < l.length := by omega
          have hT := getP_take l k hjm
          rw [hg] at hT
          obtain ⟨b2, ob, vp, rfl, hb2, hrp, hpb⟩ := HP.out.at' hjm
          have hp2 := HL2.out _ (List.getElem_mem hjm)
          obtain ⟨p1, e1⟩ : ∃ p, l[j].1 = p := ⟨_, rfl⟩
          obtain ⟨p2, e2⟩ : ∃ p, l[j].2 = p := ⟨_, rfl⟩
          rw [e1] at hrp
          rw [e2] at hpb hp2
          rw [e1, e2] at hT
          obtain ⟨Ap, cp, rfl⟩ := hpb.1.form
          have kr : wr.cell? ⟨b2, ob + j * 2, none⟩ = some (.int .i64 (p1 : Int)) := by rw [hBr.cell (p := ⟨b2, ob + j * 2, none⟩) hb2]; exact hrp 0 _ rfl
          have hB2 := Lib.hid hb2
          have hk1 : w.cell? ⟨b2, ob + j * 2 + 1, none⟩ = some (.slice Ap p2.length cp) := hrp 1 _ rfl
          have HK1 := Lib.hid hk1
          have HPB := Lib.hid hpb.1
          have HP2 := Lib.hid hp2
          have HT := Lib.hid hT
          clear hT hb2 hrp hpb e1 e2 hBr hg hk1 hp2
          by_cases he : p1 = k
          · have hei : (p1 : Int) = (k : Int) := by omega
            have kr1 : wr.cell? ⟨b2, ob + j * 2 + 1, none⟩ = some (.slice Ap p2.length cp) := by rw [BR.out.cell (p := ⟨b2, ob + j * 2 + 1, none⟩) hB2.out]; exact HK1.out
            have KR1 := Lib.hid kr1
            clear kr1
            go_wp2_with (first | ((with_reducible refine wp_noneB rfl rfl ?_); intro w4 hS4 hB4; have o4 := Lib.hid hS4; have B4 := Lib.hid hB4; have kr4 : w4.cell? ⟨b2, ob + j * 2 + 1, none⟩ = some (.slice Ap p2.length cp) := (by rw [hB4.cell (p := ⟨b2, ob + j * 2 + 1, none⟩) (Nat.lt_of_lt_of_le hB2.out BR.out.size)]; exact KR1.out); clear hS4 hB4) | (at_builtin; refine wp_appendB rfl _ _ rfl wr.heap.size _ [] rfl o4.out _ p2 rfl ((HPB.out.below BR.out).below B4.out) (by have := HP2.out; simp; omega) B4.out.size ?_; intro v5 w5 hv5 hg5; have B5 := Lib.hid (below_ownB B4.out hg5 o4.out (Nat.le_refl _)); have O5 := Lib.hid hv5; clear hv5 hg5))
            go_ret2
            have hT := HT.out
            rw [if_pos he] at hT
            have hfd := getP_found hT
            have hg := HGG.out
            rw [hfd] at hg
            refine ⟨v5, ?_, ?_, below_then BR.out B5.out⟩
            · rw [← hg]
              rfl
            · rw [← hg]
              exact O5.out.mono BR.out.size
          · have hei : ¬ (p1 : Int) = (k : Int) := by omega
            go_wp2_with fail
            go_roundw
            case rel => exact ⟨j + 1, by omega, by go_num, by rw [HT.out, if_neg he]; rfl, BR.out⟩
            case measure => simp [intOf]; omega
        · have HJ : ¬ (j : Int) < l.length := by omega
          have e : j = l.length := by omega
          rw [e, List.take_length] at hg
          have HG := Lib.hid hg
          clear hg hBr e
          go_wp2_with fail
          go_ret2
          have hg := HGG.out
          rw [HG.out] at hg
          refine ⟨.slice none 0 0, ?_, ?_, BR.out⟩
          · rw [← hg]
            rfl
          · rw [← hg]
            exact OwB.nil _ _
theorem newS_at (w : World) : RSto ((w.alloc (.cells #[.slice none 0 0] 76)).alloc (.cells #[.int .i64 0, .slice (some ⟨w.heap.size, 0, none⟩) 1 1, .slice none 0 0] 78)) (fun b => w.heap.size ≤ b ∧ b < ((w.alloc (.cells #[.slice none 0 0] 76)).alloc (.cells #[.int .i64 0, .slice (some ⟨w.heap.size, 0, none⟩) 1 1, .slice none 0 0] 78)).heap.size) (w.heap.size + 1) emptyS := by
  have hz1 : (w.alloc (.cells #[.slice none 0 0] 76)).heap.size = w.heap.size + 1 := World.size_alloc _ _
  have hn : (w.alloc (.cells #[.slice none 0 0] 76)).heap[w.heap.size]? = some (.cells #[.slice none 0 0] 76 (0, 0)) := heap_alloc_new w _
  generalize w.alloc (.cells #[.slice none 0 0] 76) = w1 at hz1 hn ⊢
  rw [← hz1]
  have hB : Below w1.heap.size w1 (w1.alloc (.cells #[.int .i64 0, .slice (some ⟨w.heap.size, 0, none⟩) 1 1, .slice none 0 0] 78)) := (Below.refl _ _).alloc (Nat.le_refl _) _
  have hm := heap_alloc_new w1 (.cells #[.int .i64 0, .slice (some ⟨w.heap.size, 0, none⟩) 1 1, .slice none 0 0] 78)
  have hz2 := World.size_alloc w1 (.cells #[.int .i64 0, .slice (some ⟨w.heap.size, 0, none⟩) 1 1, .slice none 0 0] 78)
  have hb : (w1.alloc (.cells #[.int .i64 0, .slice (some ⟨w.heap.size, 0, none⟩) 1 1, .slice none 0 0] 78)).heap[w.heap.size]? = some (.cells #[.slice none 0 0] 76 (0, 0)) := by rw [hB.block _ (by omega), hn]
  generalize w1.alloc (.cells #[.int .i64 0, .slice (some ⟨w.heap.size, 0, none⟩) 1 1, .slice none 0 0] 78) = w2 at hB hm hz2 hb ⊢
  refine ⟨empty_ok, ⟨by omega, by omega⟩, fun b h => h.2, _, _, hm, ?_, PgsV.none _ _⟩
  refine ⟨[([], .slice none 0 0)], rfl, ?_, ?_, ?_⟩
  · refine ⟨rfl, _, _, rfl, ⟨Nat.le_refl _, fun h => by cases h⟩, by unfold maxLen; omega, fun _ => ⟨w.heap.size, 0, rfl, by omega, fun j u hj => ?_⟩⟩
    rw [cell_of_row w2 _ _ _ _ (0, 0) hb]
    match j, hj with
    | 0, hj => simpa using hj
    | j + 1, hj => simp at hj
  · intro _ b hb
    have : w.heap.size = b := by simpa [Value.ownBlock] using hb
    exact ⟨⟨by omega, by omega⟩, by omega⟩
  · intro k hk
    rw [List.mem_singleton] at hk
    subst hk
    exact PgsV.none _ _
set_option maxHeartbeats 1000000 in
theorem rnewStore_c (w : World) : Calls Tryz.prog 11 #[] w fun e w' => ∃ m, e = .returned (.pointer (some ⟨m, 0, none⟩)) ∧ RSto w' (fun b => w.heap.size ≤ b ∧ b < w'.heap.size) m emptyS ∧ Below w.heap.size w w' := by
  go_enter Tryz.func11, Tryz.ntmps11
  go_wp2_with fail
  go_ret
  refine ⟨_, rfl, newS_at w, ?_⟩
  exact ((Below.refl _ _).alloc (Nat.le_refl _) _).alloc (by rw [World.size_alloc]; omega) _
end
end Go.Proofs.YtckomifecmemnaaGreat

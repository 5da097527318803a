/- A region of a disk is read and written. -/
import Derived.Lib.MinMax
import Derived.Deep.DeepCutAuto
import Derived.Test.YtckomifecmemnaaGreatPkfg
import Derived.Test.YtckomifecmemnaaGreatPmga
import Derived.Test.YtckomifecmemnaaGreatDql
import Derived.Test.YtckomifecmemnaaGreatPkj
namespace Go.Proofs.YtckomifecmemnaaGreat
open Go.RowKit Dig
set_option linter.unusedVariables false

/-- The disk where only j pieces of b are pending. -/
def penD (ds : DS) (p : Nat) (b : List UInt8) (j : Nat) : DS := { ds with pend := (List.range j).map fun i => (p + i, padS (piece b i)) }
/-- The sectors L where the pieces of b lie from p on. -/
def putL (L : List (List UInt8)) (p : Nat) (b : List UInt8) : List (List UInt8) := ((List.range (cntS b)).map fun i => (p + i, padS (piece b i))).foldl put1 L
def putD (ds : DS) (p : Nat) (b : List UInt8) : DS := { ds with dur := putL ds.dur p b }
theorem penD_zero {ds : DS} (h : calmD ds) (p : Nat) (b : List UInt8) : penD ds p b 0 = ds := by
  unfold penD
  rw [List.range_zero, List.map_nil, ← h.2.1]
theorem penD_write {ds : DS} (h : calmD ds) (p : Nat) (b : List UInt8) (j : Nat) (hj : p + j < ds.dur.length) : writeS (penD ds p b j) ((p + j : Nat) : Int) (piece b j) = (0, penD ds p b (j + 1)) := by
  have hbad : badS (penD ds p b j) ((p + j : Nat) : Int) (piece b j).length = 0 := by
    unfold badS
    have h1 : (penD ds p b j).off = false := h.1
    have h2 : (penD ds p b j).dur = ds.dur := rfl
    rw [h1, if_neg (by simp), h2, if_neg (by omega), if_neg (by have := piece_le b j; omega)]
  have hf : failsS (penD ds p b j) = (false, penD ds p b j) := by
    unfold failsS
    rw [if_pos (show (penD ds p b j).armed = false from h.2.2)]
  unfold writeS
  rw [hbad, if_neg (by simp), hf, if_neg (by simp)]
  congr 1
  unfold penD
  simp only [Int.toNat_natCast]
  rw [List.range_succ, List.map_append]
  rfl
theorem penD_flush {ds : DS} (h : calmD ds) (p : Nat) (b : List UInt8) : flushS (penD ds p b (cntS b)) = (0, putD ds p b) := by
  have hf : failsS (penD ds p b (cntS b)) = (false, penD ds p b (cntS b)) := by
    unfold failsS
    rw [if_pos (show (penD ds p b (cntS b)).armed = false from h.2.2)]
  unfold flushS
  rw [if_neg (by rw [show (penD ds p b (cntS b)).off = false from h.1]; simp), hf, if_neg (by simp)]
  congr 1
  unfold putD putL penD secs
  simp only
  rw [h.2.1]
theorem putD_calm {ds : DS} (h : calmD ds) (p : Nat) (b : List UInt8) : calmD (putD ds p b) := h
theorem foldPut_get (p : Nat) (f : Nat → List UInt8) (L : List (List UInt8)) (i : Nat) : ∀ k : Nat, p + k ≤ L.length → (((List.range k).map fun j => (p + j, f j)).foldl put1 L).length = L.length ∧ (((List.range k).map fun j => (p + j, f j)).foldl put1 L)[i]? = if p ≤ i ∧ i < p + k then some (f (i - p)) else L[i]?
  | 0, _ => ⟨rfl, by rw [if_neg (by omega)]; rfl⟩
  | k + 1, hk => by
    obtain ⟨h1, h2⟩ := foldPut_get p f L i k (by omega)
    rw [List.range_succ, List.map_append, List.foldl_append]
    refine ⟨by simp [put1, h1], ?_⟩
    simp only [List.map_cons, List.map_nil, List.foldl_cons, List.foldl_nil, put1]
    by_cases e : p + k = i
    · subst e
      rw [List.getElem?_set_self (by rw [h1]; omega), if_pos (by omega), Nat.add_sub_cancel_left]
    · rw [List.getElem?_set_ne e, h2]
      by_cases e2 : p ≤ i ∧ i < p + k
      · rw [if_pos e2, if_pos (by omega)]
      · rw [if_neg e2, if_neg (by omega)]
theorem putL_length {L : List (List UInt8)} {p : Nat} {b : List UInt8} (h : p + cntS b ≤ L.length) : (putL L p b).length = L.length := (foldPut_get p (fun i => padS (piece b i)) L 0 (cntS b) h).1
theorem putL_get {L : List (List UInt8)} {p : Nat} {b : List UInt8} (h : p + cntS b ≤ L.length) (i : Nat) : (putL L p b)[i]? = if p ≤ i ∧ i < p + cntS b then some (padS (piece b (i - p))) else L[i]? := (foldPut_get p (fun i => padS (piece b i)) L i (cntS b) h).2
theorem MoreR.trans {F F1 : Nat → Prop} {w w1 w2 : World} (h1 : ∀ k, F1 k → MoreR F w w1 k) (hs : w.heap.size ≤ w1.heap.size) (hs2 : w1.heap.size ≤ w2.heap.size) : ∀ k, MoreR F1 w1 w2 k → MoreR F w w2 k := fun k hk => by
  rcases hk with h | h
  · exact (h1 k h).imp id fun h => ⟨h.1, by omega⟩
  · exact .inr ⟨by omega, h.2⟩
section
variable {w w' : World} {Fd : Nat → Prop} {d : Nat} {ds : DS} {u : Value} {b : List UInt8}
/-- A piece of bytes. -/
theorem Byt.piece {g off c : Nat} (h : Byt w (.slice (some ⟨g, off, none⟩) b.length c) b) (i : Nat) (hi : i * 64 < b.length) : Byt w (.slice (some ⟨g, off + i * 64, none⟩) (min (i * 64 + 64) b.length - i * 64) (c - i * 64)) (piece b i) := by
  have hl : (Go.Proofs.YtckomifecmemnaaGreat.piece b i).length = min (i * 64 + 64) b.length - i * 64 := by
    unfold Go.Proofs.YtckomifecmemnaaGreat.piece
    rw [List.length_take, List.length_drop]
    omega
  have hbd := h.bounds
  obtain ⟨g', off', e, hlt, hc⟩ := h.cells (by omega)
  obtain ⟨rfl, rfl⟩ : g = g' ∧ off = off' := by simpa using e
  refine ⟨_, _, by rw [hl], ⟨by rw [hl]; omega, fun e => by cases e⟩, by omega, fun hp => ⟨g, off + i * 64, rfl, hlt, fun j hj => ?_⟩⟩
  rw [hl] at hj
  rw [Nat.add_assoc, hc (i * 64 + j) (by omega)]
  unfold Go.Proofs.YtckomifecmemnaaGreat.piece
  rw [List.getD_eq_getElem?_getD, List.getD_eq_getElem?_getD, List.getElem?_take, if_pos (by omega), List.getElem?_drop]
set_option maxRecDepth 20000 in
set_option maxHeartbeats 8000000 in
theorem write7_c (hD : Disk w Fd d ds) (hc : calmD ds) (a n p : Nat) (hu : Byt w u b) (hb : b.length ≤ 600000) (hap : 0 < b.length → ∀ k, u.ownBlock = some k → ¬ Fd k) (hf : a + p + cntS b ≤ ds.dur.length) (hd : ds.dur.length ≤ 8192) :
    Calls Tryz.prog 70 #[regV d a n, .int .i64 (p : Int), u] w fun e w' => e = .returned (.int .i64 0) ∧ ∃ Fd', Disk w' Fd' d (putD ds (a + p) b) ∧ (∀ k, Fd' k → MoreR Fd w w' k) ∧ Turn Fd w w' := by
  have HD := Lib.hid hD
  have HC := Lib.hid hc
  have HU := Lib.hid hu
  have HAP := Lib.hid hap
  have HF := Lib.hid (show a + p + cntS b ≤ ds.dur.length ∧ ds.dur.length ≤ 8192 ∧ b.length ≤ 600000 from ⟨hf, hd, hb⟩)
  have hai : (a : Int) ≤ 8192 := by omega
  have hpi : (p : Int) ≤ 8192 := by omega
  have HL := Lib.hid (hu.low7)
  obtain ⟨A, c, rfl⟩ := hu.form
  have hbd := hu.bounds
  have hcl := hbd.2.1
  obtain ⟨bl, ebl⟩ : ∃ n, b.length = n := ⟨_, rfl⟩
  have EB := Lib.hid ebl
  have hbi : (bl : Int) ≤ 600000 := by omega
  unfold regV
  rw [ebl] at HU HAP HL hcl ⊢
  clear hD hc hu hap hf hd hb hbd ebl
  go_enter Tryz.func70, Tryz.ntmps70
  go_wp2_with fail
  obtain ⟨W1, eW⟩ : ∃ W, W = w.alloc (.cells #[.pointer (some ⟨d, 0, none⟩), .int .i64 (a : Int), .int .i64 (n : Int)] 62) := ⟨_, rfl⟩
  have hh1 : W1.heap[w.heap.size]? = some (.cells #[.pointer (some ⟨d, 0, none⟩), .int .i64 (a : Int), .int .i64 (n : Int)] 62 (0, 0)) := by rw [eW]; exact heap_alloc_new w _
  have hB1 : Below w.heap.size w W1 := by rw [eW]; exact (Below.refl _ _).alloc (Nat.le_refl _) _
  rw [← eW]
  have HH := Lib.hid hh1
  have B1 := Lib.hid hB1
  have D1 := Lib.hid (HD.out.below hB1)
  have FL := Lib.hid (fun k hk => HD.out.lt (b := k) hk)
  have HB0 := Lib.hid (lt_of_heap hh1)
  clear eW hh1 hB1 HD
  go_loopw [7] (fun iv wr => ∃ (j : Nat) (Fj : Nat → Prop), j ≤ cntS b ∧ iv = .int .i64 ((j * 64 : Nat) : Int) ∧ Disk wr Fj d (penD ds (a + p) b j) ∧ (∀ k, Fj k → MoreR Fd W1 wr k) ∧ Turn Fd W1 wr) (fun iv _ => cntS b - (intOf iv).toNat / 64)
  case atStart => exact ⟨0, Fd, Nat.zero_le _, rfl, by rw [penD_zero HC.out]; exact D1.out, fun k hk => .inl hk, Turn.of_below _ (Below.refl _ _)⟩
  case round =>
    clear D1
    obtain ⟨j, Fj, hj, rfl, hDj, hFj, hT⟩ := hrel
    have DJ := Lib.hid hDj
    have FJ := Lib.hid hFj
    have TJ := Lib.hid hT
    have hbx : wr.heap[w.heap.size]? = W1.heap[w.heap.size]? := hT.2.2.2.2 _ HB0.out fun hf => Nat.lt_irrefl _ (FL.out _ hf)
    rw [HH.out] at hbx
    have c0 : wr.cell? ⟨w.heap.size, 0, none⟩ = some (.pointer (some ⟨d, 0, none⟩)) := by rw [cell_of_row wr _ _ _ _ (0, 0) hbx]; rfl
    have c1 : wr.cell? ⟨w.heap.size, 1, none⟩ = some (.int .i64 (a : Int)) := by rw [cell_of_row wr _ _ _ _ (0, 0) hbx]; rfl
    clear hDj hFj hbx
    generalize wr = w4 at *
    by_cases hjk : j * 64 < bl
    · have hcn : j < cntS b := by unfold cntS; rw [EB.out]; omega
      have HCN := Lib.hid hcn
      have hUj := byt_turn (HU.out.below B1.out) hT (HAP.out (by omega))
      obtain ⟨g, off, rfl, hg, -⟩ := hUj.cells (by rw [EB.out]; omega)
      have PJ := Lib.hid (Byt.piece (show Byt w4 (.slice (some ⟨g, off, none⟩) b.length c) b by rw [EB.out]; exact hUj) j (by rw [EB.out]; omega))
      rw [EB.out] at PJ
      have NF := Lib.hid (show ¬ Fj g from fun hf => (FJ.out g hf).elim (HAP.out (by omega) g rfl) fun h => by have := HL.out (by omega) g rfl; have := B1.out.size; omega)
      have hwr := penD_write HC.out (a + p) b j (by have := HF.out; omega)
      obtain ⟨q, hq⟩ : ∃ q, j * 64 = q := ⟨_, rfl⟩
      have HQ := Lib.hid hq
      obtain ⟨hi, hhi⟩ : ∃ hi, min (q + 64) bl = hi := ⟨_, rfl⟩
      have hmin : min ((q : Int) + 64) (bl : Int) = (hi : Int) := by omega
      have hdv : Int.tdiv (q : Int) 64 = (j : Int) := by rw [Int.tdiv_eq_ediv_of_nonneg (by omega)]; omega
      have hdv2 : (q : Int) / 64 = (j : Int) := by omega
      rw [hq, hhi] at PJ
      rw [hq] at hjk ⊢
      have hqh : q ≤ hi := by omega
      have hhc : hi ≤ c := by omega
      have hqc : q < c := by omega
      have hqi : (q : Int) < (bl : Int) := by omega
      have hji : (j : Int) ≤ 10000 := by omega
      have EW := Lib.hid (show writeS (penD ds (a + p) b j) ((a : Int) + (p : Int) + (j : Int)) (piece b j) = (0, penD ds (a + p) b (j + 1)) by rw [show (a : Int) + (p : Int) + (j : Int) = ((a + p + j : Nat) : Int) by omega]; exact hwr)
      clear hT hUj hg hq hhi hwr hcn hj
      go_wp2_with fail
      have C := qwrite_c DJ.out (by show ((List.range j).map _).length ≤ 90000; rw [List.length_map, List.length_range]; have := HCN.out; have := HF.out; omega) ((a : Int) + (p : Int) + (j : Int)) PJ.out (by have := piece_le b j; omega) (fun _ k hk => by
        obtain rfl : g = k := by simpa [Value.ownBlock] using hk
        exact NF.out)
      rw [EW.out] at C
      refine C.mono ?_
      rintro e w6 ⟨rfl, hD6, hT6⟩
      have D6 := Lib.hid hD6
      have F6 := Lib.hid (MoreR.trans FJ.out TJ.out.2.2.2.1 hT6.2.2.2.1)
      have T6 := Lib.hid (TJ.out.then hT6 fun k hk hf => (FJ.out k hf).elim id fun h => by omega)
      clear hD6 hT6 C
      go_wp2_with fail
      go_roundw
      case rel => exact ⟨j + 1, _, by have := HCN.out; omega, by have := HQ.out; congr 1; omega, D6.out, F6.out, T6.out⟩
      case measure => have := HQ.out; have := HCN.out; simp only [intOf]; omega
    · have hjk2 : ¬ ((j * 64 : Nat) : Int) < (bl : Int) := by omega
      have hcn : j = cntS b := by unfold cntS at hj ⊢; rw [EB.out] at hj ⊢; omega
      obtain ⟨q, hq⟩ : ∃ q, j * 64 = q := ⟨_, rfl⟩
      rw [hq] at hjk2 ⊢
      have EF := Lib.hid (penD_flush HC.out (a + p) b)
      have DZ := Lib.hid (show Disk w4 Fj d (penD ds (a + p) b (cntS b)) by rw [← hcn]; exact DJ.out)
      clear hjk hj hq hT hcn
      go_wp2_with fail
      have C := qflush_c DZ.out (by show ((List.range (cntS b)).map _).length ≤ 100000; rw [List.length_map, List.length_range]; have := HF.out; omega)
      rw [EF.out] at C
      refine C.mono ?_
      rintro e w6 ⟨rfl, hD6, hT6⟩
      have D6 := Lib.hid hD6
      have F6 := Lib.hid (MoreR.trans FJ.out TJ.out.2.2.2.1 hT6.2.2.2.1)
      have T6 := Lib.hid (TJ.out.then hT6 fun k hk hf => (FJ.out k hf).elim id fun h => by omega)
      clear hD6 hT6 C
      go_wp2_with fail
      go_ret
      refine ⟨rfl, _, D6.out, fun k hk => ?_, ?_⟩
      · rcases F6.out k hk with h | h
        · exact .inl h
        · exact .inr ⟨by have := B1.out.size; omega, h.2⟩
      · exact (Turn.of_below Fd B1.out).then T6.out fun k _ hf => hf
set_option maxRecDepth 20000 in
set_option maxHeartbeats 4000000 in
/-- All sectors of a region are read. -/
theorem read7_c (hD : Disk w Fd d ds) (ho : ds.off = false) (hp : ds.pend = []) (a n : Nat) (hn : a + n ≤ ds.dur.length) (h8 : ds.dur.length ≤ 8192) :
    Calls Tryz.prog 26 #[regV d a n] w fun e w' => ∃ r, e = .returned (.tuple #[r, .int .i64 0]) ∧ OwB w.heap.size w' r (cutD ds a (a + n)).flatten ∧ Below w.heap.size w w' := by
  have HD := Lib.hid hD
  have HF := Lib.hid (show a + n ≤ ds.dur.length ∧ ds.dur.length ≤ 8192 from ⟨hn, h8⟩)
  have h64 : ∀ x ∈ ds.dur, x.length = 64 := hD.1.1
  have S64 := Lib.hid h64
  have RD := Lib.hid (show ∀ i, i < n → ∃ x, ds.dur[a + i]? = some x ∧ readS ds ((a : Int) + (i : Int)) = (0, x) from fun i hi => by
    obtain ⟨x, hx⟩ : ∃ x, ds.dur[a + i]? = some x := ⟨ds.dur[a + i]'(by omega), List.getElem?_eq_getElem _⟩
    refine ⟨x, hx, ?_⟩
    have hb : badS ds ((a : Int) + (i : Int)) 0 = 0 := by
      unfold badS
      rw [ho, if_neg (by simp), if_neg (by omega), if_neg (by omega)]
    unfold readS
    rw [hb, if_neg (by simp)]
    unfold secs
    rw [hp, List.foldl_nil, show ((a : Int) + (i : Int)).toNat = a + i by omega, List.getD_eq_getElem?_getD, hx]
    rfl)
  have hai : (a : Int) ≤ 8192 := by omega
  have hni : (n : Int) ≤ 8192 := by omega
  unfold regV
  clear hD ho hp hn h8 h64
  go_enter Tryz.func26, Tryz.ntmps26
  go_wp2_with fail
  obtain ⟨W1, eW⟩ : ∃ W, W = w.alloc (.cells #[.pointer (some ⟨d, 0, none⟩), .int .i64 (a : Int), .int .i64 (n : Int)] 62) := ⟨_, rfl⟩
  have hh1 : W1.heap[w.heap.size]? = some (.cells #[.pointer (some ⟨d, 0, none⟩), .int .i64 (a : Int), .int .i64 (n : Int)] 62 (0, 0)) := by rw [eW]; exact heap_alloc_new w _
  have hB1 : Below w.heap.size w W1 := by rw [eW]; exact (Below.refl _ _).alloc (Nat.le_refl _) _
  rw [← eW]
  have HH := Lib.hid hh1
  have B1 := Lib.hid hB1
  have D1 := Lib.hid (HD.out.below hB1)
  have HB0 := Lib.hid (lt_of_heap hh1)
  clear eW hh1 hB1 HD
  go_loopw [4, 10] (fun ov iv wr => ∃ j : Nat, j ≤ n ∧ iv = .int .i64 (j : Int) ∧ OwB W1.heap.size wr ov ((cutD ds a (a + n)).take j).flatten ∧ Below W1.heap.size W1 wr) (fun _ iv _ => n - (intOf iv).toNat)
  case atStart => exact ⟨0, Nat.zero_le _, rfl, OwB.nil _ _, Below.refl _ _⟩
  case round =>
    obtain ⟨j, hj, rfl, hO, hBr⟩ := hrel
    have OJ := Lib.hid hO
    have BJ := Lib.hid hBr
    have hbx : wr.heap[w.heap.size]? = W1.heap[w.heap.size]? := hBr.block _ HB0.out
    rw [HH.out] at hbx
    have c0 : wr.cell? ⟨w.heap.size, 0, none⟩ = some (.pointer (some ⟨d, 0, none⟩)) := by rw [cell_of_row wr _ _ _ _ (0, 0) hbx]; rfl
    have c1 : wr.cell? ⟨w.heap.size, 1, none⟩ = some (.int .i64 (a : Int)) := by rw [cell_of_row wr _ _ _ _ (0, 0) hbx]; rfl
    have hlen : ((cutD ds a (a + n)).take j).flatten.length ≤ 600000 := by
      have h1 : ∀ (L : List (List UInt8)), (∀ x ∈ L, x.length = 64) → L.flatten.length = L.length * 64 := fun L h => by
        have := flatB_length (fun x : List UInt8 => x) L h
        simpa using this
      rw [h1 ((cutD ds a (a + n)).take j) fun x hx => S64.out x (List.mem_of_mem_drop (List.mem_of_mem_take (List.mem_of_mem_take hx)))]
      have h2 : ((cutD ds a (a + n)).take j).length ≤ j := List.length_take_le _ _
      have := HF.out
      omega
    have LEN := Lib.hid hlen
    clear hO hBr hbx hlen
    generalize wr = w4 at *
    by_cases hjn : j < n
    · have HJ : (j : Int) < n := by omega
      have HJN := Lib.hid hjn
      obtain ⟨x, hx, hr⟩ := RD.out j hjn
      have RX := Lib.hid hr
      have XL := Lib.hid (S64.out x (List.mem_of_getElem? hx))
      have TK := Lib.hid (show ((cutD ds a (a + n)).take (j + 1)).flatten = ((cutD ds a (a + n)).take j).flatten ++ x by
        rw [List.take_add_one, List.flatten_append]
        congr 1
        unfold cutD
        rw [List.getElem?_take, if_pos (by omega), List.getElem?_drop, hx]
        simp)
      have DJ := Lib.hid (D1.out.below BJ.out)
      have hji : (j : Int) ≤ 8192 := by omega
      clear hjn hx hr hj
      go_wp2_with fail
      have C := qread_c DJ.out ((a : Int) + (j : Int))
      rw [RX.out] at C
      refine C.mono ?_
      rintro e w6 ⟨r, rfl, hr, hB6⟩
      have R6 := Lib.hid hr
      have O6 := Lib.hid (OJ.out.below hB6 (Nat.le_refl _))
      have B6 := Lib.hid (BJ.out.trans (hB6.mono BJ.out.size))
      clear hr hB6 C c0 c1
      go_wp2_with (at_builtin; refine wp_appendB rfl _ _ rfl W1.heap.size _ _ rfl O6.out _ x rfl R6.out.byt (by have := LEN.out; have := XL.out; omega) B6.out.size ?_; intro v7 w7 hv7 hg7; have O7 := Lib.hid hv7; have B7 := Lib.hid (B6.out.grown hg7 B6.out.size (fun k hk => (O6.out.block k hk).1)); clear hv7 hg7)
      go_roundw
      case rel =>
        refine ⟨j + 1, by have := HJN.out; omega, by go_num, ?_, B7.out⟩
        rw [TK.out]
        exact O7.out
      case measure => have := HJN.out; simp only [intOf]; omega
    · have HJ : ¬ (j : Int) < n := by omega
      have hj2 : j = n := by omega
      subst hj2
      clear hjn hj c0 c1
      go_wp2_with fail
      go_ret2
      refine ⟨_, rfl, ?_, below_then B1.out BJ.out⟩
      have h := OJ.out
      rw [show (cutD ds a (a + j)).take j = cutD ds a (a + j) from List.take_of_length_le (by unfold cutD; rw [List.length_take]; omega)] at h
      exact h.mono B1.out.size
/-- Without power nothing is read. -/
theorem readOff_c (hD : Disk w Fd d ds) (ho : ds.off = true) (a n : Nat) (h1 : 1 ≤ n) (h2 : n ≤ 8192) (h3 : a ≤ 8192) : Calls Tryz.prog 26 #[regV d a n] w fun e w' => e = .returned (.tuple #[.slice none 0 0, .int .i64 10]) ∧ Below w.heap.size w w' := by
  have RX := Lib.hid (show readS ds ((a : Int) + 0) = (10, []) by
    have hb : badS ds ((a : Int) + 0) 0 = 10 := by unfold badS; rw [ho, if_pos rfl]
    unfold readS
    rw [hb, if_pos (by simp)])
  have HD := Lib.hid hD
  have hni : (0 : Int) < (n : Int) := by omega
  unfold regV
  clear hD ho h1
  go_enter Tryz.func26, Tryz.ntmps26
  go_wp2_with fail
  obtain ⟨W1, eW⟩ : ∃ W, W = w.alloc (.cells #[.pointer (some ⟨d, 0, none⟩), .int .i64 (a : Int), .int .i64 (n : Int)] 62) := ⟨_, rfl⟩
  have hh1 : W1.heap[w.heap.size]? = some (.cells #[.pointer (some ⟨d, 0, none⟩), .int .i64 (a : Int), .int .i64 (n : Int)] 62 (0, 0)) := by rw [eW]; exact heap_alloc_new w _
  have hB1 : Below w.heap.size w W1 := by rw [eW]; exact (Below.refl _ _).alloc (Nat.le_refl _) _
  rw [← eW]
  have c0 : W1.cell? ⟨w.heap.size, 0, none⟩ = some (.pointer (some ⟨d, 0, none⟩)) := by rw [cell_of_row W1 _ _ _ _ (0, 0) hh1]; rfl
  have c1 : W1.cell? ⟨w.heap.size, 1, none⟩ = some (.int .i64 (a : Int)) := by rw [cell_of_row W1 _ _ _ _ (0, 0) hh1]; rfl
  have B1 := Lib.hid hB1
  have D1 := Lib.hid (HD.out.below hB1)
  clear eW hh1 hB1 HD
  go_loopw [4, 10] (fun ov iv wr => iv = .int .i64 0 ∧ wr = W1) (fun _ iv _ => 1)
  case atStart => exact ⟨rfl, rfl⟩
  case round =>
    obtain ⟨rfl, rfl⟩ := hrel
    go_wp2_with fail
    have C := qread_c D1.out ((a : Int) + 0)
    rw [RX.out] at C
    refine C.mono ?_
    rintro e w6 ⟨r, rfl, hr, hB6⟩
    have B6 := Lib.hid (below_then B1.out hB6)
    clear hr hB6 C
    go_wp2_with fail
    go_ret2
    exact ⟨rfl, B6.out⟩
end
end Go.Proofs.YtckomifecmemnaaGreat

/- A region of the landed pagestore: commit. -/
namespace Go.Proofs.YtckomifecmemnaaGreat
set_option linter.unusedSimpArgs false
open Go.RowKit Dig
set_option linter.unusedVariables false

theorem eight {α : Type} (l : List α) (h : l.length = 8) : ∃ a0 a1 a2 a3 a4 a5 a6 a7, l = [a0, a1, a2, a3, a4, a5, a6, a7] := by
  cases l with
  | nil => simp at h
  | cons a0 l =>
  cases l with
  | nil => simp at h
  | cons a1 l =>
  cases l with
  | nil => simp at h
  | cons a2 l =>
  cases l with
  | nil => simp at h
  | cons a3 l =>
  cases l with
  | nil => simp at h
  | cons a4 l =>
  cases l with
  | nil => simp at h
  | cons a5 l =>
  cases l with
  | nil => simp at h
  | cons a6 l =>
  cases l with
  | nil => simp at h
  | cons a7 l =>
  cases l with
  | nil => exact ⟨a0, a1, a2, a3, a4, a5, a6, a7, rfl⟩
  | cons a8 l => simp at h
theorem fill_four {u0 v0 u1 v1 u2 v2 u3 v3 : Value} (A0 : Array Value) (h : A0.size = 8) : Instr.fill (fun i => some (i * 2, 2)) A0 [(0, .agg #[u0, v0]), (1, .agg #[u1, v1]), (2, .agg #[u2, v2]), (3, .agg #[u3, v3])] = some #[u0, v0, u1, v1, u2, v2, u3, v3] := by
  obtain ⟨l⟩ := A0
  obtain ⟨a0, a1, a2, a3, a4, a5, a6, a7, rfl⟩ := eight l h
  kernel_rfl
section
variable {ev : Operand → Value} {o : Oper} {w : World}
/-- A row of four elements of two cells. -/
theorem exec_fourC {T e : TypeId} {z : Value} {by' : Nat} {u0 v0 u1 v1 u2 v2 u3 v3 : Value} (hT : Tryz.prog.underlying T = some (.slice e)) (hI : (Tryz.prog.info? e).map (fun i => (i.zero, i.size, i.bytes)) = some (some z, 2, by'))
    {t0 t1 t2 t3 : Tmp} (ho : o.op = .buildSlice T 4 #[(0, .tmp t0), (1, .tmp t1), (2, .tmp t2), (3, .tmp t3)]) (h0 : ev (.tmp t0) = .agg #[u0, v0]) (h1 : ev (.tmp t1) = .agg #[u1, v1]) (h2 : ev (.tmp t2) = .agg #[u2, v2]) (h3 : ev (.tmp t3) = .agg #[u3, v3]) :
    (execOp ev o).run Tryz.prog w = .ok (.value (.slice (some ⟨w.heap.size, 0, none⟩) 4 4)) (w.alloc (.cells #[u0, v0, u1, v1, u2, v2, u3, v3] e)) := by
  cases hq : Tryz.prog.info? e with
  | none => simp [hq] at hI
  | some i0 =>
    simp [hq] at hI
    obtain ⟨hz, hs, _⟩ := hI
    have hr := run_buildSlice (P := Tryz.prog) w T e 4 #[(0, .agg #[u0, v0]), (1, .agg #[u1, v1]), (2, .agg #[u2, v2]), (3, .agg #[u3, v3])] #[u0, v0, u1, v1, u2, v2, u3, v3] i0 z hT hq hz (by rw [hs]; omega) (by rw [hs]; omega) (by
      have hsz : ((Array.range (4 * i0.size)).map (z.cells[· % z.cells.size]!)).size = 8 := by simp [hs]
      rw [hs] at hsz ⊢
      exact fill_four _ hsz)
    unfold execOp
    simp only [ho, List.map_toArray, List.map_cons, List.map_nil, h0, h1, h2, h3, Sem.run_bind, hr, Result.andThen_ok, Sem.run_pure]
end
section
variable {w w1 : World} {ops : Array Oper} {rest : List Oper} {o : Oper} {a : Act} {Q : Exit → Act → World → Prop}
/-- The load of a whole row. -/
theorem wp_loadR {T : TypeId} (hgd : o.guard = none) (t : Tmp) (ho : o.op = .load T (.tmp t)) (b off : Nat) (cs : List Value) (hx : a.eval (.tmp t) = .pointer (some ⟨b, off, none⟩)) (hr : w.rangeAt b off cs) (hu : (Tryz.prog.underlying T).map (·.isRow) = some true) (hi : (Tryz.prog.info? T).map (·.size) = some cs.length)
    (h : wpList Tryz.prog ops Q rest (a.put o.dst (.agg cs.toArray)) w) : wpList Tryz.prog ops Q (o :: rest) a w := by
  refine wpList_plain hgd fun K hK => ?_
  cases hq : Tryz.prog.underlying T with
  | none => rw [hq] at hu; cases hu
  | some dd =>
    rw [hq] at hu
    have hrun := exec_loadC (w := w) (ev := a.eval) (o := o) t hq (by simpa using hu) (cs := cs) hi hr ho hx
    unfold Oper.wp
    rw [hrun]
    exact hK _ _ h
theorem own_let {b B m : Nat} (h : LetB w b (List.replicate m 0)) (hB : B ≤ b) (hm : m ≤ 1000000 := by omega) : OwB B w (.slice (some ⟨b, 0, none⟩) m m) (List.replicate m 0) := by
  refine .inr ⟨b, [], ?_, hB, ?_, ?_⟩
  · simp
  · unfold maxLen; simp; omega
  · unfold LetB at h
    rw [h]
    simp
theorem byt_turn0 {w' : World} {F : Nat → Prop} {v : Value} {ts : List UInt8} (h : Byt w v ts) (ht : Turn F w w') (hn : 0 < ts.length → ∀ k, v.ownBlock = some k → ¬ F k) : Byt w' v ts := by
  by_cases hz : 0 < ts.length
  · exact byt_turn h ht (hn hz)
  · obtain ⟨A, c, h1, h2, h3, h5⟩ := h
    exact ⟨A, c, h1, h2, h3, fun hp => absurd hp hz⟩
/-- What a commit has laid out: the four writes. -/
def RelS (w1 wx : World) (s : Value) (p1 p2 : Nat) (u : Value) (hb : List UInt8) : Prop :=
  ∃ g T M Z H, s = .slice (some ⟨g, 0, none⟩) 4 4 ∧ w1.heap.size ≤ g ∧ wx.heap[g]? = some (.cells #[.int .i64 0, M, .int .i64 (p1 : Int), Z, .int .i64 (p2 : Int), u, .int .i64 (p1 : Int), H] T (0, 0)) ∧ OwB w1.heap.size wx M markS ∧ OwB w1.heap.size wx Z Z64 ∧ OwB w1.heap.size wx H hb ∧ Below w1.heap.size w1 wx
end
/-- The disk behind several writes. -/
def putsD (ds : DS) (a : Nat) (l : List (Nat × List UInt8)) : DS := l.foldl (fun s x => putD s (a + x.1) x.2) ds
theorem putsD_calm (a : Nat) : ∀ (l : List (Nat × List UInt8)) {ds : DS}, calmD ds → calmD (putsD ds a l)
  | [], _, h => h
  | x :: l, _, h => putsD_calm a l (putD_calm h (a + x.1) x.2)
theorem putsD_length (a : Nat) : ∀ (l : List (Nat × List UInt8)) {ds : DS}, (∀ x ∈ l, a + x.1 + cntS x.2 ≤ ds.dur.length) → (putsD ds a l).dur.length = ds.dur.length
  | [], _, _ => rfl
  | x :: l, ds, h => by
    have h1 : (putD ds (a + x.1) x.2).dur.length = ds.dur.length := putL_length (h x (by simp))
    exact (putsD_length a l (ds := putD ds (a + x.1) x.2) fun y hy => by rw [h1]; exact h y (by simp [hy])).trans h1
theorem putsD_step (ds : DS) (a : Nat) {l : List (Nat × List UInt8)} {j : Nat} {x : Nat × List UInt8} (h : l[j]? = some x) : putsD ds a (l.take (j + 1)) = putD (putsD ds a (l.take j)) (a + x.1) x.2 := by
  unfold putsD
  rw [List.take_add_one, h, List.foldl_append]
  rfl
/-- The four writes of a commit. -/
def stepS (n v : Nat) (body : List UInt8) : List (Nat × List UInt8) := [(0, markS), (1 + v % 2, Z64), (3 + v % 2 * halfS n, body), (1 + v % 2, hdrS v n body)]
def cmtD (ds : DS) (a n v : Nat) (body : List UInt8) : DS := putsD ds a (stepS n v body)
theorem step_fits {n v : Nat} {body : List UInt8} (h1 : 32 ≤ n) (hb : body.length ≤ halfS n * 64) : ∀ x ∈ stepS n v body, x.1 + cntS x.2 ≤ n := by
  intro x hx
  have hh := half_fits (n := v) h1
  unfold stepS at hx
  simp only [List.mem_cons, List.not_mem_nil, or_false] at hx
  rcases hx with rfl | rfl | rfl | rfl
  · show 0 + (markS.length + 63) / 64 ≤ n
    rw [markS_length]; omega
  · show 1 + v % 2 + (Z64.length + 63) / 64 ≤ n
    rw [Z64_length]; omega
  · show 3 + v % 2 * halfS n + (body.length + 63) / 64 ≤ n
    omega
  · show 1 + v % 2 + ((hdrS v n body).length + 63) / 64 ≤ n
    rw [hdrS_length]; omega
section
variable {w : World} {Fd : Nat → Prop} {d : Nat} {ds : DS} {u : Value} {body : List UInt8}
set_option maxRecDepth 20000 in
set_option maxHeartbeats 16000000 in
theorem regcommit_c (hD : Disk w Fd d ds) (hc : calmD ds) (a n v : Nat) (hu : Byt w u body) (hb : body.length ≤ halfS n * 64) (hap : 0 < body.length → ∀ k, u.ownBlock = some k → ¬ Fd k) (h1 : 32 ≤ n) (hf : a + n ≤ ds.dur.length) (hd : ds.dur.length ≤ 8192) (hv : v ≤ 2147483647) :
    Calls Tryz.prog 36 #[regV d a n, .int .i64 (v : Int), u] w fun e w' => e = .returned (.int .i64 0) ∧ ∃ Fd', Disk w' Fd' d (cmtD ds a n v body) ∧ (∀ k, Fd' k → MoreR Fd w w' k) ∧ Turn Fd w w' := by
  have hhn : halfS n * 64 ≤ 600000 := by unfold halfS; omega
  have HDK := Lib.hid hD
  have HC := Lib.hid hc
  have HU := Lib.hid hu
  have HAP := Lib.hid hap
  have HF := Lib.hid (show a + n ≤ ds.dur.length ∧ ds.dur.length ≤ 8192 ∧ body.length ≤ 600000 ∧ v ≤ 2147483647 ∧ 32 ≤ n from ⟨hf, hd, by omega, hv, h1⟩)
  have SF := Lib.hid (step_fits (v := v) h1 hb)
  have MK := Lib.hid mark_c
  have HS := Lib.hid (fun w => headerSector_c w d a n v hv)
  have BS := Lib.hid (fun w => bodySector_c w d a n v hv h1 (by omega))
  have HL := Lib.hid hu.low7
  obtain ⟨A, c, rfl⟩ := hu.form
  obtain ⟨bl, ebl⟩ : ∃ m, body.length = m := ⟨_, rfl⟩
  have EB := Lib.hid ebl
  obtain ⟨p1, hp1⟩ : ∃ p, 1 + v % 2 = p := ⟨_, rfl⟩
  obtain ⟨p2, hp2⟩ : ∃ p, 3 + v % 2 * halfS n = p := ⟨_, rfl⟩
  have EP := Lib.hid (And.intro hp1 hp2)
  unfold regV at HS BS ⊢
  rw [hp1] at HS
  rw [hp2] at BS
  rw [ebl] at HU HAP HL ⊢
  clear hD hc hu hap hf hd hb h1 hv ebl hp1 hp2 hhn
  go_enter Tryz.func36, Tryz.ntmps36
  go_upto_region 1 with fail
  obtain ⟨w1, eW⟩ : ∃ W, W = w.alloc (.cells #[.pointer (some ⟨d, 0, none⟩), .int .i64 (a : Int), .int .i64 (n : Int)] 62) := ⟨_, rfl⟩
  have hh1 : w1.heap[w.heap.size]? = some (.cells #[.pointer (some ⟨d, 0, none⟩), .int .i64 (a : Int), .int .i64 (n : Int)] 62 (0, 0)) := by rw [eW]; exact heap_alloc_new w _
  have hB1 : Below w.heap.size w w1 := by rw [eW]; exact (Below.refl _ _).alloc (Nat.le_refl _) _
  rw [← eW]
  have HH := Lib.hid hh1
  have W1 := Lib.hid hB1
  have D1 := Lib.hid (HDK.out.below hB1)
  have HB0 := Lib.hid (lt_of_heap hh1)
  have HE := Lib.hid (fun y (hB : Below w1.heap.size w1 y) => header_c (body := body) (w := y) (u := .slice A bl c) ((HU.out.below hB1).below hB) (by have := HF.out; omega) v n (by have := HF.out; omega) (by have := HF.out; omega))
  have HUW := Lib.hid (HU.out.below hB1)
  clear eW hh1 hB1
  go_cut [7] from 11 to 32 (fun s7 wx => RelS w1 wx s7 p1 p2 (.slice A bl c) (hdrS v n body))
  case first =>
    refine hk_begin (S := fun W => W.heap[w.heap.size]? = some (.cells #[.pointer (some ⟨d, 0, none⟩), .int .i64 (a : Int), .int .i64 (n : Int)] 62 (0, 0))) 23 (by kernel_rfl) (by kernel_rfl) ?_
    obtain ⟨y0, ey⟩ : ∃ y, y = w1.drew := ⟨_, rfl⟩
    rw [← ey]
    have B0 : Below w1.heap.size w1 y0 := by rw [ey]; exact (Below.refl _ _).drew
    have X0 : y0.heap[w.heap.size]? = some (.cells #[.pointer (some ⟨d, 0, none⟩), .int .i64 (a : Int), .int .i64 (n : Int)] 62 (0, 0)) := by rw [ey]; exact HH.out
    clear ey
    refine hk_take (i := 2) (some 13) (.agg #[.pointer (some ⟨d, 0, none⟩), .int .i64 (a : Int), .int .i64 (n : Int)]) (by kernel_rfl) (by kernel_rfl) (by kernel_rfl) (by kernel_rfl) (by kernel_rfl) (by kernel_rfl) (fun W hS => exec_loadRow 62 (.tmp 3) w.heap.size #[.pointer (some ⟨d, 0, none⟩), .int .i64 (a : Int), .int .i64 (n : Int)] _ (by kernel_rfl) (by kernel_rfl) hS Tryz.underlying62 rfl (by kernel_rfl)) (fun _ _ d _ _ h => by cases d <;> exact h) X0 ?_
    simp only [put_lit, put_non, List.set_cons_zero, List.set_cons_succ]
    refine hk_take (i := 3) (some 14) (.int .i64 (v : Int)) (by kernel_rfl) (by kernel_rfl) (by kernel_rfl) (by kernel_rfl) (by kernel_rfl) (by kernel_rfl) (fun W hS => (by kernel_rfl)) (fun _ _ d _ _ h => by cases d <;> exact h) X0 ?_
    simp only [put_lit, put_non, List.set_cons_zero, List.set_cons_succ]
    refine hk_take (i := 7) (some 18) (.agg #[.pointer (some ⟨d, 0, none⟩), .int .i64 (a : Int), .int .i64 (n : Int)]) (by kernel_rfl) (by kernel_rfl) (by kernel_rfl) (by kernel_rfl) (by kernel_rfl) (by kernel_rfl) (fun W hS => exec_loadRow 62 (.tmp 3) w.heap.size #[.pointer (some ⟨d, 0, none⟩), .int .i64 (a : Int), .int .i64 (n : Int)] _ (by kernel_rfl) (by kernel_rfl) hS Tryz.underlying62 rfl (by kernel_rfl)) (fun _ _ d _ _ h => by cases d <;> exact h) X0 ?_
    simp only [put_lit, put_non, List.set_cons_zero, List.set_cons_succ]
    refine hk_take (i := 8) (some 19) (.int .i64 (v : Int)) (by kernel_rfl) (by kernel_rfl) (by kernel_rfl) (by kernel_rfl) (by kernel_rfl) (by kernel_rfl) (fun W hS => (by kernel_rfl)) (fun _ _ d _ _ h => by cases d <;> exact h) X0 ?_
    simp only [put_lit, put_non, List.set_cons_zero, List.set_cons_succ]
    refine hk_take (i := 10) (some 21) (.slice A bl c) (by kernel_rfl) (by kernel_rfl) (by kernel_rfl) (by kernel_rfl) (by kernel_rfl) (by kernel_rfl) (fun W hS => (by kernel_rfl)) (fun _ _ d _ _ h => by cases d <;> exact h) X0 ?_
    simp only [put_lit, put_non, List.set_cons_zero, List.set_cons_succ]
    refine hk_take (i := 12) (some 23) (.agg #[.pointer (some ⟨d, 0, none⟩), .int .i64 (a : Int), .int .i64 (n : Int)]) (by kernel_rfl) (by kernel_rfl) (by kernel_rfl) (by kernel_rfl) (by kernel_rfl) (by kernel_rfl) (fun W hS => exec_loadRow 62 (.tmp 3) w.heap.size #[.pointer (some ⟨d, 0, none⟩), .int .i64 (a : Int), .int .i64 (n : Int)] _ (by kernel_rfl) (by kernel_rfl) hS Tryz.underlying62 rfl (by kernel_rfl)) (fun _ _ d _ _ h => by cases d <;> exact h) X0 ?_
    simp only [put_lit, put_non, List.set_cons_zero, List.set_cons_succ]
    refine hk_take (i := 13) (some 24) (.int .i64 (v : Int)) (by kernel_rfl) (by kernel_rfl) (by kernel_rfl) (by kernel_rfl) (by kernel_rfl) (by kernel_rfl) (fun W hS => (by kernel_rfl)) (fun _ _ d _ _ h => by cases d <;> exact h) X0 ?_
    simp only [put_lit, put_non, List.set_cons_zero, List.set_cons_succ]
    refine hk_take (i := 15) (some 26) (.int .i64 (v : Int)) (by kernel_rfl) (by kernel_rfl) (by kernel_rfl) (by kernel_rfl) (by kernel_rfl) (by kernel_rfl) (fun W hS => (by kernel_rfl)) (fun _ _ d _ _ h => by cases d <;> exact h) X0 ?_
    simp only [put_lit, put_non, List.set_cons_zero, List.set_cons_succ]
    refine hk_take (i := 16) (some 27) (.pointer (some ⟨w.heap.size, 2, none⟩)) (by kernel_rfl) (by kernel_rfl) (by kernel_rfl) (by kernel_rfl) (by kernel_rfl) (by kernel_rfl) (fun W hS => (by kernel_rfl)) (fun _ _ d _ _ h => by cases d <;> exact h) X0 ?_
    simp only [put_lit, put_non, List.set_cons_zero, List.set_cons_succ]
    refine hk_take (i := 17) (some 28) (.int .i64 (n : Int)) (by kernel_rfl) (by kernel_rfl) (by kernel_rfl) (by kernel_rfl) (by kernel_rfl) (by kernel_rfl) (fun W hS => exec_loadCell _ (.tmp 27) ⟨w.heap.size, 2, none⟩ _ _ (by kernel_rfl) (by kernel_rfl) (by rw [cell_of_row W _ _ _ _ (0, 0) hS]; rfl) Tryz.underlying3 rfl) (fun _ _ d _ _ h => by cases d <;> exact h) X0 ?_
    simp only [put_lit, put_non, List.set_cons_zero, List.set_cons_succ]
    refine hk_take (i := 18) (some 29) (.slice A bl c) (by kernel_rfl) (by kernel_rfl) (by kernel_rfl) (by kernel_rfl) (by kernel_rfl) (by kernel_rfl) (fun W hS => (by kernel_rfl)) (fun _ _ d _ _ h => by cases d <;> exact h) X0 ?_
    simp only [put_lit, put_non, List.set_cons_zero, List.set_cons_succ]
    refine hk_two (i := 0) (j := 5) (by kernel_rfl) ?_ ?_
    · skip
      refine op_call (some 11) 56 #[] (by kernel_rfl) (by kernel_rfl) (by kernel_rfl) (fun w => (by kernel_rfl)) ?_
      refine (MK.out y0).mono ?_
      rintro e y1 ⟨r, rfl, ho1, hb1⟩
      have B1 := B0.trans (hb1.mono B0.size)
      have X1 := (hb1.block _ (lt_of_heap X0)).trans X0
      obtain ⟨AM, cM, rfl⟩ := ho1.byt.form
      have hM1 := ho1.mono B0.size
      refine ⟨_, rfl, X1, ?_⟩
      clear ho1 hb1
      simp only [put_lit, put_non, List.set_cons_zero, List.set_cons_succ]
      refine hk_take (i := 1) (some 12) (.agg #[.int .i64 0, .slice AM markS.length cM]) (by kernel_rfl) (by kernel_rfl) (by kernel_rfl) (by kernel_rfl) (by kernel_rfl) (by kernel_rfl) (fun W hS => (by kernel_rfl)) (fun _ _ d _ _ h => by cases d <;> exact h) X1 ?_
      simp only [put_lit, put_non, List.set_cons_zero, List.set_cons_succ]
      refine hk_two (i := 4) (j := 5) (by kernel_rfl) ?_ ?_
      · skip
        refine op_call (some 15) 59 #[.agg #[.pointer (some ⟨d, 0, none⟩), .int .i64 (a : Int), .int .i64 (n : Int)], .int .i64 (v : Int)] (by kernel_rfl) (by kernel_rfl) (by kernel_rfl) (fun w => (by kernel_rfl)) ?_
        refine (HS.out y1).mono ?_
        rintro e y2 ⟨rfl, hb2⟩
        have hM2 := hM1.below hb2 (Nat.le_refl _)
        have B2 := B1.trans (hb2.mono B1.size)
        have X2 := (hb2.block _ (lt_of_heap X1)).trans X1
        refine ⟨_, rfl, X2, ?_⟩
        clear hb2
        simp only [put_lit, put_non, List.set_cons_zero, List.set_cons_succ]
        refine hk_two (i := 5) (j := 9) (by kernel_rfl) ?_ ?_
        · skip
          obtain ⟨y3, hr3, hL3, hb3⟩ := make_w y2 64 (by omega)
          have hM3 := hM2.below hb3 (Nat.le_refl _)
          have B3 := B2.trans (hb3.mono B2.size)
          have X3 := (hb3.block _ (lt_of_heap X2)).trans X2
          have hZ3 : OwB w1.heap.size y3 (.slice (some ⟨y2.heap.size, 0, none⟩) 64 64) Z64 := own_let hL3 B2.size
          refine op_do (some 16) (.slice (some ⟨y2.heap.size, 0, none⟩) 64 64) y3 (by kernel_rfl) (by kernel_rfl) (by kernel_rfl) (hr3 _ _ (.const (.int .i64 64)) (.const (.int .i64 64)) (by kernel_rfl) (by kernel_rfl) (by kernel_rfl)) ?_
          refine ⟨X3, ?_⟩
          clear hr3 hL3 hb3
          simp only [put_lit, put_non, List.set_cons_zero, List.set_cons_succ]
          refine hk_take (i := 6) (some 17) (.agg #[.int .i64 (p1 : Int), .slice (some ⟨y2.heap.size, 0, none⟩) 64 64]) (by kernel_rfl) (by kernel_rfl) (by kernel_rfl) (by kernel_rfl) (by kernel_rfl) (by kernel_rfl) (fun W hS => (by kernel_rfl)) (fun _ _ d _ _ h => by cases d <;> exact h) X3 ?_
          simp only [put_lit, put_non, List.set_cons_zero, List.set_cons_succ]
          refine hk_one (i := 9) (by kernel_rfl) ?_
          refine op_call (some 20) 68 #[.agg #[.pointer (some ⟨d, 0, none⟩), .int .i64 (a : Int), .int .i64 (n : Int)], .int .i64 (v : Int)] (by kernel_rfl) (by kernel_rfl) (by kernel_rfl) (fun w => (by kernel_rfl)) ?_
          refine (BS.out y3).mono ?_
          rintro e y4 ⟨rfl, hb4⟩
          have hM4 := hM3.below hb4 (Nat.le_refl _)
          have hZ4 := hZ3.below hb4 (Nat.le_refl _)
          have B4 := B3.trans (hb4.mono B3.size)
          have X4 := (hb4.block _ (lt_of_heap X3)).trans X3
          refine ⟨_, rfl, X4, ?_⟩
          clear hb4
          simp only [put_lit, put_non, List.set_cons_zero, List.set_cons_succ]
          refine hk_take (i := 11) (some 22) (.agg #[.int .i64 (p2 : Int), .slice A bl c]) (by kernel_rfl) (by kernel_rfl) (by kernel_rfl) (by kernel_rfl) (by kernel_rfl) (by kernel_rfl) (fun W hS => (by kernel_rfl)) (fun _ _ d _ _ h => by cases d <;> exact h) X4 ?_
          simp only [put_lit, put_non, List.set_cons_zero, List.set_cons_succ]
          refine hk_one (i := 14) (by kernel_rfl) ?_
          refine op_call (some 25) 59 #[.agg #[.pointer (some ⟨d, 0, none⟩), .int .i64 (a : Int), .int .i64 (n : Int)], .int .i64 (v : Int)] (by kernel_rfl) (by kernel_rfl) (by kernel_rfl) (fun w => (by kernel_rfl)) ?_
          refine (HS.out y4).mono ?_
          rintro e y5 ⟨rfl, hb5⟩
          have hM5 := hM4.below hb5 (Nat.le_refl _)
          have hZ5 := hZ4.below hb5 (Nat.le_refl _)
          have B5 := B4.trans (hb5.mono B4.size)
          have X5 := (hb5.block _ (lt_of_heap X4)).trans X4
          refine ⟨_, rfl, X5, ?_⟩
          clear hb5
          simp only [put_lit, put_non, List.set_cons_zero, List.set_cons_succ]
          refine hk_one (i := 19) (by kernel_rfl) ?_
          refine op_call (some 30) 69 #[.int .i64 (v : Int), .int .i64 (n : Int), .slice A bl c] (by kernel_rfl) (by kernel_rfl) (by kernel_rfl) (fun w => (by kernel_rfl)) ?_
          refine (HE.out y5 B5).mono ?_
          rintro e y6 ⟨r, rfl, ho6, hb6⟩
          have hM6 := hM5.below hb6 (Nat.le_refl _)
          have hZ6 := hZ5.below hb6 (Nat.le_refl _)
          have B6 := B5.trans (hb6.mono B5.size)
          have X6 := (hb6.block _ (lt_of_heap X5)).trans X5
          obtain ⟨AH, cH, rfl⟩ := ho6.byt.form
          have hH6 := ho6.mono B5.size
          refine ⟨_, rfl, X6, ?_⟩
          clear ho6 hb6
          simp only [put_lit, put_non, List.set_cons_zero, List.set_cons_succ]
          refine hk_take (i := 20) (some 31) (.agg #[.int .i64 (p1 : Int), .slice AH (hdrS v n body).length cH]) (by kernel_rfl) (by kernel_rfl) (by kernel_rfl) (by kernel_rfl) (by kernel_rfl) (by kernel_rfl) (fun W hS => (by kernel_rfl)) (fun _ _ d _ _ h => by cases d <;> exact h) X6 ?_
          simp only [put_lit, put_non, List.set_cons_zero, List.set_cons_succ]
          refine hk_one (i := 21) (by kernel_rfl) ?_
          obtain ⟨yz, ez⟩ : ∃ y, y = y6.alloc (.cells #[.int .i64 0, .slice AM markS.length cM, .int .i64 (p1 : Int), .slice (some ⟨y2.heap.size, 0, none⟩) 64 64, .int .i64 (p2 : Int), .slice A bl c, .int .i64 (p1 : Int), .slice AH (hdrS v n body).length cH] 105) := ⟨_, rfl⟩
          have hz : yz.heap[y6.heap.size]? = some (.cells #[.int .i64 0, .slice AM markS.length cM, .int .i64 (p1 : Int), .slice (some ⟨y2.heap.size, 0, none⟩) 64 64, .int .i64 (p2 : Int), .slice A bl c, .int .i64 (p1 : Int), .slice AH (hdrS v n body).length cH] 105 (0, 0)) := by rw [ez]; exact heap_alloc_new _ _
          have hBa : Below y6.heap.size y6 yz := by rw [ez]; exact (Below.refl _ _).alloc (Nat.le_refl _) _
          refine op_do (some 32) (.slice (some ⟨y6.heap.size, 0, none⟩) 4 4) yz (by kernel_rfl) (by kernel_rfl) (by kernel_rfl) (by rw [ez]; exact exec_fourC Tryz.underlying107 (z := .agg #[.int .i64 0, .slice none 0 0]) (by' := 32) (by kernel_rfl) (t0 := 12) (t1 := 17) (t2 := 22) (t3 := 31) (by kernel_rfl) (by kernel_rfl) (by kernel_rfl) (by kernel_rfl) (by kernel_rfl)) ?_
          refine ⟨(hBa.block _ (lt_of_heap X6)).trans X6, ?_⟩
          simp only [put_lit, put_non, List.set_cons_zero, List.set_cons_succ]
          have XZ := (hBa.block _ (lt_of_heap X6)).trans X6
          refine hk_take (i := 22) (some 7) (.slice (some ⟨y6.heap.size, 0, none⟩) 4 4) (by kernel_rfl) (by kernel_rfl) (by kernel_rfl) (by kernel_rfl) (by kernel_rfl) (by kernel_rfl) (fun W hS => (by kernel_rfl)) (fun _ _ d _ _ h => by cases d <;> exact h) XZ ?_
          simp only [put_lit, put_non, List.set_cons_zero, List.set_cons_succ]
          refine hk_done (by kernel_rfl) ?_
          have FIN := Lib.hid (show RelS w1 yz (.slice (some ⟨y6.heap.size, 0, none⟩) 4 4) p1 p2 (.slice A bl c) (hdrS v n body) from ⟨y6.heap.size, _, _, _, _, rfl, B6.size, hz, (hM6).below hBa (Nat.le_refl _), (hZ6).below hBa (Nat.le_refl _), (hH6).below hBa (Nat.le_refl _), B6.trans (hBa.mono B6.size)⟩)
          clear hz hBa ez XZ
          go_wp2_with fail
          go_meet
          case rel => exact FIN.out
        · skip
          refine op_call (some 20) 68 #[.agg #[.pointer (some ⟨d, 0, none⟩), .int .i64 (a : Int), .int .i64 (n : Int)], .int .i64 (v : Int)] (by kernel_rfl) (by kernel_rfl) (by kernel_rfl) (fun w => (by kernel_rfl)) ?_
          refine (BS.out y2).mono ?_
          rintro e y3 ⟨rfl, hb3⟩
          have hM3 := hM2.below hb3 (Nat.le_refl _)
          have B3 := B2.trans (hb3.mono B2.size)
          have X3 := (hb3.block _ (lt_of_heap X2)).trans X2
          refine ⟨_, rfl, X3, ?_⟩
          clear hb3
          simp only [put_lit, put_non, List.set_cons_zero, List.set_cons_succ]
          refine hk_take (i := 11) (some 22) (.agg #[.int .i64 (p2 : Int), .slice A bl c]) (by kernel_rfl) (by kernel_rfl) (by kernel_rfl) (by kernel_rfl) (by kernel_rfl) (by kernel_rfl) (fun W hS => (by kernel_rfl)) (fun _ _ d _ _ h => by cases d <;> exact h) X3 ?_
          simp only [put_lit, put_non, List.set_cons_zero, List.set_cons_succ]
          refine hk_two (i := 5) (j := 14) (by kernel_rfl) ?_ ?_
          · skip
            obtain ⟨y4, hr4, hL4, hb4⟩ := make_w y3 64 (by omega)
            have hM4 := hM3.below hb4 (Nat.le_refl _)
            have B4 := B3.trans (hb4.mono B3.size)
            have X4 := (hb4.block _ (lt_of_heap X3)).trans X3
            have hZ4 : OwB w1.heap.size y4 (.slice (some ⟨y3.heap.size, 0, none⟩) 64 64) Z64 := own_let hL4 B3.size
            refine op_do (some 16) (.slice (some ⟨y3.heap.size, 0, none⟩) 64 64) y4 (by kernel_rfl) (by kernel_rfl) (by kernel_rfl) (hr4 _ _ (.const (.int .i64 64)) (.const (.int .i64 64)) (by kernel_rfl) (by kernel_rfl) (by kernel_rfl)) ?_
            refine ⟨X4, ?_⟩
            clear hr4 hL4 hb4
            simp only [put_lit, put_non, List.set_cons_zero, List.set_cons_succ]
            refine hk_take (i := 6) (some 17) (.agg #[.int .i64 (p1 : Int), .slice (some ⟨y3.heap.size, 0, none⟩) 64 64]) (by kernel_rfl) (by kernel_rfl) (by kernel_rfl) (by kernel_rfl) (by kernel_rfl) (by kernel_rfl) (fun W hS => (by kernel_rfl)) (fun _ _ d _ _ h => by cases d <;> exact h) X4 ?_
            simp only [put_lit, put_non, List.set_cons_zero, List.set_cons_succ]
            refine hk_one (i := 14) (by kernel_rfl) ?_
            refine op_call (some 25) 59 #[.agg #[.pointer (some ⟨d, 0, none⟩), .int .i64 (a : Int), .int .i64 (n : Int)], .int .i64 (v : Int)] (by kernel_rfl) (by kernel_rfl) (by kernel_rfl) (fun w => (by kernel_rfl)) ?_
            refine (HS.out y4).mono ?_
            rintro e y5 ⟨rfl, hb5⟩
            have hM5 := hM4.below hb5 (Nat.le_refl _)
            have hZ5 := hZ4.below hb5 (Nat.le_refl _)
            have B5 := B4.trans (hb5.mono B4.size)
            have X5 := (hb5.block _ (lt_of_heap X4)).trans X4
            refine ⟨_, rfl, X5, ?_⟩
            clear hb5
            simp only [put_lit, put_non, List.set_cons_zero, List.set_cons_succ]
            refine hk_one (i := 19) (by kernel_rfl) ?_
            refine op_call (some 30) 69 #[.int .i64 (v : Int), .int .i64 (n : Int), .slice A bl c] (by kernel_rfl) (by kernel_rfl) (by kernel_rfl) (fun w => (by kernel_rfl)) ?_
            refine (HE.out y5 B5).mono ?_
            rintro e y6 ⟨r, rfl, ho6, hb6⟩
            have hM6 := hM5.below hb6 (Nat.le_refl _)
            have hZ6 := hZ5.below hb6 (Nat.le_refl _)
            have B6 := B5.trans (hb6.mono B5.size)
            have X6 := (hb6.block _ (lt_of_heap X5)).trans X5
            obtain ⟨AH, cH, rfl⟩ := ho6.byt.form
            have hH6 := ho6.mono B5.size
            refine ⟨_, rfl, X6, ?_⟩
            clear ho6 hb6
            simp only [put_lit, put_non, List.set_cons_zero, List.set_cons_succ]
            refine hk_take (i := 20) (some 31) (.agg #[.int .i64 (p1 : Int), .slice AH (hdrS v n body).length cH]) (by kernel_rfl) (by kernel_rfl) (by kernel_rfl) (by kernel_rfl) (by kernel_rfl) (by kernel_rfl) (fun W hS => (by kernel_rfl)) (fun _ _ d _ _ h => by cases d <;> exact h) X6 ?_
            simp only [put_lit, put_non, List.set_cons_zero, List.set_cons_succ]
            refine hk_one (i := 21) (by kernel_rfl) ?_
            obtain ⟨yz, ez⟩ : ∃ y, y = y6.alloc (.cells #[.int .i64 0, .slice AM markS.length cM, .int .i64 (p1 : Int), .slice (some ⟨y3.heap.size, 0, none⟩) 64 64, .int .i64 (p2 : Int), .slice A bl c, .int .i64 (p1 : Int), .slice AH (hdrS v n body).length cH] 105) := ⟨_, rfl⟩
            have hz : yz.heap[y6.heap.size]? = some (.cells #[.int .i64 0, .slice AM markS.length cM, .int .i64 (p1 : Int), .slice (some ⟨y3.heap.size, 0, none⟩) 64 64, .int .i64 (p2 : Int), .slice A bl c, .int .i64 (p1 : Int), .slice AH (hdrS v n body).length cH] 105 (0, 0)) := by rw [ez]; exact heap_alloc_new _ _
            have hBa : Below y6.heap.size y6 yz := by rw [ez]; exact (Below.refl _ _).alloc (Nat.le_refl _) _
            refine op_do (some 32) (.slice (some ⟨y6.heap.size, 0, none⟩) 4 4) yz (by kernel_rfl) (by kernel_rfl) (by kernel_rfl) (by rw [ez]; exact exec_fourC Tryz.underlying107 (z := .agg #[.int .i64 0, .slice none 0 0]) (by' := 32) (by kernel_rfl) (t0 := 12) (t1 := 17) (t2 := 22) (t3 := 31) (by kernel_rfl) (by kernel_rfl) (by kernel_rfl) (by kernel_rfl) (by kernel_rfl)) ?_
            refine ⟨(hBa.block _ (lt_of_heap X6)).trans X6, ?_⟩
            simp only [put_lit, put_non, List.set_cons_zero, List.set_cons_succ]
            have XZ := (hBa.block _ (lt_of_heap X6)).trans X6
            refine hk_take (i := 22) (some 7) (.slice (some ⟨y6.heap.size, 0, none⟩) 4 4) (by kernel_rfl) (by kernel_rfl) (by kernel_rfl) (by kernel_rfl) (by kernel_rfl) (by kernel_rfl) (fun W hS => (by kernel_rfl)) (fun _ _ d _ _ h => by cases d <;> exact h) XZ ?_
            simp only [put_lit, put_non, List.set_cons_zero, List.set_cons_succ]
            refine hk_done (by kernel_rfl) ?_
            have FIN := Lib.hid (show RelS w1 yz (.slice (some ⟨y6.heap.size, 0, none⟩) 4 4) p1 p2 (.slice A bl c) (hdrS v n body) from ⟨y6.heap.size, _, _, _, _, rfl, B6.size, hz, (hM6).below hBa (Nat.le_refl _), (hZ6).below hBa (Nat.le_refl _), (hH6).below hBa (Nat.le_refl _), B6.trans (hBa.mono B6.size)⟩)
            clear hz hBa ez XZ
            go_wp2_with fail
            go_meet
            case rel => exact FIN.out
          · skip
            refine op_call (some 25) 59 #[.agg #[.pointer (some ⟨d, 0, none⟩), .int .i64 (a : Int), .int .i64 (n : Int)], .int .i64 (v : Int)] (by kernel_rfl) (by kernel_rfl) (by kernel_rfl) (fun w => (by kernel_rfl)) ?_
            refine (HS.out y3).mono ?_
            rintro e y4 ⟨rfl, hb4⟩
            have hM4 := hM3.below hb4 (Nat.le_refl _)
            have B4 := B3.trans (hb4.mono B3.size)
            have X4 := (hb4.block _ (lt_of_heap X3)).trans X3
            refine ⟨_, rfl, X4, ?_⟩
            clear hb4
            simp only [put_lit, put_non, List.set_cons_zero, List.set_cons_succ]
            refine hk_two (i := 5) (j := 19) (by kernel_rfl) ?_ ?_
            · skip
              obtain ⟨y5, hr5, hL5, hb5⟩ := make_w y4 64 (by omega)
              have hM5 := hM4.below hb5 (Nat.le_refl _)
              have B5 := B4.trans (hb5.mono B4.size)
              have X5 := (hb5.block _ (lt_of_heap X4)).trans X4
              have hZ5 : OwB w1.heap.size y5 (.slice (some ⟨y4.heap.size, 0, none⟩) 64 64) Z64 := own_let hL5 B4.size
              refine op_do (some 16) (.slice (some ⟨y4.heap.size, 0, none⟩) 64 64) y5 (by kernel_rfl) (by kernel_rfl) (by kernel_rfl) (hr5 _ _ (.const (.int .i64 64)) (.const (.int .i64 64)) (by kernel_rfl) (by kernel_rfl) (by kernel_rfl)) ?_
              refine ⟨X5, ?_⟩
              clear hr5 hL5 hb5
              simp only [put_lit, put_non, List.set_cons_zero, List.set_cons_succ]
              refine hk_take (i := 6) (some 17) (.agg #[.int .i64 (p1 : Int), .slice (some ⟨y4.heap.size, 0, none⟩) 64 64]) (by kernel_rfl) (by kernel_rfl) (by kernel_rfl) (by kernel_rfl) (by kernel_rfl) (by kernel_rfl) (fun W hS => (by kernel_rfl)) (fun _ _ d _ _ h => by cases d <;> exact h) X5 ?_
              simp only [put_lit, put_non, List.set_cons_zero, List.set_cons_succ]
              refine hk_one (i := 19) (by kernel_rfl) ?_
              refine op_call (some 30) 69 #[.int .i64 (v : Int), .int .i64 (n : Int), .slice A bl c] (by kernel_rfl) (by kernel_rfl) (by kernel_rfl) (fun w => (by kernel_rfl)) ?_
              refine (HE.out y5 B5).mono ?_
              rintro e y6 ⟨r, rfl, ho6, hb6⟩
              have hM6 := hM5.below hb6 (Nat.le_refl _)
              have hZ6 := hZ5.below hb6 (Nat.le_refl _)
              have B6 := B5.trans (hb6.mono B5.size)
              have X6 := (hb6.block _ (lt_of_heap X5)).trans X5
              obtain ⟨AH, cH, rfl⟩ := ho6.byt.form
              have hH6 := ho6.mono B5.size
              refine ⟨_, rfl, X6, ?_⟩
              clear ho6 hb6
              simp only [put_lit, put_non, List.set_cons_zero, List.set_cons_succ]
              refine hk_take (i := 20) (some 31) (.agg #[.int .i64 (p1 : Int), .slice AH (hdrS v n body).length cH]) (by kernel_rfl) (by kernel_rfl) (by kernel_rfl) (by kernel_rfl) (by kernel_rfl) (by kernel_rfl) (fun W hS => (by kernel_rfl)) (fun _ _ d _ _ h => by cases d <;> exact h) X6 ?_
              simp only [put_lit, put_non, List.set_cons_zero, List.set_cons_succ]
              refine hk_one (i := 21) (by kernel_rfl) ?_
              obtain ⟨yz, ez⟩ : ∃ y, y = y6.alloc (.cells #[.int .i64 0, .slice AM markS.length cM, .int .i64 (p1 : Int), .slice (some ⟨y4.heap.size, 0, none⟩) 64 64, .int .i64 (p2 : Int), .slice A bl c, .int .i64 (p1 : Int), .slice AH (hdrS v n body).length cH] 105) := ⟨_, rfl⟩
              have hz : yz.heap[y6.heap.size]? = some (.cells #[.int .i64 0, .slice AM markS.length cM, .int .i64 (p1 : Int), .slice (some ⟨y4.heap.size, 0, none⟩) 64 64, .int .i64 (p2 : Int), .slice A bl c, .int .i64 (p1 : Int), .slice AH (hdrS v n body).length cH] 105 (0, 0)) := by rw [ez]; exact heap_alloc_new _ _
              have hBa : Below y6.heap.size y6 yz := by rw [ez]; exact (Below.refl _ _).alloc (Nat.le_refl _) _
              refine op_do (some 32) (.slice (some ⟨y6.heap.size, 0, none⟩) 4 4) yz (by kernel_rfl) (by kernel_rfl) (by kernel_rfl) (by rw [ez]; exact exec_fourC Tryz.underlying107 (z := .agg #[.int .i64 0, .slice none 0 0]) (by' := 32) (by kernel_rfl) (t0 := 12) (t1 := 17) (t2 := 22) (t3 := 31) (by kernel_rfl) (by kernel_rfl) (by kernel_rfl) (by kernel_rfl) (by kernel_rfl)) ?_
              refine ⟨(hBa.block _ (lt_of_heap X6)).trans X6, ?_⟩
              simp only [put_lit, put_non, List.set_cons_zero, List.set_cons_succ]
              have XZ := (hBa.block _ (lt_of_heap X6)).trans X6
              refine hk_take (i := 22) (some 7) (.slice (some ⟨y6.heap.size, 0, none⟩) 4 4) (by kernel_rfl) (by kernel_rfl) (by kernel_rfl) (by kernel_rfl) (by kernel_rfl) (by kernel_rfl) (fun W hS => (by kernel_rfl)) (fun _ _ d _ _ h => by cases d <;> exact h) XZ ?_
              simp only [put_lit, put_non, List.set_cons_zero, List.set_cons_succ]
              refine hk_done (by kernel_rfl) ?_
              have FIN := Lib.hid (show RelS w1 yz (.slice (some ⟨y6.heap.size, 0, none⟩) 4 4) p1 p2 (.slice A bl c) (hdrS v n body) from ⟨y6.heap.size, _, _, _, _, rfl, B6.size, hz, (hM6).below hBa (Nat.le_refl _), (hZ6).below hBa (Nat.le_refl _), (hH6).below hBa (Nat.le_refl _), B6.trans (hBa.mono B6.size)⟩)
              clear hz hBa ez XZ
              go_wp2_with fail
              go_meet
              case rel => exact FIN.out
            · skip
              refine op_call (some 30) 69 #[.int .i64 (v : Int), .int .i64 (n : Int), .slice A bl c] (by kernel_rfl) (by kernel_rfl) (by kernel_rfl) (fun w => (by kernel_rfl)) ?_
              refine (HE.out y4 B4).mono ?_
              rintro e y5 ⟨r, rfl, ho5, hb5⟩
              have hM5 := hM4.below hb5 (Nat.le_refl _)
              have B5 := B4.trans (hb5.mono B4.size)
              have X5 := (hb5.block _ (lt_of_heap X4)).trans X4
              obtain ⟨AH, cH, rfl⟩ := ho5.byt.form
              have hH5 := ho5.mono B4.size
              refine ⟨_, rfl, X5, ?_⟩
              clear ho5 hb5
              simp only [put_lit, put_non, List.set_cons_zero, List.set_cons_succ]
              refine hk_take (i := 20) (some 31) (.agg #[.int .i64 (p1 : Int), .slice AH (hdrS v n body).length cH]) (by kernel_rfl) (by kernel_rfl) (by kernel_rfl) (by kernel_rfl) (by kernel_rfl) (by kernel_rfl) (fun W hS => (by kernel_rfl)) (fun _ _ d _ _ h => by cases d <;> exact h) X5 ?_
              simp only [put_lit, put_non, List.set_cons_zero, List.set_cons_succ]
              refine hk_one (i := 5) (by kernel_rfl) ?_
              obtain ⟨y6, hr6, hL6, hb6⟩ := make_w y5 64 (by omega)
              have hM6 := hM5.below hb6 (Nat.le_refl _)
              have hH6 := hH5.below hb6 (Nat.le_refl _)
              have B6 := B5.trans (hb6.mono B5.size)
              have X6 := (hb6.block _ (lt_of_heap X5)).trans X5
              have hZ6 : OwB w1.heap.size y6 (.slice (some ⟨y5.heap.size, 0, none⟩) 64 64) Z64 := own_let hL6 B5.size
              refine op_do (some 16) (.slice (some ⟨y5.heap.size, 0, none⟩) 64 64) y6 (by kernel_rfl) (by kernel_rfl) (by kernel_rfl) (hr6 _ _ (.const (.int .i64 64)) (.const (.int .i64 64)) (by kernel_rfl) (by kernel_rfl) (by kernel_rfl)) ?_
              refine ⟨X6, ?_⟩
              clear hr6 hL6 hb6
              simp only [put_lit, put_non, List.set_cons_zero, List.set_cons_succ]
              refine hk_take (i := 6) (some 17) (.agg #[.int .i64 (p1 : Int), .slice (some ⟨y5.heap.size, 0, none⟩) 64 64]) (by kernel_rfl) (by kernel_rfl) (by kernel_rfl) (by kernel_rfl) (by kernel_rfl) (by kernel_rfl) (fun W hS => (by kernel_rfl)) (fun _ _ d _ _ h => by cases d <;> exact h) X6 ?_
              simp only [put_lit, put_non, List.set_cons_zero, List.set_cons_succ]
              refine hk_one (i := 21) (by kernel_rfl) ?_
              obtain ⟨yz, ez⟩ : ∃ y, y = y6.alloc (.cells #[.int .i64 0, .slice AM markS.length cM, .int .i64 (p1 : Int), .slice (some ⟨y5.heap.size, 0, none⟩) 64 64, .int .i64 (p2 : Int), .slice A bl c, .int .i64 (p1 : Int), .slice AH (hdrS v n body).length cH] 105) := ⟨_, rfl⟩
              have hz : yz.heap[y6.heap.size]? = some (.cells #[.int .i64 0, .slice AM markS.length cM, .int .i64 (p1 : Int), .slice (some ⟨y5.heap.size, 0, none⟩) 64 64, .int .i64 (p2 : Int), .slice A bl c, .int .i64 (p1 : Int), .slice AH (hdrS v n body).length cH] 105 (0, 0)) := by rw [ez]; exact heap_alloc_new _ _
              have hBa : Below y6.heap.size y6 yz := by rw [ez]; exact (Below.refl _ _).alloc (Nat.le_refl _) _
              refine op_do (some 32) (.slice (some ⟨y6.heap.size, 0, none⟩) 4 4) yz (by kernel_rfl) (by kernel_rfl) (by kernel_rfl) (by rw [ez]; exact exec_fourC Tryz.underlying107 (z := .agg #[.int .i64 0, .slice none 0 0]) (by' := 32) (by kernel_rfl) (t0 := 12) (t1 := 17) (t2 := 22) (t3 := 31) (by kernel_rfl) (by kernel_rfl) (by kernel_rfl) (by kernel_rfl) (by kernel_rfl)) ?_
              refine ⟨(hBa.block _ (lt_of_heap X6)).trans X6, ?_⟩
              simp only [put_lit, put_non, List.set_cons_zero, List.set_cons_succ]
              have XZ := (hBa.block _ (lt_of_heap X6)).trans X6
              refine hk_take (i := 22) (some 7) (.slice (some ⟨y6.heap.size, 0, none⟩) 4 4) (by kernel_rfl) (by kernel_rfl) (by kernel_rfl) (by kernel_rfl) (by kernel_rfl) (by kernel_rfl) (fun W hS => (by kernel_rfl)) (fun _ _ d _ _ h => by cases d <;> exact h) XZ ?_
              simp only [put_lit, put_non, List.set_cons_zero, List.set_cons_succ]
              refine hk_done (by kernel_rfl) ?_
              have FIN := Lib.hid (show RelS w1 yz (.slice (some ⟨y6.heap.size, 0, none⟩) 4 4) p1 p2 (.slice A bl c) (hdrS v n body) from ⟨y6.heap.size, _, _, _, _, rfl, B6.size, hz, (hM6).below hBa (Nat.le_refl _), (hZ6).below hBa (Nat.le_refl _), (hH6).below hBa (Nat.le_refl _), B6.trans (hBa.mono B6.size)⟩)
              clear hz hBa ez XZ
              go_wp2_with fail
              go_meet
              case rel => exact FIN.out
      · skip
        obtain ⟨y2, hr2, hL2, hb2⟩ := make_w y1 64 (by omega)
        have hM2 := hM1.below hb2 (Nat.le_refl _)
        have B2 := B1.trans (hb2.mono B1.size)
        have X2 := (hb2.block _ (lt_of_heap X1)).trans X1
        have hZ2 : OwB w1.heap.size y2 (.slice (some ⟨y1.heap.size, 0, none⟩) 64 64) Z64 := own_let hL2 B1.size
        refine op_do (some 16) (.slice (some ⟨y1.heap.size, 0, none⟩) 64 64) y2 (by kernel_rfl) (by kernel_rfl) (by kernel_rfl) (hr2 _ _ (.const (.int .i64 64)) (.const (.int .i64 64)) (by kernel_rfl) (by kernel_rfl) (by kernel_rfl)) ?_
        refine ⟨X2, ?_⟩
        clear hr2 hL2 hb2
        simp only [put_lit, put_non, List.set_cons_zero, List.set_cons_succ]
        refine hk_one (i := 4) (by kernel_rfl) ?_
        refine op_call (some 15) 59 #[.agg #[.pointer (some ⟨d, 0, none⟩), .int .i64 (a : Int), .int .i64 (n : Int)], .int .i64 (v : Int)] (by kernel_rfl) (by kernel_rfl) (by kernel_rfl) (fun w => (by kernel_rfl)) ?_
        refine (HS.out y2).mono ?_
        rintro e y3 ⟨rfl, hb3⟩
        have hM3 := hM2.below hb3 (Nat.le_refl _)
        have hZ3 := hZ2.below hb3 (Nat.le_refl _)
        have B3 := B2.trans (hb3.mono B2.size)
        have X3 := (hb3.block _ (lt_of_heap X2)).trans X2
        refine ⟨_, rfl, X3, ?_⟩
        clear hb3
        simp only [put_lit, put_non, List.set_cons_zero, List.set_cons_succ]
        refine hk_take (i := 6) (some 17) (.agg #[.int .i64 (p1 : Int), .slice (some ⟨y1.heap.size, 0, none⟩) 64 64]) (by kernel_rfl) (by kernel_rfl) (by kernel_rfl) (by kernel_rfl) (by kernel_rfl) (by kernel_rfl) (fun W hS => (by kernel_rfl)) (fun _ _ d _ _ h => by cases d <;> exact h) X3 ?_
        simp only [put_lit, put_non, List.set_cons_zero, List.set_cons_succ]
        refine hk_one (i := 9) (by kernel_rfl) ?_
        refine op_call (some 20) 68 #[.agg #[.pointer (some ⟨d, 0, none⟩), .int .i64 (a : Int), .int .i64 (n : Int)], .int .i64 (v : Int)] (by kernel_rfl) (by kernel_rfl) (by kernel_rfl) (fun w => (by kernel_rfl)) ?_
        refine (BS.out y3).mono ?_
        rintro e y4 ⟨rfl, hb4⟩
        have hM4 := hM3.below hb4 (Nat.le_refl _)
        have hZ4 := hZ3.below hb4 (Nat.le_refl _)
        have B4 := B3.trans (hb4.mono B3.size)
        have X4 := (hb4.block _ (lt_of_heap X3)).trans X3
        refine ⟨_, rfl, X4, ?_⟩
        clear hb4
        simp only [put_lit, put_non, List.set_cons_zero, List.set_cons_succ]
        refine hk_take (i := 11) (some 22) (.agg #[.int .i64 (p2 : Int), .slice A bl c]) (by kernel_rfl) (by kernel_rfl) (by kernel_rfl) (by kernel_rfl) (by kernel_rfl) (by kernel_rfl) (fun W hS => (by kernel_rfl)) (fun _ _ d _ _ h => by cases d <;> exact h) X4 ?_
        simp only [put_lit, put_non, List.set_cons_zero, List.set_cons_succ]
        refine hk_one (i := 14) (by kernel_rfl) ?_
        refine op_call (some 25) 59 #[.agg #[.pointer (some ⟨d, 0, none⟩), .int .i64 (a : Int), .int .i64 (n : Int)], .int .i64 (v : Int)] (by kernel_rfl) (by kernel_rfl) (by kernel_rfl) (fun w => (by kernel_rfl)) ?_
        refine (HS.out y4).mono ?_
        rintro e y5 ⟨rfl, hb5⟩
        have hM5 := hM4.below hb5 (Nat.le_refl _)
        have hZ5 := hZ4.below hb5 (Nat.le_refl _)
        have B5 := B4.trans (hb5.mono B4.size)
        have X5 := (hb5.block _ (lt_of_heap X4)).trans X4
        refine ⟨_, rfl, X5, ?_⟩
        clear hb5
        simp only [put_lit, put_non, List.set_cons_zero, List.set_cons_succ]
        refine hk_one (i := 19) (by kernel_rfl) ?_
        refine op_call (some 30) 69 #[.int .i64 (v : Int), .int .i64 (n : Int), .slice A bl c] (by kernel_rfl) (by kernel_rfl) (by kernel_rfl) (fun w => (by kernel_rfl)) ?_
        refine (HE.out y5 B5).mono ?_
        rintro e y6 ⟨r, rfl, ho6, hb6⟩
        have hM6 := hM5.below hb6 (Nat.le_refl _)
        have hZ6 := hZ5.below hb6 (Nat.le_refl _)
        have B6 := B5.trans (hb6.mono B5.size)
        have X6 := (hb6.block _ (lt_of_heap X5)).trans X5
        obtain ⟨AH, cH, rfl⟩ := ho6.byt.form
        have hH6 := ho6.mono B5.size
        refine ⟨_, rfl, X6, ?_⟩
        clear ho6 hb6
        simp only [put_lit, put_non, List.set_cons_zero, List.set_cons_succ]
        refine hk_take (i := 20) (some 31) (.agg #[.int .i64 (p1 : Int), .slice AH (hdrS v n body).length cH]) (by kernel_rfl) (by kernel_rfl) (by kernel_rfl) (by kernel_rfl) (by kernel_rfl) (by kernel_rfl) (fun W hS => (by kernel_rfl)) (fun _ _ d _ _ h => by cases d <;> exact h) X6 ?_
        simp only [put_lit, put_non, List.set_cons_zero, List.set_cons_succ]
        refine hk_one (i := 21) (by kernel_rfl) ?_
        obtain ⟨yz, ez⟩ : ∃ y, y = y6.alloc (.cells #[.int .i64 0, .slice AM markS.length cM, .int .i64 (p1 : Int), .slice (some ⟨y1.heap.size, 0, none⟩) 64 64, .int .i64 (p2 : Int), .slice A bl c, .int .i64 (p1 : Int), .slice AH (hdrS v n body).length cH] 105) := ⟨_, rfl⟩
        have hz : yz.heap[y6.heap.size]? = some (.cells #[.int .i64 0, .slice AM markS.length cM, .int .i64 (p1 : Int), .slice (some ⟨y1.heap.size, 0, none⟩) 64 64, .int .i64 (p2 : Int), .slice A bl c, .int .i64 (p1 : Int), .slice AH (hdrS v n body).length cH] 105 (0, 0)) := by rw [ez]; exact heap_alloc_new _ _
        have hBa : Below y6.heap.size y6 yz := by rw [ez]; exact (Below.refl _ _).alloc (Nat.le_refl _) _
        refine op_do (some 32) (.slice (some ⟨y6.heap.size, 0, none⟩) 4 4) yz (by kernel_rfl) (by kernel_rfl) (by kernel_rfl) (by rw [ez]; exact exec_fourC Tryz.underlying107 (z := .agg #[.int .i64 0, .slice none 0 0]) (by' := 32) (by kernel_rfl) (t0 := 12) (t1 := 17) (t2 := 22) (t3 := 31) (by kernel_rfl) (by kernel_rfl) (by kernel_rfl) (by kernel_rfl) (by kernel_rfl)) ?_
        refine ⟨(hBa.block _ (lt_of_heap X6)).trans X6, ?_⟩
        simp only [put_lit, put_non, List.set_cons_zero, List.set_cons_succ]
        have XZ := (hBa.block _ (lt_of_heap X6)).trans X6
        refine hk_take (i := 22) (some 7) (.slice (some ⟨y6.heap.size, 0, none⟩) 4 4) (by kernel_rfl) (by kernel_rfl) (by kernel_rfl) (by kernel_rfl) (by kernel_rfl) (by kernel_rfl) (fun W hS => (by kernel_rfl)) (fun _ _ d _ _ h => by cases d <;> exact h) XZ ?_
        simp only [put_lit, put_non, List.set_cons_zero, List.set_cons_succ]
        refine hk_done (by kernel_rfl) ?_
        have FIN := Lib.hid (show RelS w1 yz (.slice (some ⟨y6.heap.size, 0, none⟩) 4 4) p1 p2 (.slice A bl c) (hdrS v n body) from ⟨y6.heap.size, _, _, _, _, rfl, B6.size, hz, (hM6).below hBa (Nat.le_refl _), (hZ6).below hBa (Nat.le_refl _), (hH6).below hBa (Nat.le_refl _), B6.trans (hBa.mono B6.size)⟩)
        clear hz hBa ez XZ
        go_wp2_with fail
        go_meet
        case rel => exact FIN.out
    · skip
      obtain ⟨y1, hr1, hL1, hb1⟩ := make_w y0 64 (by omega)
      have B1 := B0.trans (hb1.mono B0.size)
      have X1 := (hb1.block _ (lt_of_heap X0)).trans X0
      have hZ1 : OwB w1.heap.size y1 (.slice (some ⟨y0.heap.size, 0, none⟩) 64 64) Z64 := own_let hL1 B0.size
      refine op_do (some 16) (.slice (some ⟨y0.heap.size, 0, none⟩) 64 64) y1 (by kernel_rfl) (by kernel_rfl) (by kernel_rfl) (hr1 _ _ (.const (.int .i64 64)) (.const (.int .i64 64)) (by kernel_rfl) (by kernel_rfl) (by kernel_rfl)) ?_
      refine ⟨X1, ?_⟩
      clear hr1 hL1 hb1
      simp only [put_lit, put_non, List.set_cons_zero, List.set_cons_succ]
      refine hk_one (i := 0) (by kernel_rfl) ?_
      refine op_call (some 11) 56 #[] (by kernel_rfl) (by kernel_rfl) (by kernel_rfl) (fun w => (by kernel_rfl)) ?_
      refine (MK.out y1).mono ?_
      rintro e y2 ⟨r, rfl, ho2, hb2⟩
      have hZ2 := hZ1.below hb2 (Nat.le_refl _)
      have B2 := B1.trans (hb2.mono B1.size)
      have X2 := (hb2.block _ (lt_of_heap X1)).trans X1
      obtain ⟨AM, cM, rfl⟩ := ho2.byt.form
      have hM2 := ho2.mono B1.size
      refine ⟨_, rfl, X2, ?_⟩
      clear ho2 hb2
      simp only [put_lit, put_non, List.set_cons_zero, List.set_cons_succ]
      refine hk_take (i := 1) (some 12) (.agg #[.int .i64 0, .slice AM markS.length cM]) (by kernel_rfl) (by kernel_rfl) (by kernel_rfl) (by kernel_rfl) (by kernel_rfl) (by kernel_rfl) (fun W hS => (by kernel_rfl)) (fun _ _ d _ _ h => by cases d <;> exact h) X2 ?_
      simp only [put_lit, put_non, List.set_cons_zero, List.set_cons_succ]
      refine hk_one (i := 4) (by kernel_rfl) ?_
      refine op_call (some 15) 59 #[.agg #[.pointer (some ⟨d, 0, none⟩), .int .i64 (a : Int), .int .i64 (n : Int)], .int .i64 (v : Int)] (by kernel_rfl) (by kernel_rfl) (by kernel_rfl) (fun w => (by kernel_rfl)) ?_
      refine (HS.out y2).mono ?_
      rintro e y3 ⟨rfl, hb3⟩
      have hM3 := hM2.below hb3 (Nat.le_refl _)
      have hZ3 := hZ2.below hb3 (Nat.le_refl _)
      have B3 := B2.trans (hb3.mono B2.size)
      have X3 := (hb3.block _ (lt_of_heap X2)).trans X2
      refine ⟨_, rfl, X3, ?_⟩
      clear hb3
      simp only [put_lit, put_non, List.set_cons_zero, List.set_cons_succ]
      refine hk_take (i := 6) (some 17) (.agg #[.int .i64 (p1 : Int), .slice (some ⟨y0.heap.size, 0, none⟩) 64 64]) (by kernel_rfl) (by kernel_rfl) (by kernel_rfl) (by kernel_rfl) (by kernel_rfl) (by kernel_rfl) (fun W hS => (by kernel_rfl)) (fun _ _ d _ _ h => by cases d <;> exact h) X3 ?_
      simp only [put_lit, put_non, List.set_cons_zero, List.set_cons_succ]
      refine hk_one (i := 9) (by kernel_rfl) ?_
      refine op_call (some 20) 68 #[.agg #[.pointer (some ⟨d, 0, none⟩), .int .i64 (a : Int), .int .i64 (n : Int)], .int .i64 (v : Int)] (by kernel_rfl) (by kernel_rfl) (by kernel_rfl) (fun w => (by kernel_rfl)) ?_
      refine (BS.out y3).mono ?_
      rintro e y4 ⟨rfl, hb4⟩
      have hM4 := hM3.below hb4 (Nat.le_refl _)
      have hZ4 := hZ3.below hb4 (Nat.le_refl _)
      have B4 := B3.trans (hb4.mono B3.size)
      have X4 := (hb4.block _ (lt_of_heap X3)).trans X3
      refine ⟨_, rfl, X4, ?_⟩
      clear hb4
      simp only [put_lit, put_non, List.set_cons_zero, List.set_cons_succ]
      refine hk_take (i := 11) (some 22) (.agg #[.int .i64 (p2 : Int), .slice A bl c]) (by kernel_rfl) (by kernel_rfl) (by kernel_rfl) (by kernel_rfl) (by kernel_rfl) (by kernel_rfl) (fun W hS => (by kernel_rfl)) (fun _ _ d _ _ h => by cases d <;> exact h) X4 ?_
      simp only [put_lit, put_non, List.set_cons_zero, List.set_cons_succ]
      refine hk_one (i := 14) (by kernel_rfl) ?_
      refine op_call (some 25) 59 #[.agg #[.pointer (some ⟨d, 0, none⟩), .int .i64 (a : Int), .int .i64 (n : Int)], .int .i64 (v : Int)] (by kernel_rfl) (by kernel_rfl) (by kernel_rfl) (fun w => (by kernel_rfl)) ?_
      refine (HS.out y4).mono ?_
      rintro e y5 ⟨rfl, hb5⟩
      have hM5 := hM4.below hb5 (Nat.le_refl _)
      have hZ5 := hZ4.below hb5 (Nat.le_refl _)
      have B5 := B4.trans (hb5.mono B4.size)
      have X5 := (hb5.block _ (lt_of_heap X4)).trans X4
      refine ⟨_, rfl, X5, ?_⟩
      clear hb5
      simp only [put_lit, put_non, List.set_cons_zero, List.set_cons_succ]
      refine hk_one (i := 19) (by kernel_rfl) ?_
      refine op_call (some 30) 69 #[.int .i64 (v : Int), .int .i64 (n : Int), .slice A bl c] (by kernel_rfl) (by kernel_rfl) (by kernel_rfl) (fun w => (by kernel_rfl)) ?_
      refine (HE.out y5 B5).mono ?_
      rintro e y6 ⟨r, rfl, ho6, hb6⟩
      have hM6 := hM5.below hb6 (Nat.le_refl _)
      have hZ6 := hZ5.below hb6 (Nat.le_refl _)
      have B6 := B5.trans (hb6.mono B5.size)
      have X6 := (hb6.block _ (lt_of_heap X5)).trans X5
      obtain ⟨AH, cH, rfl⟩ := ho6.byt.form
      have hH6 := ho6.mono B5.size
      refine ⟨_, rfl, X6, ?_⟩
      clear ho6 hb6
      simp only [put_lit, put_non, List.set_cons_zero, List.set_cons_succ]
      refine hk_take (i := 20) (some 31) (.agg #[.int .i64 (p1 : Int), .slice AH (hdrS v n body).length cH]) (by kernel_rfl) (by kernel_rfl) (by kernel_rfl) (by kernel_rfl) (by kernel_rfl) (by kernel_rfl) (fun W hS => (by kernel_rfl)) (fun _ _ d _ _ h => by cases d <;> exact h) X6 ?_
      simp only [put_lit, put_non, List.set_cons_zero, List.set_cons_succ]
      refine hk_one (i := 21) (by kernel_rfl) ?_
      obtain ⟨yz, ez⟩ : ∃ y, y = y6.alloc (.cells #[.int .i64 0, .slice AM markS.length cM, .int .i64 (p1 : Int), .slice (some ⟨y0.heap.size, 0, none⟩) 64 64, .int .i64 (p2 : Int), .slice A bl c, .int .i64 (p1 : Int), .slice AH (hdrS v n body).length cH] 105) := ⟨_, rfl⟩
      have hz : yz.heap[y6.heap.size]? = some (.cells #[.int .i64 0, .slice AM markS.length cM, .int .i64 (p1 : Int), .slice (some ⟨y0.heap.size, 0, none⟩) 64 64, .int .i64 (p2 : Int), .slice A bl c, .int .i64 (p1 : Int), .slice AH (hdrS v n body).length cH] 105 (0, 0)) := by rw [ez]; exact heap_alloc_new _ _
      have hBa : Below y6.heap.size y6 yz := by rw [ez]; exact (Below.refl _ _).alloc (Nat.le_refl _) _
      refine op_do (some 32) (.slice (some ⟨y6.heap.size, 0, none⟩) 4 4) yz (by kernel_rfl) (by kernel_rfl) (by kernel_rfl) (by rw [ez]; exact exec_fourC Tryz.underlying107 (z := .agg #[.int .i64 0, .slice none 0 0]) (by' := 32) (by kernel_rfl) (t0 := 12) (t1 := 17) (t2 := 22) (t3 := 31) (by kernel_rfl) (by kernel_rfl) (by kernel_rfl) (by kernel_rfl) (by kernel_rfl)) ?_
      refine ⟨(hBa.block _ (lt_of_heap X6)).trans X6, ?_⟩
      simp only [put_lit, put_non, List.set_cons_zero, List.set_cons_succ]
      have XZ := (hBa.block _ (lt_of_heap X6)).trans X6
      refine hk_take (i := 22) (some 7) (.slice (some ⟨y6.heap.size, 0, none⟩) 4 4) (by kernel_rfl) (by kernel_rfl) (by kernel_rfl) (by kernel_rfl) (by kernel_rfl) (by kernel_rfl) (fun W hS => (by kernel_rfl)) (fun _ _ d _ _ h => by cases d <;> exact h) XZ ?_
      simp only [put_lit, put_non, List.set_cons_zero, List.set_cons_succ]
      refine hk_done (by kernel_rfl) ?_
      have FIN := Lib.hid (show RelS w1 yz (.slice (some ⟨y6.heap.size, 0, none⟩) 4 4) p1 p2 (.slice A bl c) (hdrS v n body) from ⟨y6.heap.size, _, _, _, _, rfl, B6.size, hz, (hM6).below hBa (Nat.le_refl _), (hZ6).below hBa (Nat.le_refl _), (hH6).below hBa (Nat.le_refl _), B6.trans (hBa.mono B6.size)⟩)
      clear hz hBa ez XZ
      go_wp2_with fail
      go_meet
      case rel => exact FIN.out
  case rest =>
    obtain ⟨g, T, M, Z, H, rfl, hg, hrow, hM, hZ, hH, hB⟩ := hcut
    have G1 := Lib.hid hg
    have ROW := Lib.hid hrow
    have OM := Lib.hid hM
    have OZ := Lib.hid hZ
    have OH := Lib.hid hH
    have BW := Lib.hid hB
    obtain ⟨hE1, hE2⟩ := EP.out
    have NEW : ∀ {x : Value} {ts : List UInt8}, OwB w1.heap.size wc x ts → 0 < ts.length → ∀ k, x.ownBlock = some k → ¬ Fd k := fun ho _ k hk hf => by
      have := (ho.block k hk).1
      have := D1.out.lt hf
      omega
    have EL := Lib.hid (show ∀ j, j < 4 → ∃ (p : Nat) (V : Value) (b : List UInt8), (stepS n v body)[j]? = some (p, b) ∧ wc.rangeAt g (0 + j * 2) [.int .i64 (p : Int), V] ∧ Byt wc V b ∧ (0 < b.length → ∀ k, V.ownBlock = some k → ¬ Fd k) ∧ b.length ≤ 600000 from fun j hj => by
      have hc4 : ∀ i x, (#[Value.int .i64 0, M, .int .i64 (p1 : Int), Z, .int .i64 (p2 : Int), .slice A bl c, .int .i64 (p1 : Int), H] : Array Value)[i]? = some x → wc.cell? ⟨g, i, none⟩ = some x := fun i x hx => by rw [cell_of_row wc _ _ _ _ (0, 0) hrow]; exact hx
      have two : ∀ q x y, wc.cell? ⟨g, q, none⟩ = some x → wc.cell? ⟨g, q + 1, none⟩ = some y → wc.rangeAt g q [x, y] := fun q x y h1 h2 i z hz => by
        rcases i with _ | _ | i
        · simp at hz; subst hz; exact h1
        · simp at hz; subst hz; exact h2
        · simp at hz
      rcases j with _ | _ | _ | _ | j
      · exact ⟨0, M, markS, rfl, two _ _ _ (hc4 0 _ rfl) (hc4 1 _ rfl), hM.byt, NEW hM, by rw [markS_length]; omega⟩
      · exact ⟨1 + v % 2, Z, Z64, rfl, by rw [hE1]; exact two _ _ _ (hc4 2 _ rfl) (hc4 3 _ rfl), hZ.byt, NEW hZ, by rw [Z64_length]; omega⟩
      · refine ⟨3 + v % 2 * halfS n, .slice A bl c, body, rfl, by rw [hE2]; exact two _ _ _ (hc4 4 _ rfl) (hc4 5 _ rfl), HUW.out.below hB, fun h => HAP.out (by have := EB.out; omega), HF.out.2.2.1⟩
      · exact ⟨1 + v % 2, H, hdrS v n body, rfl, by rw [hE1]; exact two _ _ _ (hc4 6 _ rfl) (hc4 7 _ rfl), hH.byt, NEW hH, by rw [hdrS_length]; omega⟩
      · omega)
    have hGL := Lib.hid (lt_of_heap hrow)
    have hbox : wc.heap[w.heap.size]? = some (.cells #[.pointer (some ⟨d, 0, none⟩), .int .i64 (a : Int), .int .i64 (n : Int)] 62 (0, 0)) := (hB.block _ HB0.out).trans HH.out
    have BOX := Lib.hid hbox
    have DX := Lib.hid (D1.out.below hB)
    have FL := Lib.hid (fun k hk => HDK.out.lt (b := k) hk)
    have BX := Lib.hid (below_then W1.out hB)
    clear hg hrow hM hZ hH hB hE1 hE2 NEW hbox OM OZ OH
    generalize wc = w5 at *
    go_wp2_with fail
    go_loopw [35] (fun iv wr => ∃ (j : Nat) (Fj : Nat → Prop), j ≤ 4 ∧ iv = .int .i64 (j : Int) ∧ Disk wr Fj d (putsD ds a ((stepS n v body).take j)) ∧ (∀ k, Fj k → MoreR Fd w5 wr k) ∧ Turn Fd w5 wr) (fun iv _ => 4 - (intOf iv).toNat)
    case atStart => exact ⟨0, Fd, by omega, rfl, DX.out, fun k hk => .inl hk, Turn.refl _ _⟩
    case round =>
      obtain ⟨j, Fj, hj, rfl, hDj, hFj, hT⟩ := hrel
      have DJ := Lib.hid hDj
      have FJ := Lib.hid hFj
      have TJ := Lib.hid hT
      have NF : ∀ k, k < w5.heap.size → w.heap.size ≤ k → ¬ Fd k := fun k _ hk hf => by have := FL.out k hf; omega
      by_cases hj4 : j < 4
      · obtain ⟨p, V, b, hst, hrng, hby, hfr, hbl⟩ := EL.out j hj4
        have hsame : ∀ k, k < w5.heap.size → w.heap.size ≤ k → wr.heap[k]? = w5.heap[k]? := fun k h1 h2 => hT.2.2.2.2 k h1 (NF k h1 h2)
        have RNG := Lib.hid (show wr.rangeAt g (j * 2) [.int .i64 (p : Int), V] from fun i x hx => by
          have := hrng i x hx
          rw [Nat.zero_add] at this
          rw [← this]
          unfold World.cell?
          rw [hsame g hGL.out (by have := G1.out; have := W1.out.size; omega)])
        have hbox2 := (hsame w.heap.size (lt_of_heap BOX.out) (Nat.le_refl _)).trans BOX.out
        have RBX := Lib.hid (show wr.rangeAt w.heap.size 0 [.pointer (some ⟨d, 0, none⟩), .int .i64 (a : Int), .int .i64 (n : Int)] from range_whole (cs := [.pointer (some ⟨d, 0, none⟩), .int .i64 (a : Int), .int .i64 (n : Int)]) hbox2)
        have BXL := Lib.hid (lt_of_heap hbox2)
        have low := hby.low7
        have BY := Lib.hid (byt_turn0 hby hT hfr)
        have NFJ := Lib.hid (show 0 < b.length → ∀ k, V.ownBlock = some k → ¬ Fj k from fun h k hk hf => (hFj k hf).elim (hfr h k hk) fun h2 => by have := low h k hk; omega)
        have ST := Lib.hid hst
        have HBL := Lib.hid hbl
        have HPF := Lib.hid (SF.out (p, b) (List.mem_of_getElem? hst))
        have HJ4 := Lib.hid hj4
        have hji : (j : Int) < 4 := by omega
        have FV := Lib.hid hby.form
        clear hDj hFj hT hst hrng hby hfr hbl hsame hbox2 low NF hj hj4
        obtain ⟨AV, cV, rfl⟩ := FV.out
        obtain ⟨bn, ebn⟩ : ∃ m, b.length = m := ⟨_, rfl⟩
        have EBN := Lib.hid ebn
        rw [ebn] at RNG BY NFJ
        clear ebn FV
        go_wp2_with (first | ((with_reducible refine wp_loadR rfl 37 rfl g (j * 2) _ ?hx RNG.out rfl rfl ?_); (case hx => rfl)) | ((with_reducible refine wp_allocC (z := .agg #[.int .i64 0, .slice none 0 0]) (k := 2) (by' := 32) (by kernel_rfl) rfl rfl ?_); intro w2 hA hB2; have HA2 := Lib.hid hA; have B2 := Lib.hid hB2; clear hA hB2) | ((with_reducible refine wp_storeC (T := 105) (e := 105) (g := wr.heap.size) (cur := #[.int .i64 0, .slice none 0 0]) (cs := [Value.int .i64 (p : Int), .slice AV bn cV]) ?hi ?hg ?hl ?h1 ?hgd 9 38 ?ho ?hx ?hy ?_); (case hgd => rfl); (case ho => rfl); (case hi => kernel_rfl); (case hg => exact HA2.out); (case hl => rfl); (case h1 => (intro u hu; simp only [List.mem_cons, List.not_mem_nil, or_false] at hu; rcases hu with rfl | rfl <;> rfl)); (case hx => rfl); (case hy => rfl); intro w3 hC hG3; have k0 : w3.cell? ⟨wr.heap.size, 0, none⟩ = some (.int .i64 (p : Int)) := cell_of_row w3 _ 0 _ _ (0, 0) hC; have k1 : w3.cell? ⟨wr.heap.size, 1, none⟩ = some (.slice AV bn cV) := cell_of_row w3 _ 1 _ _ (0, 0) hC; have B3 := Lib.hid (B2.out.grown hG3 B2.out.size (fun k e => by injection e with e; omega)); have rb3 := range_below RBX.out BXL.out B3.out; have b0 : w3.cell? ⟨w.heap.size, 0, none⟩ = some (.pointer (some ⟨d, 0, none⟩)) := rb3 0 _ rfl; have b1 : w3.cell? ⟨w.heap.size, 1, none⟩ = some (.int .i64 (a : Int)) := rb3 1 _ rfl; have b2 : w3.cell? ⟨w.heap.size, 2, none⟩ = some (.int .i64 (n : Int)) := rb3 2 _ rfl; clear rb3; clear hC hG3))
        have DJ3 := DJ.out.below B3.out
        have C := write7_c DJ3 (putsD_calm a _ HC.out) a n p (b := b) (u := .slice AV bn cV) (BY.out.below B3.out) HBL.out (fun h => NFJ.out (by have := EBN.out; omega)) (by rw [putsD_length a _ fun x hx => by have := SF.out x (List.mem_of_mem_take hx); have := HF.out.1; omega]; have := HPF.out; have := HF.out.1; omega) (by rw [putsD_length a _ fun x hx => by have := SF.out x (List.mem_of_mem_take hx); have := HF.out.1; omega]; exact HF.out.2.1)
        unfold regV at C
        refine C.mono ?_
        rintro e w6 ⟨rfl, F6, hD6, hF6, hT6⟩
        have s1 := TJ.out.2.2.2.1
        have s3 := B3.out.size
        have s6 := hT6.2.2.2.1
        have D6 := Lib.hid (show Disk w6 F6 d (putsD ds a ((stepS n v body).take (j + 1))) by rw [putsD_step ds a ST.out]; exact hD6)
        have FF6 := Lib.hid (show ∀ k, F6 k → MoreR Fd w5 w6 k from fun k hk => (hF6 k hk).elim (fun h => (FJ.out k h).imp id fun h => ⟨h.1, by omega⟩) fun h => .inr ⟨by omega, h.2⟩)
        have T6 := Lib.hid ((TJ.out.then (Turn.of_below Fd B3.out) fun k _ h => h).then hT6 fun k hk hf => (FJ.out k hf).elim id fun h => by omega)
        clear hD6 hF6 hT6 C DJ3 s1 s3 s6
        go_wp2_with fail
        go_roundw
        case rel => exact ⟨j + 1, F6, by have := HJ4.out; omega, by congr 1, D6.out, FF6.out, T6.out⟩
        case measure => simp only [intOf]; have := HJ4.out; omega
      · have e4 : j = 4 := by omega
        subst e4
        clear hDj hFj hT hj hj4
        go_wp2_with fail
        go_ret
        refine ⟨rfl, Fj, DJ.out, fun k hk => (FJ.out k hk).imp id fun h => ⟨by have := BX.out.size; omega, h.2⟩, (Turn.of_below Fd BX.out).then TJ.out fun k _ hf => hf⟩
end
end Go.Proofs.YtckomifecmemnaaGreat

/- What a commit leaves in the sectors. -/
namespace Go.Proofs.YtckomifecmemnaaGreat
open Go.RowKit Dig
set_option linter.unusedVariables false

theorem whole_piece {b : List UInt8} (h : b.length = 64) : padS (piece b 0) = b := by
  have e : piece b 0 = b := by
    unfold piece
    rw [Nat.zero_mul, List.drop_zero, List.take_of_length_le (by omega)]
  rw [e]
  exact padS_self h
section
variable {ds : DS} {a n v : Nat} {body : List UInt8}
/-- What lies where. -/
theorem cmt_get (hl : a + n ≤ ds.dur.length) (h1 : 32 ≤ n) (hb : body.length ≤ halfS n * 64) (i : Nat) : (cmtD ds a n v body).dur[i]? = if i = a + (1 + v % 2) then some (hdrS v n body) else if a + (3 + v % 2 * halfS n) ≤ i ∧ i < a + (3 + v % 2 * halfS n) + cntS body then some (padS (piece body (i - (a + (3 + v % 2 * halfS n))))) else if i = a then some markS else ds.dur[i]? := by
  have hh := half_fits (n := v) h1
  have hv : v % 2 ≤ 1 := by omega
  have hc : cntS body ≤ halfS n := by unfold cntS; omega
  have e1 : cntS markS = 1 := by unfold cntS; rw [markS_length]
  have e2 : cntS Z64 = 1 := by unfold cntS; rw [Z64_length]
  have e3 : cntS (hdrS v n body) = 1 := by unfold cntS; rw [hdrS_length]
  have w1 := whole_piece markS_length
  have w3 := whole_piece (hdrS_length v n body)
  unfold cmtD stepS putsD
  simp only [List.foldl_cons, List.foldl_nil]
  show (putL (putL (putL (putL ds.dur (a + 0) markS) (a + (1 + v % 2)) Z64) (a + (3 + v % 2 * halfS n)) body) (a + (1 + v % 2)) (hdrS v n body))[i]? = _
  generalize hdrS v n body = H at *
  generalize v % 2 * halfS n = q at *
  generalize v % 2 = r at *
  have l1 : (putL ds.dur (a + 0) markS).length = ds.dur.length := putL_length (by omega)
  have l2 : (putL (putL ds.dur (a + 0) markS) (a + (1 + r)) Z64).length = ds.dur.length := (putL_length (by omega)).trans l1
  have l3 : (putL (putL (putL ds.dur (a + 0) markS) (a + (1 + r)) Z64) (a + (3 + q)) body).length = ds.dur.length := (putL_length (by omega)).trans l2
  rw [putL_get (by omega), e3]
  by_cases c1 : i = a + (1 + r)
  · rw [if_pos (by omega), if_pos c1, show i - (a + (1 + r)) = 0 by omega, w3]
  · rw [if_neg (by omega), if_neg c1, putL_get (by omega)]
    by_cases c2 : a + (3 + q) ≤ i ∧ i < a + (3 + q) + cntS body
    · rw [if_pos c2, if_pos c2]
    · rw [if_neg c2, if_neg c2, putL_get (by omega), e2, if_neg (by omega), putL_get (by omega), e1]
      by_cases c3 : i = a
      · rw [if_pos (by omega), if_pos c3, show i - (a + 0) = 0 by omega, w1]
      · rw [if_neg (by omega), if_neg c3]
theorem cmt_length (hl : a + n ≤ ds.dur.length) (h1 : 32 ≤ n) (hb : body.length ≤ halfS n * 64) : (cmtD ds a n v body).dur.length = ds.dur.length :=
  putsD_length a _ fun x hx => by have := step_fits (v := v) h1 hb x hx; omega
theorem cut_get {b : Nat} (h : b ≤ ds.dur.length) (hab : a ≤ b) : (cutD ds a b).length = b - a ∧ ∀ i, i < b - a → (cutD ds a b)[i]? = ds.dur[a + i]? := by
  unfold cutD
  refine ⟨by rw [List.length_take, List.length_drop]; omega, fun i hi => ?_⟩
  rw [List.getElem?_take, if_pos hi, List.getElem?_drop]
/-- The versions that a commit leaves are what the sectors hold. -/
theorem cmt_fit {b last : Nat} {K K' : List (List Pg)} (hab : a + 32 ≤ b) (hb8 : b ≤ ds.dur.length) (hd8 : ds.dur.length ≤ 8192) (hf : FitK (cutD ds a b) () last K) (hlast : last ≤ 1000000)
    (h64 : ∀ x ∈ (cmtD ds a (b - a) (last + 1) (encK K')).dur, x.length = 64) (hk : K'.length = min (last + 1) 3 + 1) (hs : ∀ l ∈ K', Srt l ∧ ∀ p ∈ l, okPg p) (hb : (encK K').length ≤ halfS (b - a) * 64) :
    FitK (cutD (cmtD ds a (b - a) (last + 1) (encK K')) a b) () (last + 1) K' ∧ SameD a b ds (cmtD ds a (b - a) (last + 1) (encK K')) := by
  have hl : a + (b - a) ≤ ds.dur.length := by omega
  have hn : 32 ≤ b - a := by omega
  have hlen := cmt_length (v := last + 1) hl hn hb
  have hget := cmt_get (v := last + 1) hl hn hb
  have hh := half_fits (n := last + 1) hn
  have hc : cntS (encK K') ≤ halfS (b - a) := by unfold cntS; omega
  have hv : (last + 1) % 2 ≤ 1 := by omega
  have hv2 : (last + 1 + 1) % 2 = last % 2 := by omega
  have hv3 : last % 2 ≤ 1 ∧ last % 2 ≠ (last + 1) % 2 := by omega
  obtain ⟨c1, c2⟩ := cut_get (ds := ds) (a := a) (b := b) hb8 (by omega)
  generalize hD : cmtD ds a (b - a) (last + 1) (encK K') = ds' at *
  obtain ⟨d1, d2⟩ := cut_get (ds := ds') (a := a) (b := b) (by omega) (by omega)
  obtain ⟨f1, f2, f3, f4, f5, f6, f7⟩ := hf
  refine ⟨⟨fun x hx => h64 x (List.mem_of_mem_drop (List.mem_of_mem_take hx)), by omega, by omega, by omega, hk, hs, .inr ⟨by omega, ?_, ⟨?_, ?_, fun i hi => ?_⟩, ?_⟩⟩, hlen, fun i hi => ?_⟩
  · rw [d2 0 (by omega), hget, if_neg (by omega), if_neg (by omega), if_pos (by omega)]
  · rw [d2 _ (by omega), hget, if_pos rfl, d1]
  · rw [d1]; exact hb
  · rw [d1, d2 _ (by omega), hget, if_neg (by omega), if_pos (by omega)]
    congr 3
    omega
  · rw [hv2, d2 _ (by omega), hget, if_neg (by omega), if_neg (by omega), if_neg (by omega), ← c2 _ (by omega)]
    rcases f7 with ⟨e1, e2, e3⟩ | ⟨e1, e2, e3, e4⟩
    · refine ⟨Z64, ?_, by rw [hvS_zero]; omega⟩
      rw [e3, List.getElem?_replicate, if_pos (by omega)]
    · refine ⟨_, e3.1, ?_⟩
      rw [hvS_hdr (by omega)]
      omega
  · rw [hget, if_neg (by omega), if_neg (by omega), if_neg (by omega)]
end
/-- The versions kept behind a commit. -/
theorem commit_kept {s : SS} (h : s.kept.length = min s.last 3 + 1) (hs : ∀ l ∈ s.kept, Srt l ∧ ∀ p ∈ l, okPg p) (hw : Srt s.work ∧ ∀ p ∈ s.work, okPg p) : (commitS s).kept.length = min (s.last + 1) 3 + 1 ∧ ∀ l ∈ (commitS s).kept, Srt l ∧ ∀ p ∈ l, okPg p := by
  have hm : ∀ l ∈ s.kept ++ [s.work], Srt l ∧ ∀ p ∈ l, okPg p := fun l hl => (List.mem_append.1 hl).elim (hs l) fun h => by rw [List.mem_singleton.1 h]; exact hw
  unfold commitS
  split
  · refine ⟨by simp; omega, fun l hl => hm l (List.mem_of_mem_drop hl)⟩
  · exact ⟨by simp; omega, hm⟩
end Go.Proofs.YtckomifecmemnaaGreat

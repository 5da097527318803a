/- The helpers page, data and fits of the laws of stage 7. -/
import Derived.Laws.Bits128
import Derived.Test.YtckomifecmemnaaGreatOp7
namespace Go.Proofs.YtckomifecmemnaaGreat
open Go.RowKit Dig
set_option linter.unusedVariables false
theorem and_low (n : Int) (k : Nat) (m : Int) (hm : (BitVec.ofInt 64 m).toNat = 2 ^ k - 1) (hk : k ≤ 62) : bits .and .i64 n m = n % ((2 ^ k : Nat) : Int) := by
  have hp : (2 : Nat) ^ k ≤ 2 ^ 62 := Nat.pow_le_pow_right (by omega) hk
  have hd : (2 : Nat) ^ k ∣ 2 ^ 64 := Nat.pow_dvd_pow 2 (by omega)
  have hpos : 0 < (2 : Nat) ^ k := Nat.two_pow_pos k
  have key : (BitVec.ofInt 64 n &&& BitVec.ofInt 64 m).toNat = (n % ((2 ^ 64 : Nat) : Int)).toNat % 2 ^ k := by
    rw [BitVec.toNat_and, BitVec.toNat_ofInt, hm, Nat.and_two_pow_sub_one_eq_mod]
  show IntKind.i64.wrap ((BitVec.ofInt 64 n &&& BitVec.ofInt 64 m).toNat : Nat) = n % ((2 ^ k : Nat) : Int)
  have hr : (((n % ((2 ^ 64 : Nat) : Int)).toNat % 2 ^ k : Nat) : Int) = n % ((2 ^ k : Nat) : Int) := by
    rw [Int.natCast_emod, Int.toNat_of_nonneg (Int.emod_nonneg _ (by decide))]
    exact Int.emod_emod_of_dvd n (Int.natCast_dvd_natCast.2 hd)
  have hlt : n % ((2 ^ k : Nat) : Int) < 2 ^ k := by
    have := Int.emod_lt_of_pos n (show (0 : Int) < ((2 ^ k : Nat) : Int) by exact_mod_cast hpos)
    exact_mod_cast this
  have h0 : 0 ≤ n % ((2 ^ k : Nat) : Int) := Int.emod_nonneg _ (by omega)
  rw [key, hr, IntKind.wrap_i64]
  have : (2 : Int) ^ k ≤ 2 ^ 62 := by exact_mod_cast hp
  omega
theorem and15 (n : Int) : bits .and .i64 n 15 = n % 16 := and_low n 4 15 (by decide) (by omega)
theorem and65535 (n : Int) : bits .and .i64 n 65535 = n % 65536 := and_low n 16 65535 (by decide) (by omega)
theorem and1023 (n : Int) : bits .and .i64 n 1023 = n % 1024 := and_low n 10 1023 (by decide) (by omega)
/-- page, as a number. -/
def pageS (n : Int) : Int := if n % 16 = 15 then n else n % 65536 % 5 * 51
theorem page_c (w : World) (n : Int) : Calls Tryz.prog 38 #[.int .i64 n] w (fun e w' => e = .returned (.int .i64 (pageS n)) ∧ w = w') := by
  have a1 := and15 n
  have a2 := and65535 n
  unfold pageS
  by_cases h : n % 16 = 15
  · rw [if_pos h]
    rw [h] at a1
    clear h a2
    go_enter Tryz.func38, Tryz.ntmps38
    go_wp2_with fail
    go_ret
    exact ⟨rfl, rfl⟩
  · rw [if_neg h]
    have hb : (bits .and .i64 n 15 == 15) = false := by rw [a1, beq_eq_false_iff_ne]; exact h
    have ht : Int.tmod (n % 65536) 5 = n % 65536 % 5 := Int.tmod_eq_emod_of_nonneg (by omega)
    clear h a1
    obtain ⟨r, er⟩ : ∃ r, n % 65536 % 5 = r := ⟨_, rfl⟩
    have hr : 0 ≤ r ∧ r < 5 := by omega
    obtain ⟨hr0, hr5⟩ := hr
    rw [er] at ht ⊢
    clear er
    obtain ⟨q, eq⟩ : ∃ q, n % 65536 = q := ⟨_, rfl⟩
    have hq : 0 ≤ q := by omega
    rw [eq] at a2 ht
    clear eq
    go_enter Tryz.func38, Tryz.ntmps38
    go_wp2_with fail
    go_ret
    exact ⟨rfl, rfl⟩
/-- fits, as a truth. -/
def fits7 (l : List Op7) (most : Nat) : Prop := l.length ≤ most ∧ ∀ o ∈ l, o.data.length ≤ 100
set_option maxHeartbeats 1000000 in
theorem fits7_c {w : World} {v : Value} {l : List Op7} (h : Ops7 w v l) (most : Nat) (hm : most ≤ 1000) : ∃ r : Bool, (r = true ↔ fits7 l most) ∧ Calls Tryz.prog 8 #[v, .int .i64 (most : Int)] w (fun e w' => e = .returned (.bool r) ∧ w = w') := by
  by_cases hf : fits7 l most
  · refine ⟨true, ⟨fun _ => hf, fun _ => rfl⟩, ?_⟩
    obtain ⟨hl, hd⟩ := hf
    have H := Lib.hid h
    have HD := Lib.hid hd
    obtain ⟨A, c, rfl⟩ := h.form
    have h0 : ¬ (most : Int) < l.length := by omega
    have h0b : ¬ (l.length : Int) > most := by omega
    have hmi : (most : Int) ≤ 1000 := by omega
    have hli : (l.length : Int) ≤ 1000 := by omega
    clear h hd hl hm
    go_enter Tryz.func8, Tryz.ntmps8
    go_wp2_with fail
    go_loopw [5] (fun i wr => ∃ j : Nat, j ≤ l.length ∧ i = .int .i64 j ∧ w = wr) (fun i _ => l.length - (intOf i).toNat)
    case atStart => exact ⟨0, Nat.zero_le _, rfl, rfl⟩
    case round =>
      obtain ⟨j, hj, rfl, rfl⟩ := hrel
      by_cases hjl : j < l.length
      · have HJ : (j : Int) < l.length := by omega
        obtain ⟨b, off, rfl, hb, -, -, -, -, -, -, u, c4, hu⟩ := H.out.cells hjl
        have hD := HD.out _ (List.getElem_mem hjl)
        obtain ⟨U, uc, rfl⟩ := hu.form
        have hDi : ¬ (l[j].data.length : Int) > 100 := by omega
        generalize l[j].data.length = D at c4 hDi
        clear hu hD
        go_wp2_with fail
        go_roundw
        case rel => exact ⟨j + 1, by omega, by go_num, by trivial⟩
        case measure => simp [intOf]; omega
      · have HJ : ¬ (j : Int) < l.length := by omega
        go_wp2_with fail
        go_ret
        exact ⟨rfl, rfl⟩
  · refine ⟨false, ⟨(fun e => Bool.noConfusion e), (fun e => absurd e hf)⟩, ?_⟩
    by_cases hl : l.length ≤ most
    · have hex : ¬ ∀ j (hj : j < l.length), l[j].data.length ≤ 100 := fun h => hf ⟨hl, fun o ho => by
        obtain ⟨j, hj, rfl⟩ := List.mem_iff_getElem.1 ho
        exact h j hj⟩
      have H := Lib.hid h
      have HX := Lib.hid hex
      obtain ⟨A, c, rfl⟩ := h.form
      have h0b : ¬ (l.length : Int) > most := by omega
      have hli : (l.length : Int) ≤ 1000 := by omega
      clear h hex hl hm hf
      go_enter Tryz.func8, Tryz.ntmps8
      go_wp2_with fail
      go_loopw [5] (fun i wr => ∃ j : Nat, j ≤ l.length ∧ i = .int .i64 j ∧ (∀ k (hk : k < l.length), k < j → l[k].data.length ≤ 100) ∧ w = wr) (fun i _ => l.length - (intOf i).toNat)
      case atStart => exact ⟨0, Nat.zero_le _, rfl, fun k _ hk => absurd hk (Nat.not_lt_zero k), rfl⟩
      case round =>
        obtain ⟨j, hj, rfl, hall, rfl⟩ := hrel
        have HA := Lib.hid hall
        clear hall
        by_cases hjl : j < l.length
        · have HJ : (j : Int) < l.length := by omega
          obtain ⟨b, off, rfl, hb, -, -, -, -, -, -, u, c4, hu⟩ := H.out.cells hjl
          obtain ⟨U, uc, rfl⟩ := hu.form
          by_cases h100 : l[j].data.length ≤ 100
          · have hDi : ¬ (l[j].data.length : Int) > 100 := by omega
            have HN := Lib.hid (show ∀ k (hk : k < l.length), k < j + 1 → l[k].data.length ≤ 100 from fun k hk hk1 => by
              rcases Nat.lt_or_ge k j with h1 | h1
              · exact HA.out k hk h1
              · obtain rfl : k = j := by omega
                exact h100)
            generalize l[j].data.length = D at c4 hDi
            clear hu h100
            go_wp2_with fail
            go_roundw
            case rel => exact ⟨j + 1, by omega, by go_num, HN.out, by trivial⟩
            case measure => simp [intOf]; omega
          · have hDi : (l[j].data.length : Int) > 100 := by omega
            generalize l[j].data.length = D at c4 hDi
            clear hu h100
            go_wp2_with fail
            go_ret
            exact ⟨rfl, rfl⟩
        · exact absurd (fun k hk => HA.out k hk (by omega)) HX.out
    · have h0b : (l.length : Int) > most := by omega
      obtain ⟨A, c, rfl⟩ := h.form
      generalize l.length = L at *
      clear h hl hm hf
      go_enter Tryz.func8, Tryz.ntmps8
      go_wp2_with fail
      go_ret
      exact ⟨rfl, rfl⟩
/-! ### data -/
def repB (ts : List UInt8) (k : Nat) : List UInt8 := (List.replicate k ts).flatten
theorem repB_succ (ts : List UInt8) (k : Nat) : repB ts (k + 1) = repB ts k ++ ts := by
  unfold repB
  rw [List.replicate_succ', List.flatten_append]
  simp
theorem repB_length (ts : List UInt8) (k : Nat) : (repB ts k).length = k * ts.length := by
  unfold repB
  simp
theorem repB_add (ts : List UInt8) (j k : Nat) : repB ts (j + k) = repB ts j ++ repB ts k := by
  unfold repB
  rw [← List.replicate_append_replicate, List.flatten_append]
theorem repB_take {ts : List UInt8} {n j k : Nat} (hj : n ≤ (repB ts j).length) (hk : n ≤ (repB ts k).length) : (repB ts j).take n = (repB ts k).take n := by
  have h1 : (repB ts (j + k)).take n = (repB ts j).take n := by rw [repB_add, List.take_append_of_le_length hj]
  have h2 : (repB ts (k + j)).take n = (repB ts k).take n := by rw [repB_add, List.take_append_of_le_length hk]
  rw [← h1, ← h2, Nat.add_comm]
/-- How many bytes an operation writes. -/
def lenS (size : Int) : Nat := (size % 1024).toNat + (if bits .and .i64 size 28672 = 28672 then 700 else 0)
/-- data, as bytes. -/
def dataS (size : Int) (ts : List UInt8) : List UInt8 := (repB ts (lenS size)).take (lenS size)
theorem dataS_length (size : Int) (ts : List UInt8) : (dataS size ts).length ≤ 1723 := by
  unfold dataS lenS
  rw [List.length_take]
  split <;> omega
/-- A call as a value. -/
def opV (o : Op7) (v : Value) : Value := .agg #[.int .u8 (o.kind : Int), .int .i64 o.page, .int .i64 o.size, v, .int .i64 o.fail, .int .u64 (o.keep : Int), .int .i64 o.torn]
def lnV : Value → Nat
  | .slice _ n _ => n
  | _ => 0
set_option maxHeartbeats 4000000 in
theorem data_c {w : World} {v : Value} {o : Op7} (hv : Byt w v o.data) (hl : o.data.length ≤ 100) : Calls Tryz.prog 41 #[opV o v] w (fun e w' => ∃ r, e = .returned r ∧ Byt w' r (dataS o.size o.data) ∧ (∀ k, r.ownBlock = some k → w.heap.size ≤ k) ∧ Below w.heap.size w w') := by
  obtain ⟨kind, page, size, ts, fail, keep, torn⟩ := o
  simp only at hv hl ⊢
  unfold opV dataS
  simp only
  have a1 := and1023 size
  have HV := Lib.hid hv
  obtain ⟨A, c, rfl⟩ := hv.form
  have hlen : (ts.length : Int) ≤ 100 := by omega
  have hN : lenS size = (size % 1024).toNat + (if bits .and .i64 size 28672 = 28672 then 700 else 0) := rfl
  generalize lenS size = N at hN ⊢
  clear hv
  obtain ⟨q, eq⟩ : ∃ q, size % 1024 = q := ⟨_, rfl⟩
  have hq0 : 0 ≤ q := by omega
  have hq1 : q < 1024 := by omega
  rw [eq] at a1 hN
  clear eq
  by_cases ht : ts.length = 0
  · have hti : ((ts.length : Int) == 0) = true := by simp [ht]
    have e : ts = [] := List.eq_nil_of_length_eq_zero ht
    have hz : (repB ts N).take N = [] := by rw [e]; unfold repB; simp
    rw [hz]
    clear hz e
    cases hb : (bits .and .i64 size 28672 == 28672) with
    | true =>
      clear hN
      go_enter Tryz.func41, Tryz.ntmps41
      go_wp2_with fail
      go_ret
      exact ⟨_, rfl, Byt.nil _, (fun k hk => by cases hk), (Below.refl _ _).alloc (Nat.le_refl _) _⟩
    | false =>
      clear hN
      go_enter Tryz.func41, Tryz.ntmps41
      go_wp2_with fail
      go_ret
      exact ⟨_, rfl, Byt.nil _, (fun k hk => by cases hk), (Below.refl _ _).alloc (Nat.le_refl _) _⟩
  · have hti : ((ts.length : Int) == 0) = false := by rw [beq_eq_false_iff_ne]; omega
    have HTS := Lib.hid (show 1 ≤ ts.length by omega)
    cases hb : (bits .and .i64 size 28672 == 28672) with
    | true =>
      have hb2 : bits .and .i64 size 28672 = 28672 := by simpa using hb
      rw [if_pos hb2] at hN
      have HN := Lib.hid hN
      clear hb2 ht
      go_enter Tryz.func41, Tryz.ntmps41
      go_wp2_with fail
      obtain ⟨W0, eW⟩ : ∃ W, W = w.alloc (.cells #[.int .u8 (kind : Int), .int .i64 page, .int .i64 size, .slice A ts.length c, .int .i64 fail, .int .u64 (keep : Int), .int .i64 torn] 36) := ⟨_, rfl⟩
      have hB0 : Below w.heap.size w W0 := by rw [eW]; exact (Below.refl _ _).alloc (Nat.le_refl _) _
      have hz0 : w.heap.size < W0.heap.size := by rw [eW, World.size_alloc]; omega
      have hk0 : W0.cell? ⟨w.heap.size, 3, none⟩ = some (.slice A ts.length c) := by rw [eW, cell_of_row _ _ _ _ _ (0, 0) (heap_alloc_new w _)]; rfl
      rw [← eW]
      have HV0 := Lib.hid (HV.out.below hB0)
      have HB0 := Lib.hid hB0
      have HK0 := Lib.hid hk0
      have HZ0 := Lib.hid hz0
      clear eW hB0 hk0 hz0
      go_loopw [4] (fun b wr => ∃ j : Nat, j ≤ N ∧ OwB W0.heap.size wr b (repB ts j) ∧ Below W0.heap.size W0 wr) (fun b _ => N - lnV b)
      case atStart => exact ⟨0, Nat.zero_le _, OwB.nil _ _, Below.refl _ _⟩
      case round =>
        obtain ⟨j, hj, hO, hBr⟩ := hrel
        have hrl := repB_length ts j
        have HBR := Lib.hid hBr
        obtain ⟨Ab, cb, rfl⟩ := hO.byt.form
        have hbd := hO.byt.bounds
        have hcb := hbd.2.1
        have hmx := hbd.2.2
        have kr : wr.cell? ⟨w.heap.size, 3, none⟩ = some (.slice A ts.length c) := by rw [hBr.cell (p := ⟨w.heap.size, 3, none⟩) HZ0.out]; exact HK0.out
        obtain ⟨LB, eLB⟩ : ∃ n, (repB ts j).length = n := ⟨_, rfl⟩
        rw [eLB] at hrl hcb
        have hO2 : OwB W0.heap.size wr (.slice Ab LB cb) (repB ts j) := by rw [← eLB]; exact hO
        have HO := Lib.hid hO2
        have HRL := Lib.hid hrl
        have ELB := Lib.hid eLB
        have HMX := Lib.hid hmx
        clear hO hO2 hBr hrl hbd hmx
        simp only [eLB]
        clear eLB
        by_cases hlt : LB < N
        · have hli : (LB : Int) < q + 700 := by omega
          have hLi : (LB : Int) ≤ 2000 := by omega
          clear hcb
          go_wp2_with (at_builtin; refine wp_appendB rfl _ _ rfl W0.heap.size _ (repB ts j) rfl HO.out _ ts rfl (HV0.out.below HBR.out) (by have := ELB.out; omega) HBR.out.size ?_; intro v5 w5 hv5 hg5; have O5 := Lib.hid hv5; have B5 := Lib.hid (HBR.out.grown hg5 HBR.out.size (fun k hk => (HO.out.block k hk).1)); clear hv5 hg5)
          have hj1 : j < LB + 1 := by
            have h1 := HRL.out
            have : j * 1 ≤ j * ts.length := Nat.mul_le_mul_left j HTS.out
            omega
          have hO5 := O5.out
          rw [← repB_succ] at hO5
          have hl5 : (repB ts (j + 1)).length = LB + ts.length := by rw [repB_succ, List.length_append, ELB.out]
          obtain ⟨A5, c5, e5⟩ := hO5.byt.form
          have HTSo := HTS.out
          go_roundw
          case rel => exact ⟨j + 1, by omega, hO5, B5.out⟩
          case measure =>
            rw [e5, hl5]
            show N - (LB + ts.length) < N - LB
            omega
        · have hli : ¬ (LB : Int) < q + 700 := by omega
          have hci : q + 700 ≤ (cb : Int) := by omega
          have hNL : N ≤ LB := by omega
          clear hN
          go_wp2_with fail
          go_ret
          have hnn : (q + 700).toNat = N := by have := HN.out; omega
          have hcut := (HO.out.byt).cut hNL
          have h1 : 1 ≤ ts.length := HTS.out
          rw [repB_take (k := N) (by rw [ELB.out]; exact hNL) (by rw [repB_length]; exact Nat.le_mul_of_pos_right N h1)] at hcut
          have hob : ∀ (n k : Nat), (Value.slice Ab n cb).ownBlock = some k → w.heap.size ≤ k := fun n k hk => Nat.le_trans HB0.out.size (HO.out.block k (by cases Ab with | none => cases hk | some a => exact hk)).1
          refine ⟨_, rfl, ?_, (fun k hk => hob _ k hk), below_then HB0.out HBR.out⟩
          show Byt _ (.slice Ab (q + 700).toNat cb) _
          rw [hnn]
          exact hcut
    | false =>
      have hb2 : ¬ bits .and .i64 size 28672 = 28672 := by simpa using hb
      rw [if_neg hb2] at hN
      have HN := Lib.hid hN
      clear hb2 ht
      go_enter Tryz.func41, Tryz.ntmps41
      go_wp2_with fail
      obtain ⟨W0, eW⟩ : ∃ W, W = w.alloc (.cells #[.int .u8 (kind : Int), .int .i64 page, .int .i64 size, .slice A ts.length c, .int .i64 fail, .int .u64 (keep : Int), .int .i64 torn] 36) := ⟨_, rfl⟩
      have hB0 : Below w.heap.size w W0 := by rw [eW]; exact (Below.refl _ _).alloc (Nat.le_refl _) _
      have hz0 : w.heap.size < W0.heap.size := by rw [eW, World.size_alloc]; omega
      have hk0 : W0.cell? ⟨w.heap.size, 3, none⟩ = some (.slice A ts.length c) := by rw [eW, cell_of_row _ _ _ _ _ (0, 0) (heap_alloc_new w _)]; rfl
      rw [← eW]
      have HV0 := Lib.hid (HV.out.below hB0)
      have HB0 := Lib.hid hB0
      have HK0 := Lib.hid hk0
      have HZ0 := Lib.hid hz0
      clear eW hB0 hk0 hz0
      go_loopw [4] (fun b wr => ∃ j : Nat, j ≤ N ∧ OwB W0.heap.size wr b (repB ts j) ∧ Below W0.heap.size W0 wr) (fun b _ => N - lnV b)
      case atStart => exact ⟨0, Nat.zero_le _, OwB.nil _ _, Below.refl _ _⟩
      case round =>
        obtain ⟨j, hj, hO, hBr⟩ := hrel
        have hrl := repB_length ts j
        have HBR := Lib.hid hBr
        obtain ⟨Ab, cb, rfl⟩ := hO.byt.form
        have hbd := hO.byt.bounds
        have hcb := hbd.2.1
        have hmx := hbd.2.2
        have kr : wr.cell? ⟨w.heap.size, 3, none⟩ = some (.slice A ts.length c) := by rw [hBr.cell (p := ⟨w.heap.size, 3, none⟩) HZ0.out]; exact HK0.out
        obtain ⟨LB, eLB⟩ : ∃ n, (repB ts j).length = n := ⟨_, rfl⟩
        rw [eLB] at hrl hcb
        have hO2 : OwB W0.heap.size wr (.slice Ab LB cb) (repB ts j) := by rw [← eLB]; exact hO
        have HO := Lib.hid hO2
        have HRL := Lib.hid hrl
        have ELB := Lib.hid eLB
        have HMX := Lib.hid hmx
        clear hO hO2 hBr hrl hbd hmx
        simp only [eLB]
        clear eLB
        by_cases hlt : LB < N
        · have hli : (LB : Int) < q := by omega
          have hLi : (LB : Int) ≤ 2000 := by omega
          clear hcb
          go_wp2_with (at_builtin; refine wp_appendB rfl _ _ rfl W0.heap.size _ (repB ts j) rfl HO.out _ ts rfl (HV0.out.below HBR.out) (by have := ELB.out; omega) HBR.out.size ?_; intro v5 w5 hv5 hg5; have O5 := Lib.hid hv5; have B5 := Lib.hid (HBR.out.grown hg5 HBR.out.size (fun k hk => (HO.out.block k hk).1)); clear hv5 hg5)
          have hj1 : j < LB + 1 := by
            have h1 := HRL.out
            have : j * 1 ≤ j * ts.length := Nat.mul_le_mul_left j HTS.out
            omega
          have hO5 := O5.out
          rw [← repB_succ] at hO5
          have hl5 : (repB ts (j + 1)).length = LB + ts.length := by rw [repB_succ, List.length_append, ELB.out]
          obtain ⟨A5, c5, e5⟩ := hO5.byt.form
          have HTSo := HTS.out
          go_roundw
          case rel => exact ⟨j + 1, by omega, hO5, B5.out⟩
          case measure =>
            rw [e5, hl5]
            show N - (LB + ts.length) < N - LB
            omega
        · have hli : ¬ (LB : Int) < q := by omega
          have hci : q ≤ (cb : Int) := by omega
          have hNL : N ≤ LB := by omega
          clear hN
          go_wp2_with fail
          go_ret
          have hnn : (q).toNat = N := by have := HN.out; omega
          have hcut := (HO.out.byt).cut hNL
          have h1 : 1 ≤ ts.length := HTS.out
          rw [repB_take (k := N) (by rw [ELB.out]; exact hNL) (by rw [repB_length]; exact Nat.le_mul_of_pos_right N h1)] at hcut
          have hob : ∀ (n k : Nat), (Value.slice Ab n cb).ownBlock = some k → w.heap.size ≤ k := fun n k hk => Nat.le_trans HB0.out.size (HO.out.block k (by cases Ab with | none => cases hk | some a => exact hk)).1
          refine ⟨_, rfl, ?_, (fun k hk => hob _ k hk), below_then HB0.out HBR.out⟩
          show Byt _ (.slice Ab (q).toNat cb) _
          rw [hnn]
          exact hcut
end Go.Proofs.YtckomifecmemnaaGreat

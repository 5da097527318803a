/- The contract of longProduct: long multiplication. -/
import Derived.Laws.IdiomStrings
import Derived.Test.YtkdnmmbnljaahaaAdds
import Derived.Test.YtkdnmmbnljaahaaPlain
import Derived.Test.YtkdnmmbnljaahaaMems
namespace Go.Proofs.Ytkdnmmbnljaahaa
open Go.RowKit Dig

theorem Seg.cell0 {w : World} {g : Nat} {post : List Value} {xs : List Nat} (h : Seg w g [] xs post) {j : Nat} (hj : j < xs.length) : w.cell? ⟨g, j, none⟩ = some (.int .u32 ((xs.getD j 0 : Nat) : Int)) := by
  have := h.cell hj
  simpa using this
theorem Seg.put0 {w : World} {g : Nat} {post : List Value} {xs : List Nat} (h : Seg w g [] xs post) (j v : Nat) (q : Int) (hj : j < xs.length) (hq : q = (v : Int)) : Seg (w.setCell ⟨g, j, none⟩ (.int .u32 q)) g [] (xs.set j v) post := by
  have := h.put j v q hj hq
  simpa using this

end Go.Proofs.Ytkdnmmbnljaahaa

/- The contract of Mul where the shorter factor has fewer than 48 digits. -/
namespace Go.Proofs.Ytkdnmmbnljaahaa
open Go.RowKit Dig
set_option linter.unusedVariables false





end Go.Proofs.Ytkdnmmbnljaahaa

/- The contract of divideByDigit: division in place by one digit. -/
namespace Go.Proofs.Ytkdnmmbnljaahaa
open Go.RowKit Dig
set_option linter.unusedVariables false

namespace Dig
/-- Above place k the digits are those of the quotient; r is the remainder. -/
def DivRel (xs zs : List Nat) (k d r : Nat) : Prop :=
  zs.length = xs.length ∧ Small zs ∧ (∀ j, j < k → zs.getD j 0 = xs.getD j 0) ∧ val (xs.drop k) = val (zs.drop k) * d + r ∧ r < d
theorem drop_getD (zs : List Nat) (k : Nat) (h : k < zs.length) : val (zs.drop k) = zs.getD k 0 + 4294967296 * val (zs.drop (k + 1)) := by
  rw [List.drop_eq_getElem_cons h]
  simp [val, List.getD_eq_getElem?_getD, h]
theorem drop_set (zs : List Nat) (k v : Nat) (h : k < zs.length) : val ((zs.set k v).drop k) = v + 4294967296 * val (zs.drop (k + 1)) := by
  rw [drop_getD _ k (by simpa using h), getD_set_same _ _ _ h]
  congr 2
  rw [List.drop_set_of_lt (by omega)]
theorem DivRel.start (xs : List Nat) (hs : Small xs) (d : Nat) (hd : 0 < d) : DivRel xs xs xs.length d 0 := ⟨rfl, hs, fun _ _ => rfl, by simp [val], hd⟩
theorem DivRel.step {xs zs : List Nat} {k d r x : Nat} (h : DivRel xs zs (k + 1) d r) (hk : k < xs.length) (hx : zs.getD k 0 = x) (hd : d < 4294967296) :
    DivRel xs (zs.set k ((x + 4294967296 * r) / d)) k d ((x + 4294967296 * r) % d) ∧ (x + 4294967296 * r) / d < 4294967296 := by
  obtain ⟨hl, hs, ha, hv, hr⟩ := h
  have hxb := hs.get k
  rw [hx] at hxb
  have hq : (x + 4294967296 * r) / d < 4294967296 := by
    rw [Nat.div_lt_iff_lt_mul (by omega)]
    have : 4294967296 * (r + 1) ≤ 4294967296 * d := Nat.mul_le_mul_left _ hr
    omega
  refine ⟨⟨by simpa using hl, hs.set _ _ hq, fun j hj => ?_, ?_, Nat.mod_lt _ (by omega)⟩, hq⟩
  · rw [getD_set_ne _ _ _ _ (by omega)]
    exact ha j (by omega)
  · rw [drop_set _ _ _ (by omega), drop_getD xs k hk, hv, ← ha k (by omega), hx, Nat.add_mul, Nat.mul_add, Nat.mul_assoc]
    have := Nat.div_add_mod (x + 4294967296 * r) d
    rw [Nat.mul_comm] at this
    omega
theorem DivRel.done {xs zs : List Nat} {d r : Nat} (h : DivRel xs zs 0 d r) : val zs = val xs / d ∧ r = val xs % d := by
  obtain ⟨hl, hs, ha, hv, hr⟩ := h
  simp only [List.drop_zero] at hv
  rw [hv]
  constructor
  · rw [Nat.mul_comm, Nat.mul_add_div (by omega), Nat.div_eq_of_lt hr, Nat.add_zero]
  · rw [Nat.mul_comm, Nat.mul_add_mod, Nat.mod_eq_of_lt hr]
end Dig

set_option maxHeartbeats 1000000 in
theorem divd_c (w : World) (g n : Nat) (post : List Value) (xs : List Nat) (c d : Nat) (hs : Seg w g [] xs post) (hn : xs.length = n) (hx : Small xs) (hc : n ≤ c ∧ c ≤ 9223372036854775807) (hd0 : 0 < d) (hd : d < 4294967296) :
    Calls Try.prog 70 #[.slice (some ⟨g, 0, none⟩) n c, .int .u32 (d : Int)] w fun e w' => e = .returned (.int .u32 ((val xs % d : Nat) : Int)) ∧ InPlace w g [] n (val xs / d) post w' := by
  have hD0 : (0 : Int) < (d : Int) := by omega
  have hne : ((d : Int) == 0) = false := by rw [beq_eq_false_iff_ne]; omega
  obtain ⟨hc1, hc2⟩ := hc
  have hlen : (n : Int) ≤ 9223372036854775807 := by omega
  have HN := Lib.hid hn
  clear hn
  go_enter Try.func70, Try.ntmps70
  go_wp2_with fail
  go_loopw [5, 6] (fun rr i wr => ∃ (k r : Nat) (zs : List Nat), k ≤ n ∧ i = .int .i64 ((k : Int) - 1) ∧ rr = .int .u64 r ∧ DivRel xs zs k d r ∧ Seg wr g [] zs post ∧ w.grownBy wr (some g) ∧ wr.heap.size = w.heap.size) (fun _ i _ => (intOf i + 1).toNat)
  case atStart => exact ⟨n, 0, xs, Nat.le_refl _, rfl, rfl, by rw [← HN.out]; exact DivRel.start xs hx d hd0, hs, World.grownBy.refl w _, rfl⟩
  case round =>
    obtain ⟨k, r, zs, hk, rfl, rfl, hr, hseg, hgr, hsz⟩ := hrel
    have hzl : zs.length = n := hr.1.trans HN.out
    have hrd := hr.2.2.2.2
    rcases Nat.eq_zero_or_pos k with h0 | h0
    · subst h0
      have HE := Lib.hid hr.done
      have HS := Lib.hid hr.2.1
      have HL := Lib.hid hzl
      have hru : (r : Int) < 4294967296 := by omega
      clear hzl hr
      go_wp2_with fail
      go_ret
      exact ⟨ret_eq (show Value.int .u32 (r : Int) = _ by rw [HE.out.2]), zs, HL.out, HS.out, HE.out.1, hseg, hgr, hsz⟩
    · obtain ⟨j, rfl⟩ : ∃ j, k = j + 1 := ⟨k - 1, by omega⟩
      have hcx := hseg.cell0 (j := j) (by omega)
      have hfx := hseg.frozen j
      have bx := hr.2.1.get j
      generalize hxx : zs.getD j 0 = x at hcx bx
      have hlx := HN.out
      have HSTEP := hr.step (by omega) hxx hd
      have hq := HSTEP.2
      have HR := Lib.hid HSTEP.1
      have e0 := or_u64 x r bx (by omega)
      have hsb : x + 4294967296 * r < 18446744073709551616 := by omega
      generalize x + 4294967296 * r = s at *
      have e1 : (s : Int) / (d : Int) = ((s / d : Nat) : Int) := rfl
      have hq1 : (s : Int) / (d : Int) < 4294967296 := by rw [e1]; omega
      have hq0 : 0 ≤ (s : Int) / (d : Int) := by rw [e1]; exact Int.natCast_nonneg _
      have HS := Lib.hid (hseg.put0 j (s / d) _ (by omega) e1)
      have HG := Lib.hid (grown_set hgr j (.int .u32 ((s : Int) / (d : Int))))
      have HZ := Lib.hid hsz
      have hrb : (r : Int) < 4294967296 := by omega
      have hjn : (j : Int) < n := by omega
      rw [show (((j + 1 : Nat) : Int) - 1) = (j : Int) by omega]
      clear hr hseg hgr hsz hxx HSTEP hlx hzl hq e1
      go_wp2_with fail
      go_roundw
      case rel => exact ⟨j, s % d, _, by omega, by go_num, rfl, HR.out, HS.out, HG.out, by rw [size_set]; exact HZ.out⟩
      case measure => simp [intOf]
end Go.Proofs.Ytkdnmmbnljaahaa

/- The contract of isDecimal. -/
namespace Go.Proofs.Ytkdnmmbnljaahaa
open Go.RowKit Dig
set_option linter.unusedVariables false

/-- The letters of a string. -/
def chars (s : ByteArray) : List UInt8 := s.data.toList
theorem chars_length (s : ByteArray) : (chars s).length = s.size := by simp [chars]

theorem wp_bytes {w : World} {ops : Array Oper} {rest : List Oper} {o : Oper} {a : Act} {Q : Exit → Act → World → Prop} (hgd : o.guard = none) (x : Operand) (hop : o.op = .convert 9 23 x) (s : ByteArray) (hx : a.eval x = .string s)
    (h : ∀ w' c, (∀ j, j < (chars s).length → w'.cell? ⟨w.heap.size, j, none⟩ = some (.int .u8 (((chars s).getD j 0).toNat : Int))) → Below w.heap.size w w' → s.size ≤ c → wpList Try.prog ops Q rest (a.put o.dst (.slice (some ⟨w.heap.size, 0, none⟩) s.size c)) w') :
    wpList Try.prog ops Q (o :: rest) a w := by
  refine wpList_plain hgd fun K hK => ?_
  have hrun := run_bytes_of_string (P := Try.prog) w 9 23 5 s Try.underlying9 Try.underlying23 Try.underlying5
  unfold Oper.wp
  simp only [execOp, hop, hx, hrun, Result.andThen, Sem.run_bind, Sem.run_pure]
  refine hK _ _ (h _ _ ?_ ?_ (grownCap_ge _ _ _ _))
  · intro j hj
    have hc := World.cell?_alloc_mark w.drew (bytesRow s (grownCap w s.size 0 5)) 5 ((bytesRow s (grownCap w s.size 0 5)).size, (bytesRow s (grownCap w s.size 0 5)).size + 1) j
    have hj' : j < s.data.size := by simpa [chars] using hj
    refine hc.trans ?_
    rw [bytesRow_at s _ j hj']
    simp [chars, List.getD_eq_getElem?_getD]
    rw [Array.getElem?_eq_getElem hj']
    rfl
  · exact ((Below.refl _ _).drew).alloc (Nat.le_refl _) _



theorem toList_chars (s : ByteArray) : s.toList = chars s := ByteArray.toList_eq s

theorem lead_eq (s : ByteArray) (hp : 0 < s.size) : (s.toList == [48] || !s.toList.isEmpty && (((s[0]'hp).toNat : Int) != 48)) = lead (chars s) := by
  rw [lead, toList_chars]
  congr 2
  have h1 : 0 < s.data.size := hp
  have e : (chars s).headD 0 = s[0]'hp := by
    unfold chars
    rw [List.headD_eq_head?_getD, List.head?_eq_getElem?, List.getElem?_eq_getElem (by simpa using h1)]
    rfl
  rw [e, Bool.eq_iff_iff, bne_iff_ne, bne_iff_ne, Ne, Ne, ← UInt8.toNat_inj]
  have : (48 : UInt8).toNat = 48 := rfl
  omega


end Go.Proofs.Ytkdnmmbnljaahaa

/- Plain lemmas: digits out of big-endian bytes, one byte after another. -/
import Derived.Test.YtkdnmmbnljaahaaBytes
import Derived.Test.YtkdnmmbnljaahaaPlain
namespace Go.Proofs.Ytkdnmmbnljaahaa
namespace Dig
theorem beV_take_succ (bs : List UInt8) (k : Nat) (h : k < bs.length) : beV (bs.take (k + 1)) = beV (bs.take k) * 256 + (bs.getD k 0).toNat := by
  rw [List.take_succ_eq_append_getElem h, beV_snoc]
  simp [List.getD_eq_getElem?_getD, h]
theorem beV_lead (bs : List UInt8) (h0 : bs ≠ []) (h : noLead bs) : 256 ^ (bs.length - 1) ≤ beV bs := by
  have := beB_ge (beV_pos bs h h0)
  rwa [beB_uniq bs h] at this
theorem pow256 (q : Nat) : (4294967296 : Nat) ^ q = 256 ^ (4 * q) := by
  rw [show (4294967296 : Nat) = 256 ^ 4 from rfl, ← Nat.pow_mul]
/-- Digits with no more room than the bytes ask for are canonical. -/
theorem be_canon (zs : List Nat) (L : Nat) (hs : Small zs) (hl : zs.length = (L + 3) / 4) (hL : 0 < L) (hv : 256 ^ (L - 1) ≤ val zs) : dg (val zs) = zs := by
  refine dg_canon zs ⟨hs, fun h => ?_⟩
  have hp : 0 < zs.length := by omega
  rw [List.getLast?_eq_getElem?, List.getElem?_eq_getElem (by omega)] at h
  have h0 : zs.getD (zs.length - 1) 0 = 0 := by
    rw [List.getD_eq_getElem?_getD, List.getElem?_eq_getElem (by omega)]
    simpa using h
  have e := val_take_succ zs (zs.length - 1) (by omega)
  rw [show zs.length - 1 + 1 = zs.length by omega, List.take_of_length_le (Nat.le_refl _), h0, Nat.mul_zero, Nat.add_zero] at e
  have hlt := val_lt (zs.take (zs.length - 1)) (hs.take _)
  rw [← e, List.length_take, Nat.min_eq_left (by omega), pow256] at hlt
  have : 256 ^ (4 * (zs.length - 1)) ≤ 256 ^ (L - 1) := Nat.pow_le_pow_right (by omega) (by omega)
  omega
/-- The first k bytes lie in the digits. -/
def BeRel (bs : List UInt8) (zs : List Nat) (k : Nat) : Prop := zs.length = (bs.length + 3) / 4 ∧ Small zs ∧ val zs = beV (bs.take k) * 256 ^ (bs.length - k)
theorem BeRel.start (bs : List UInt8) : BeRel bs (List.replicate ((bs.length + 3) / 4) 0) 0 := ⟨by simp, Small.replicate _, by rw [val_replicate]; simp [beV]⟩
theorem BeRel.digit {bs : List UInt8} {zs : List Nat} {k p : Nat} (h : BeRel bs zs k) (hp : bs.length = p + 1 + k) : 256 ^ (p % 4 + 1) ∣ zs.getD (p / 4) 0 := by
  obtain ⟨hl, hs, hv⟩ := h
  have hq : p / 4 < zs.length := by omega
  have hd := digit_of_val zs hs (p / 4) hq
  rw [hv, show bs.length - k = 4 * (p / 4) + (p % 4 + 1) by omega, Nat.pow_add, ← pow256] at hd
  rw [hd]
  generalize beV (bs.take k) = m
  have e : m * (4294967296 ^ (p / 4) * 256 ^ (p % 4 + 1)) / 4294967296 ^ (p / 4) = m * 256 ^ (p % 4 + 1) := by
    rw [Nat.mul_left_comm]
    exact Nat.mul_div_cancel_left _ (Nat.pow_pos (by omega))
  rw [e]
  have h4 : p % 4 = 0 ∨ p % 4 = 1 ∨ p % 4 = 2 ∨ p % 4 = 3 := by omega
  have h256 : 256 ^ (p % 4 + 1) ∣ 4294967296 := by
    rcases h4 with h | h | h | h <;> rw [h] <;> decide
  exact (Nat.dvd_mod_iff h256).2 (Nat.dvd_mul_left _ _)
theorem BeRel.step {bs : List UInt8} {zs : List Nat} {k p x d : Nat} (h : BeRel bs zs k) (hp : bs.length = p + 1 + k) (hx : (bs.getD k 0).toNat = x) (hd : zs.getD (p / 4) 0 = d) :
    d + x * 256 ^ (p % 4) < 4294967296 ∧ BeRel bs (zs.set (p / 4) (d + x * 256 ^ (p % 4))) (k + 1) := by
  have hdv := h.digit hp
  rw [hd] at hdv
  obtain ⟨hl, hs, hv⟩ := h
  have hq : p / 4 < zs.length := by omega
  have hxb : x < 256 := by rw [← hx]; exact oct_lt _
  have hdb : d < 4294967296 := by rw [← hd]; exact hs.get _
  have h4 : p % 4 = 0 ∨ p % 4 = 1 ∨ p % 4 = 2 ∨ p % 4 = 3 := by omega
  have hlt : d + x * 256 ^ (p % 4) < 4294967296 := by
    rcases h4 with h | h | h | h <;> rw [h] at hdv ⊢ <;> simp at hdv ⊢ <;> omega
  refine ⟨hlt, by simpa using hl, hs.set _ _ hlt, ?_⟩
  have e := val_set zs (p / 4) (d + x * 256 ^ (p % 4)) hq
  rw [hd, hv, Nat.mul_add] at e
  rw [beV_take_succ bs k (by omega), hx, show bs.length - (k + 1) = p by omega]
  rw [show bs.length - k = p + 1 by omega, Nat.pow_succ] at e
  have e2 : 4294967296 ^ (p / 4) * (x * 256 ^ (p % 4)) = x * 256 ^ p := by
    rw [Nat.mul_left_comm, pow256, ← Nat.pow_add]
    congr 2
    omega
  rw [e2] at e
  rw [Nat.add_mul, Nat.mul_assoc, Nat.mul_comm 256]
  omega
theorem BeRel.done {bs : List UInt8} {zs : List Nat} (h : BeRel bs zs bs.length) (h0 : bs ≠ []) (hn : noLead bs) : zs = dg (beV bs) := by
  obtain ⟨hl, hs, hv⟩ := h
  rw [List.take_of_length_le (Nat.le_refl _), Nat.sub_self, Nat.pow_zero, Nat.mul_one] at hv
  have := be_canon zs bs.length hs hl (List.length_pos_iff.2 h0) (by rw [hv]; exact beV_lead bs h0 hn)
  rw [hv] at this
  exact this.symm
end Dig
theorem or_byte (d x r : Nat) (hx : x < 256) (hd : 256 ^ (r + 1) ∣ d) (hlt : d + x * 256 ^ r < 4294967296) : bits .or .u32 (d : Int) ((x * 256 ^ r : Nat) : Int) = ((d + x * 256 ^ r : Nat) : Int) := by
  rw [u32_or_nat d (x * 256 ^ r) (by omega) (by omega)]
  congr 1
  obtain ⟨t, rfl⟩ := hd
  have hb : x * 256 ^ r < 2 ^ (8 * (r + 1)) := by
    rw [Nat.pow_mul, show (2 : Nat) ^ 8 = 256 from rfl, Nat.pow_succ, Nat.mul_comm (256 ^ r)]
    exact Nat.mul_lt_mul_of_pos_right hx (Nat.pow_pos (by omega))
  have h := Nat.shiftLeft_add_eq_or_of_lt hb t
  rw [Nat.shiftLeft_eq, Nat.pow_mul, show (2 : Nat) ^ 8 = 256 from rfl, Nat.mul_comm t] at h
  exact h.symm
end Go.Proofs.Ytkdnmmbnljaahaa

/- Bits that are read are those that were written. -/
import Derived.Test.YtgmigcmhnmmdkaaCoBwC4
set_option linter.all false
set_option maxRecDepth 100000
namespace Go.Proofs.Ytgmigcmhnmmdkaa
def bitB (l : List UInt8) (j : Nat) : Bool := (l.getD (j / 8) 0).toNat.testBit (7 - j % 8)
theorem bor8 {a b : Nat} (ha : a < 256) (hb : b < 256) : bor 8 a b = a ||| b := by
  unfold bor
  rw [BitVec.toNat_or, BitVec.toNat_ofNat, BitVec.toNat_ofNat, Nat.mod_eq_of_lt (by omega), Nat.mod_eq_of_lt (by omega)]
theorem shl_bit {x s : Nat} (hx : x < 2) (hs : s ≤ 7) : bshl 64 x s % 256 = x * 2 ^ s := by
  have h1 : 2 ^ s ≤ 2 ^ 7 := Nat.pow_le_pow_right (by decide) hs
  have h2 : x * 2 ^ s ≤ 1 * 2 ^ s := Nat.mul_le_mul_right _ (by omega)
  unfold bshl
  rw [Nat.mod_eq_of_lt (a := x * 2 ^ s) (b := 2 ^ 64) (by omega), Nat.mod_eq_of_lt (by omega)]
theorem bit_add {l : List UInt8} {n x j : Nat} (hx : x < 2) (hl : l.length = (n + 7) / 8) : bitB (addB l n x) j = (bitB l j || (decide (j = n) && decide (x = 1))) := by
  unfold addB
  generalize hm : (if n % 8 = 0 then l ++ [0] else l) = m
  have hml : m.length = n / 8 + 1 := by
    rw [← hm]; split
    · rw [List.length_append, hl]; simp; omega
    · rw [hl]; omega
  have hmg : ∀ i, m.getD i 0 = l.getD i 0 := fun i => by
    rw [← hm]; split
    · rw [List.getD_eq_getElem?_getD, List.getD_eq_getElem?_getD]
      rcases Nat.lt_trichotomy i l.length with h | h | h
      · rw [List.getElem?_append_left h]
      · subst h; simp
      · rw [List.getElem?_eq_none (by simp; omega), List.getElem?_eq_none (by omega)]
    · rfl
  have hidx : m.length - 1 = n / 8 := by omega
  rw [hidx]
  have hs : 7 - n % 8 ≤ 7 := by omega
  unfold bitB
  by_cases hj : j / 8 = n / 8
  · have e : (m.set (n / 8) (UInt8.ofNat (bor 8 (m.getD (n / 8) 0).toNat (bshl 64 x (7 - n % 8) % 256)))).getD (j / 8) 0 = UInt8.ofNat (bor 8 (m.getD (n / 8) 0).toNat (bshl 64 x (7 - n % 8) % 256)) := by
      rw [hj, List.getD_eq_getElem?_getD, List.getElem?_set_self (by omega)]; rfl
    have hlt : x * 2 ^ (7 - n % 8) < 256 := by
      have h1 : 2 ^ (7 - n % 8) ≤ 2 ^ 7 := Nat.pow_le_pow_right (by decide) hs
      have h2 : x * 2 ^ (7 - n % 8) ≤ 1 * 2 ^ (7 - n % 8) := Nat.mul_le_mul_right _ (by omega)
      omega
    rw [e, ofNat_toNat (show bor 8 _ _ < 256 from BitVec.isLt _), shl_bit hx hs, bor8 (byte_lt _) hlt, Nat.testBit_or, hmg, ← hj]
    congr 1
    have : x = 0 ∨ x = 1 := by omega
    rcases this with rfl | rfl
    · simp
    · rw [Nat.one_mul, Nat.testBit_two_pow]
      by_cases hjn : j = n
      · subst hjn; simp
      · have : ¬ (7 - n % 8 = 7 - j % 8) := by omega
        simp [hjn, this]
  · have e : (m.set (n / 8) (UInt8.ofNat (bor 8 (m.getD (n / 8) 0).toNat (bshl 64 x (7 - n % 8) % 256)))).getD (j / 8) 0 = l.getD (j / 8) 0 := by
      rw [← hmg, List.getD_eq_getElem?_getD, List.getElem?_set_ne (by omega), List.getD_eq_getElem?_getD]
    have hjn : ¬ j = n := fun q => hj (by rw [q])
    rw [e]; simp [hjn]
theorem pk_bit (bs : List Bool) : ∀ j, bitB (pk bs) j = bs.getD j false := by
  induction h : bs.length generalizing bs with
  | zero => intro j; rw [List.eq_nil_of_length_eq_zero h]; unfold bitB; show Nat.testBit (([] : List UInt8).getD (j / 8) 0).toNat _ = _; simp
  | succ n ih =>
    intro j
    have hne : bs ≠ [] := fun e => by rw [e] at h; cases h
    obtain ⟨cs, b, rfl⟩ : ∃ cs b, bs = cs ++ [b] := ⟨bs.dropLast, bs.getLast hne, (List.dropLast_concat_getLast hne).symm⟩
    have hc : cs.length = n := by simpa using h
    have hb : b.toNat < 2 := by cases b <;> decide
    rw [pk_snoc, bit_add hb (pk_len cs), ih cs hc j, hc]
    have hb1 : decide (b.toNat = 1) = b := by cases b <;> rfl
    rw [hb1, List.getD_eq_getElem?_getD, List.getD_eq_getElem?_getD]
    rcases Nat.lt_trichotomy j n with q | q | q
    · have : ¬ j = n := by omega
      rw [List.getElem?_append_left (by omega)]; simp [this]
    · subst q
      rw [List.getElem?_eq_none (by omega), ← hc]; simp
    · have : ¬ j = n := by omega
      rw [List.getElem?_eq_none (by omega), List.getElem?_eq_none (by simp; omega)]; simp [this]
end Go.Proofs.Ytgmigcmhnmmdkaa


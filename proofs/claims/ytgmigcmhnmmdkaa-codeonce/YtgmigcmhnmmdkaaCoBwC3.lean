/- Bits in a row that are turned are seen. -/
import Derived.Test.YtgmigcmhnmmdkaaCoBwC2
set_option linter.all false
set_option maxRecDepth 100000
namespace Go.Proofs.Ytgmigcmhnmmdkaa
theorem xor_add (k : Nat) {a : Nat} (V : Nat) (h : a < 2 ^ k) : a ^^^ (2 ^ k * V) = a + 2 ^ k * V := by
  rw [Nat.add_comm]
  apply Nat.eq_of_testBit_eq
  intro j
  rw [Nat.testBit_xor, Nat.testBit_two_pow_mul_add _ h, Nat.testBit_two_pow_mul]
  by_cases hj : j < k
  · have : ¬ j ≥ k := by omega
    simp [hj, this]
  · have h2 : j ≥ k := by omega
    have h3 : a.testBit j = false := Nat.testBit_lt_two_pow (Nat.lt_of_lt_of_le h (Nat.pow_le_pow_right (by decide) h2))
    simp [hj, h2, h3]
theorem xor4 (a b c d : Nat) : (a ^^^ b) ^^^ (c ^^^ d) = (a ^^^ c) ^^^ (b ^^^ d) := by
  rw [Nat.xor_assoc, Nat.xor_assoc, ← Nat.xor_assoc b, Nat.xor_comm b c, Nat.xor_assoc c]
theorem crcBit_xor (a b : Nat) : crcBit (a ^^^ b) = crcBit a ^^^ crcBit b := by
  unfold crcBit
  rw [xor_half, xor4]
  congr 1
  have h1 : a % 2 = 0 ∨ a % 2 = 1 := by omega
  have h2 : b % 2 = 0 ∨ b % 2 = 1 := by omega
  have h3 := xor_odd a b
  rcases h1 with h1 | h1 <;> rcases h2 with h2 | h2 <;> rw [h1, h2] at h3
  · rw [if_neg (by rw [h3]; omega), if_neg (by omega), if_neg (by omega)]; rfl
  · rw [if_pos (by rw [h3]; omega), if_neg (by omega), if_pos h2]; rfl
  · rw [if_pos (by rw [h3]; omega), if_pos h1, if_neg (by omega)]; rfl
  · rw [if_neg (by rw [h3]; omega), if_pos h1, if_pos h2, Nat.xor_self]
theorem crcBits_xor : ∀ (k a b : Nat), crcBits k (a ^^^ b) = crcBits k a ^^^ crcBits k b
  | 0, _, _ => rfl
  | k + 1, a, b => by rw [crcBits_succ, crcBit_xor, crcBits_xor k]; rfl
theorem crcBits_shift : ∀ (k y : Nat), crcBits k (2 ^ k * y) = y
  | 0, y => by rw [Nat.pow_zero, Nat.one_mul]; rfl
  | k + 1, y => by
    have : crcBit (2 ^ (k + 1) * y) = 2 ^ k * y := by
      unfold crcBit
      have e : 2 ^ (k + 1) * y = 2 * (2 ^ k * y) := by rw [Nat.pow_succ, Nat.mul_comm (2 ^ k) 2, Nat.mul_assoc]
      rw [e, if_neg (by omega), Nat.xor_zero]; omega
    rw [crcBits_succ, this]; exact crcBits_shift k y
theorem crcBits_add : ∀ (j k r : Nat), crcBits (j + k) r = crcBits k (crcBits j r)
  | 0, k, r => by rw [Nat.zero_add]; rfl
  | j + 1, k, r => by rw [Nat.add_right_comm, crcBits_succ, crcBits_add j k]; rfl
def val : List UInt8 → Nat
  | [] => 0
  | b :: l => b.toNat + 256 * val l
theorem val_cons (b : UInt8) (l : List UInt8) : val (b :: l) = b.toNat ^^^ (256 * val l) := (xor_add 8 (val l) (byte_lt b)).symm
theorem crc_val : ∀ (l : List UInt8) (r : Nat), crc r l = crcBits (8 * l.length) (r ^^^ val l)
  | [], r => by show r = crcBits 0 (r ^^^ 0); rw [Nat.xor_zero]; rfl
  | b :: l, r => by
    show crc (crcBits 8 (r ^^^ b.toNat)) l = _
    rw [crc_val l, List.length_cons, Nat.mul_add, Nat.mul_one, Nat.add_comm (8 * l.length), crcBits_add, val_cons, ← Nat.xor_assoc, crcBits_xor 8 (r ^^^ b.toNat), show 256 * val l = 2 ^ 8 * val l from rfl, crcBits_shift]
/-- What was turned so far. -/
def Turned (p q : List UInt8) (a i : Nat) (same : Bool) : Prop := q.length = p.length ∧ ∃ E, E < 2 ^ i ∧ val q = val p ^^^ 2 ^ a * E ∧ (same = false → E ≠ 0)
theorem Turned.start (p : List UInt8) (a : Nat) : Turned p p a 0 true := ⟨rfl, 0, by decide, by rw [Nat.mul_zero, Nat.xor_zero], fun h => by cases h⟩
theorem Turned.skip {p q : List UInt8} {a i : Nat} {s : Bool} (h : Turned p q a i s) : Turned p q a (i + 1) s := by
  obtain ⟨hl, E, h1, h2, h3⟩ := h
  exact ⟨hl, E, Nat.lt_of_lt_of_le h1 (Nat.pow_le_pow_right (by decide) (by omega)), h2, h3⟩
theorem Turned.seen {p q : List UInt8} {a : Nat} (h : Turned p q a 32 false) (ha : a < 8 * p.length) : 4294967295 - crc 4294967295 q ≠ 4294967295 - crc 4294967295 p := by
  obtain ⟨hl, E, h1, h2, h3⟩ := h
  have b1 := crc_lt q (show 4294967295 < 4294967296 by decide)
  have b2 := crc_lt p (show 4294967295 < 4294967296 by decide)
  intro e
  have e2 : crc 4294967295 q = crc 4294967295 p := by omega
  rw [crc_val, crc_val, hl, h2, ← Nat.xor_assoc, crcBits_xor] at e2
  have e3 : crcBits (8 * p.length) (2 ^ a * E) = 0 := xor_inj (a := crcBits (8 * p.length) (4294967295 ^^^ val p)) (by rw [e2, Nat.xor_zero])
  rw [show 8 * p.length = a + (8 * p.length - a) by omega, crcBits_add, crcBits_shift] at e3
  have z : ∀ k, crcBits k 0 = 0 := fun k => by
    induction k with
    | zero => rfl
    | succ k ih => exact ih
  exact h3 rfl (crcBits_inj _ h1 (by decide) (e3.trans (z _).symm))
end Go.Proofs.Ytgmigcmhnmmdkaa


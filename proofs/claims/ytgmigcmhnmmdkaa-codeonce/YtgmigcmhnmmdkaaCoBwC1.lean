/- The sum, as a function of numbers. -/
import Derived.Test.YtgmigcmhnmmdkaaCoBwB1
set_option linter.all false
set_option maxRecDepth 100000
namespace Go.Proofs.Ytgmigcmhnmmdkaa
open Go.RowKit Go.Sep

def crcBit (r : Nat) : Nat := (r / 2) ^^^ (if r % 2 = 1 then 3988292384 else 0)
def crcBits : Nat → Nat → Nat
  | 0, r => r
  | k + 1, r => crcBits k (crcBit r)
def crc : Nat → List UInt8 → Nat
  | r, [] => r
  | r, b :: l => crc (crcBits 8 (r ^^^ b.toNat)) l
theorem xor_lt32 {a b : Nat} (ha : a < 4294967296) (hb : b < 4294967296) : a ^^^ b < 4294967296 :=
  Nat.xor_lt_two_pow (n := 32) ha hb
theorem crcBit_lt {r : Nat} (h : r < 4294967296) : crcBit r < 4294967296 := by
  unfold crcBit
  refine xor_lt32 (by omega) ?_
  split <;> omega
theorem crcBits_lt : ∀ (k : Nat) {r : Nat}, r < 4294967296 → crcBits k r < 4294967296
  | 0, _, h => h
  | k + 1, _, h => crcBits_lt k (crcBit_lt h)
theorem byte_lt (b : UInt8) : b.toNat < 256 := b.toNat_lt
theorem crc_lt : ∀ (l : List UInt8) {r : Nat}, r < 4294967296 → crc r l < 4294967296
  | [], _, h => h
  | b :: l, _, h => crc_lt l (crcBits_lt 8 (xor_lt32 h (by have := byte_lt b; omega)))
/-- the document's step -/
theorem xor_half (r b : Nat) : (r ^^^ b) / 2 = r / 2 ^^^ b / 2 := Nat.xor_div_two
theorem xor_odd (r b : Nat) : (r ^^^ b) % 2 = 1 ↔ r % 2 ≠ b % 2 := by
  have h := Nat.xor_mod_two_pow (a := r) (b := b) (n := 1)
  rw [Nat.pow_one] at h
  rw [h]
  have h1 : r % 2 = 0 ∨ r % 2 = 1 := by omega
  have h2 : b % 2 = 0 ∨ b % 2 = 1 := by omega
  rcases h1 with h1 | h1 <;> rcases h2 with h2 | h2 <;> rw [h1, h2] <;> decide
theorem crcBits_succ (k r : Nat) : crcBits (k + 1) r = crcBits k (crcBit r) := rfl
def le4 (l : List UInt8) : Nat := (l.getD 0 0).toNat + 256 * (l.getD 1 0).toNat + 65536 * (l.getD 2 0).toNat + 16777216 * (l.getD 3 0).toNat
theorem or_add {a b i : Nat} (h : a < 2 ^ i) : a ||| (b * 2 ^ i) = a + b * 2 ^ i := by
  rw [Nat.or_comm, Nat.mul_comm b, ← Nat.two_pow_add_eq_or_of_lt h, Nat.add_comm]
end Go.Proofs.Ytgmigcmhnmmdkaa


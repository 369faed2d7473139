/- Bits that are read are those that were written. -/
import Derived.Test.YtpnlaeapnokipaaGC4
set_option linter.all false
set_option maxRecDepth 100000
namespace Go.Proofs.Ytpnlaeapnokipaa
def bitB (l : List UInt8) (j : Nat) : Bool := (l.getD (j / 8) 0).toNat.testBit (7 - j % 8)
def rd (l : List UInt8) (a : Nat) : Nat → Nat
  | 0 => 0
  | i + 1 => 2 * rd l a i + (bitB l (a + i)).toNat
theorem rd_lt (l : List UInt8) (a : Nat) : ∀ i, rd l a i < 2 ^ i
  | 0 => by show 0 < 1; decide
  | i + 1 => by
    have := rd_lt l a i
    have hb : (bitB l (a + i)).toNat ≤ 1 := Bool.toNat_le _
    rw [rd, Nat.pow_succ]; omega
theorem bit_read {l : List UInt8} {j : Nat} : (l.getD (j / 8) 0).toNat / 2 ^ (7 - j % 8) % 2 = (bitB l j).toNat := by
  unfold bitB
  rw [Nat.testBit_eq_decide_div_mod_eq]
  have : (l.getD (j / 8) 0).toNat / 2 ^ (7 - j % 8) % 2 = 0 ∨ (l.getD (j / 8) 0).toNat / 2 ^ (7 - j % 8) % 2 = 1 := by omega
  rcases this with q | q <;> rw [q] <;> rfl
theorem bor64_one {n b : Nat} (hn : n < 9223372036854775808) (hb : b < 2) : bor 64 (bshl 64 n 1) b = 2 * n + b := by
  have e : bshl 64 n 1 = n * 2 ^ 1 := by unfold bshl; omega
  unfold bor
  rw [e, BitVec.toNat_or, BitVec.toNat_ofNat, BitVec.toNat_ofNat, Nat.mod_eq_of_lt (by omega), Nat.mod_eq_of_lt (by omega), Nat.or_comm, or_add (i := 1) (by omega)]
  omega
end Go.Proofs.Ytpnlaeapnokipaa

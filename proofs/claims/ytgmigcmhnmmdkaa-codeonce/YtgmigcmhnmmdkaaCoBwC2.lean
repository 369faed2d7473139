/- Frames; a byte that is turned is seen. -/
import Derived.Test.YtgmigcmhnmmdkaaCoBwC1
set_option linter.all false
set_option maxRecDepth 100000
namespace Go.Proofs.Ytgmigcmhnmmdkaa
theorem ofNat_toNat {n : Nat} (h : n < 256) : (UInt8.ofNat n).toNat = n := UInt8.toNat_ofNat_of_lt' h
theorem xor_inj {a b c : Nat} (e : a ^^^ b = a ^^^ c) : b = c := by
  have h := congrArg (fun x => a ^^^ x) e
  simpa [← Nat.xor_assoc] using h
theorem crcBit_inj {r r' : Nat} (h : r < 4294967296) (h' : r' < 4294967296) (e : crcBit r = crcBit r') : r = r' := by
  have key : ∀ r, r < 4294967296 → (crcBit r).testBit 31 = decide (r % 2 = 1) := fun r h => by
    unfold crcBit
    rw [Nat.testBit_xor, Nat.testBit_lt_two_pow (x := r / 2) (by omega)]
    split
    · rename_i h1; rw [h1]; decide
    · rename_i h1; simp [h1]
  have hp : decide (r % 2 = 1) = decide (r' % 2 = 1) := by rw [← key r h, ← key r' h', e]
  have hq : (r % 2 = 1) = (r' % 2 = 1) := by simpa using hp
  unfold crcBit at e
  by_cases h1 : r % 2 = 1
  · have h2 : r' % 2 = 1 := hq ▸ h1
    rw [if_pos h1, if_pos h2] at e
    have := xor_inj (a := 3988292384) (by simpa [Nat.xor_comm] using e : 3988292384 ^^^ r / 2 = 3988292384 ^^^ r' / 2)
    omega
  · have h2 : ¬ r' % 2 = 1 := fun q => h1 (hq ▸ q)
    rw [if_neg h1, if_neg h2, Nat.xor_zero, Nat.xor_zero] at e
    omega
theorem crcBits_inj : ∀ (k : Nat) {r r' : Nat}, r < 4294967296 → r' < 4294967296 → crcBits k r = crcBits k r' → r = r'
  | 0, _, _, _, _, e => e
  | k + 1, _, _, h, h', e => crcBit_inj h h' (crcBits_inj k (crcBit_lt h) (crcBit_lt h') e)
end Go.Proofs.Ytgmigcmhnmmdkaa


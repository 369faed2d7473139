/- The bits of bytes, one by one. -/
import Derived.Test.YtpnlaeapnokipaaGC13
import Derived.Test.YtpnlaeapnokipaaGB5
set_option linter.all false
set_option maxRecDepth 100000
namespace Go.Proofs.Ytpnlaeapnokipaa
open Go.RowKit Go.Sep
theorem top_bit : ∀ x : Fin 256, ∀ k : Fin 8, decide (128 ≤ x.1 * 2 ^ k.1 % 256) = x.1.testBit (7 - k.1) := by decide +kernel
theorem top_bitB {l : List UInt8} {i k : Nat} (hk : k < 8) : decide (128 ≤ (l.getD i 0).toNat * 2 ^ k % 256) = bitB l (i * 8 + k) := by
  have h := top_bit ⟨(l.getD i 0).toNat, byte_lt _⟩ ⟨k, hk⟩
  simp only at h
  rw [h]
  unfold bitB
  rw [show (i * 8 + k) / 8 = i by omega, show (i * 8 + k) % 8 = k by omega]
theorem bits_snoc {l : List UInt8} {j : Nat} (h : j < l.length * 8) : (bitsL l).take j ++ [bitB l j] = (bitsL l).take (j + 1) := by
  rw [List.take_succ]
  congr 1
  unfold bitsL
  rw [List.getElem?_map, List.getElem?_range h]; rfl
theorem bos_one {I : IM} {k : Nat} {b : Bool} (h : I k = some (.cells #[.bool b] 4)) : BoS I [b] (.slice (some ⟨k, 0, none⟩) 1 1) := by
  refine ⟨some ⟨k, 0, none⟩, 1, rfl, Nat.le_refl _, fun j x hj => ?_⟩
  cases j with
  | zero => simp at hj; subst hj; exact ⟨k, 0, _, _, _, rfl, h, rfl⟩
  | succ j => simp at hj
theorem byte_dbl {x k : Nat} : x * 2 ^ k % 256 * 2 % 256 = x * 2 ^ (k + 1) % 256 := by
  rw [Nat.pow_succ, ← Nat.mul_assoc]; generalize x * 2 ^ k = y; omega
end Go.Proofs.Ytpnlaeapnokipaa

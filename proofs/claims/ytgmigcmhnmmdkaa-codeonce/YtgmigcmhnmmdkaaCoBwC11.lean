/- Bits that are read of a list of bits. -/
import Derived.Test.YtgmigcmhnmmdkaaCoBwC5
import Derived.Test.YtgmigcmhnmmdkaaCoBwB1
set_option linter.all false
set_option maxRecDepth 100000
namespace Go.Proofs.Ytgmigcmhnmmdkaa
def rdB (bs : List Bool) : Nat → Nat
  | 0 => 0
  | i + 1 => 2 * rdB bs i + (bs.getD i false).toNat
/-- the bits of bytes -/
def bitsL (l : List UInt8) : List Bool := (List.range (l.length * 8)).map fun i => bitB l i
theorem bitsL_len (l : List UInt8) : (bitsL l).length = l.length * 8 := by unfold bitsL; simp
theorem bitsL_get {l : List UInt8} {p i : Nat} (h : p + i < l.length * 8) : ((bitsL l).drop p).getD i false = bitB l (p + i) := by
  rw [List.getD_eq_getElem?_getD, List.getElem?_drop]
  unfold bitsL
  rw [List.getElem?_map, List.getElem?_range h]; rfl
theorem dropB_len {l : List UInt8} {p : Nat} : ((bitsL l).drop p).length = l.length * 8 - p := by rw [List.length_drop, bitsL_len]
end Go.Proofs.Ytgmigcmhnmmdkaa


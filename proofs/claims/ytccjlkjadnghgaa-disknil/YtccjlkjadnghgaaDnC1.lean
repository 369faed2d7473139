/- The sum, as a function of numbers. -/
import Derived.Test.YtccjlkjadnghgaaDnB1
set_option linter.all false
set_option maxRecDepth 100000
namespace Go.Proofs.Ytccjlkjadnghgaa
open Go.RowKit Go.Sep

def le4 (l : List UInt8) : Nat := (l.getD 0 0).toNat + 256 * (l.getD 1 0).toNat + 65536 * (l.getD 2 0).toNat + 16777216 * (l.getD 3 0).toNat
end Go.Proofs.Ytccjlkjadnghgaa


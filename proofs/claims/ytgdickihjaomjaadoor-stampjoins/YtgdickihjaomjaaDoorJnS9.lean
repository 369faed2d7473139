/-
  Loops; shifts and remainders.
-/
import Derived.Test.YtgdickihjaomjaaDoorJnS8
import Derived.Deep.LoopGhost
set_option linter.all false
namespace Go.Sep
open Go.RowKit
theorem nat_rem {a b : Nat} : Int.tmod (a : Int) (b : Int) = ((a % b : Nat) : Int) := by
  rw [Int.tmod_eq_emod_of_nonneg (by omega)]; rfl
section
variable {P : Program} {Q : Exit → Act → World → Prop} {w0 : World} {I0 : IM} {m : List Nat}
end
end Go.Sep

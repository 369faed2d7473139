/- The program's stamps. -/
import Derived.Test.YtgdickihjaomjaaDoorElI2
set_option linter.all false
set_option maxRecDepth 100000
namespace Go.Proofs.YtgdickihjaomjaaDoor
open Go.RowKit Go.Sep

@[simp] theorem E.top_leaf (n : Nat) : (E.leaf n).top = n := rfl
@[simp] theorem E.depth_leaf (n : Nat) : (E.leaf n).depth = 0 := rfl

end Go.Proofs.YtgdickihjaomjaaDoor

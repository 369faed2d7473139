/- Joins are everywhere the greater; StampJoins. -/
import Derived.Test.YtgdickihjaomjaaDoorEfP20
import Derived.Test.YtgdickihjaomjaaDoorEfP15
import Derived.Test.YtgdickihjaomjaaDoorEfP24
set_option linter.all false
set_option maxRecDepth 100000
namespace Go.Proofs.YtgdickihjaomjaaDoor
open Go.RowKit Go.Sep

/-- A tree of the law's: in its form, not deep, not high. -/
def E.ok (e : E) : Prop := e.nf ∧ e.depth ≤ 6 ∧ e.top ≤ 100
end Go.Proofs.YtgdickihjaomjaaDoor

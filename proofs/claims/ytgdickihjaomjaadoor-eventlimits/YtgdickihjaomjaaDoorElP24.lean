/- The document's Leq, Same, Depth, Check, Tick; StampTicks. -/
import Derived.Test.YtgdickihjaomjaaDoorElP23
import Derived.Test.YtgdickihjaomjaaDoorElP22
import Derived.Test.YtgdickihjaomjaaDoorElP19
set_option linter.all false
set_option maxRecDepth 100000
namespace Go.Proofs.YtgdickihjaomjaaDoor
open Go.RowKit Go.Sep

end Go.Proofs.YtgdickihjaomjaaDoor

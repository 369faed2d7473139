/- The program's stamps: Grow, Tick, Fork, Join. -/
import Derived.Test.YtgdickihjaomjaaDoorEfP2
import Derived.Test.YtgdickihjaomjaaDoorEfE4
import Derived.Test.YtgdickihjaomjaaDoorEfI3
set_option linter.all false
set_option maxRecDepth 100000
namespace Go.Proofs.YtgdickihjaomjaaDoor
open Go.RowKit Go.Sep

end Go.Proofs.YtgdickihjaomjaaDoor

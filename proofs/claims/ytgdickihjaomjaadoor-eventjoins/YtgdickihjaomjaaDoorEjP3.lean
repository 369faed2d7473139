/- The program's stamps: Grow, Tick, Fork, Join. -/
import Derived.Test.YtgdickihjaomjaaDoorEjP2
import Derived.Test.YtgdickihjaomjaaDoorEjE4
import Derived.Test.YtgdickihjaomjaaDoorEjI3
set_option linter.all false
set_option maxRecDepth 100000
namespace Go.Proofs.YtgdickihjaomjaaDoor
open Go.RowKit Go.Sep

end Go.Proofs.YtgdickihjaomjaaDoor

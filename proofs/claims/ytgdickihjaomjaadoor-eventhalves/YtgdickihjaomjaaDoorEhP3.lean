/- The program's stamps: Grow, Tick, Fork, Join. -/
import Derived.Test.YtgdickihjaomjaaDoorEhP2
import Derived.Test.YtgdickihjaomjaaDoorEhE4
import Derived.Test.YtgdickihjaomjaaDoorEhI3
set_option linter.all false
set_option maxRecDepth 100000
namespace Go.Proofs.YtgdickihjaomjaaDoor
open Go.RowKit Go.Sep

end Go.Proofs.YtgdickihjaomjaaDoor

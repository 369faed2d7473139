/- The program's ids: union, Sum, Pair, Text. -/
import Derived.Test.YtgdickihjaomjaaDoorEhI2
set_option linter.all false
set_option maxRecDepth 100000
namespace Go.Proofs.YtgdickihjaomjaaDoor
open Go.RowKit Go.Sep

end Go.Proofs.YtgdickihjaomjaaDoor

/- StampTicks. -/
import Derived.Test.YtgdickihjaomjaaDoorEhP24
set_option linter.all false
set_option maxRecDepth 100000
namespace Go.Proofs.YtgdickihjaomjaaDoor
open Go.RowKit Go.Sep

end Go.Proofs.YtgdickihjaomjaaDoor

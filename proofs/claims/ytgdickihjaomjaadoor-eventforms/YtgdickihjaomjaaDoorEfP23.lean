/- At most, height by height; what growing and ticking do to heights. -/
import Derived.Test.YtgdickihjaomjaaDoorEfP20
import Derived.Test.YtgdickihjaomjaaDoorEfP15
set_option linter.all false
set_option maxRecDepth 100000
namespace Go.Proofs.YtgdickihjaomjaaDoor
open Go.RowKit Go.Sep

end Go.Proofs.YtgdickihjaomjaaDoor

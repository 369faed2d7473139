/- The limits of event trees. -/
import Derived.Test.YtgdickihjaomjaaDoorEhP30
set_option linter.all false
set_option maxRecDepth 100000
namespace Go.Proofs.YtgdickihjaomjaaDoor
open Go.RowKit Go.Sep
attribute [local irreducible] Go.wpList Go.Code.wp
end Go.Proofs.YtgdickihjaomjaaDoor

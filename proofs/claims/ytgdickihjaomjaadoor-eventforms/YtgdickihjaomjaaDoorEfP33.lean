/- Heights are upon the base, half by half. -/
import Derived.Test.YtgdickihjaomjaaDoorEfP32
set_option linter.all false
set_option maxRecDepth 100000
namespace Go.Proofs.YtgdickihjaomjaaDoor
open Go.RowKit Go.Sep
attribute [local irreducible] Go.wpList Go.Code.wp
end Go.Proofs.YtgdickihjaomjaaDoor

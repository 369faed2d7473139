/- own, made of layer 2; joined in any order. -/
import Derived.Test.YtgdickihjaomjaaDoorElP29
set_option linter.all false
set_option maxRecDepth 100000
namespace Go.Proofs.YtgdickihjaomjaaDoor
open Go.RowKit Go.Sep
attribute [local irreducible] Go.wpList Go.Code.wp
end Go.Proofs.YtgdickihjaomjaaDoor

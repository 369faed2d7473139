/- A slice of bytes that came in, as the contracts want it. -/
import Derived.Test.YtgdickihjaomjaaDoorElP12
import Derived.OpenShut
set_option linter.all false
namespace Go.Proofs.YtgdickihjaomjaaDoor
open Go.RowKit Go.Sep

end Go.Proofs.YtgdickihjaomjaaDoor

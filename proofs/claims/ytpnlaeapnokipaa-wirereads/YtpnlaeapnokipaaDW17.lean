/- Numbers and texts in bytes. -/
import Derived.Test.YtpnlaeapnokipaaDW3
import Derived.Test.YtpnlaeapnokipaaDB3
import Derived.Test.YtpnlaeapnokipaaDS11
import Derived.Laws.MakeOwn
import Derived.Test.YtpnlaeapnokipaaDC2
import Derived.Test.YtpnlaeapnokipaaDB6
import Derived.Laws.IdiomStrings
import Derived.Test.YtpnlaeapnokipaaDC6
set_option linter.all false
set_option maxRecDepth 100000
namespace Go.Proofs.Ytpnlaeapnokipaa
open Go.RowKit Go.Sep
attribute [local irreducible] Go.wpList Go.Code.wp

theorem bandn8_lt {a b : Nat} : bandn 8 a b < 256 := BitVec.isLt _
end Go.Proofs.Ytpnlaeapnokipaa

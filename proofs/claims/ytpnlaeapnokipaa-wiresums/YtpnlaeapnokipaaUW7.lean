/- WireFrames. -/
import Derived.Test.YtpnlaeapnokipaaUW3
import Derived.Test.YtpnlaeapnokipaaUB4
import Derived.Test.YtpnlaeapnokipaaUC2
set_option linter.all false
set_option maxRecDepth 100000
namespace Go.Proofs.Ytpnlaeapnokipaa
open Go.RowKit Go.Sep
attribute [local irreducible] Go.wpList Go.Code.wp

theorem bxor8_lt {a b : Nat} : bxor 8 a b < 256 := BitVec.isLt _
end Go.Proofs.Ytpnlaeapnokipaa

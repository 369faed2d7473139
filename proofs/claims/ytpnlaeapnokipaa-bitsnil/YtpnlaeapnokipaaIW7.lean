/- WireFrames. -/
import Derived.Test.YtpnlaeapnokipaaIW3
import Derived.Test.YtpnlaeapnokipaaIB4
import Derived.Test.YtpnlaeapnokipaaIC2
set_option linter.all false
set_option maxRecDepth 100000
namespace Go.Proofs.Ytpnlaeapnokipaa
open Go.RowKit Go.Sep
attribute [local irreducible] Go.wpList Go.Code.wp

theorem bxor8_lt {a b : Nat} : bxor 8 a b < 256 := BitVec.isLt _
end Go.Proofs.Ytpnlaeapnokipaa

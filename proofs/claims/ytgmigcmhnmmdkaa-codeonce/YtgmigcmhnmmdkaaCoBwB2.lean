/- Numbers of 8 and 32 bits; slices of literals; a marked block. -/
import Derived.Test.YtgmigcmhnmmdkaaCoBwC1
set_option linter.all false
set_option maxRecDepth 100000
namespace Go.Proofs.Ytgmigcmhnmmdkaa
open Go.RowKit Go.Sep

theorem under5 : Try.prog.underlying 5 = some (.int .u8) := by kernel_rfl
theorem run_eqnil {w : World} {a : Option Addr} {n c : Nat} : (binOp .eql 22 (.slice a n c) (.slice none 0 0)).run Try.prog w = .ok (.bool a.isNone) w := by
  cases a <;> kernel_rfl
theorem leMono {A I J : IM} (le : I.Le J) (h : A.Le I) : A.Le J := h.trans le
end Go.Proofs.Ytgmigcmhnmmdkaa


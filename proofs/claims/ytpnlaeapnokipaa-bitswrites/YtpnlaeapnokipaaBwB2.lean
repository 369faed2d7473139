/- Numbers of 8 and 32 bits; slices of literals; a marked block. -/
import Derived.Test.YtpnlaeapnokipaaBwC1
set_option linter.all false
set_option maxRecDepth 100000
namespace Go.Proofs.Ytpnlaeapnokipaa
open Go.RowKit Go.Sep

theorem nat_addu8 {a b : Nat} (h : a + b < 256) : IntKind.wrap .u8 ((a : Int) + (b : Int)) = ((a + b : Nat) : Int) := by
  rw [wrapU8 (by omega) (by omega)]; omega
theorem nat_quoI {a b : Nat} (h : a < 9223372036854775808) : IntKind.wrap .i64 (Int.tdiv (a : Int) (b : Int)) = ((a / b : Nat) : Int) := by
  have e : Int.tdiv (a : Int) (b : Int) = ((a / b : Nat) : Int) := rfl
  have : a / b ≤ a := Nat.div_le_self a b
  rw [e]
  generalize a / b = q at this
  exact nat_wrapI (by omega)
theorem under5 : Try.prog.underlying 5 = some (.int .u8) := by kernel_rfl
theorem run_eqnil {w : World} {a : Option Addr} {n c : Nat} : (binOp .eql 34 (.slice a n c) (.slice none 0 0)).run Try.prog w = .ok (.bool a.isNone) w := by
  cases a <;> kernel_rfl
theorem leMono {A I J : IM} (le : I.Le J) (h : A.Le I) : A.Le J := h.trans le
end Go.Proofs.Ytpnlaeapnokipaa

/- WireFrames. -/
import Derived.Test.YtpnlaeapnokipaaRW6
set_option linter.all false
set_option maxRecDepth 100000
namespace Go.Proofs.Ytpnlaeapnokipaa
open Go.RowKit Go.Sep
attribute [local irreducible] Go.wpList Go.Code.wp

theorem openE_c {I : IM} {l q : List UInt8} {a : Option Addr} {n c k : Nat} (hl : BSl I l (.slice a n c)) (hn : l.length ≤ 1000000000) (e : openD l = (q, k, 0)) : Fun Try.prog 40 #[.slice a n c] I (fun v J => ∃ a c, v = .tuple #[.slice a (List.length q) c, .int .i64 ((k : Nat) : Int), .int .i64 0] ∧ BSl J q (.slice a (List.length q) c)) := by
  have := open_c hl hn
  rw [e] at this; exact this
end Go.Proofs.Ytpnlaeapnokipaa

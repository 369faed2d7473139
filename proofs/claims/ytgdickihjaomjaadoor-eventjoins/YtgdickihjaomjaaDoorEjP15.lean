/- Joins of stamps; what splitting and joining keep. -/
import Derived.Test.YtgdickihjaomjaaDoorEjP14
set_option linter.all false
set_option maxRecDepth 100000
namespace Go.Proofs.YtgdickihjaomjaaDoor
open Go.RowKit Go.Sep

theorem E.up_nf {k : Nat} {e : E} (h : e.nf) : (E.up k e).nf := by
  cases e with
  | leaf n => trivial
  | node n l r => exact ⟨h.1, h.2.1, E.mk_iff.2 (E.mk_iff.1 h.2.2)⟩
end Go.Proofs.YtgdickihjaomjaaDoor

/- The document's Grow. -/
import Derived.Test.YtgdickihjaomjaaDoorElP17
set_option linter.all false
set_option maxRecDepth 100000
namespace Go.Proofs.YtgdickihjaomjaaDoor
open Go.RowKit Go.Sep

theorem E.half_nf {e : E} (h : e.nf) : e.left.nf ∧ e.right.nf := by
  cases e with
  | leaf n => exact ⟨trivial, trivial⟩
  | node n l r => exact ⟨h.1, h.2.1⟩
theorem E.base_half (e : E) : e.base + max e.left.top e.right.top = e.top := by cases e <;> rfl
end Go.Proofs.YtgdickihjaomjaaDoor

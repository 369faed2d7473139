/- The program's stamps: Fill, Grow, Tick, Fork, Join. -/
import Derived.Test.YtgdickihjaomjaaDoorElP1
set_option linter.all false
set_option maxRecDepth 100000
namespace Go.Proofs.YtgdickihjaomjaaDoor
open Go.RowKit Go.Sep

theorem T.half_depth (t : T) : t.left.depth ≤ t.depth ∧ t.right.depth ≤ t.depth := by
  cases t with
  | zero => exact ⟨Nat.le_refl _, Nat.le_refl _⟩
  | one => exact ⟨Nat.le_refl _, Nat.le_refl _⟩
  | node l r => exact ⟨show l.depth ≤ 1 + max l.depth r.depth by omega, show r.depth ≤ 1 + max l.depth r.depth by omega⟩
end Go.Proofs.YtgdickihjaomjaaDoor

/- The document's Heights and Has: rows. -/
import Derived.Test.YtgdickihjaomjaaDoorElP20
import Derived.Test.YtgdickihjaomjaaDoorElS9
set_option linter.all false
set_option maxRecDepth 100000
namespace Go.Proofs.YtgdickihjaomjaaDoor
open Go.RowKit Go.Sep

def cU (n : Nat) : Value := .int .u64 ((n : Nat) : Int)
/-- The first cells of block b, which is never written, are xs. -/
def VS (J : IM) (e : TypeId) (xs : List Value) (b : Nat) : Prop := ∃ cur : Array Value, J b = some (.cells cur e) ∧ cur.toList.take xs.length = xs
theorem VS.mono {I J : IM} (le : I.Le J) {e : TypeId} {xs : List Value} {b : Nat} (h : VS I e xs b) : VS J e xs b := by
  obtain ⟨cur, h1, h2⟩ := h
  exact ⟨cur, le _ _ h1, h2⟩
theorem half_top (e : E) : (E.up e.base e.left).top ≤ e.top ∧ (E.up e.base e.right).top ≤ e.top := by
  rw [E.up_top, E.up_top]
  have := E.base_half e
  omega

end Go.Proofs.YtgdickihjaomjaaDoor

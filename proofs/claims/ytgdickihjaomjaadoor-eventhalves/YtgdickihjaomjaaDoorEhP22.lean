/- Rows of heights and places are read; StampFills. -/
import Derived.Test.YtgdickihjaomjaaDoorEhP21
import Derived.Test.YtgdickihjaomjaaDoorEhP14
set_option linter.all false
set_option maxRecDepth 100000
namespace Go.Proofs.YtgdickihjaomjaaDoor
open Go.RowKit Go.Sep

theorem h7 {e : E} {k : Nat} (h : k < 128) : ((hL 7 e).map cU)[k]? = some (.int .u64 ((hAt 7 e k : Nat) : Int)) := by
  rw [List.getElem?_map, hL_get 7 e k h]; rfl
theorem leMono {A I J : IM} (le : I.Le J) (h : A.Le I) : A.Le J := h.trans le

end Go.Proofs.YtgdickihjaomjaaDoor

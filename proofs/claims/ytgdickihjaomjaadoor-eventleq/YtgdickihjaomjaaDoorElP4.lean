/- The document's example. -/
import Derived.Test.YtgdickihjaomjaaDoorElP2
import Derived.Test.YtgdickihjaomjaaDoorElE4
import Derived.Test.YtgdickihjaomjaaDoorElI2
set_option linter.all false
set_option maxRecDepth 100000
namespace Go.Proofs.YtgdickihjaomjaaDoor
open Go.RowKit Go.Sep

theorem textK_c {I : IM} {t : E} {b : Nat} {p : Option Addr} {l : List UInt8} (hl : textE t = l) (hT : Tab I) (h : ERep I t b p) (ht : t.top < 18446744073709551616) (hlim : l.length ≤ 1000000000) : Fun Tryd.prog 25 #[evv b p] I (fun v J => v = .string ⟨l.toArray⟩) := by
  subst hl; exact text_c hT h ht hlim

end Go.Proofs.YtgdickihjaomjaaDoor

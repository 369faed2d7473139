/- Each tree has the document's one form. -/
import Derived.Test.YtgdickihjaomjaaDoorElP34
set_option linter.all false
set_option maxRecDepth 100000
namespace Go.Proofs.YtgdickihjaomjaaDoor
open Go.RowKit Go.Sep
attribute [local irreducible] Go.wpList Go.Code.wp
theorem likeS_c {I : IM} {e : E} {b k : Nat} {p : Option Addr} (hT : Tab I) (h : ERep I e b p) (h2 : RE I e k) (hs : e.nf ∧ e.depth ≤ 7 ∧ e.top ≤ 1000) : Fun Tryd.prog 23 #[evv b p, .pointer (some ⟨k, 0, none⟩)] I (fun v J => v = .bool true) :=
  likeE_c e hT h h2 hs.1 (by have := hs.2.1; omega) (by have := hs.2.2; omega)
theorem made_small {e : E} (h : e.nf ∧ e.depth ≤ 6 ∧ e.top ≤ 7 + 3 * 6) : e.nf ∧ e.depth ≤ 7 ∧ e.top ≤ 1000 := ⟨h.1, by have := h.2.1; omega, by have := h.2.2; omega⟩

end Go.Proofs.YtgdickihjaomjaaDoor

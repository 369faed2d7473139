/- The document's events: Leaf, Min; to the program's own; like. -/
import Derived.Test.YtgdickihjaomjaaDoorElP9
set_option linter.all false
set_option maxRecDepth 100000
namespace Go.Proofs.YtgdickihjaomjaaDoor
open Go.RowKit Go.Sep

theorem nodeOk9_c {I : IM} {n : Nat} {l r : E} {bl br : Nat} {pl pr : Option Addr} (hm : E.mk n l r = .node n l r) (ht : (E.node n l r).top ≤ 1048576) (hd : (E.node n l r).depth ≤ 16) (hl : ERep I l bl pl) (hr : ERep I r br pr) : Fun Tryd.prog 18 #[.int .u64 ((n : Nat) : Int), evv bl pl, evv br pr] I (fun v J => ∃ b p, v = .tuple #[evv b p, .int .i64 0] ∧ ERep J (E.node n l r) b p) := by
  have ht1 : n + max l.top r.top ≤ 1048576 := ht
  have hd1 : 1 + max l.depth r.depth ≤ 16 := hd
  have h := nodeR_c (n := n) hl hr (by omega) (by omega) (by omega) (by omega)
  have e : nodeR n l r = (.node n l r, 0) := by
    unfold nodeR
    rw [if_neg (by omega), if_neg (by omega), if_neg (by omega), hm]
  rw [e] at h
  exact h

end Go.Proofs.YtgdickihjaomjaaDoor

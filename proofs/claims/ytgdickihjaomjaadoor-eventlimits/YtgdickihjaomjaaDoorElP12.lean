/- The document's Make of ids. -/
import Derived.Test.YtgdickihjaomjaaDoorElP11
set_option linter.all false
set_option maxRecDepth 100000
namespace Go.Proofs.YtgdickihjaomjaaDoor
open Go.RowKit Go.Sep

def BSl (I : IM) (l : List UInt8) (v : Value) : Prop := ∃ a cap, v = .slice a l.length cap ∧ l.length ≤ cap ∧ ∀ j x, l[j]? = some x → ∃ b o cs T fr, a = some ⟨b, o, none⟩ ∧ I b = some (.cells cs T fr) ∧ cs[o + j]? = some (.int .u8 ((x.toNat : Nat) : Int))
theorem BSl.mono {I J : IM} (le : I.Le J) {l : List UInt8} {v : Value} (h : BSl I l v) : BSl J l v := by
  obtain ⟨a, cap, hv, hc, hr⟩ := h
  refine ⟨a, cap, hv, hc, fun j x hj => ?_⟩
  obtain ⟨b, o, cs, T, fr, h1, h2, h3⟩ := hr j x hj
  exact ⟨b, o, cs, T, fr, h1, le _ _ h2, h3⟩
end Go.Proofs.YtgdickihjaomjaaDoor

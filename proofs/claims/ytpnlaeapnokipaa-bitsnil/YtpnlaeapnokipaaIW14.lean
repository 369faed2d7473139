/- BitsParts. -/
import Derived.Test.YtpnlaeapnokipaaIW13
set_option linter.all false
set_option maxRecDepth 100000
namespace Go.Proofs.Ytpnlaeapnokipaa
open Go.RowKit Go.Sep
attribute [local irreducible] Go.wpList Go.Code.wp

theorem row_open2 {g n cap : Nat} {xs : List Value} {F : List OB} (h : RowH 5 1 (.slice (some ⟨g, 0, none⟩) n cap) n xs F) : ∃ cur, F = [(g, .cells cur 5)] ∧ RowH 5 1 (.slice (some ⟨g, 0, none⟩) n cap) n xs [(g, .cells cur 5)] := by
  rcases h.2 with ⟨h0, _⟩ | ⟨g', cap', cur, hv, hF, _⟩
  · cases h0
  · cases hv
    subst hF
    exact ⟨cur, rfl, h⟩
end Go.Proofs.Ytpnlaeapnokipaa

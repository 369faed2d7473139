/- Slices of slices of bytes. -/
import Derived.Test.YtccjlkjadnghgaaDnB4
import Derived.Test.YtccjlkjadnghgaaDnC1
set_option linter.all false
set_option maxRecDepth 100000
namespace Go.Proofs.Ytccjlkjadnghgaa
open Go.RowKit Go.Sep
def SSl (I : IM) (L : List (List UInt8)) (v : Value) : Prop := ∃ a cap, v = .slice a L.length cap ∧ L.length ≤ cap ∧ ∀ j x, L[j]? = some x → ∃ b o cs T fr u, a = some ⟨b, o, none⟩ ∧ I b = some (.cells cs T fr) ∧ cs[o + j]? = some u ∧ BSl I x u
theorem SSl.mono {I J : IM} (le : I.Le J) {L : List (List UInt8)} {v : Value} (h : SSl I L v) : SSl J L v := by
  obtain ⟨a, cap, hv, hc, hr⟩ := h
  refine ⟨a, cap, hv, hc, fun j x hj => ?_⟩
  obtain ⟨b, o, cs, T, fr, u, h1, h2, h3, h4⟩ := hr j x hj
  exact ⟨b, o, cs, T, fr, u, h1, le _ _ h2, h3, h4.mono le⟩
theorem SSl.cap {I : IM} {L : List (List UInt8)} {a : Option Addr} {n c : Nat} (h : SSl I L (.slice a n c)) : n = L.length ∧ L.length ≤ c := by
  obtain ⟨a', c', hv, hc, _⟩ := h
  cases hv; exact ⟨rfl, hc⟩
end Go.Proofs.Ytccjlkjadnghgaa


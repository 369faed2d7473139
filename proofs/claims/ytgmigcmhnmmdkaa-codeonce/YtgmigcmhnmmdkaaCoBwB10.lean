/- Slices of triples: a byte and two numbers. -/
import Derived.Test.YtgmigcmhnmmdkaaCoBwB4
set_option linter.all false
set_option maxRecDepth 100000
namespace Go.Proofs.Ytgmigcmhnmmdkaa
open Go.RowKit Go.Sep
abbrev Tri := Nat × Nat × Int
def TSl (I : IM) (L : List Tri) (v : Value) : Prop := ∃ a cap, v = .slice a L.length cap ∧ L.length ≤ cap ∧ ∀ j x, L[j]? = some x → (x.1 < 256 ∧ x.2.1 < 18446744073709551616 ∧ x.2.2 < 9223372036854775808) ∧ ∃ b o cs T fr, a = some ⟨b, o, none⟩ ∧ I b = some (.cells cs T fr) ∧ cs[o + j * 3]? = some (.int .u8 ((x.1 : Nat) : Int)) ∧ cs[o + j * 3 + 1]? = some (.int .u64 ((x.2.1 : Nat) : Int)) ∧ cs[o + j * 3 + 2]? = some (.int .i64 x.2.2)
theorem TSl.mono {I J : IM} (le : I.Le J) {L : List Tri} {v : Value} (h : TSl I L v) : TSl J L v := by
  obtain ⟨a, cap, hv, hc, hr⟩ := h
  refine ⟨a, cap, hv, hc, fun j x hj => ?_⟩
  obtain ⟨hx, b, o, cs, T, fr, h1, h2, h3, h4, h5⟩ := hr j x hj
  exact ⟨hx, b, o, cs, T, fr, h1, le _ _ h2, h3, h4, h5⟩
theorem TSl.cap {I : IM} {L : List Tri} {a : Option Addr} {n c : Nat} (h : TSl I L (.slice a n c)) : n = L.length ∧ L.length ≤ c := by
  obtain ⟨a', c', hv, hc, _⟩ := h
  cases hv; exact ⟨rfl, hc⟩
end Go.Proofs.Ytgmigcmhnmmdkaa


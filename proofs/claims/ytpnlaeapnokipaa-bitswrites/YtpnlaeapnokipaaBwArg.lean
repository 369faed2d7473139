/- A slice of bytes that came in, as the contracts want it. -/
import Derived.Test.YtpnlaeapnokipaaBwB1
import Derived.OpenShut
set_option linter.all false
namespace Go.Proofs.Ytpnlaeapnokipaa
open Go.RowKit Go.Sep

theorem cell_block {w : World} {b o : Nat} {v : Value} (h : w.cell? ⟨b, o, none⟩ = some v) : ∃ cs T fr, w.heap[b]? = some (.cells cs T fr) ∧ cs[o]? = some v := by
  unfold World.cell? at h
  cases hb : w.heap[b]? with
  | none => simp [hb] at h
  | some ob =>
    cases ob <;> simp [hb] at h
    exact ⟨_, _, _, rfl, h⟩
end Go.Proofs.Ytpnlaeapnokipaa

/- Bits: as they are put, as numbers have them. -/
import Derived.Test.YtpnlaeapnokipaaDC3
set_option linter.all false
set_option maxRecDepth 100000
namespace Go.Proofs.Ytpnlaeapnokipaa
def Alike (l m : List Bool) (i : Nat) : Prop := l.length ≤ m.length ∧ ∀ j, j < i → l.getD j false = m.getD j false
theorem Alike.self (l : List Bool) (i : Nat) : Alike l l i := ⟨Nat.le_refl _, fun _ _ => rfl⟩
theorem Alike.step {l m : List Bool} {i : Nat} (h : Alike l m i) (e : l.getD i false = m.getD i false) : Alike l m (i + 1) :=
  ⟨h.1, fun j hj => by
    rcases Nat.lt_or_ge j i with q | q
    · exact h.2 j q
    · rw [show j = i by omega]; exact e⟩
theorem Alike.back {l m : List Bool} {i : Nat} (h : Alike l m (i + 1)) : Alike l m i ∧ l.getD i false = m.getD i false := ⟨⟨h.1, fun j hj => h.2 j (by omega)⟩, h.2 i (by omega)⟩
end Go.Proofs.Ytpnlaeapnokipaa

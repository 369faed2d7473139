/-
  Blocks that are handed over with a row; rows that are read, written and cut; strings as lists.
-/
import Derived.Test.YtgmigcmhnmmdkaaDoorTjS9
set_option linter.all false
namespace Go.Sep
open Go.RowKit

section
variable {w0 : World} {I0 : IM} {m : List Nat} {I : IM} {P : Program} {Q : Exit → Act → World → Prop}
end

/-- a row is cut -/
theorem RowH.take {e : TypeId} {size n k g cap : Nat} {xs : List Value} {F : List OB} (h : RowH e size (.slice (some ⟨g, 0, none⟩) n cap) n xs F) (hk : k ≤ n) : RowH e size (.slice (some ⟨g, 0, none⟩) k cap) k (xs.take (k * size)) F := by
  have hl := h.1
  rcases h.2 with ⟨h, _⟩ | ⟨g', cap', cur, hv, hF, hnc, hcm, hcs, ht⟩
  · cases h
  · cases hv
    have hm : k * size ≤ n * size := Nat.mul_le_mul_right _ hk
    refine ⟨by rw [List.length_take]; omega, .inr ⟨g, cap, cur, rfl, hF, by omega, hcm, hcs, ?_⟩⟩
    rw [← ht, List.take_take, Nat.min_eq_left hm]
end Go.Sep

/-
  Rows: what is copied into a row of one's own; a row that is longer; append to what is never written.
-/
import Derived.Test.YtcpmjogeafhpnaaDoorPpS10
import Derived.Laws.CopyRow
import Derived.Lib.Overlaps
import Derived.Lib.AppendZerosOnto
set_option linter.all false
set_option maxRecDepth 100000
namespace Go.Sep
open Go.RowKit
theorem RowH.more {e : TypeId} {size g n n' cap : Nat} {xs : List Value} {F : List OB} (h : RowH e size (.slice (some ⟨g, 0, none⟩) n cap) n xs F) (h1 : n ≤ n') (h2 : n' ≤ cap) :
    ∃ zs, zs.length = (n' - n) * size ∧ RowH e size (.slice (some ⟨g, 0, none⟩) n' cap) n' (xs ++ zs) F := by
  rcases h.2 with ⟨h, _⟩ | ⟨g', cap', cur, hv, hF, hnc, hcm, hcs, ht⟩
  · cases h
  · cases hv
    subst hF
    have hle : n * size ≤ n' * size := Nat.mul_le_mul_right _ h1
    have hle2 : n' * size ≤ cap * size := Nat.mul_le_mul_right _ h2
    have e1 : (cur.toList.take (n' * size)) = xs ++ (cur.toList.take (n' * size)).drop (n * size) := by
      rw [← ht]
      conv => lhs; rw [← List.take_append_drop (n * size) (cur.toList.take (n' * size)), List.take_take, Nat.min_eq_left hle]
    refine ⟨(cur.toList.take (n' * size)).drop (n * size), ?_, ?_, .inr ⟨g, cap, cur, rfl, rfl, h2, hcm, hcs, e1⟩⟩
    · rw [List.length_drop, List.length_take, Array.length_toList, hcs, Nat.sub_mul]; omega
    · rw [← e1, List.length_take, Array.length_toList, hcs]; omega
section
variable {w0 : World} {I0 : IM} {m : List Nat} {I : IM} {P : Program} {Q : Exit → Act → World → Prop}
end
end Go.Sep

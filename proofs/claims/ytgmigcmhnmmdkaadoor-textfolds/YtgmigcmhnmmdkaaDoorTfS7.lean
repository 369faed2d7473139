/-
  Rows: slices in blocks of one's own; append.
-/
import Derived.Test.YtgmigcmhnmmdkaaDoorTfS6
import Derived.Deep.AppendSrc
set_option linter.all false
namespace Go.Sep
open Go.RowKit

/-- v is a slice of n elements, its cells xs, over the blocks F: none, or one. -/
def RowH (e : TypeId) (size : Nat) (v : Value) (n : Nat) (xs : List Value) (F : List OB) : Prop :=
  xs.length = n * size ∧ ((v = .slice none 0 0 ∧ n = 0 ∧ F = []) ∨
    ∃ g cap cur, v = .slice (some ⟨g, 0, none⟩) n cap ∧ F = [(g, .cells cur e)] ∧ n ≤ cap ∧ cap ≤ maxLen ∧ cur.size = cap * size ∧ cur.toList.take (n * size) = xs)
theorem RowH.nil (e : TypeId) (size : Nat) : RowH e size (.slice none 0 0) 0 [] [] := ⟨by simp, .inl ⟨rfl, rfl, rfl⟩⟩
section
variable {w0 : World} {I0 : IM} {m : List Nat} {I : IM} {P : Program} {Q : Exit → Act → World → Prop}
end
end Go.Sep

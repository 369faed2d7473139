/-
  Regions that draw, whose last operation hangs on all the others; what is lent is one's own again.
-/
import Derived.Test.YtgmigcmhnmmdkaaDoorTfS10
set_option linter.all false
namespace Go.Sep
open Go.RowKit
section
variable {P : Program} {Q : Exit → Act → World → Prop} {K : Act → World → Prop}
theorem last_split {L : List Oper} (n : Nat) (h : L.drop n = [L.getD n default]) : L = L.take n ++ [L.getD n default] := by rw [← h, List.take_append_drop]
end
section
variable {P : Program} {Q : Exit → Act → World → Prop} {w0 : World} {I0 : IM} {m : List Nat} {I : IM} {N : Nat} {ev : Ev} {l : List Oper} {C : List OB} (c : Cert) (R : Nat → MP) (F0 : List OB)
end
end Go.Sep

/- What the laid tables give; the door's own heap. -/
import Derived.Test.YtgdickihjaomjaaDoorRows
import Derived.Test.YtgdickihjaomjaaDoorElA1
import Derived.ProofKit
import Derived.LaidMore
import Derived.OpenShut
import Derived.Stop.Joined
import Derived.Stop.LaidErr
import Derived.Lib.LaidTab
set_option linter.all false
set_option maxRecDepth 100000
namespace Go.Proofs.YtgdickihjaomjaaDoor
open Go.RowKit Go.Sep

theorem ownKnob_none : ownKnob Tryd.prog.godebug = none := by kernel_rfl
abbrev laid3 : List (String × DataW Unit) := Rows.stampLimitsRow.laid
theorem door_met (os : Os) (args : Array Value) : laidMetH Tryd.prog laid3 ((World.doorLaid Tryd.prog 400 os).forCall (fun _ _ => 0) ⟨#[], args, []⟩).memory :=
  laidMetH_of_parts3 (fuel := 8) (laidMet_of_run' 8 (by kernel_rfl) (by kernel_rfl)) (by kernel_rfl) (by kernel_rfl)
theorem tabIs_of_laid {W : World} (h : laidMetH Tryd.prog laid3 W) : Lib.TabIs Tryd.prog W "internal/strconv.uint64pow10" .u64 Lib.pow10Tab := by
  rw [MakeChecks.laidMetH_plain _ _ _ (by kernel_rfl)] at h
  have h2 := laidMet.tail (laidMet.tail h)
  exact Lib.tabIs_of_head (g := 0) (t := 178) (n := 20) (e := 24) (by kernel_rfl) (by kernel_rfl) (by kernel_rfl) (by kernel_rfl) (by kernel_rfl) (by kernel_rfl) h2
theorem tab_of_laid {W : World} (h : laidMetH Tryd.prog laid3 W) : Tab (fun k => W.heap[k]?) := fun w hw => by
  have := tabIs_of_laid h
  unfold Lib.TabIs World.var? at this ⊢
  cases hg : Tryd.prog.globalNamed "internal/strconv.uint64pow10" with
  | none => rw [hg] at this; exact this
  | some g =>
    rw [hg] at this
    simp only [Option.bind_some] at this ⊢
    cases ho : W.heap[g]? with
    | none => rw [ho] at this; cases this
    | some o => rw [hw g o ho]; rw [ho] at this; exact this
end Go.Proofs.YtgdickihjaomjaaDoor

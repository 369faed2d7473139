/- What the laid tables give. -/
import Derived.Test.YtgmigcmhnmmdkaaDoorRows
import Derived.Test.YtgmigcmhnmmdkaaDoorTfT6
import Derived.ProofKit
import Derived.LaidMore
import Derived.OpenShut
import Derived.Lay
import Derived.Stop.Joined
import Derived.Lib.LaidU8T
set_option linter.all false
set_option maxRecDepth 100000
namespace Go.Proofs.YtgmigcmhnmmdkaaDoor
open Go.RowKit Go.Sep
theorem ownKnob_none : ownKnob Tryd.prog.godebug = none := by kernel_rfl
abbrev laidT : List (String × DataW Unit) := Rows.textChecksRow.laid
theorem tabs_of_laid {W : World} (h : laidMetH Tryd.prog laidT W) : Lib.Utf8Tabs 0 1 W := by
  rw [MakeChecks.laidMetH_plain _ _ _ (by kernel_rfl)] at h
  have h4 := Lib.laidMet.reads h (.head _)
  have h3 := Lib.laidMet.reads h (.tail _ (.head _))
  exact utf8Tabs_of_readsT (ρ := Tryd.lays196_ren) (U8Types.of196 Tryd.lays196) ⟨by kernel_rfl, by kernel_rfl, by kernel_rfl, by kernel_rfl, by kernel_rfl, by kernel_rfl, by kernel_rfl⟩ (kcast (by kernel_rfl) h3) (kcast (by kernel_rfl) h4)
theorem cell_up {W w : World} (hw : IM.Sub (fun k => W.heap[k]?) w) {a : Addr} {v : Value} (h : W.cell? a = some v) : w.cell? a = some v := by
  unfold World.cell? at h ⊢
  cases e : W.heap[a.block]? with
  | none => rw [e] at h; cases h
  | some o => rw [hw _ _ e]; rw [e] at h; exact h
theorem u8_of_laid {W : World} (h : laidMetH Tryd.prog laidT W) : U8 (fun k => W.heap[k]?) := fun w hw =>
  have t := tabs_of_laid h
  ⟨fun c hc => cell_up hw (t.1 c hc), fun i hi => ⟨cell_up hw (t.2 i hi).1, cell_up hw (t.2 i hi).2⟩⟩
theorem met_wit (os : Os) (args : Array Value) : laidMetH Tryd.prog laidT ((World.laidAll Tryd.prog os laidT).forCall (fun _ _ => 0) ⟨#[], args, []⟩).memory := by
  rw [MakeChecks.laidMetH_plain _ _ _ (by kernel_rfl)]; exact laidMet_laidAll _ (by kernel_rfl) (by kernel_rfl)
end Go.Proofs.YtgmigcmhnmmdkaaDoor

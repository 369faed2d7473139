/- made: a stamp of bytes, the program's and the document's. -/
import Derived.Test.YtgdickihjaomjaaDoorElP13
set_option linter.all false
set_option maxRecDepth 100000
namespace Go.Proofs.YtgdickihjaomjaaDoor
open Go.RowKit Go.Sep

theorem bsl_take {I : IM} {p : List UInt8} {a : Option Addr} {cap : Nat} (h : BSl I p (.slice a p.length cap)) : BSl I (p.take 60) (.slice a (min p.length 60) cap) := by
  obtain ⟨a', cap', hv, hc, hr⟩ := h
  cases hv
  refine ⟨a, cap, by rw [List.length_take, Nat.min_comm], by rw [List.length_take]; omega, fun j x hj => ?_⟩
  rw [List.getElem?_take] at hj
  split at hj
  · exact hr j x hj
  · cases hj
theorem map_add_zero (a : Option Addr) : a.map (·.add 0) = a := by cases a <;> rfl
theorem run_to {w : World} {a : Option Addr} {n h cap : Nat} (h1 : h ≤ cap) : (Instr.sliceAt 22 (.slice a n cap) none (some (.int .i64 ((h : Nat) : Int))) none).run Tryd.prog w = .ok (.slice a h cap) w := by
  have hb : (Instr.sliceBound (.int .i64 ((h : Nat) : Int)) cap .sliceAcap).run Tryd.prog w = .ok h w := run_bound h1
  simp [Instr.sliceAt, Instr.slice, run_underlying under22, Instr.sliceBounds, hb, size5]
  intro _
  exact map_add_zero a

end Go.Proofs.YtgdickihjaomjaaDoor

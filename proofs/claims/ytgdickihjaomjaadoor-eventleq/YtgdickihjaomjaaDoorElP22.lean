/- Rows of heights and places are read; StampFills. -/
import Derived.Test.YtgdickihjaomjaaDoorElP21
import Derived.Test.YtgdickihjaomjaaDoorElP14
set_option linter.all false
set_option maxRecDepth 100000
namespace Go.Proofs.YtgdickihjaomjaaDoor
open Go.RowKit Go.Sep

theorem under37 : Tryd.prog.underlying 37 = some (.slice 24) := by kernel_rfl
theorem size24 (w : World) : (sizeOf 24).run Tryd.prog w = .ok 1 w := by kernel_rfl
theorem addr_add (b k : Nat) : (⟨b, 0, none⟩ : Addr).add k = ⟨b, k, none⟩ := by unfold Addr.add; split <;> simp_all
theorem run_idx37 {w : World} {b n c k : Nat} (h : k < n) : (Instr.indexAt 37 (.slice (some ⟨b, 0, none⟩) n c) (.int .i64 ((k : Nat) : Int))).run Tryd.prog w = .ok (.pointer (some ⟨b, k, none⟩)) w := by
  have h2 : (k : Int) < (n : Int) := by omega
  simp [Instr.indexAt, asIntOf, run_underlying under37, size24, h2, addr_add]
  intro h3; omega
theorem vs_cell {J : IM} {w : World} (hS : J.Sub w) {e : TypeId} {xs : List Value} {b k : Nat} {v : Value} (h : VS J e xs b) (hv : xs[k]? = some v) : w.cell? ⟨b, k, none⟩ = some v := by
  obtain ⟨cur, h1, h2⟩ := h
  rw [run_cell (a := ⟨b, k, none⟩) (hS _ _ h1) rfl rfl]
  rw [← h2, List.getElem?_take] at hv
  split at hv
  · simpa using hv
  · cases hv
theorem run_load24 {J : IM} {w : World} (hS : J.Sub w) {e : TypeId} {xs : List Value} {b k : Nat} {v : Value} (h : VS J e xs b) (hv : xs[k]? = some v) : (Instr.loadAt 24 (.pointer (some ⟨b, k, none⟩))).run Tryd.prog w = .ok v w := by
  have e : (Instr.loadAt 24 (.pointer (some ⟨b, k, none⟩))).run Tryd.prog w = (load ⟨b, k, none⟩).run Tryd.prog w := by kernel_rfl
  rw [e]; simp only [load, Sem.run, vs_cell hS h hv]
theorem h7 {e : E} {k : Nat} (h : k < 128) : ((hL 7 e).map cU)[k]? = some (.int .u64 ((hAt 7 e k : Nat) : Int)) := by
  rw [List.getElem?_map, hL_get 7 e k h]; rfl
theorem leMono {A I J : IM} (le : I.Le J) (h : A.Le I) : A.Le J := h.trans le

end Go.Proofs.YtgdickihjaomjaaDoor

/- The document's Make of ids. -/
import Derived.Test.YtgdickihjaomjaaDoorElP11
set_option linter.all false
set_option maxRecDepth 100000
namespace Go.Proofs.YtgdickihjaomjaaDoor
open Go.RowKit Go.Sep

def BSl (I : IM) (l : List UInt8) (v : Value) : Prop := ∃ a cap, v = .slice a l.length cap ∧ l.length ≤ cap ∧ ∀ j x, l[j]? = some x → ∃ b o cs T fr, a = some ⟨b, o, none⟩ ∧ I b = some (.cells cs T fr) ∧ cs[o + j]? = some (.int .u8 ((x.toNat : Nat) : Int))
theorem BSl.mono {I J : IM} (le : I.Le J) {l : List UInt8} {v : Value} (h : BSl I l v) : BSl J l v := by
  obtain ⟨a, cap, hv, hc, hr⟩ := h
  refine ⟨a, cap, hv, hc, fun j x hj => ?_⟩
  obtain ⟨b, o, cs, T, fr, h1, h2, h3⟩ := hr j x hj
  exact ⟨b, o, cs, T, fr, h1, le _ _ h2, h3⟩
theorem bsl_nil (I : IM) : BSl I [] (.slice none 0 0) := ⟨none, 0, rfl, Nat.le_refl _, fun j x h => by simp at h⟩
theorem bsl_cons {I : IM} {x : UInt8} {l : List UInt8} {v : Value} (h : BSl I (x :: l) v) : ∃ b o cap cs T fr, v = .slice (some ⟨b, o, none⟩) (l.length + 1) cap ∧ l.length + 1 ≤ cap ∧ I b = some (.cells cs T fr) ∧ cs[o]? = some (.int .u8 ((x.toNat : Nat) : Int)) ∧
    BSl I l (.slice (if cap = 1 then some ⟨b, o, none⟩ else some ⟨b, o + 1, none⟩) l.length (cap - 1)) := by
  obtain ⟨a, cap, hv, hc, hr⟩ := h
  obtain ⟨b, o, cs, T, fr, h1, h2, h3⟩ := hr 0 x rfl
  subst h1
  refine ⟨b, o, cap, cs, T, fr, hv, hc, h2, h3, _, _, rfl, ?_, fun j y hj => ?_⟩
  · simp only [List.length_cons] at hc; omega
  · obtain ⟨b', o', cs', T', fr', e1, e2, e3⟩ := hr (j + 1) y (by simpa using hj)
    cases e1
    have hcap : ¬ cap = 1 := by
      have := (List.getElem?_eq_some_iff.1 hj).1
      simp only [List.length_cons] at hc; omega
    rw [if_neg hcap]
    exact ⟨b, o + 1, cs', T', fr', rfl, e2, by rw [show o + 1 + j = o + (j + 1) by omega]; exact e3⟩
theorem size5 (w : World) : (sizeOf 5).run Tryd.prog w = .ok 1 w := by kernel_rfl
theorem under22 : Tryd.prog.underlying 22 = some (.slice 5) := by kernel_rfl
theorem run_first {w : World} {b o n cap : Nat} : (Instr.indexAt 22 (.slice (some ⟨b, o, none⟩) (n + 1) cap) (.int .i64 0)).run Tryd.prog w = .ok (.pointer (some ⟨b, o, none⟩)) w := by
  have h : (0 : Int) < (n : Int) + 1 := by omega
  simp [Instr.indexAt, asIntOf, run_underlying under22, size5, h]
  rfl
theorem run_rest {w : World} {b o n cap : Nat} (hc : n + 1 ≤ cap) : (Instr.sliceAt 22 (.slice (some ⟨b, o, none⟩) (n + 1) cap) (some (.int .i64 1)) none none).run Tryd.prog w = .ok (.slice (if cap = 1 then some ⟨b, o, none⟩ else some ⟨b, o + 1, none⟩) n (cap - 1)) w := by
  have hb : (Instr.sliceBound (.int .i64 1) (n + 1) .sliceB).run Tryd.prog w = .ok 1 w := run_bound (k := 1) (by omega)
  simp [Instr.sliceAt, Instr.slice, run_underlying under22, Instr.sliceBounds, hb, size5]
  rfl
theorem run_loadB {w : World} {b o : Nat} {cs : Array Value} {T : TypeId} {fr : Nat × Nat} {v : Value} (h : w.heap[b]? = some (.cells cs T fr)) (hv : cs[o]? = some v) : (Instr.loadAt 5 (.pointer (some ⟨b, o, none⟩))).run Tryd.prog w = .ok v w := by
  have e : (Instr.loadAt 5 (.pointer (some ⟨b, o, none⟩))).run Tryd.prog w = (load ⟨b, o, none⟩).run Tryd.prog w := by kernel_rfl
  have hc := run_cell (a := ⟨b, o, none⟩) h rfl rfl
  rw [hv] at hc
  rw [e]; simp only [load, Sem.run, hc]
end Go.Proofs.YtgdickihjaomjaaDoor

/- Slices of triples: a byte and two numbers. -/
import Derived.Test.YtpnlaeapnokipaaBwB4
set_option linter.all false
set_option maxRecDepth 100000
namespace Go.Proofs.Ytpnlaeapnokipaa
open Go.RowKit Go.Sep
abbrev Tri := Nat × Nat × Int
def TSl (I : IM) (L : List Tri) (v : Value) : Prop := ∃ a cap, v = .slice a L.length cap ∧ L.length ≤ cap ∧ ∀ j x, L[j]? = some x → (x.1 < 256 ∧ x.2.1 < 18446744073709551616 ∧ x.2.2 < 9223372036854775808) ∧ ∃ b o cs T fr, a = some ⟨b, o, none⟩ ∧ I b = some (.cells cs T fr) ∧ cs[o + j * 3]? = some (.int .u8 ((x.1 : Nat) : Int)) ∧ cs[o + j * 3 + 1]? = some (.int .u64 ((x.2.1 : Nat) : Int)) ∧ cs[o + j * 3 + 2]? = some (.int .i64 x.2.2)
theorem TSl.mono {I J : IM} (le : I.Le J) {L : List Tri} {v : Value} (h : TSl I L v) : TSl J L v := by
  obtain ⟨a, cap, hv, hc, hr⟩ := h
  refine ⟨a, cap, hv, hc, fun j x hj => ?_⟩
  obtain ⟨hx, b, o, cs, T, fr, h1, h2, h3, h4, h5⟩ := hr j x hj
  exact ⟨hx, b, o, cs, T, fr, h1, le _ _ h2, h3, h4, h5⟩
theorem TSl.cap {I : IM} {L : List Tri} {a : Option Addr} {n c : Nat} (h : TSl I L (.slice a n c)) : n = L.length ∧ L.length ≤ c := by
  obtain ⟨a', c', hv, hc, _⟩ := h
  cases hv; exact ⟨rfl, hc⟩
theorem under22 : Try.prog.underlying 22 = some (.slice 29) := by kernel_rfl
theorem size29 (w : World) : (sizeOf 29).run Try.prog w = .ok 3 w := by kernel_rfl
theorem getD_someT {L : List Tri} {i : Nat} (h : i < L.length) : L[i]? = some (L.getD i (0, 0, 0)) := by simp [h]
theorem tsl_idx {I : IM} {w : World} {L : List Tri} {a : Option Addr} {n c i : Nat} (h : TSl I L (.slice a n c)) (hi : i < L.length) :
    (Instr.indexAt 22 (.slice a n c) (.int .i64 ((i : Nat) : Int))).run Try.prog w = .ok (.pointer (pAt a (i * 3))) w := by
  obtain ⟨a', c', hv, hc, hr⟩ := h
  cases hv
  obtain ⟨-, b, o, cs, T, fr, rfl, h2, h3, h4⟩ := hr i _ (getD_someT hi)
  have h2 : (i : Int) < (L.length : Int) := by omega
  simp [Instr.indexAt, asIntOf, run_underlying under22, size29, h2, pAt]
  intro h3; omega
theorem tsl_ld {I : IM} {w : World} (hS : I.Sub w) {L : List Tri} {a : Option Addr} {n c i : Nat} (h : TSl I L (.slice a n c)) (hi : i < L.length) :
    (Instr.loadAt 29 (.pointer (pAt a (i * 3)))).run Try.prog w = .ok (.agg #[.int .u8 (((L.getD i (0, 0, 0)).1 : Nat) : Int), .int .u64 (((L.getD i (0, 0, 0)).2.1 : Nat) : Int), .int .i64 (L.getD i (0, 0, 0)).2.2]) w := by
  obtain ⟨a', c', hv, hc, hr⟩ := h
  cases hv
  obtain ⟨-, b, o, cs, T, fr, rfl, h2, h3, h4, h5⟩ := hr i _ (getD_someT hi)
  rw [show pAt (some ⟨b, o, none⟩) (i * 3) = some ⟨b, o + i * 3, none⟩ from congrArg some (addr_addO b o (i * 3))]
  have c1 := run_cell (a := ⟨b, o + i * 3, none⟩) (hS _ _ h2) rfl rfl
  have c2 := run_cell (a := ⟨b, o + i * 3 + 1, none⟩) (hS _ _ h2) rfl rfl
  have c3 := run_cell (a := ⟨b, o + i * 3 + 2, none⟩) (hS _ _ h2) rfl rfl
  rw [h3] at c1
  rw [h4] at c2
  rw [h5] at c3
  have e : (Instr.loadAt 29 (.pointer (some ⟨b, o + i * 3, none⟩))).run Try.prog w = ((do pure (.agg (← loadCells ⟨b, o + i * 3, none⟩ 3))) : Sem Value).run Try.prog w := by kernel_rfl
  have l1 : (load ⟨b, o + i * 3, none⟩).run Try.prog w = .ok (.int .u8 (((L.getD i (0, 0, 0)).1 : Nat) : Int)) w := by simp only [load, Sem.run, c1]
  have l2 : (load ⟨b, o + i * 3 + 1, none⟩).run Try.prog w = .ok (.int .u64 (((L.getD i (0, 0, 0)).2.1 : Nat) : Int)) w := by simp only [load, Sem.run, c2]
  have l3 : (load ⟨b, o + i * 3 + 2, none⟩).run Try.prog w = .ok (.int .i64 (L.getD i (0, 0, 0)).2.2) w := by simp only [load, Sem.run, c3]
  have a1 : (⟨b, o + i * 3, none⟩ : Addr).add 0 = ⟨b, o + i * 3, none⟩ := rfl
  have a2 : (⟨b, o + i * 3, none⟩ : Addr).add 1 = ⟨b, o + i * 3 + 1, none⟩ := rfl
  have a3 : (⟨b, o + i * 3, none⟩ : Addr).add (1 + 1) = ⟨b, o + i * 3 + 2, none⟩ := rfl
  rw [e]
  simp only [loadCells, loadCellsFrom, Sem.run_bind, Sem.run_pure, a1, a2, a3, Nat.zero_add, l1, l2, l3, Result.andThen_ok]
  rfl
end Go.Proofs.Ytpnlaeapnokipaa

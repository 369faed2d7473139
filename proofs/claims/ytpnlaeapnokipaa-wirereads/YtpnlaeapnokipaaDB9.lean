/- Slices of pairs: a byte and a number. -/
import Derived.Test.YtpnlaeapnokipaaDB3
import Derived.Test.YtpnlaeapnokipaaDS11
import Derived.Laws.MakeOwn
set_option linter.all false
set_option maxRecDepth 100000
namespace Go.Proofs.Ytpnlaeapnokipaa
open Go.RowKit Go.Sep
def ASl (I : IM) (L : List (Nat × Int)) (v : Value) : Prop := ∃ a cap, v = .slice a L.length cap ∧ L.length ≤ cap ∧ ∀ j x, L[j]? = some x → (x.1 < 256 ∧ x.2 < 9223372036854775808) ∧ ∃ b o cs T fr, a = some ⟨b, o, none⟩ ∧ I b = some (.cells cs T fr) ∧ cs[o + j * 2]? = some (.int .u8 ((x.1 : Nat) : Int)) ∧ cs[o + j * 2 + 1]? = some (.int .i64 x.2)
theorem ASl.mono {I J : IM} (le : I.Le J) {L : List (Nat × Int)} {v : Value} (h : ASl I L v) : ASl J L v := by
  obtain ⟨a, cap, hv, hc, hr⟩ := h
  refine ⟨a, cap, hv, hc, fun j x hj => ?_⟩
  obtain ⟨hx, b, o, cs, T, fr, h1, h2, h3, h4⟩ := hr j x hj
  exact ⟨hx, b, o, cs, T, fr, h1, le _ _ h2, h3, h4⟩
theorem under69 : Try.prog.underlying 69 = some (.slice 76) := by kernel_rfl
theorem size76 (w : World) : (sizeOf 76).run Try.prog w = .ok 2 w := by kernel_rfl
theorem getD_someA {L : List (Nat × Int)} {i : Nat} (h : i < L.length) : L[i]? = some (L.getD i (0, 0)) := by simp [h]
theorem asl_idx {I : IM} {w : World} {L : List (Nat × Int)} {a : Option Addr} {n c i : Nat} (h : ASl I L (.slice a n c)) (hi : i < L.length) :
    (Instr.indexAt 69 (.slice a n c) (.int .i64 ((i : Nat) : Int))).run Try.prog w = .ok (.pointer (pAt a (i * 2))) w := by
  obtain ⟨a', c', hv, hc, hr⟩ := h
  cases hv
  obtain ⟨-, b, o, cs, T, fr, rfl, h2, h3, h4⟩ := hr i _ (getD_someA hi)
  have h2 : (i : Int) < (L.length : Int) := by omega
  simp [Instr.indexAt, asIntOf, run_underlying under69, size76, h2, pAt]
  intro h3; omega
theorem asl_ld {I : IM} {w : World} (hS : I.Sub w) {L : List (Nat × Int)} {a : Option Addr} {n c i : Nat} (h : ASl I L (.slice a n c)) (hi : i < L.length) :
    (Instr.loadAt 76 (.pointer (pAt a (i * 2)))).run Try.prog w = .ok (.agg #[.int .u8 (((L.getD i (0, 0)).1 : Nat) : Int), .int .i64 (L.getD i (0, 0)).2]) w := by
  obtain ⟨a', c', hv, hc, hr⟩ := h
  cases hv
  obtain ⟨-, b, o, cs, T, fr, rfl, h2, h3, h4⟩ := hr i _ (getD_someA hi)
  rw [show pAt (some ⟨b, o, none⟩) (i * 2) = some ⟨b, o + i * 2, none⟩ from congrArg some (addr_addO b o (i * 2))]
  have c1 := run_cell (a := ⟨b, o + i * 2, none⟩) (hS _ _ h2) rfl rfl
  have c2 := run_cell (a := ⟨b, o + i * 2 + 1, none⟩) (hS _ _ h2) rfl rfl
  rw [h3] at c1
  rw [h4] at c2
  have e : (Instr.loadAt 76 (.pointer (some ⟨b, o + i * 2, none⟩))).run Try.prog w = ((do pure (.agg (← loadCells ⟨b, o + i * 2, none⟩ 2))) : Sem Value).run Try.prog w := by kernel_rfl
  have l1 : (load ⟨b, o + i * 2, none⟩).run Try.prog w = .ok (.int .u8 (((L.getD i (0, 0)).1 : Nat) : Int)) w := by simp only [load, Sem.run, c1]
  have l2 : (load ⟨b, o + i * 2 + 1, none⟩).run Try.prog w = .ok (.int .i64 (L.getD i (0, 0)).2) w := by simp only [load, Sem.run, c2]
  have a1 : (⟨b, o + i * 2, none⟩ : Addr).add 0 = ⟨b, o + i * 2, none⟩ := rfl
  have a2 : (⟨b, o + i * 2, none⟩ : Addr).add 1 = ⟨b, o + i * 2 + 1, none⟩ := rfl
  rw [e]
  simp only [loadCells, loadCellsFrom, Sem.run_bind, Sem.run_pure, a1, a2, Nat.zero_add, l1, l2, Result.andThen_ok]
  rfl
theorem ASl.cap {I : IM} {L : List (Nat × Int)} {a : Option Addr} {n c : Nat} (h : ASl I L (.slice a n c)) : n = L.length ∧ L.length ≤ c := by
  obtain ⟨a', c', hv, hc, _⟩ := h
  cases hv; exact ⟨rfl, hc⟩
theorem asl_bd {I : IM} {L : List (Nat × Int)} {v : Value} {i : Nat} (h : ASl I L v) (hi : i < L.length) : (L.getD i (0, 0)).1 < 256 ∧ (L.getD i (0, 0)).2 < 9223372036854775808 := by
  obtain ⟨a', c', hv, hc, hr⟩ := h
  exact (hr i _ (getD_someA hi)).1
def wrapN (z : Int) : Nat := (IntKind.wrap .u64 z).toNat
theorem wrapN_eq (z : Int) : ((wrapN z : Nat) : Int) = IntKind.wrap .u64 z := by
  have h : 0 ≤ IntKind.wrap .u64 z := by
    simp only [IntKind.wrap, IntKind.signed, IntKind.bits]
    exact Int.emod_nonneg _ (by decide)
  unfold wrapN; omega
theorem wrapN_lt (z : Int) : wrapN z < 18446744073709551616 := by
  have h : IntKind.wrap .u64 z < 18446744073709551616 := by
    simp only [IntKind.wrap, IntKind.signed, IntKind.bits]
    exact Int.emod_lt_of_pos _ (by decide)
  have := wrapN_eq z; omega
theorem run_convU {w : World} {z : Int} : (convert 3 82 (.int .i64 z)).run Try.prog w = .ok (.int .u64 ((wrapN z : Nat) : Int)) w := by
  rw [wrapN_eq]; kernel_rfl
end Go.Proofs.Ytpnlaeapnokipaa

/- Slices of slices of bytes. -/
import Derived.Test.YtccjlkjadnghgaaDtB4
import Derived.Test.YtccjlkjadnghgaaDtC1
set_option linter.all false
set_option maxRecDepth 100000
namespace Go.Proofs.Ytccjlkjadnghgaa
open Go.RowKit Go.Sep
def SSl (I : IM) (L : List (List UInt8)) (v : Value) : Prop := ∃ a cap, v = .slice a L.length cap ∧ L.length ≤ cap ∧ ∀ j x, L[j]? = some x → ∃ b o cs T fr u, a = some ⟨b, o, none⟩ ∧ I b = some (.cells cs T fr) ∧ cs[o + j]? = some u ∧ BSl I x u
theorem SSl.mono {I J : IM} (le : I.Le J) {L : List (List UInt8)} {v : Value} (h : SSl I L v) : SSl J L v := by
  obtain ⟨a, cap, hv, hc, hr⟩ := h
  refine ⟨a, cap, hv, hc, fun j x hj => ?_⟩
  obtain ⟨b, o, cs, T, fr, u, h1, h2, h3, h4⟩ := hr j x hj
  exact ⟨b, o, cs, T, fr, u, h1, le _ _ h2, h3, h4.mono le⟩
theorem SSl.cap {I : IM} {L : List (List UInt8)} {a : Option Addr} {n c : Nat} (h : SSl I L (.slice a n c)) : n = L.length ∧ L.length ≤ c := by
  obtain ⟨a', c', hv, hc, _⟩ := h
  cases hv; exact ⟨rfl, hc⟩
theorem under93 : Try.prog.underlying 38 = some (.slice 29) := by kernel_rfl
theorem size34 (w : World) : (sizeOf 29).run Try.prog w = .ok 1 w := by kernel_rfl
theorem getD_someL {L : List (List UInt8)} {i : Nat} (h : i < L.length) : L[i]? = some (L.getD i []) := by simp [h]
theorem ssl_idx {I : IM} {w : World} {L : List (List UInt8)} {a : Option Addr} {n c i : Nat} (h : SSl I L (.slice a n c)) (hi : i < L.length) :
    (Instr.indexAt 38 (.slice a n c) (.int .i64 ((i : Nat) : Int))).run Try.prog w = .ok (.pointer (pAt a i)) w := by
  obtain ⟨a', c', hv, hc, hr⟩ := h
  cases hv
  obtain ⟨b, o, cs, T, fr, u, rfl, h2, h3, h4⟩ := hr i _ (getD_someL hi)
  have h2 : (i : Int) < (L.length : Int) := by omega
  simp [Instr.indexAt, asIntOf, run_underlying under93, size34, h2, pAt]
  intro h3; omega
theorem ssl_ld {I : IM} {w : World} (hS : I.Sub w) {L : List (List UInt8)} {a : Option Addr} {n c i : Nat} (h : SSl I L (.slice a n c)) (hi : i < L.length) :
    ∃ a' c', (Instr.loadAt 29 (.pointer (pAt a i))).run Try.prog w = .ok (.slice a' (List.length (L.getD i [])) c') w ∧ BSl I (L.getD i []) (.slice a' (List.length (L.getD i [])) c') := by
  obtain ⟨a', c', hv, hc, hr⟩ := h
  cases hv
  obtain ⟨b, o, cs, T, fr, u, rfl, h2, h3, h4⟩ := hr i _ (getD_someL hi)
  obtain ⟨a2, c2, rfl, _, h5⟩ := h4.open
  refine ⟨a2, c2, ?_, h5⟩
  have e : (Instr.loadAt 29 (.pointer (pAt (some ⟨b, o, none⟩) i))).run Try.prog w = (load ⟨b, o + i, none⟩).run Try.prog w := by
    rw [show pAt (some ⟨b, o, none⟩) i = some ⟨b, o + i, none⟩ from congrArg some (addr_addO b o i)]
    kernel_rfl
  have hc := run_cell (a := ⟨b, o + i, none⟩) (hS _ _ h2) rfl rfl
  rw [h3] at hc
  rw [e]; simp only [load, Sem.run, hc]
theorem run_toL {w : World} {a : Option Addr} {n h cap : Nat} (h1 : h ≤ cap) : (Instr.sliceAt 38 (.slice a n cap) none (some (.int .i64 ((h : Nat) : Int))) none).run Try.prog w = .ok (.slice a h cap) w := by
  have hb : (Instr.sliceBound (.int .i64 ((h : Nat) : Int)) cap .sliceAcap).run Try.prog w = .ok h w := run_bound h1
  simp [Instr.sliceAt, Instr.slice, run_underlying under93, Instr.sliceBounds, hb, size34]
  intro _
  exact map_add_zero a
theorem ssl_to {I : IM} {L : List (List UInt8)} {a : Option Addr} {n c hi : Nat} (h : SSl I L (.slice a n c)) (h2 : hi ≤ L.length) : SSl I (L.take hi) (.slice a hi c) := by
  obtain ⟨a', c', hv, hc, hr⟩ := h
  cases hv
  refine ⟨_, _, by rw [List.length_take, Nat.min_eq_left h2], by rw [List.length_take]; omega, fun j x hj => ?_⟩
  rw [List.getElem?_take] at hj
  split at hj
  · exact hr _ _ hj
  · cases hj
end Go.Proofs.Ytccjlkjadnghgaa


/- Slices of acts. -/
import Derived.Test.YtccjlkjadnghgaaDrB4
set_option linter.all false
set_option maxRecDepth 100000
namespace Go.Proofs.Ytccjlkjadnghgaa
open Go.RowKit Go.Sep
structure AV where
  doo : Nat
  seg : Nat
  p : List UInt8
  n : Int
  t : Int
  on : Bool
def AV.d : AV := ⟨0, 0, [], 0, 0, false⟩
instance : Inhabited AV := ⟨AV.d⟩
def XSl (I : IM) (L : List AV) (v : Value) : Prop := ∃ a cap, v = .slice a L.length cap ∧ L.length ≤ cap ∧ ∀ (j : Nat) (x : AV), L[j]? = some x → (x.doo < 256 ∧ x.seg < 18446744073709551616 ∧ -9223372036854775808 ≤ x.n ∧ x.n < 9223372036854775808 ∧ -9223372036854775808 ≤ x.t ∧ x.t < 9223372036854775808) ∧ ∃ (b o : Nat) (cs : Array Value) (T : TypeId) (fr : Nat × Nat) (pv_p : Value), a = some ⟨b, o, none⟩ ∧ I b = some (.cells cs T fr) ∧ cs[o + j * 6]? = some (.int .u8 ((x.doo : Nat) : Int)) ∧ cs[o + j * 6 + 1]? = some (.int .u64 ((x.seg : Nat) : Int)) ∧ cs[o + j * 6 + 2]? = some (pv_p) ∧ cs[o + j * 6 + 3]? = some (.int .i64 x.n) ∧ cs[o + j * 6 + 4]? = some (.int .i64 x.t) ∧ cs[o + j * 6 + 5]? = some (.bool x.on) ∧ BSl I x.p pv_p
theorem XSl.mono {I J : IM} (le : I.Le J) {L : List AV} {v : Value} (h : XSl I L v) : XSl J L v := by
  obtain ⟨a, cap, hv, hc, hr⟩ := h
  refine ⟨a, cap, hv, hc, fun j x hj => ?_⟩
  obtain ⟨hx, b, o, cs, T, fr, pv_p, h1, h2, h3, h4, h5, h6, h7, h8, h9⟩ := hr j x hj
  exact ⟨hx, b, o, cs, T, fr, pv_p, h1, le _ _ h2, h3, h4, h5, h6, h7, h8, BSl.mono le h9⟩
theorem XSl.cap {I : IM} {L : List AV} {a : Option Addr} {n c : Nat} (h : XSl I L (.slice a n c)) : n = L.length ∧ L.length ≤ c := by
  obtain ⟨a', c', hv, hc, _⟩ := h
  cases hv; exact ⟨rfl, hc⟩
theorem xSl_nil (I : IM) : XSl I [] (.slice none 0 0) := ⟨none, 0, rfl, Nat.le_refl _, fun j x h => by simp at h⟩
theorem xSl_under : Try.prog.underlying 22 = some (.slice 31) := by kernel_rfl
theorem xSl_size (w : World) : (sizeOf 31).run Try.prog w = .ok 6 w := by kernel_rfl
theorem xSl_getD {L : List AV} {i : Nat} (h : i < L.length) : L[i]? = some (L.getD i AV.d) := by simp [h]
theorem xSl_bd {I : IM} {L : List AV} {v : Value} {i : Nat} (h : XSl I L v) (hi : i < L.length) : (L.getD i AV.d).doo < 256 ∧ (L.getD i AV.d).seg < 18446744073709551616 ∧ -9223372036854775808 ≤ (L.getD i AV.d).n ∧ (L.getD i AV.d).n < 9223372036854775808 ∧ -9223372036854775808 ≤ (L.getD i AV.d).t ∧ (L.getD i AV.d).t < 9223372036854775808 := by
  obtain ⟨a', c', hv, hc, hr⟩ := h
  exact (hr i _ (xSl_getD hi)).1
theorem xSl_idx {I : IM} {w : World} {L : List AV} {a : Option Addr} {n c i : Nat} (h : XSl I L (.slice a n c)) (hi : i < L.length) :
    (Instr.indexAt 22 (.slice a n c) (.int .i64 ((i : Nat) : Int))).run Try.prog w = .ok (.pointer (pAt a (i * 6))) w := by
  obtain ⟨a', c', hv, hc, hr⟩ := h
  cases hv
  obtain ⟨-, b, o, cs, T, fr, _, rfl, h2, h3⟩ := hr i _ (xSl_getD hi)
  have h2 : (i : Int) < (L.length : Int) := by omega
  simp [Instr.indexAt, asIntOf, run_underlying xSl_under, xSl_size, h2, pAt]
  intro h3; omega
theorem xSl_ld {I : IM} {w : World} (hS : I.Sub w) {L : List AV} {a : Option Addr} {n c i : Nat} (h : XSl I L (.slice a n c)) (hi : i < L.length) :
    ∃ (a_p : Option Addr) (c_p : Nat) , (Instr.loadAt 31 (.pointer (pAt a (i * 6)))).run Try.prog w = .ok (.agg #[.int .u8 (((L.getD i AV.d).doo : Nat) : Int), .int .u64 (((L.getD i AV.d).seg : Nat) : Int), .slice a_p (List.length (L.getD i AV.d).p) c_p, .int .i64 (L.getD i AV.d).n, .int .i64 (L.getD i AV.d).t, .bool (L.getD i AV.d).on]) w ∧ BSl I (L.getD i AV.d).p (.slice a_p (List.length (L.getD i AV.d).p) c_p) := by
  obtain ⟨a', c', hv, hc, hr⟩ := h
  cases hv
  obtain ⟨-, b, o, cs, T, fr, pv_p, rfl, h2, h3, h4, h5, h6, h7, h8, h9⟩ := hr i _ (xSl_getD hi)
  obtain ⟨a_p, c_p, rfl, -, h9⟩ := h9.open
  refine ⟨a_p, c_p, ?_, h9⟩
  rw [show pAt (some ⟨b, o, none⟩) (i * 6) = some ⟨b, o + i * 6, none⟩ from congrArg some (addr_addO b o (i * 6))]
  have c0 := run_cell (a := ⟨b, o + i * 6, none⟩) (hS _ _ h2) rfl rfl
  rw [h3] at c0
  have c1 := run_cell (a := ⟨b, o + i * 6 + 1, none⟩) (hS _ _ h2) rfl rfl
  rw [h4] at c1
  have c2 := run_cell (a := ⟨b, o + i * 6 + 2, none⟩) (hS _ _ h2) rfl rfl
  rw [h5] at c2
  have c3 := run_cell (a := ⟨b, o + i * 6 + 3, none⟩) (hS _ _ h2) rfl rfl
  rw [h6] at c3
  have c4 := run_cell (a := ⟨b, o + i * 6 + 4, none⟩) (hS _ _ h2) rfl rfl
  rw [h7] at c4
  have c5 := run_cell (a := ⟨b, o + i * 6 + 5, none⟩) (hS _ _ h2) rfl rfl
  rw [h8] at c5
  have e : (Instr.loadAt 31 (.pointer (some ⟨b, o + i * 6, none⟩))).run Try.prog w = ((do pure (.agg (← loadCells ⟨b, o + i * 6, none⟩ 6))) : Sem Value).run Try.prog w := by kernel_rfl
  have l0 : (load ⟨b, o + i * 6, none⟩).run Try.prog w = .ok (.int .u8 (((L.getD i AV.d).doo : Nat) : Int)) w := by simp only [load, Sem.run, c0]
  have l1 : (load ⟨b, o + i * 6 + 1, none⟩).run Try.prog w = .ok (.int .u64 (((L.getD i AV.d).seg : Nat) : Int)) w := by simp only [load, Sem.run, c1]
  have l2 : (load ⟨b, o + i * 6 + 2, none⟩).run Try.prog w = .ok (.slice a_p (List.length (L.getD i AV.d).p) c_p) w := by simp only [load, Sem.run, c2]
  have l3 : (load ⟨b, o + i * 6 + 3, none⟩).run Try.prog w = .ok (.int .i64 (L.getD i AV.d).n) w := by simp only [load, Sem.run, c3]
  have l4 : (load ⟨b, o + i * 6 + 4, none⟩).run Try.prog w = .ok (.int .i64 (L.getD i AV.d).t) w := by simp only [load, Sem.run, c4]
  have l5 : (load ⟨b, o + i * 6 + 5, none⟩).run Try.prog w = .ok (.bool (L.getD i AV.d).on) w := by simp only [load, Sem.run, c5]
  have a0 : (⟨b, o + i * 6, none⟩ : Addr).add (0) = ⟨b, o + i * 6, none⟩ := rfl
  have a1 : (⟨b, o + i * 6, none⟩ : Addr).add (1) = ⟨b, o + i * 6 + 1, none⟩ := rfl
  have a2 : (⟨b, o + i * 6, none⟩ : Addr).add (1 + 1) = ⟨b, o + i * 6 + 2, none⟩ := rfl
  have a3 : (⟨b, o + i * 6, none⟩ : Addr).add (1 + 1 + 1) = ⟨b, o + i * 6 + 3, none⟩ := rfl
  have a4 : (⟨b, o + i * 6, none⟩ : Addr).add (1 + 1 + 1 + 1) = ⟨b, o + i * 6 + 4, none⟩ := rfl
  have a5 : (⟨b, o + i * 6, none⟩ : Addr).add (1 + 1 + 1 + 1 + 1) = ⟨b, o + i * 6 + 5, none⟩ := rfl
  rw [e]
  simp only [loadCells, loadCellsFrom, Sem.run_bind, Sem.run_pure, a0, a1, a2, a3, a4, a5, Nat.zero_add, l0, l1, l2, l3, l4, l5, Result.andThen_ok]
  rfl
end Go.Proofs.Ytccjlkjadnghgaa

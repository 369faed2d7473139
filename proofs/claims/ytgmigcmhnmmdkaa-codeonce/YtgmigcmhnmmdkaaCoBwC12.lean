/- The number in few bits that a list of bits begins with, whatever it is. -/
import Derived.Test.YtgmigcmhnmmdkaaCoBwC11
set_option linter.all false
set_option maxRecDepth 100000
namespace Go.Proofs.Ytgmigcmhnmmdkaa
structure RunB (bs : List Bool) (j : Nat) : Prop where
  le : j ≤ 62
  len : j ≤ bs.length
  ones : ∀ i, i < j → bs.getD i false = true
  stop : j = 62 ∨ j = bs.length ∨ bs.getD j false = false
/-- the number behind j ones -/
def fewV (bs : List Bool) (j : Nat) : Nat := 2 ^ (j + 2) - 4 + rdB (bs.drop (j + 1)) (j + 2)
def fewBad (bs : List Bool) (j : Nat) : Prop := bs.length < j + 1 + (j + 2) ∨ bs.getD j false = true ∨ 18446744073709551616 ≤ fewV bs j
instance (bs : List Bool) (j : Nat) : Decidable (fewBad bs j) := by unfold fewBad; infer_instance
/-- what has been read of the ones -/
structure OnesB (bs : List Bool) (j : Nat) : Prop where
  le : j ≤ 62
  len : j ≤ bs.length
  ones : ∀ i, i < j → bs.getD i false = true
theorem OnesB.start (bs : List Bool) : OnesB bs 0 := ⟨by omega, by omega, fun i h => by omega⟩
theorem head_drop {bs : List Bool} {j : Nat} : (bs.drop j).getD 0 false = bs.getD j false := by
  rw [List.getD_eq_getElem?_getD, List.getD_eq_getElem?_getD, List.getElem?_drop, Nat.add_zero]
theorem OnesB.step {bs : List Bool} {j : Nat} (h : OnesB bs j) (h1 : 0 < (bs.drop j).length) (h2 : (bs.drop j).getD 0 false = true) (h3 : j + 2 < 64) : OnesB bs (j + 1) := by
  rw [List.length_drop] at h1
  refine ⟨by omega, by omega, fun i hi => ?_⟩
  by_cases q : i = j
  · subst q; rw [head_drop] at h2; exact h2
  · exact h.ones i (by omega)
theorem OnesB.run {bs : List Bool} {j : Nat} (h : OnesB bs j) (hs : ¬ 0 < (bs.drop j).length ∨ (bs.drop j).getD 0 false = false ∨ ¬ j + 2 < 64) : RunB bs j := by
  have h1 := h.le; have h2 := h.len
  refine ⟨h1, h2, h.ones, ?_⟩
  rw [List.length_drop, head_drop] at hs
  rcases hs with q | q | q
  · exact .inr (.inl (by omega))
  · exact .inr (.inr q)
  · exact .inl (by omega)
end Go.Proofs.Ytgmigcmhnmmdkaa


/- The program's number in few bits. -/
import Derived.Test.YtgmigcmhnmmdkaaCoBwC12
set_option linter.all false
set_option maxRecDepth 100000
namespace Go.Proofs.Ytgmigcmhnmmdkaa
structure OnesL (l : List UInt8) (p j : Nat) : Prop where
  len : p + j ≤ l.length * 8
  ones : ∀ i, i < j → bitB l (p + i) = true
theorem OnesL.start {l : List UInt8} {p : Nat} (h : p ≤ l.length * 8) : OnesL l p 0 := ⟨by omega, fun i hi => by omega⟩
theorem OnesL.step {l : List UInt8} {p j : Nat} (h : OnesL l p j) (h1 : p + j + 1 ≤ l.length * 8) (hb : bitB l (p + j) = true) : OnesL l p (j + 1) := by
  refine ⟨by omega, fun i hi => ?_⟩
  by_cases q : i = j
  · subst q; exact hb
  · exact h.ones i (by omega)
theorem OnesL.get {l : List UInt8} {p j i : Nat} (h : OnesL l p j) (hi : i < j) : ((bitsL l).drop p).getD i false = true := by
  have := h.len; rw [bitsL_get (by omega)]; exact h.ones i hi
/-- more than 62 ones, or no more bits, or too few: an error -/
theorem OnesL.far {l : List UInt8} {p j : Nat} (h : OnesL l p j) (hj : 62 < j) : RunB ((bitsL l).drop p) 62 ∧ fewBad ((bitsL l).drop p) 62 := by
  have hl := h.len
  refine ⟨⟨by omega, by rw [dropB_len]; omega, fun i hi => h.get (by omega), .inl rfl⟩, .inr (.inl (h.get (by omega)))⟩
theorem OnesL.run {l : List UInt8} {p j : Nat} (h : OnesL l p j) (hj : j ≤ 62) (h1 : p + j + 1 ≤ l.length * 8) (hb : bitB l (p + j) = false) : RunB ((bitsL l).drop p) j := by
  refine ⟨hj, by rw [dropB_len]; omega, fun i hi => h.get hi, .inr (.inr (by rw [bitsL_get (by omega)]; exact hb))⟩
section
variable {l : List UInt8} {p j : Nat}
end
end Go.Proofs.Ytgmigcmhnmmdkaa


/- Bits that are read, the bits that go with them, and the error. -/
import Derived.Test.YtpnlaeapnokipaaBwC5
import Derived.Test.YtpnlaeapnokipaaBwB1
set_option linter.all false
set_option maxRecDepth 100000
namespace Go.Proofs.Ytpnlaeapnokipaa
def clampN (z : Int) : Nat := min z.toNat 64
theorem clampN_le (z : Int) : clampN z ≤ 64 := by unfold clampN; omega
def geV (l : List UInt8) (p e k : Nat) : Nat := if e = 0 ∧ k ≤ l.length * 8 - p then rd l p k else 0
def geD (l : List UInt8) (p e k : Nat) : Nat := if e = 0 ∧ k ≤ l.length * 8 - p then k else 0
def geE (l : List UInt8) (p e k : Nat) : Nat := if e = 0 ∧ l.length * 8 - p < k then 6 else e
/-- a one is left -/
def oneL (l : List UInt8) (p : Nat) : Bool := (List.range (l.length * 8 - p)).any fun i => bitB l (p + i)
theorem oneL_true {l : List UInt8} {p i : Nat} (h : i < l.length * 8 - p) (hb : bitB l (p + i) = true) : oneL l p = true := by
  unfold oneL; rw [List.any_eq_true]; exact ⟨i, List.mem_range.2 h, hb⟩
theorem oneL_false {l : List UInt8} {p : Nat} (h : ∀ i, i < l.length * 8 - p → bitB l (p + i) = false) : oneL l p = false := by
  unfold oneL; rw [List.any_eq_false]; intro i hi; rw [h i (List.mem_range.1 hi)]; decide
theorem none_step {l : List UInt8} {p i : Nat} (h : ∀ j, j < i → bitB l (p + j) = false) (hb : ¬ (bitB l (p + i)).toNat = 1) : ∀ j, j < i + 1 → bitB l (p + j) = false := by
  intro j hj
  by_cases q : j = i
  · subst q
    cases hbb : bitB l (p + j)
    · rfl
    · rw [hbb] at hb; exact absurd rfl hb
  · exact h j (by omega)
def eoE (l : List UInt8) (p e : Nat) : Nat := if e = 0 ∧ (8 ≤ l.length * 8 - p ∨ oneL l p = true) then 6 else e
end Go.Proofs.Ytpnlaeapnokipaa

/- Floats as words: what comes of a whole number is never a NaN; the sign turned twice is the same. -/
import Derived.Test.YtgdickihjaomjaaTuS10
import Derived.OrdersHeld
set_option linter.all false
namespace Go.Proofs.Ytgdickihjaomjaa
open Go.RowKit Go.Sep
/-- a word that is no NaN's: a sign above a rung up to infinity's -/
def wdF (s : Bool) (r : Nat) : Nat := if s then 9223372036854775808 + r else r
def okF (x : Nat) : Prop := ∃ s r, r ≤ 9218868437227405312 ∧ x = wdF s r
theorem okF_int (n : Int) : okF (FloatKind.f64.nearest n) := by
  have hi : Ieee.Format.infRung Ieee.double = 9218868437227405312 := by decide
  have hs : Ieee.Format.signWeight Ieee.double = 9223372036854775808 := by decide
  show okF (Ieee.Format.nearest Ieee.double (decide (n < 0)) n.natAbs 0)
  unfold Ieee.Format.nearest Ieee.Format.word
  rw [hi, hs]
  split
  · exact ⟨decide (n < 0), 0, by decide, rfl⟩
  · exact ⟨decide (n < 0), _, Nat.min_le_right _ _, rfl⟩
theorem xor_hi {r : Nat} (h : r < 9223372036854775808) : r ^^^ 9223372036854775808 = 9223372036854775808 + r := by
  have e : (9223372036854775808 : Nat) = 2 ^ 63 := by decide
  rw [e] at h ⊢
  apply Nat.eq_of_testBit_eq
  intro i
  have h2 := Nat.testBit_two_pow_mul_add 1 h i
  rw [Nat.mul_one] at h2
  rw [Nat.testBit_xor, Nat.testBit_two_pow, h2]
  by_cases hi : i < 63
  · rw [if_pos hi, decide_eq_false (by omega)]; simp
  · rw [if_neg hi, Nat.testBit_lt_two_pow (Nat.lt_of_lt_of_le h (Nat.pow_le_pow_right (by omega) (by omega)))]
    by_cases h3 : 63 = i
    · subst h3; decide
    · rw [decide_eq_false h3]
      have : Nat.testBit 1 (i - 63) = false := Nat.testBit_lt_two_pow (Nat.lt_of_lt_of_le (by decide : 1 < 2 ^ 1) (Nat.pow_le_pow_right (by omega) (by omega)))
      rw [this]; rfl
theorem neg_wd {s : Bool} {r : Nat} (h : r ≤ 9218868437227405312) : Op.negFloat .f64 (wdF s r) = wdF (!s) r := by
  have e : ∀ x, Op.negFloat .f64 x = x ^^^ 9223372036854775808 := fun x => rfl
  have h2 := xor_hi (r := r) (by omega)
  rw [e]
  cases s with
  | false => exact h2
  | true =>
    show (9223372036854775808 + r) ^^^ 9223372036854775808 = r
    rw [← h2, Nat.xor_assoc, Nat.xor_self, Nat.xor_zero]
theorem okF_neg {x : Nat} (h : okF x) : okF (Op.negFloat .f64 x) := by
  obtain ⟨s, r, hr, rfl⟩ := h
  exact ⟨!s, r, hr, neg_wd hr⟩
theorem neg_neg {x : Nat} (h : okF x) : Op.negFloat .f64 (Op.negFloat .f64 x) = x := by
  obtain ⟨s, r, hr, rfl⟩ := h
  rw [neg_wd hr, neg_wd hr, Bool.not_not]
theorem eqF {x : Nat} (h : okF x) : Op.floatEq .f64 x x = true := by
  obtain ⟨s, r, hr, rfl⟩ := h
  have hi : Ieee.Format.infRung Ieee.double = 9218868437227405312 := by decide
  have hs : Ieee.Format.signWeight Ieee.double = 9223372036854775808 := by decide
  have hrd : wdF s r % 9223372036854775808 = r := by
    unfold wdF; cases s
    · simp only [Bool.false_eq_true, if_false]; omega
    · simp only [if_true]; omega
  have e : ∀ d : Ieee.Datum, d.isNaN = false → d.order d = some .eq := by
    intro d hd
    cases d with
    | number a b c => exact congrArg some (Std.ReflCmp.compare_self (cmp := (compare : Int → Int → Ordering)))
    | infinity a => exact congrArg some (Std.ReflCmp.compare_self (cmp := (compare : Nat → Nat → Ordering)))
    | nan a b => cases hd
  show (Ieee.Datum.order (Ieee.Format.read Ieee.double (wdF s r)) (Ieee.Format.read Ieee.double (wdF s r)) == some .eq) = true
  rw [e]
  · rfl
  · unfold Ieee.Format.read
    simp only [hs, hi, hrd]
    split
    · rfl
    · split
      · rfl
      · split
        · rfl
        · exact absurd hr (by omega)
end Go.Proofs.Ytgdickihjaomjaa

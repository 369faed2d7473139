/- The number at a place, as the document reads it. -/
import Derived.Test.YtpnlaeapnokipaaDC8
import Derived.Test.YtpnlaeapnokipaaDB1
set_option linter.all false
set_option maxRecDepth 100000
namespace Go.Proofs.Ytpnlaeapnokipaa
theorem getD_drop8 {P : List UInt8} {a j : Nat} : (P.drop a).getD j 0 = P.getD (a + j) 0 := by
  rw [List.getD_eq_getElem?_getD, List.getD_eq_getElem?_getD, List.getElem?_drop]
structure RefD (P : List UInt8) (at' k : Nat) : Prop where
  lo : at' ≤ k
  hi : k ≤ P.length
  le : k ≤ at' + 9
  big : ∀ j, at' ≤ j → j < k → 128 ≤ (P.getD j 0).toNat
theorem RefD.start {P : List UInt8} {at' : Nat} (h : at' ≤ P.length) : RefD P at' at' := ⟨by omega, h, by omega, fun j h1 h2 => by omega⟩
theorem RefD.step {P : List UInt8} {at' k : Nat} (h : RefD P at' k) (h1 : k < P.length) (h2 : k < at' + 9) (h3 : 127 < (P.getD k 0).toNat) : RefD P at' (k + 1) := by
  refine ⟨by have := h.lo; omega, by omega, by omega, fun j h4 h5 => ?_⟩
  by_cases q : j = k
  · subst q; omega
  · exact h.big j h4 (by omega)
theorem RefD.lead {P : List UInt8} {at' k : Nat} (h : RefD P at' k) (hs : ¬ k < P.length ∨ ¬ k < at' + 9 ∨ ¬ 127 < (P.getD k 0).toNat) : Lead (P.drop at') (k - at') := by
  have h1 := h.lo; have h2 := h.hi; have h3 := h.le
  refine ⟨by omega, by rw [List.length_drop]; omega, fun j hj => ?_, ?_⟩
  · rw [getD_drop8]; exact h.big _ (by omega) (by omega)
  · rw [List.length_drop, getD_drop8, show at' + (k - at') = k by omega]; omega
theorem RefD.bad {P : List UInt8} {at' k : Nat} (h : RefD P at' k) (hs : ¬ k < P.length ∨ ¬ k < at' + 9 ∨ ¬ 127 < (P.getD k 0).toNat) (hb : P.length ≤ k ∨ (k = at' + 9 ∧ 1 < (P.getD k 0).toNat) ∨ (at' < k ∧ (P.getD k 0).toNat = 0)) : numN (P.drop at') = 0 ∧ numK (P.drop at') = 0 := by
  have h1 := h.lo; have h2 := h.hi; have h3 := h.le
  refine num_bad (h.lead hs) ?_
  unfold badN
  rw [List.length_drop, getD_drop8, show at' + (k - at') = k by omega]; omega
/-- what stands behind place n, of a number that ends at k -/
def tail7 (P : List UInt8) (at' k n : Nat) : Nat := val7 (((P.drop at').take (k - at' + 1)).drop (n - at'))
structure RefG (P : List UInt8) (at' k : Nat) : Prop where
  lo : at' ≤ k
  hi : k < P.length
  le : k ≤ at' + 9
  num : numN (P.drop at') = tail7 P at' k at'
  siz : numK (P.drop at') = k - at' + 1
  lt : tail7 P at' k at' < 18446744073709551616
theorem RefD.good {P : List UInt8} {at' k : Nat} (h : RefD P at' k) (hs : ¬ k < P.length ∨ ¬ k < at' + 9 ∨ ¬ 127 < (P.getD k 0).toNat) (hb : ¬ (P.length ≤ k ∨ (k = at' + 9 ∧ 1 < (P.getD k 0).toNat) ∨ (at' < k ∧ (P.getD k 0).toNat = 0))) : RefG P at' k := by
  have h1 := h.lo; have h2 := h.hi; have h3 := h.le
  have hb' : ¬ badN (P.drop at') (k - at') := by
    unfold badN
    rw [List.length_drop, getD_drop8, show at' + (k - at') = k by omega]; omega
  have hg := num_good (h.lead hs) hb'
  have e : tail7 P at' k at' = val7 ((P.drop at').take (k - at' + 1)) := by unfold tail7; rw [Nat.sub_self, List.drop_zero]
  exact ⟨h1, by omega, h3, by rw [hg.1, e], hg.2, by rw [e]; exact val_fit hb'⟩
theorem tail7_end {P : List UInt8} {at' k : Nat} (h : at' ≤ k) : tail7 P at' k (k + 1) = 0 := by
  unfold tail7
  rw [List.drop_eq_nil_of_le (by rw [List.length_take]; omega)]; rfl
theorem tail7_step {P : List UInt8} {at' k i : Nat} (h1 : at' ≤ i) (h2 : i ≤ k) (h3 : k < P.length) : tail7 P at' k i = 128 * tail7 P at' k (i + 1) + (P.getD i 0).toNat % 128 := by
  unfold tail7
  have hl : i - at' < ((P.drop at').take (k - at' + 1)).length := by rw [List.length_take, List.length_drop]; omega
  rw [List.drop_eq_getElem_cons hl, val7, show i + 1 - at' = i - at' + 1 by omega]
  have e : ((P.drop at').take (k - at' + 1))[i - at'] = P.getD i 0 := by
    have : ((P.drop at').take (k - at' + 1))[i - at']? = some (P.getD i 0) := by
      rw [List.getElem?_take, if_pos (by omega), List.getElem?_drop, show at' + (i - at') = i by omega]; exact getD_some8 (by omega)
    rw [List.getElem?_eq_getElem hl] at this
    exact Option.some.inj this
  rw [e]; omega
theorem tail7_le {P : List UInt8} {at' k n : Nat} : tail7 P at' k n ≤ tail7 P at' k at' := by
  unfold tail7
  rw [Nat.sub_self, List.drop_zero]
  generalize (P.drop at').take (k - at' + 1) = L
  have h := val7_append (L.take (n - at')) (L.drop (n - at'))
  rw [List.take_append_drop] at h
  have hp := Nat.two_pow_pos ((L.take (n - at')).length * 7)
  have := Nat.le_mul_of_pos_left (val7 (L.drop (n - at'))) hp
  omega
/-- one less -/
def decI : Nat → Int
  | 0 => -1
  | n + 1 => ((n : Nat) : Int)
theorem decI_eq (n : Nat) : decI n = ((n : Nat) : Int) - 1 := by
  cases n with
  | zero => rfl
  | succ n => show ((n : Nat) : Int) = _; omega
theorem decI_nat {n : Nat} (h : 1 ≤ n) : decI n = ((n - 1 : Nat) : Int) := by rw [decI_eq]; omega
open Go.RowKit Go.Sep in
theorem decI_step {n : Nat} (h : 1 ≤ n) (h2 : n < 9223372036854775808) : IntKind.wrap .i64 (decI n - ((1 : Nat) : Int)) = decI (n - 1) := by
  rw [decI_eq, decI_eq, wrapI64 (by omega) (by omega)]; omega
end Go.Proofs.Ytpnlaeapnokipaa

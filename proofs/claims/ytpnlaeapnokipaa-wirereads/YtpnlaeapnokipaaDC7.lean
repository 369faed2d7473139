/- The number that bytes begin with, whatever they are. -/
import Derived.Test.YtpnlaeapnokipaaDC6
set_option linter.all false
set_option maxRecDepth 100000
namespace Go.Proofs.Ytpnlaeapnokipaa
def val7 : List UInt8 → Nat
  | [] => 0
  | b :: l => b.toNat % 128 + 128 * val7 l
theorem val7_append : ∀ (a b : List UInt8), val7 (a ++ b) = val7 a + 2 ^ (a.length * 7) * val7 b
  | [], b => by simp [val7]
  | x :: a, b => by
    rw [List.cons_append, val7, val7, val7_append a b, List.length_cons, show (a.length + 1) * 7 = 7 + a.length * 7 by omega, Nat.pow_add, Nat.mul_add, ← Nat.mul_assoc, show (2 : Nat) ^ 7 = 128 from rfl]
    omega
theorem val7_lt : ∀ (a : List UInt8), val7 a < 2 ^ (a.length * 7)
  | [] => by simp [val7]
  | x :: a => by
    have := val7_lt a
    rw [val7, List.length_cons, show (a.length + 1) * 7 = 7 + a.length * 7 by omega, Nat.pow_add]
    omega
theorem getD_some8 {l : List UInt8} {i : Nat} (h : i < l.length) : l[i]? = some (l.getD i 0) := by simp [h]
theorem val7_take {l : List UInt8} {i : Nat} (h : i < l.length) : val7 (l.take (i + 1)) = val7 (l.take i) + 2 ^ (i * 7) * ((l.getD i 0).toNat % 128) := by
  have e : l.take (i + 1) = l.take i ++ [l.getD i 0] := by rw [List.take_succ, getD_some8 h]; rfl
  have h2 : (l.take i).length = i := by rw [List.length_take]; omega
  rw [e, val7_append, h2]; simp [val7]
/-- k bytes go on: the first that does not, or the tenth, or none -/
structure Lead (l : List UInt8) (k : Nat) : Prop where
  le : k ≤ 9
  len : k ≤ l.length
  big : ∀ j, j < k → 128 ≤ (l.getD j 0).toNat
  stop : k = 9 ∨ k = l.length ∨ (l.getD k 0).toNat < 128
theorem Lead.uniq {l : List UInt8} {k k' : Nat} (h : Lead l k) (h' : Lead l k') : k = k' := by
  rcases Nat.lt_trichotomy k k' with q | q | q
  · have := h'.big k q; rcases h.stop with r | r | r
    · have := h'.le; omega
    · have := h'.len; omega
    · omega
  · exact q
  · have := h.big k' q; rcases h'.stop with r | r | r
    · have := h.le; omega
    · have := h.len; omega
    · omega
open Classical in
noncomputable def kk (l : List UInt8) : Nat := if h : ∃ k, Lead l k then Classical.choose h else 0
theorem kk_eq {l : List UInt8} {k : Nat} (h : Lead l k) : kk l = k := by
  unfold kk
  have hx : ∃ k, Lead l k := ⟨k, h⟩
  rw [dif_pos hx]
  exact (Classical.choose_spec hx).uniq h
def badN (l : List UInt8) (k : Nat) : Prop := k ≥ l.length ∨ (k = 9 ∧ 1 < (l.getD k 0).toNat) ∨ (0 < k ∧ (l.getD k 0).toNat = 0) ∨ 9 < k
instance (l : List UInt8) (k : Nat) : Decidable (badN l k) := by unfold badN; infer_instance
noncomputable def numK (l : List UInt8) : Nat := if badN l (kk l) then 0 else kk l + 1
noncomputable def numN (l : List UInt8) : Nat := if badN l (kk l) then 0 else val7 (l.take (kk l + 1))
theorem numK_le (l : List UInt8) : numK l ≤ l.length := by
  unfold numK; split
  · omega
  · rename_i h; unfold badN at h; omega
theorem val_fit {l : List UInt8} {k : Nat} (h : ¬ badN l k) : val7 (l.take (k + 1)) < 18446744073709551616 := by
  unfold badN at h
  have h1 := val7_lt (l.take k)
  have h2 : (l.take k).length = k := by rw [List.length_take]; omega
  rw [h2] at h1
  rw [val7_take (by omega)]
  by_cases q : k = 9
  · subst q
    have : (l.getD 9 0).toNat % 128 ≤ 1 := by omega
    have e : (2 : Nat) ^ (9 * 7) = 9223372036854775808 := by decide
    rw [e] at h1 ⊢; omega
  · have h3 := val7_lt (l.take (k + 1))
    have h4 : (l.take (k + 1)).length = k + 1 := by rw [List.length_take]; omega
    rw [h4] at h3
    rw [← val7_take (by omega)]
    refine Nat.lt_of_lt_of_le h3 (Nat.le_trans (Nat.pow_le_pow_right (by decide) (show (k + 1) * 7 ≤ 63 by omega)) (by decide))
theorem numN_lt (l : List UInt8) : numN l < 18446744073709551616 := by
  unfold numN; split
  · omega
  · rename_i h; exact val_fit h
theorem numK_zero {l : List UInt8} (h : numK l = 0) : numN l = 0 := by
  unfold numK at h; unfold numN; split
  · rfl
  · rename_i q; rw [if_neg q] at h; omega
theorem num_bad {l : List UInt8} {k : Nat} (h : Lead l k) (hb : badN l k) : numN l = 0 ∧ numK l = 0 := by
  unfold numN numK; rw [kk_eq h, if_pos hb, if_pos hb]; exact ⟨rfl, rfl⟩
theorem num_good {l : List UInt8} {k : Nat} (h : Lead l k) (hb : ¬ badN l k) : numN l = val7 (l.take (k + 1)) ∧ numK l = k + 1 := by
  unfold numN numK; rw [kk_eq h, if_neg hb, if_neg hb]; exact ⟨rfl, rfl⟩
/-- What the program has read up to place i. -/
structure DecG (l : List UInt8) (i acc : Nat) : Prop where
  le : i ≤ 10
  len : i ≤ l.length
  big : ∀ j, j < i → 128 ≤ (l.getD j 0).toNat
  acc : i ≤ 9 → acc = val7 (l.take i)
theorem DecG.start (l : List UInt8) : DecG l 0 0 := ⟨by omega, by omega, fun j h => by omega, fun _ => by simp [val7]⟩
theorem decG_sum {l : List UInt8} {i acc : Nat} (h : DecG l i acc) (hi : i < l.length) (h9 : i < 9 ∨ (i = 9 ∧ (l.getD i 0).toNat ≤ 1)) : bor 64 acc (bshl 64 (bandn 8 (l.getD i 0).toNat 128) (i * 7)) = val7 (l.take (i + 1)) := by
  have e1 : bandn 8 (l.getD i 0).toNat 128 = (l.getD i 0).toNat % 128 := bandn_more ⟨(l.getD i 0).toNat, byte_lt _⟩
  have h1 := val7_lt (l.take i)
  have h2 : (l.take i).length = i := by rw [List.length_take]; omega
  rw [h2] at h1
  have hv := val7_take hi
  have hfit : val7 (l.take i) + 2 ^ (i * 7) * ((l.getD i 0).toNat % 128) < 18446744073709551616 := by
    rcases h9 with q | ⟨rfl, q⟩
    · have h3 := val7_lt (l.take (i + 1))
      have h4 : (l.take (i + 1)).length = i + 1 := by rw [List.length_take]; omega
      rw [h4, hv] at h3
      exact Nat.lt_of_lt_of_le h3 (Nat.le_trans (Nat.pow_le_pow_right (by decide) (show (i + 1) * 7 ≤ 63 by omega)) (by decide))
    · have : (l.getD 9 0).toNat % 128 ≤ 1 := by omega
      have e : (2 : Nat) ^ (9 * 7) = 9223372036854775808 := by decide
      rw [e] at h1 ⊢; omega
  rw [h.acc (by omega), e1, hv]
  generalize val7 (l.take i) = x at *
  generalize (l.getD i 0).toNat % 128 = y at *
  have hy : y * 2 ^ (i * 7) < 18446744073709551616 := by rw [Nat.mul_comm]; omega
  have e2 : bshl 64 y (i * 7) = y * 2 ^ (i * 7) := by unfold bshl; exact Nat.mod_eq_of_lt hy
  rw [e2]
  unfold bor
  rw [BitVec.toNat_or, BitVec.toNat_ofNat, BitVec.toNat_ofNat, Nat.mod_eq_of_lt (show x < 2 ^ 64 by omega), Nat.mod_eq_of_lt (show y * 2 ^ (i * 7) < 2 ^ 64 from hy), or_add h1, Nat.mul_comm]
theorem DecG.step {l : List UInt8} {i acc : Nat} (h : DecG l i acc) (hi : i < l.length) (h10 : i < 10) (hb : 128 ≤ (l.getD i 0).toNat) : DecG l (i + 1) (bor 64 acc (bshl 64 (bandn 8 (l.getD i 0).toNat 128) (i * 7))) := by
  refine ⟨by omega, by omega, fun j hj => ?_, fun h9 => decG_sum h hi (.inl (by omega))⟩
  by_cases q : j = i
  · subst q; exact hb
  · exact h.big j (by omega)
theorem DecG.lead {l : List UInt8} {i acc : Nat} (h : DecG l i acc) (hi : i < l.length) (h10 : i < 10) (hb : ¬ 128 ≤ (l.getD i 0).toNat) : Lead l i := ⟨by omega, by omega, h.big, .inr (.inr (by omega))⟩
theorem DecG.out {l : List UInt8} {i acc : Nat} (h : DecG l i acc) (hi : ¬ i < min l.length 10) : numN l = 0 ∧ numK l = 0 := by
  have hl := h.len
  have hle := h.le
  by_cases q : i ≤ 9
  · exact num_bad ⟨q, hl, h.big, .inr (.inl (by omega))⟩ (.inl (by omega))
  · refine num_bad (k := 9) ⟨by omega, by omega, fun j hj => h.big j (by omega), .inl rfl⟩ (.inr (.inl ⟨rfl, ?_⟩))
    have := h.big 9 (by omega); omega
theorem DecG.good {l : List UInt8} {i acc : Nat} (h : DecG l i acc) (hi : i < l.length) (h10 : i < 10) (hb : ¬ 128 ≤ (l.getD i 0).toNat) (h0 : ¬ (0 < i ∧ (l.getD i 0).toNat = 0)) (h9 : ¬ (i = 9 ∧ 1 < (l.getD i 0).toNat)) : bor 64 acc (bshl 64 (bandn 8 (l.getD i 0).toNat 128) (i * 7)) = numN l ∧ i + 1 = numK l := by
  have hg := num_good (h.lead hi h10 hb) (by unfold badN; omega)
  refine ⟨?_, hg.2.symm⟩
  rw [hg.1]
  exact decG_sum h hi (by omega)
theorem DecG.bad0 {l : List UInt8} {i acc : Nat} (h : DecG l i acc) (hi : i < l.length) (h10 : i < 10) (hb : ¬ 128 ≤ (l.getD i 0).toNat) (h0 : (0 < i ∧ (l.getD i 0).toNat = 0) ∨ (i = 9 ∧ 1 < (l.getD i 0).toNat)) : numN l = 0 ∧ numK l = 0 :=
  num_bad (h.lead hi h10 hb) (by unfold badN; omega)
end Go.Proofs.Ytpnlaeapnokipaa

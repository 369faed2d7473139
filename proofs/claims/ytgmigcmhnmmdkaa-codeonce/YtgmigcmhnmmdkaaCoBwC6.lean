/- Numbers in bytes of seven bits. -/
import Derived.Test.YtgmigcmhnmmdkaaCoBwC5
set_option linter.all false
set_option maxRecDepth 100000
namespace Go.Proofs.Ytgmigcmhnmmdkaa
def encF : Nat → Nat → List UInt8
  | 0, n => [UInt8.ofNat (n % 256)]
  | f + 1, n => if n < 128 then [UInt8.ofNat (n % 256)] else UInt8.ofNat (n % 128 + 128) :: encF f (n / 128)
theorem encF_stop {f n : Nat} (h : n < 128) : encF f n = [UInt8.ofNat (n % 256)] := by
  cases f with
  | zero => rfl
  | succ f => rw [encF, if_pos h]
theorem encF_go {f n : Nat} (h : ¬ n < 128) : encF (f + 1) n = UInt8.ofNat (n % 128 + 128) :: encF f (n / 128) := by rw [encF, if_neg h]
theorem m_pos {m n : Nat} (h : n < 2 ^ (m * 7 + 1)) (hn : ¬ n < 128) : 1 ≤ m := by
  cases m with
  | zero => rw [Nat.zero_mul, Nat.zero_add, Nat.pow_one] at h; omega
  | succ m => omega
theorem bandn_more : ∀ x : Fin 256, bandn 8 x.1 128 = x.1 % 128 := by decide
theorem div_pow {n m : Nat} (h : n < 2 ^ ((m + 1) * 7 + 1)) : n / 128 < 2 ^ (m * 7 + 1) := by
  apply Nat.div_lt_of_lt_mul
  have e : (m + 1) * 7 + 1 = 7 + (m * 7 + 1) := by omega
  rw [e, Nat.pow_add] at h
  exact h
/-- What has been read up to place i. -/
structure Dec (l rest : List UInt8) (n i acc : Nat) : Prop where
  le : i ≤ 9
  here : l.drop i = encF (9 - i) (n / 2 ^ (i * 7)) ++ rest
  acc : acc = n % 2 ^ (i * 7)
  lt : n / 2 ^ (i * 7) < 2 ^ ((9 - i) * 7 + 1)
  len : (encF 9 n).length = i + (encF (9 - i) (n / 2 ^ (i * 7))).length
  pos : i = 0 ∨ 1 ≤ n / 2 ^ (i * 7)
theorem Dec.start {l rest : List UInt8} {n : Nat} (h : l = encF 9 n ++ rest) (hn : n < 18446744073709551616) : Dec l rest n 0 0 :=
  ⟨by omega, by rw [h]; simp, by rw [Nat.zero_mul, Nat.pow_zero, Nat.mod_one], by rw [Nat.zero_mul, Nat.pow_zero, Nat.div_one]; exact hn, by simp, .inl rfl⟩
theorem Dec.byte {l rest : List UInt8} {n i acc : Nat} (h : Dec l rest n i acc) : (l.getD i 0).toNat = if n / 2 ^ (i * 7) < 128 then n / 2 ^ (i * 7) else n / 2 ^ (i * 7) % 128 + 128 := by
  have e : l.getD i 0 = (l.drop i).getD 0 0 := by rw [List.getD_eq_getElem?_getD, List.getD_eq_getElem?_getD, List.getElem?_drop, Nat.add_zero]
  rw [e, h.here]
  by_cases hx : n / 2 ^ (i * 7) < 128
  · rw [if_pos hx, encF_stop hx]
    generalize n / 2 ^ (i * 7) = x at hx
    simp only [List.cons_append, List.getD_cons_zero]
    rw [ofNat_toNat (by omega)]; omega
  · have hm := m_pos h.lt hx
    obtain ⟨k, hk⟩ : ∃ k, 9 - i = k + 1 := ⟨9 - i - 1, by omega⟩
    rw [if_neg hx, hk, encF_go hx]
    generalize n / 2 ^ (i * 7) = x
    simp only [List.cons_append, List.getD_cons_zero]
    rw [ofNat_toNat (by omega)]
theorem dec_sum {n i b : Nat} (hn : n < 18446744073709551616) (hb : b % 128 = n / 2 ^ (i * 7) % 128) (hb2 : b < 256) : bor 64 (n % 2 ^ (i * 7)) (bshl 64 (bandn 8 b 128) (i * 7)) = n % 2 ^ ((i + 1) * 7) := by
  have hp := Nat.two_pow_pos (i * 7)
  have e1 : bandn 8 b 128 = b % 128 := bandn_more ⟨b, hb2⟩
  have h1 : n / 2 ^ (i * 7) % 128 * 2 ^ (i * 7) ≤ n := Nat.le_trans (Nat.mul_le_mul_right _ (Nat.mod_le _ _)) (Nat.div_mul_le_self n _)
  have e2 : bshl 64 (b % 128) (i * 7) = n / 2 ^ (i * 7) % 128 * 2 ^ (i * 7) := by
    unfold bshl; rw [hb]; exact Nat.mod_eq_of_lt (Nat.lt_of_le_of_lt h1 hn)
  have h2 : n % 2 ^ (i * 7) ≤ n := Nat.mod_le _ _
  have e3 : n % 2 ^ (i * 7) % 2 ^ 64 = n % 2 ^ (i * 7) := Nat.mod_eq_of_lt (Nat.lt_of_le_of_lt h2 hn)
  have e4 : n / 2 ^ (i * 7) % 128 * 2 ^ (i * 7) % 2 ^ 64 = n / 2 ^ (i * 7) % 128 * 2 ^ (i * 7) := Nat.mod_eq_of_lt (Nat.lt_of_le_of_lt h1 hn)
  rw [e1, e2]
  unfold bor
  rw [BitVec.toNat_or, BitVec.toNat_ofNat, BitVec.toNat_ofNat, e3, e4, or_add (Nat.mod_lt _ hp), show (i + 1) * 7 = i * 7 + 7 by omega, Nat.pow_add, Nat.mod_mul, Nat.mul_comm (2 ^ (i * 7))]
theorem Dec.step {l rest : List UInt8} {n i acc : Nat} (hn : n < 18446744073709551616) (h : Dec l rest n i acc) (hb : 128 ≤ (l.getD i 0).toNat) : Dec l rest n (i + 1) (bor 64 acc (bshl 64 (bandn 8 (l.getD i 0).toNat 128) (i * 7))) := by
  have hbyte := h.byte
  have hx : ¬ n / 2 ^ (i * 7) < 128 := fun q => by rw [if_pos q] at hbyte; omega
  rw [if_neg hx] at hbyte
  have hm := m_pos h.lt hx
  obtain ⟨k, hk⟩ : ∃ k, 9 - i = k + 1 := ⟨9 - i - 1, by omega⟩
  have hk2 : 9 - (i + 1) = k := by omega
  have e : n / 2 ^ ((i + 1) * 7) = n / 2 ^ (i * 7) / 128 := by rw [Nat.div_div_eq_div_mul, show (i + 1) * 7 = i * 7 + 7 by omega, Nat.pow_add]
  have hh := h.here
  have hl := h.len
  have hlt := h.lt
  rw [hk, encF_go hx] at hh hl
  rw [hk] at hlt
  refine ⟨by omega, ?_, ?_, ?_, ?_, .inr ?_⟩
  · rw [hk2, e, ← List.drop_drop, hh]; rfl
  · rw [h.acc]; exact dec_sum hn (by rw [hbyte]; generalize n / 2 ^ (i * 7) = x; omega) (byte_lt _)
  · rw [hk2, e]; exact div_pow hlt
  · rw [hk2, e]; simp only [List.length_cons] at hl; omega
  · rw [e]; generalize n / 2 ^ (i * 7) = x at hx; omega
theorem Dec.stop {l rest : List UInt8} {n i acc : Nat} (hn : n < 18446744073709551616) (h : Dec l rest n i acc) (hb : ¬ 128 ≤ (l.getD i 0).toNat) : bor 64 acc (bshl 64 (bandn 8 (l.getD i 0).toNat 128) (i * 7)) = n ∧ i + 1 = (encF 9 n).length ∧ ¬ (0 < i ∧ (l.getD i 0).toNat = 0) ∧ ¬ (i = 9 ∧ 1 < (l.getD i 0).toNat) := by
  have hbyte := h.byte
  have hx : n / 2 ^ (i * 7) < 128 := by
    by_cases q : n / 2 ^ (i * 7) < 128
    · exact q
    · rw [if_neg q] at hbyte; omega
  rw [if_pos hx] at hbyte
  refine ⟨?_, ?_, ?_, ?_⟩
  · rw [h.acc, dec_sum hn (by rw [hbyte]) (byte_lt _)]
    apply Nat.mod_eq_of_lt
    rw [show (i + 1) * 7 = i * 7 + 7 by omega, Nat.pow_add]
    exact (Nat.div_lt_iff_lt_mul (Nat.two_pow_pos _)).1 hx |> fun q => by rw [Nat.mul_comm]; exact q
  · have := h.len; rw [encF_stop hx] at this; simp at this; omega
  · rintro ⟨h0, hz⟩
    rw [hbyte] at hz
    rcases h.pos with q | q
    · omega
    · generalize n / 2 ^ (i * 7) = x at hz q; omega
  · rintro ⟨h9, h1⟩
    have := h.lt
    subst h9
    rw [hbyte] at h1
    simp at this h1
    omega
end Go.Proofs.Ytgmigcmhnmmdkaa


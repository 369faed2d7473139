/- The program's number in few bits. -/
import Derived.Test.YtpnlaeapnokipaaBwC12
set_option linter.all false
set_option maxRecDepth 100000
namespace Go.Proofs.Ytpnlaeapnokipaa
structure OnesL (l : List UInt8) (p j : Nat) : Prop where
  len : p + j ≤ l.length * 8
  ones : ∀ i, i < j → bitB l (p + i) = true
theorem OnesL.start {l : List UInt8} {p : Nat} (h : p ≤ l.length * 8) : OnesL l p 0 := ⟨by omega, fun i hi => by omega⟩
theorem rd_bit {l : List UInt8} {a : Nat} : rd l a 1 = (bitB l a).toNat := by simp [rd]
theorem bit_one {l : List UInt8} {a : Nat} (h : rd l a 1 = 1) : bitB l a = true := by rw [rd_bit] at h; cases hb : bitB l a <;> simp [hb] at h ⊢
theorem bit_nil {l : List UInt8} {a : Nat} (h : ¬ rd l a 1 = 1) : bitB l a = false := by rw [rd_bit] at h; cases hb : bitB l a <;> simp [hb] at h ⊢
theorem OnesL.step {l : List UInt8} {p j : Nat} (h : OnesL l p j) (h1 : p + j + 1 ≤ l.length * 8) (hb : bitB l (p + j) = true) : OnesL l p (j + 1) := by
  refine ⟨by omega, fun i hi => ?_⟩
  by_cases q : i = j
  · subst q; exact hb
  · exact h.ones i (by omega)
theorem OnesL.get {l : List UInt8} {p j i : Nat} (h : OnesL l p j) (hi : i < j) : ((bitsL l).drop p).getD i false = true := by
  have := h.len; rw [bitsL_get (by omega)]; exact h.ones i hi
/-- more than 62 ones, or no more bits, or too few: an error -/
theorem OnesL.far {l : List UInt8} {p j : Nat} (h : OnesL l p j) (hj : 62 < j) : RunB ((bitsL l).drop p) 62 ∧ fewBad ((bitsL l).drop p) 62 := by
  have hl := h.len
  refine ⟨⟨by omega, by rw [dropB_len]; omega, fun i hi => h.get (by omega), .inl rfl⟩, .inr (.inl (h.get (by omega)))⟩
theorem OnesL.out {l : List UInt8} {p j : Nat} (h : OnesL l p j) (hj : j ≤ 62) (ho : ¬ p + j + 1 ≤ l.length * 8) : RunB ((bitsL l).drop p) j ∧ fewBad ((bitsL l).drop p) j := by
  have hl := h.len
  refine ⟨⟨hj, by rw [dropB_len]; omega, fun i hi => h.get hi, .inr (.inl (by rw [dropB_len]; omega))⟩, .inl (by rw [dropB_len]; omega)⟩
theorem OnesL.run {l : List UInt8} {p j : Nat} (h : OnesL l p j) (hj : j ≤ 62) (h1 : p + j + 1 ≤ l.length * 8) (hb : bitB l (p + j) = false) : RunB ((bitsL l).drop p) j := by
  refine ⟨hj, by rw [dropB_len]; omega, fun i hi => h.get hi, .inr (.inr (by rw [bitsL_get (by omega)]; exact hb))⟩
theorem few_rd {l : List UInt8} {p j : Nat} (h : p + j + 1 + (j + 2) ≤ l.length * 8) : fewV ((bitsL l).drop p) j = 2 ^ (j + 2) - 4 + rd l (p + j + 1) (j + 2) := by
  unfold fewV; rw [List.drop_drop, show p + (j + 1) = p + j + 1 by omega, rdB_rd h]
theorem bshl_one {k : Nat} : bshl 64 1 k = 2 ^ k % 18446744073709551616 := by unfold bshl; rw [Nat.one_mul]
theorem ge6 {l : List UInt8} {p k : Nat} : geE l p 6 k = 6 := by unfold geE; rw [if_neg (by omega)]
theorem geE_bad {l : List UInt8} {q k : Nat} (h : geE l q 0 k ≠ 0) : l.length * 8 - q < k := by
  unfold geE at h; split at h
  · rename_i hh; exact hh.2
  · exact absurd rfl h
theorem geE_ok {l : List UInt8} {q k : Nat} (h : ¬ geE l q 0 k ≠ 0) : k ≤ l.length * 8 - q ∧ geV l q 0 k = rd l q k ∧ geD l q 0 k = k ∧ geE l q 0 k = 0 := by
  unfold geE at h
  have hk : k ≤ l.length * 8 - q := by
    by_cases hh : 0 = 0 ∧ l.length * 8 - q < k
    · rw [if_pos hh] at h; exact absurd (by decide) h
    · omega
  unfold geV geD geE
  rw [if_pos ⟨rfl, hk⟩, if_pos ⟨rfl, hk⟩, if_neg (by omega)]
  exact ⟨hk, rfl, rfl, rfl⟩
theorem clampN_nat {k : Nat} (h : k ≤ 64) : clampN ((k : Nat) : Int) = k := by unfold clampN; omega
section
variable {l : List UInt8} {p j : Nat}
theorem num_far (h : OnesL l p j) (hj : 64 < j + 2) : bnV ((bitsL l).drop p) 0 = 0 ∧ bnD ((bitsL l).drop p) 0 = 0 ∧ bnE ((bitsL l).drop p) 0 = 6 := by
  obtain ⟨h1, h2⟩ := h.far (by omega)
  exact bn_bad rfl h1 h2
theorem num_out (h : OnesL l p j) (ho : ¬ p + j + 1 ≤ l.length * 8) : bnV ((bitsL l).drop p) 0 = 0 ∧ bnD ((bitsL l).drop p) 0 = 0 ∧ bnE ((bitsL l).drop p) 0 = 6 := by
  by_cases hj : 62 < j
  · exact num_far h (by omega)
  · obtain ⟨h1, h2⟩ := h.out (by omega) ho
    exact bn_bad rfl h1 h2
theorem num_short (h : OnesL l p j) (h1 : p + j + 1 ≤ l.length * 8) (hb : bitB l (p + j) = false) (hg : geE l (p + j + 1) 0 (clampN ((j + 2 : Nat) : Int)) ≠ 0) : bnV ((bitsL l).drop p) 0 = 0 ∧ bnD ((bitsL l).drop p) 0 = 0 ∧ bnE ((bitsL l).drop p) 0 = 6 := by
  by_cases hj : 62 < j
  · exact num_far h (by omega)
  · have hs := geE_bad hg
    rw [clampN_nat (by omega)] at hs
    exact bn_bad rfl (h.run (by omega) h1 hb) (.inl (by rw [dropB_len]; omega))
theorem num_over (h : OnesL l p j) (h1 : p + j + 1 ≤ l.length * 8) (hb : bitB l (p + j) = false) (hg : ¬ geE l (p + j + 1) 0 (clampN ((j + 2 : Nat) : Int)) ≠ 0) (hj : ¬ 64 < j + 2)
    (ho : IntKind.wrap .u64 (IntKind.wrap .u64 (((bshl 64 1 (j + 2) : Nat) : Int) - ((4 : Nat) : Int)) + ((geV l (p + j + 1) 0 (clampN ((j + 2 : Nat) : Int)) : Nat) : Int)) < IntKind.wrap .u64 (((bshl 64 1 (j + 2) : Nat) : Int) - ((4 : Nat) : Int))) : bnV ((bitsL l).drop p) 0 = 0 ∧ bnD ((bitsL l).drop p) 0 = 0 ∧ bnE ((bitsL l).drop p) 0 = 6 := by
  obtain ⟨g1, g2, g3, g4⟩ := geE_ok hg
  rw [clampN_nat (by omega)] at g1 g2
  refine bn_bad rfl (h.run (by omega) h1 hb) (.inr (.inr ?_))
  rw [few_rd (by omega)]
  rw [clampN_nat (by omega), g2, wrapU_mod, wrapU_mod, bshl_one] at ho
  have hr := rd_lt l (p + j + 1) (j + 2)
  have hx : 2 ^ (j + 2) ≤ 2 ^ 64 := Nat.pow_le_pow_right (by decide) (by omega)
  have h4 : 4 ≤ 2 ^ (j + 2) := show 2 ^ 2 ≤ 2 ^ (j + 2) from Nat.pow_le_pow_right (by decide) (by omega)
  have e64 : (2 : Nat) ^ 64 = 18446744073709551616 := by decide
  rw [e64] at hx
  generalize 2 ^ (j + 2) = X at *
  generalize rd l (p + j + 1) (j + 2) = R at *
  omega
theorem num_good (h : OnesL l p j) (h1 : p + j + 1 ≤ l.length * 8) (hb : bitB l (p + j) = false) (hg : ¬ geE l (p + j + 1) 0 (clampN ((j + 2 : Nat) : Int)) ≠ 0) (hj : ¬ 64 < j + 2)
    (ho : ¬ IntKind.wrap .u64 (IntKind.wrap .u64 (((bshl 64 1 (j + 2) : Nat) : Int) - ((4 : Nat) : Int)) + ((geV l (p + j + 1) 0 (clampN ((j + 2 : Nat) : Int)) : Nat) : Int)) < IntKind.wrap .u64 (((bshl 64 1 (j + 2) : Nat) : Int) - ((4 : Nat) : Int))) :
    IntKind.wrap .u64 (IntKind.wrap .u64 (((bshl 64 1 (j + 2) : Nat) : Int) - ((4 : Nat) : Int)) + ((geV l (p + j + 1) 0 (clampN ((j + 2 : Nat) : Int)) : Nat) : Int)) = ((bnV ((bitsL l).drop p) 0 : Nat) : Int) ∧
    ∀ (r : Nat) (v : Value), ((r, Obj.cells #[v, .int .i64 ((p + j + 1 + geD l (p + j + 1) 0 (clampN ((j + 2 : Nat) : Int)) : Nat) : Int), .int .i64 ((geE l (p + j + 1) 0 (clampN ((j + 2 : Nat) : Int)) : Nat) : Int)] 99) : Nat × Obj) = (r, .cells #[v, .int .i64 ((p + bnD ((bitsL l).drop p) 0 : Nat) : Int), .int .i64 ((bnE ((bitsL l).drop p) 0 : Nat) : Int)] 99) := by
  obtain ⟨g1, g2, g3, g4⟩ := geE_ok hg
  rw [clampN_nat (by omega)] at g1 g2 g3 g4
  rw [clampN_nat (by omega), g2, wrapU_mod, wrapU_mod, bshl_one] at ho
  have hr := rd_lt l (p + j + 1) (j + 2)
  have hx : 2 ^ (j + 2) ≤ 2 ^ 64 := Nat.pow_le_pow_right (by decide) (by omega)
  have h4 : 4 ≤ 2 ^ (j + 2) := show 2 ^ 2 ≤ 2 ^ (j + 2) from Nat.pow_le_pow_right (by decide) (by omega)
  have e64 : (2 : Nat) ^ 64 = 18446744073709551616 := by decide
  rw [e64] at hx
  have hrun := h.run (by omega) h1 hb
  have hfv := few_rd (l := l) (p := p) (j := j) (by omega)
  have hnb : ¬ fewBad ((bitsL l).drop p) j := by
    rintro (q | q | q)
    · rw [dropB_len] at q; omega
    · rw [bitsL_get (by omega), hb] at q; cases q
    · rw [hfv] at q
      generalize 2 ^ (j + 2) = X at *
      generalize rd l (p + j + 1) (j + 2) = R at *
      omega
  obtain ⟨b1, b2, b3⟩ := bn_good (e := 0) rfl hrun hnb
  rw [clampN_nat (by omega), g2, g3, g4, b1, b2, b3, hfv]
  refine ⟨?_, fun r v => by rw [show p + j + 1 + (j + 2) = p + (j + 1 + (j + 2)) by omega]⟩
  rw [wrapU_mod, wrapU_mod, bshl_one]
  generalize 2 ^ (j + 2) = X at *
  generalize rd l (p + j + 1) (j + 2) = R at *
  omega
end
end Go.Proofs.Ytpnlaeapnokipaa

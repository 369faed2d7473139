/- The number in few bits that a list of bits begins with, whatever it is. -/
import Derived.Test.YtpnlaeapnokipaaGC11
set_option linter.all false
set_option maxRecDepth 100000
namespace Go.Proofs.Ytpnlaeapnokipaa
structure RunB (bs : List Bool) (j : Nat) : Prop where
  le : j ≤ 62
  len : j ≤ bs.length
  ones : ∀ i, i < j → bs.getD i false = true
  stop : j = 62 ∨ j = bs.length ∨ bs.getD j false = false
theorem RunB.uniq {bs : List Bool} {j k : Nat} (h : RunB bs j) (h' : RunB bs k) : j = k := by
  rcases Nat.lt_trichotomy j k with q | q | q
  · have h1 := h'.ones j q; rcases h.stop with r | r | r
    · have := h'.le; omega
    · have := h'.len; omega
    · rw [h1] at r; cases r
  · exact q
  · have h1 := h.ones k q; rcases h'.stop with r | r | r
    · have := h.le; omega
    · have := h.len; omega
    · rw [h1] at r; cases r
open Classical in
noncomputable def runB (bs : List Bool) : Nat := if h : ∃ k, RunB bs k then Classical.choose h else 0
theorem runB_eq {bs : List Bool} {k : Nat} (h : RunB bs k) : runB bs = k := by
  unfold runB
  have hx : ∃ k, RunB bs k := ⟨k, h⟩
  rw [dif_pos hx]
  exact (Classical.choose_spec hx).uniq h
/-- the number behind j ones -/
def fewV (bs : List Bool) (j : Nat) : Nat := 2 ^ (j + 2) - 4 + rdB (bs.drop (j + 1)) (j + 2)
def fewBad (bs : List Bool) (j : Nat) : Prop := bs.length < j + 1 + (j + 2) ∨ bs.getD j false = true ∨ 18446744073709551616 ≤ fewV bs j
instance (bs : List Bool) (j : Nat) : Decidable (fewBad bs j) := by unfold fewBad; infer_instance
noncomputable def bnV (bs : List Bool) (e : Nat) : Nat := if e = 0 ∧ ¬ fewBad bs (runB bs) then fewV bs (runB bs) else 0
noncomputable def bnD (bs : List Bool) (e : Nat) : Nat := if e = 0 ∧ ¬ fewBad bs (runB bs) then runB bs + 1 + (runB bs + 2) else 0
noncomputable def bnE (bs : List Bool) (e : Nat) : Nat := if e = 0 ∧ fewBad bs (runB bs) then 6 else e
theorem bn_err {bs : List Bool} {e : Nat} (h : e ≠ 0) : bnV bs e = 0 ∧ bnD bs e = 0 ∧ bnE bs e = e := by
  unfold bnV bnD bnE; rw [if_neg (fun q => h q.1), if_neg (fun q => h q.1), if_neg (fun q => h q.1)]; exact ⟨rfl, rfl, rfl⟩
theorem bn_bad {bs : List Bool} {e j : Nat} (h : e = 0) (hr : RunB bs j) (hb : fewBad bs j) : bnV bs e = 0 ∧ bnD bs e = 0 ∧ bnE bs e = 6 := by
  unfold bnV bnD bnE; rw [runB_eq hr, if_neg (fun q => q.2 hb), if_neg (fun q => q.2 hb), if_pos ⟨h, hb⟩]; exact ⟨rfl, rfl, rfl⟩
theorem bn_good {bs : List Bool} {e j : Nat} (h : e = 0) (hr : RunB bs j) (hb : ¬ fewBad bs j) : bnV bs e = fewV bs j ∧ bnD bs e = j + 1 + (j + 2) ∧ bnE bs e = e := by
  unfold bnV bnD bnE; rw [runB_eq hr, if_pos ⟨h, hb⟩, if_pos ⟨h, hb⟩, if_neg (fun q => hb q.2)]; exact ⟨rfl, rfl, rfl⟩
theorem pow_base {j : Nat} (h : j + 2 < 64) : 2 ^ (j + 2) ≤ 9223372036854775808 ∧ 4 ≤ 2 ^ (j + 2) := by
  refine ⟨show 2 ^ (j + 2) ≤ 2 ^ 63 from Nat.pow_le_pow_right (by decide) (by omega), show 2 ^ 2 ≤ 2 ^ (j + 2) from Nat.pow_le_pow_right (by decide) (by omega)⟩
theorem base_step {j : Nat} : 2 ^ (j + 2) - 4 + 2 ^ (j + 2) = 2 ^ (j + 1 + 2) - 4 := by
  have h : 4 ≤ 2 ^ (j + 2) := show 2 ^ 2 ≤ 2 ^ (j + 2) from Nat.pow_le_pow_right (by decide) (by omega)
  have e : 2 ^ (j + 1 + 2) = 2 ^ (j + 2) * 2 := Nat.pow_succ ..; rw [e]; generalize 2 ^ (j + 2) = x at h ⊢; omega
theorem base_lt {j : Nat} (h : j ≤ 62) : 2 ^ (j + 2) - 4 < 18446744073709551616 := by
  have h1 : 2 ^ (j + 2) ≤ 2 ^ 64 := Nat.pow_le_pow_right (by decide) (by omega)
  have : (2 : Nat) ^ 64 = 18446744073709551616 := by decide
  have := Nat.two_pow_pos (j + 2)
  omega
theorem wrapU_mod {z : Int} : IntKind.wrap .u64 z = z % 18446744073709551616 := by
  simp only [IntKind.wrap, IntKind.signed, IntKind.bits]; rfl
/-- what has been read of the ones -/
structure OnesB (bs : List Bool) (j : Nat) : Prop where
  le : j ≤ 62
  len : j ≤ bs.length
  ones : ∀ i, i < j → bs.getD i false = true
theorem OnesB.start (bs : List Bool) : OnesB bs 0 := ⟨by omega, by omega, fun i h => by omega⟩
theorem head_drop {bs : List Bool} {j : Nat} : (bs.drop j).getD 0 false = bs.getD j false := by
  rw [List.getD_eq_getElem?_getD, List.getD_eq_getElem?_getD, List.getElem?_drop, Nat.add_zero]
theorem OnesB.step {bs : List Bool} {j : Nat} (h : OnesB bs j) (h1 : 0 < (bs.drop j).length) (h2 : (bs.drop j).getD 0 false = true) (h3 : j + 2 < 64) : OnesB bs (j + 1) := by
  rw [List.length_drop] at h1
  refine ⟨by omega, by omega, fun i hi => ?_⟩
  by_cases q : i = j
  · subst q; rw [head_drop] at h2; exact h2
  · exact h.ones i (by omega)
theorem OnesB.run {bs : List Bool} {j : Nat} (h : OnesB bs j) (hs : ¬ 0 < (bs.drop j).length ∨ (bs.drop j).getD 0 false = false ∨ ¬ j + 2 < 64) : RunB bs j := by
  have h1 := h.le; have h2 := h.len
  refine ⟨h1, h2, h.ones, ?_⟩
  rw [List.length_drop, head_drop] at hs
  rcases hs with q | q | q
  · exact .inr (.inl (by omega))
  · exact .inr (.inr q)
  · exact .inl (by omega)
theorem mid_rdB {bs : List Bool} {j m : Nat} : ∀ {i : Nat}, i ≤ m → rdB (((bs.drop j).take (1 + m)).drop 1) i = rdB (bs.drop (j + 1)) i
  | 0, _ => rfl
  | i + 1, h => by
    rw [rdB, rdB, mid_rdB (by omega)]
    congr 2
    rw [List.getD_eq_getElem?_getD, List.getD_eq_getElem?_getD, List.getElem?_drop, List.getElem?_take, if_pos (by omega), List.getElem?_drop, List.getElem?_drop, show j + (1 + i) = j + 1 + i by omega]
theorem rdB_one' {bs : List Bool} {i : Nat} (hb : bs.getD i false = true) : rdB bs i * 2 + 1 = rdB bs (i + 1) := by
  rw [rdB, hb]; simp; omega
theorem rdB_nil' {bs : List Bool} {i : Nat} (hb : bs.getD i false = false) : rdB bs i * 2 = rdB bs (i + 1) := by
  rw [rdB, hb]; simp; omega
end Go.Proofs.Ytpnlaeapnokipaa

/- The number in few bits that a list of bits begins with, whatever it is. -/
import Derived.Test.YtpnlaeapnokipaaBwC11
set_option linter.all false
set_option maxRecDepth 100000
namespace Go.Proofs.Ytpnlaeapnokipaa
structure RunB (bs : List Bool) (j : Nat) : Prop where
  le : j ≤ 62
  len : j ≤ bs.length
  ones : ∀ i, i < j → bs.getD i false = true
  stop : j = 62 ∨ j = bs.length ∨ bs.getD j false = false
theorem RunB.uniq {bs : List Bool} {j k : Nat} (h : RunB bs j) (h' : RunB bs k) : j = k := by
  rcases Nat.lt_trichotomy j k with q | q | q
  · have h1 := h'.ones j q; rcases h.stop with r | r | r
    · have := h'.le; omega
    · have := h'.len; omega
    · rw [h1] at r; cases r
  · exact q
  · have h1 := h.ones k q; rcases h'.stop with r | r | r
    · have := h.le; omega
    · have := h.len; omega
    · rw [h1] at r; cases r
open Classical in
noncomputable def runB (bs : List Bool) : Nat := if h : ∃ k, RunB bs k then Classical.choose h else 0
theorem runB_eq {bs : List Bool} {k : Nat} (h : RunB bs k) : runB bs = k := by
  unfold runB
  have hx : ∃ k, RunB bs k := ⟨k, h⟩
  rw [dif_pos hx]
  exact (Classical.choose_spec hx).uniq h
/-- the number behind j ones -/
def fewV (bs : List Bool) (j : Nat) : Nat := 2 ^ (j + 2) - 4 + rdB (bs.drop (j + 1)) (j + 2)
def fewBad (bs : List Bool) (j : Nat) : Prop := bs.length < j + 1 + (j + 2) ∨ bs.getD j false = true ∨ 18446744073709551616 ≤ fewV bs j
instance (bs : List Bool) (j : Nat) : Decidable (fewBad bs j) := by unfold fewBad; infer_instance
noncomputable def bnV (bs : List Bool) (e : Nat) : Nat := if e = 0 ∧ ¬ fewBad bs (runB bs) then fewV bs (runB bs) else 0
noncomputable def bnD (bs : List Bool) (e : Nat) : Nat := if e = 0 ∧ ¬ fewBad bs (runB bs) then runB bs + 1 + (runB bs + 2) else 0
noncomputable def bnE (bs : List Bool) (e : Nat) : Nat := if e = 0 ∧ fewBad bs (runB bs) then 6 else e
theorem bn_bad {bs : List Bool} {e j : Nat} (h : e = 0) (hr : RunB bs j) (hb : fewBad bs j) : bnV bs e = 0 ∧ bnD bs e = 0 ∧ bnE bs e = 6 := by
  unfold bnV bnD bnE; rw [runB_eq hr, if_neg (fun q => q.2 hb), if_neg (fun q => q.2 hb), if_pos ⟨h, hb⟩]; exact ⟨rfl, rfl, rfl⟩
theorem bn_good {bs : List Bool} {e j : Nat} (h : e = 0) (hr : RunB bs j) (hb : ¬ fewBad bs j) : bnV bs e = fewV bs j ∧ bnD bs e = j + 1 + (j + 2) ∧ bnE bs e = e := by
  unfold bnV bnD bnE; rw [runB_eq hr, if_pos ⟨h, hb⟩, if_pos ⟨h, hb⟩, if_neg (fun q => hb q.2)]; exact ⟨rfl, rfl, rfl⟩
theorem wrapU_mod {z : Int} : IntKind.wrap .u64 z = z % 18446744073709551616 := by
  simp only [IntKind.wrap, IntKind.signed, IntKind.bits]; rfl
/-- what has been read of the ones -/
structure OnesB (bs : List Bool) (j : Nat) : Prop where
  le : j ≤ 62
  len : j ≤ bs.length
  ones : ∀ i, i < j → bs.getD i false = true
theorem OnesB.start (bs : List Bool) : OnesB bs 0 := ⟨by omega, by omega, fun i h => by omega⟩
theorem head_drop {bs : List Bool} {j : Nat} : (bs.drop j).getD 0 false = bs.getD j false := by
  rw [List.getD_eq_getElem?_getD, List.getD_eq_getElem?_getD, List.getElem?_drop, Nat.add_zero]
theorem OnesB.step {bs : List Bool} {j : Nat} (h : OnesB bs j) (h1 : 0 < (bs.drop j).length) (h2 : (bs.drop j).getD 0 false = true) (h3 : j + 2 < 64) : OnesB bs (j + 1) := by
  rw [List.length_drop] at h1
  refine ⟨by omega, by omega, fun i hi => ?_⟩
  by_cases q : i = j
  · subst q; rw [head_drop] at h2; exact h2
  · exact h.ones i (by omega)
theorem OnesB.run {bs : List Bool} {j : Nat} (h : OnesB bs j) (hs : ¬ 0 < (bs.drop j).length ∨ (bs.drop j).getD 0 false = false ∨ ¬ j + 2 < 64) : RunB bs j := by
  have h1 := h.le; have h2 := h.len
  refine ⟨h1, h2, h.ones, ?_⟩
  rw [List.length_drop, head_drop] at hs
  rcases hs with q | q | q
  · exact .inr (.inl (by omega))
  · exact .inr (.inr q)
  · exact .inl (by omega)
end Go.Proofs.Ytpnlaeapnokipaa

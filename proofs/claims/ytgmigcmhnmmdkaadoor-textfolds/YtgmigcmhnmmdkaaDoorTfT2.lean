/- The signs of a text, one by one. -/
import Derived.Test.YtgmigcmhnmmdkaaDoorTfT1
import Derived.Lib.MapLaws
import Derived.Lib.ValidU
set_option linter.all false
set_option maxRecDepth 100000
namespace Go.Proofs.YtgmigcmhnmmdkaaDoor
open Go.RowKit Go.Sep Go.Lib

def stepsF : Nat → List UInt8 → List (Nat × Nat)
  | 0, _ => []
  | n + 1, l => if l = [] then [] else decodeL l :: stepsF n (l.drop (decodeL l).2)
def steps (l : List UInt8) : List (Nat × Nat) := stepsF l.length l
theorem stepsF_nil : ∀ n, stepsF n [] = []
  | 0 => rfl
  | n + 1 => by simp [stepsF]
theorem stepsF_more : ∀ (n k : Nat) (l : List UInt8), l.length ≤ n → l.length ≤ k → stepsF n l = stepsF k l
  | 0, k, l, h, _ => by
    have : l = [] := List.length_eq_zero_iff.1 (by omega)
    subst this; rw [stepsF_nil, stepsF_nil]
  | n + 1, 0, l, _, h => by
    have : l = [] := List.length_eq_zero_iff.1 (by omega)
    subst this; rw [stepsF_nil, stepsF_nil]
  | n + 1, k + 1, l, h, h2 => by
    unfold stepsF
    split
    · rfl
    · rename_i hl
      have hw := decodeL_width l
      rw [stepsF_more n k (l.drop (decodeL l).2) (by rw [List.length_drop]; omega) (by rw [List.length_drop]; omega)]
theorem steps_cons {l : List UInt8} (h : l ≠ []) : steps l = decodeL l :: steps (l.drop (decodeL l).2) := by
  have hl : 0 < l.length := List.length_pos_iff.2 h
  have hw := decodeL_width l
  unfold steps
  obtain ⟨n, hn⟩ : ∃ n, l.length = n + 1 := ⟨l.length - 1, by omega⟩
  rw [hn]
  show (if l = [] then [] else decodeL l :: stepsF n (l.drop (decodeL l).2)) = _
  rw [if_neg h, stepsF_more n _ (l.drop (decodeL l).2) (by rw [List.length_drop]; omega) (Nat.le_refl _)]
theorem drop_ne {l : List UInt8} {p : Nat} (h : p < l.length) : l.drop p ≠ [] := fun e => by
  have := congrArg List.length e
  rw [List.length_drop, List.length_nil] at this; omega
theorem steps_at {l : List UInt8} {p : Nat} (h : p < l.length) : steps (l.drop p) = (dR l p, dW l p) :: steps (l.drop (p + dW l p)) := by
  rw [steps_cons (drop_ne h), List.drop_drop]; rfl
theorem steps_end {l : List UInt8} {p : Nat} (h : ¬ p < l.length) : steps (l.drop p) = [] := by
  rw [List.drop_of_length_le (by omega)]; rfl
theorem dW_pos (l : List UInt8) (p : Nat) : 1 ≤ dW l p := decodeL_width _
theorem dW_le {l : List UInt8} {p : Nat} (h : p < l.length) : p + dW l p ≤ l.length := by
  have := decodeL_le (l.drop p) (drop_ne h)
  rw [List.length_drop] at this
  unfold dW; omega
/-- no sign -/
def badD (d : Nat × Nat) : Bool := decide (d.1 = 65533 ∧ d.2 = 1)
def plainD (d : Nat × Nat) : Bool := !(decide (d.1 < 32)) && !(decide (d.1 = 127))
theorem valid_steps : ∀ (n : Nat) (l : List UInt8), l.length ≤ n → validGoD n l = (steps l).all (fun d => !badD d)
  | 0, l, h => by
    have : l = [] := List.length_eq_zero_iff.1 (by omega)
    subst this; rfl
  | n + 1, l, h => by
    unfold validGoD
    split
    · rename_i e; subst e; rfl
    · rename_i e
      have hw := decodeL_width l
      rw [steps_cons e, List.all_cons]
      split
      · rename_i hb
        rw [show badD (decodeL l) = true from decide_eq_true hb]; rfl
      · rename_i hb
        rw [show badD (decodeL l) = false from decide_eq_false hb, valid_steps n _ (by rw [List.length_drop]; omega)]; rfl
theorem validD_steps (l : List UInt8) : validD l = (steps l).all (fun d => !badD d) := valid_steps _ l (Nat.le_refl _)
/-- what Check answers -/
def okS (l : List UInt8) : Bool := (steps l).all (fun d => !badD d && plainD d)
def ckE (l : List UInt8) (mi : Int) : Nat := bif decide ((l.length : Int) > mi) then 9 else bif okS l then 0 else 7
theorem all_and {α : Type} (f g : α → Bool) : ∀ l : List α, l.all (fun d => f d && g d) = (l.all f && l.all g)
  | [] => rfl
  | a :: l => by
    simp only [List.all_cons, all_and f g l]
    cases f a <;> cases g a <;> cases l.all f <;> simp
theorem okS_eq (l : List UInt8) : okS l = (validD l && (steps l).all plainD) := by
  unfold okS; rw [all_and, validD_steps]
theorem byte_lt (x : UInt8) : x.toNat < 256 := x.toNat_lt
end Go.Proofs.YtgmigcmhnmmdkaaDoor

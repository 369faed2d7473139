/-
  Operations on slices, strings and arrays, whose bounds are shown by hand.
-/
import Derived.Test.YtcpmjogeafhpnaaDoorPpS7
set_option linter.all false
namespace Go.Sep
open Go.RowKit

def semOf (N : Nat) (ops : Array Oper) (ev : Ev) : List Oper → Option (Sem Next × Option Tmp)
  | [] => none
  | o :: _ => match Region.wanted o (yieldE N ops ev) with
    | true => some (execOp (evalE N ev) o, o.dst)
    | false => none
section
variable {P : Program} {Q : Exit → Act → World → Prop}
/-- RULE: an operation whose outcome is shown by hand. -/
theorem sem_rule {N : Nat} {ops : Array Oper} {ev : Ev} {l : List Oper} {w w' : World} (s0 : Sem Value) (d : Option Tmp) (v : Value)
    (h : semOf N ops ev l = some (s0.bind fun v => .pure (.value v), d)) (hr : s0.run P w = .ok v w') (k : wpList P ops Q l.tail (ActOf N (putE d v ev)) w') : wpList P ops Q l (ActOf N ev) w := by
  cases l with
  | nil => simp [semOf] at h
  | cons o l' =>
    simp only [semOf] at h
    split at h
    · rename_i hw
      simp only [Option.some.injEq, Prod.mk.injEq] at h
      obtain ⟨h1, rfl⟩ := h
      refine wpList_step fun K hK => ?_
      rw [ActOf_yield, if_pos hw]
      unfold Oper.wp
      rw [ActOf_eval, h1]
      have : (s0.bind fun v => Sem.pure (Next.value v)).run P w = .ok (.value v) w' := by
        rw [show (s0.bind fun v => Sem.pure (Next.value v)) = (s0 >>= fun v => pure (Next.value v)) from rfl, Sem.run_bind, hr]; rfl
      rw [this]
      simp only [Oper.upon]
      refine hK _ _ ?_
      rw [ActOf_put]; exact k
    · cases h

theorem run_bound {w : World} {k y : Nat} {c : BoundsCode} {kd : IntKind} (h : k ≤ y) : (Instr.sliceBound (.int kd ((k : Nat) : Int)) y c).run P w = .ok k w := by
  have h1 : (0 : Int) ≤ (k : Int) ∧ (k : Int) ≤ (y : Int) := by omega
  simp [Instr.sliceBound, asIntOf, h1]
theorem add_zero_addr (a : Addr) : a.add 0 = a := rfl
theorem run_sliceStrTo {w : World} {t : TypeId} {s : ByteArray} {hi : Nat} (ht : P.underlying t = some .string) (h2 : hi ≤ s.size) :
    (Instr.sliceAt t (.string s) none (some (.int .i64 ((hi : Nat) : Int))) none).run P w = .ok (.string (s.extract 0 hi)) w := by
  simp [Instr.sliceAt, run_underlying ht, Instr.slice, Instr.sliceBounds, run_bound h2]
end
end Go.Sep

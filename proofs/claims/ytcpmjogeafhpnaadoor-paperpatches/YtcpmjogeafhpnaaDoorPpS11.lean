/-
  Regions that draw, whose last operation hangs on all the others; what is lent is one's own again.
-/
import Derived.Test.YtcpmjogeafhpnaaDoorPpS10
set_option linter.all false
namespace Go.Sep
open Go.RowKit
/-- Another end for what goes well. -/
def Qn (Q : Exit → Act → World → Prop) (K : Act → World → Prop) : Exit → Act → World → Prop
  | .normal, a, w => K a w
  | .exit id, a, w => Q (.exit id) a w
  | e, a, w => Q e a w
section
variable {P : Program} {Q : Exit → Act → World → Prop} {K : Act → World → Prop}
theorem lets_Qn (h : LetsOut (Qn Q K)) : LetsOut Q := by
  obtain ⟨a, w, h⟩ := h
  exact ⟨a, w, h⟩
theorem upon_Qn {o : Oper} {a : Act} {next : Act → World → Prop} {r : Result Next} (h : o.upon P a next (Qn Q K) r) : o.upon P a next Q r := by
  cases r with
  | ok n w' =>
    cases n <;> simp only [Oper.upon] at h ⊢ <;> first
      | exact h
      | (refine Calls.mono h fun e w'' he => ?_
         cases e with
         | returned v => exact he
         | panicked c => exact he
         | outgrown => exact lets_Qn he)
  | halt x w' => cases x <;> simp only [Oper.upon] at h ⊢ <;> exact h
end
section
variable {P : Program} {Q : Exit → Act → World → Prop} {w0 : World} {I0 : IM} {m : List Nat} {I : IM} {N : Nat} {ev : Ev} {l : List Oper} {C : List OB} (c : Cert) (R : Nat → MP) (F0 : List OB)
end
end Go.Sep

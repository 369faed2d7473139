/- A region that draws: what reckons without memory is taken, too. -/
import Derived.Test.YtcpmjogeafhpnaaDoorPpS12
set_option linter.all false
namespace Go.Sep
section
variable {P : Program} {Q : Exit → Act → World → Prop} {S : World → Prop} {ops : Array Oper} {N : Nat} {ev : Ev} {w : World} {fuel : Nat} {listed : Array Bool}
theorem held_ran (m : Sem Value) (i : Nat) (v : Value) (d : Option Tmp) {I : IM} (hi : ops[i]? = some (ops.getD i default)) (hd : (ops.getD i default).dst = d) (hns : Region.noSelect ops = true) (hf : Region.free .any ops listed i = true) (hr : (Region.ready .any ops listed).contains i = true)
    (hQ : ∀ c d' v' a w, Q (.panic c) (a.put d' v') w → Q (.panic c) a w) (hw : Region.wanted (ops.getD i default) (yieldE N ops ev) = true) (he : execOp (evalE N ev) (ops.getD i default) = m.bind fun v => .pure (.value v)) (hm : ∀ w', m.run P w' = .ok v w') (hS : SubS I w)
    (h : wpAnyH P .any ops Q (SubS I) fuel (listed.setIfInBounds i true) (ActOf N (putE d v ev)) w) : wpAnyH P .any ops Q (SubS I) (fuel + 1) listed (ActOf N ev) w := by
  subst hd
  refine wpAnyH_take (v := v) hi hns hf hr (fun c a w h => hQ c _ _ a w h) (.inl ⟨by rw [ActOf_yield]; exact hw, fun w' hw' => ?_⟩) hS (by rw [ActOf_put]; exact h)
  rw [ActOf_eval, he, show (m.bind fun v => Sem.pure (Next.value v)) = (m >>= fun v => pure (Next.value v)) from rfl, Sem.run_bind, hm]; rfl
end
end Go.Sep

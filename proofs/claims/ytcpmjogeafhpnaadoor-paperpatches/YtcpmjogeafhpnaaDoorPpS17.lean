/- A region that draws: one of two comes up. -/
import Derived.Test.YtcpmjogeafhpnaaDoorPpS12
set_option linter.all false
namespace Go.Sep
section
variable {P : Program} {Q : Exit → Act → World → Prop} {S : World → Prop} {ops : Array Oper} {N : Nat} {ev : Ev} {w : World} {fuel : Nat} {listed : Array Bool}
theorem wpOp_list {K : Act → World → Prop} (i : Nat) (hi : ops[i]? = some (ops.getD i default)) (h : wpList P ops (Qn Q K) [ops.getD i default] (ActOf N ev) w) : wpOp P ops Q i K (ActOf N ev) w := by
  unfold wpOp
  rw [hi]
  unfold wpList at h
  simp only at h ⊢
  split
  · rename_i hw
    rw [if_pos hw] at h
    rcases h with h | ⟨h1, h2⟩
    · exact .inl (Oper.wp_mono (fun a' w' h3 => h3) (upon_Qn h))
    · exact .inr ⟨h1, lets_Qn h2⟩
  · rename_i hw
    rw [if_neg hw] at h
    exact h
theorem held_two (i j : Nat) (hr : Region.ready .any ops listed = [i, j]) (hi : ops[i]? = some (ops.getD i default)) (hj : ops[j]? = some (ops.getD j default))
    (h1 : wpList P ops (Qn Q (fun a' w' => S w' ∧ wpAnyH P .any ops Q S fuel (listed.setIfInBounds i true) a' w')) [ops.getD i default] (ActOf N ev) w)
    (h2 : wpList P ops (Qn Q (fun a' w' => S w' ∧ wpAnyH P .any ops Q S fuel (listed.setIfInBounds j true) a' w')) [ops.getD j default] (ActOf N ev) w) : wpAnyH P .any ops Q S (fuel + 1) listed (ActOf N ev) w := by
  refine wpAnyH_all hr (by simp) (fun q hq => ?_)
  rcases List.mem_cons.1 hq with rfl | hq
  · exact wpOp_list _ hi h1
  · have : q = j := by simpa using hq
    subst this
    exact wpOp_list _ hj h2
end
section
variable {P : Program} {Q : Exit → Act → World → Prop}
/-- RULE: an operation that answers nothing. -/
theorem semU_rule {N : Nat} {ops : Array Oper} {ev : Ev} {l : List Oper} {w w' : World} (s0 : Sem Unit) (d : Option Tmp)
    (h : semOf N ops ev l = some (s0.bind fun _ => .pure .skip, d)) (hr : s0.run P w = .ok () w') (k : wpList P ops Q l.tail (ActOf N (putE d undef ev)) w') : wpList P ops Q l (ActOf N ev) w := by
  cases l with
  | nil => simp [semOf] at h
  | cons o l' =>
    simp only [semOf] at h
    split at h
    · rename_i hw
      simp only [Option.some.injEq, Prod.mk.injEq] at h
      obtain ⟨h1, rfl⟩ := h
      refine wpList_step fun K hK => ?_
      rw [ActOf_yield, if_pos hw]
      unfold Oper.wp
      rw [ActOf_eval, h1]
      have : (s0.bind fun _ => Sem.pure Next.skip).run P w = .ok .skip w' := by
        rw [show (s0.bind fun _ => Sem.pure Next.skip) = (s0 >>= fun _ => pure Next.skip) from rfl, Sem.run_bind, hr]; rfl
      rw [this]
      simp only [Oper.upon]
      refine hK _ _ ?_
      rw [ActOf_put]; exact k
    · cases h
end
end Go.Sep

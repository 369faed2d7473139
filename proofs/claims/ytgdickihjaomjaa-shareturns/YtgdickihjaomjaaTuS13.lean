/- Jumps back. -/
import Derived.Test.YtgdickihjaomjaaTuS10
import Derived.OrdersHeld
import Derived.ScopeJumps
set_option linter.all false
namespace Go.Sep
theorem least {p : Nat → Prop} (h : ∃ n, p n) : ∃ n, p n ∧ ∀ k, p k → n ≤ k := by
  obtain ⟨n, hn⟩ := h
  induction n using Nat.strongRecOn with
  | _ n ih =>
    by_cases q : ∃ k, k < n ∧ p k
    · obtain ⟨k, hk, hp⟩ := q; exact ih k hk hp
    · exact ⟨n, hn, fun k hk => Nat.le_of_not_lt fun hlt => q ⟨k, hlt, hk⟩⟩
section
variable {P : Program} {Q : Exit → Act → World → Prop} {w0 : World} {I0 : IM} {m : List Nat}
/-- RULE: a scope with one label, to which code jumps back. -/
theorem goto_rule {α : Type} {c rest : Code} {N : Nat} {ev : Ev} {w : World} {I : IM} {H : List OB} (s0 : St w0 I0 m I w H) (l : Nat) (X : α → Ev) (HH : α → List OB) (Inv : Nat → α → IM → Prop) (hf : findLabel c l = some rest)
    (pass : ∀ n x J w evj, St w0 I0 m J w (HH x) → Inv n x J → rest.wp P (Exit.jump l (Again w0 I0 m N X HH Inv n) Q) (ActOf N (X x ++ evj)) w)
    (first : c.wp P (Exit.jump l (fun a w => ∃ n, Again w0 I0 m N X HH Inv n a w) Q) (ActOf N ev) w) : (Code.scope c).wp P Q (ActOf N ev) w := by
  classical
  let J : Act → World → Prop := fun a w => ∃ n, Again w0 I0 m N X HH Inv n a w
  let μ : Act → World → Nat := fun a w => if h : J a w then Classical.choose (least h) else 0
  refine wp_scope_jumps l J μ hf first ?_
  intro a w hJ
  have hμ : μ a w = Classical.choose (least hJ) := dif_pos hJ
  obtain ⟨n', x, J', H, ev', hn, rfl, s, hs, hk, hi⟩ := (Classical.choose_spec (least hJ)).1.ex
  rw [ActOf_known hk]
  refine wp_mono (pass n' x J' w ev' (s.drop hs) hi) ?_
  intro e a' w' hq
  cases e with
  | goto l' =>
    obtain ⟨h1, h2⟩ := hq
    refine ⟨h1, ⟨n', h2⟩, ?_⟩
    have hJ' : J a' w' := ⟨n', h2⟩
    have h3 : μ a' w' = Classical.choose (least hJ') := dif_pos hJ'
    rw [← ActOf_known hk, hμ, h3]
    exact Nat.lt_of_le_of_lt ((Classical.choose_spec (least hJ')).2 _ h2) hn
  | _ => exact hq
end
end Go.Sep

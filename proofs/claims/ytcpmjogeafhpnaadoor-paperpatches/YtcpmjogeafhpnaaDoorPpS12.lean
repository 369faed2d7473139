/- A region that draws: what only looks is taken first, then the calls one by one. -/
import Derived.Test.YtcpmjogeafhpnaaDoorPpS11
import Derived.OrdersHeld
set_option linter.all false
namespace Go.Sep
section
variable {P : Program} {Q : Exit → Act → World → Prop} {S : World → Prop} {ops : Array Oper} {N : Nat} {ev : Ev} {w : World} {fuel : Nat} {listed : Array Bool}
/-- What was frozen is there. -/
def SubS (I : IM) (w : World) : Prop := I.Sub w
theorem held_take (C : List OB) (hs : List Hint) (i : Nat) (v : Value) (d : Option Tmp) (ks : List Nat) {I : IM} (hC : RoC I C) (hi : ops[i]? = some (ops.getD i default)) (hd : (ops.getD i default).dst = d) (hns : Region.noSelect ops = true) (hf : Region.free .any ops listed i = true) (hr : (Region.ready .any ops listed).contains i = true)
    (hQ : ∀ c d' v' a w, Q (.panic c) (a.put d' v') w → Q (.panic c) a w) (hw : Region.wanted (ops.getD i default) (yieldE N ops ev) = true) (hl : look P C [] (execOp (evalE N ev) (ops.getD i default)) hs = some (.value v, dup ks)) (hS : SubS I w)
    (h : wpAnyH P .any ops Q (SubS I) fuel (listed.setIfInBounds i true) (ActOf N (putE d v ev)) w) : wpAnyH P .any ops Q (SubS I) (fuel + 1) listed (ActOf N ev) w := by
  subst hd
  refine wpAnyH_take (v := v) hi hns hf hr (fun c a w h => hQ c _ _ a w h) (.inl ⟨by rw [ActOf_yield]; exact hw, fun w' hw' => ?_⟩) hS (by rw [ActOf_put]; exact h)
  rw [ActOf_eval]
  refine look_sound _ _ _ hl (dup_ok _) (fun h' _ e he => ?_)
  cases h' with
  | o q => simp [blockOf] at he
  | c q =>
    have hm : e ∈ C := List.mem_of_getElem? (by simpa [blockOf] using he)
    exact hw' _ _ (hC.mem e hm)
theorem held_one (i : Nat) (hr : Region.ready .any ops listed = [i]) (hi : ops[i]? = some (ops.getD i default))
    (h : wpList P ops (Qn Q (fun a' w' => S w' ∧ wpAnyH P .any ops Q S fuel (listed.setIfInBounds i true) a' w')) [ops.getD i default] (ActOf N ev) w) : wpAnyH P .any ops Q S (fuel + 1) listed (ActOf N ev) w := by
  refine wpAnyH_all hr (by simp) (fun j hj => ?_)
  have : j = i := by simpa using hj
  subst this
  unfold wpOp
  rw [hi]
  unfold wpList at h
  simp only at h ⊢
  split
  · rename_i hw
    rw [if_pos hw] at h
    rcases h with h | ⟨h1, h2⟩
    · exact .inl (Oper.wp_mono (fun a' w' h3 => h3) (upon_Qn h))
    · exact .inr ⟨h1, lets_Qn h2⟩
  · rename_i hw
    rw [if_neg hw] at h
    exact h
theorem held_begin {id n : Nat} (S : World → Prop) (hm : P.follows .mixedOrders = true) (hn : ops.size = n) (h : wpAnyH P .any ops Q S n (Array.replicate n false) (ActOf N ev) { w with drawn := w.drawn + 1 }) : (Code.region id ops true).wp P Q (ActOf N ev) w := by
  subst hn; exact wp_region_held hm h
theorem held_next {a : Act} {I J : IM} {w0 : World} {I0 : IM} {m : List Nat} {H : List OB} {K : Act → World → Prop} (s : St w0 I0 m J w H) (le : I.Le J) (h : K a w) : Qn Q (fun a' w' => SubS I w' ∧ K a' w') .normal a w :=
  ⟨fun k o hk => s.sub k o (le k o hk), h⟩
end
end Go.Sep

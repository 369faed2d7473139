/-
  Regions that draw, whose last operation hangs on all the others; what is lent is one's own again.
-/
import Derived.Test.YtcpmjogeafhpnaaDoorPrS10
set_option linter.all false
namespace Go.Sep
open Go.RowKit
def IM.del (I : IM) (g : Nat) : IM := fun k => if k = g then none else I k
theorem IM.le_del {I J : IM} {g : Nat} (h : I.Le J) (hg : I g = none) : I.Le (J.del g) := fun k o e => by
  unfold IM.del
  split
  · rename_i hk; rw [hk, hg] at e; cases e
  · exact h k o e
theorem St.none0 {w0 : World} {I0 : IM} {m : List Nat} {I : IM} {w : World} {H : List OB} (s : St w0 I0 m I w H) {g : Nat} {o : Obj} (hm : (g, o) ∈ H) : I g = none ∧ I0 g = none ∧ (w0.heap.size ≤ g ∨ g ∈ m) := by
  have h := s.free _ hm
  refine ⟨h, ?_, s.fresh _ hm⟩
  cases h0 : I0 g with
  | none => rfl
  | some o' => have := s.le _ _ h0; rw [h] at this; cases this
theorem St.thaw {w0 : World} {I0 : IM} {m : List Nat} {J : IM} {w : World} {H : List OB} (s : St w0 I0 m J w H) {g : Nat} {o : Obj} (hg : J g = some o) (h0 : I0 g = none) (hf : w0.heap.size ≤ g ∨ g ∈ m) : St w0 I0 m (J.del g) w (H ++ [(g, o)]) := by
  have hne : ∀ e ∈ H, e.1 ≠ g := fun e he h => by have := s.free e he; rw [h, hg] at this; cases this
  refine ⟨fun k x e => ?_, IM.le_del s.le h0, fun k hk hm => ?_, s.fr, fun e he => ?_, fun e he => ?_, fun e he => ?_, ?_⟩
  · unfold IM.del at e
    split at e
    · cases e
    · exact s.sub k x e
  · unfold IM.del
    split
    · rename_i h; rw [h, h0]
    · exact s.new k hk hm
  · rcases List.mem_append.1 he with h | h
    · exact s.own e h
    · simp at h; subst h; exact s.sub _ _ hg
  · unfold IM.del
    rcases List.mem_append.1 he with h | h
    · rw [if_neg (hne e h)]; exact s.free e h
    · simp at h; subst h; exact if_pos rfl
  · rcases List.mem_append.1 he with h | h
    · exact s.fresh e h
    · simp at h; subst h; exact hf
  · rw [List.map_append, List.nodup_append]
    refine ⟨s.nodup, by simp, fun a ha b hb hab => ?_⟩
    obtain ⟨e, he, rfl⟩ := List.mem_map.1 ha
    simp at hb; subst hb
    exact hne e he hab

section
variable {P : Program} {Q : Exit → Act → World → Prop} {K : Act → World → Prop}
theorem last_split {L : List Oper} (n : Nat) (h : L.drop n = [L.getD n default]) : L = L.take n ++ [L.getD n default] := by rw [← h, List.take_append_drop]
end
section
variable {P : Program} {Q : Exit → Act → World → Prop} {w0 : World} {I0 : IM} {m : List Nat} {I : IM} {N : Nat} {ev : Ev} {l : List Oper} {C : List OB} (c : Cert) (R : Nat → MP) (F0 : List OB)
end
end Go.Sep

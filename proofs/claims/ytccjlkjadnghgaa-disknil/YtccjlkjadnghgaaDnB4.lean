/- Rows that are lent to a call, read and written; rows that are made. -/
import Derived.Test.YtccjlkjadnghgaaDnB3
import Derived.Test.YtccjlkjadnghgaaDnS11
import Derived.Laws.MakeOwn
set_option linter.all false
set_option maxRecDepth 100000
namespace Go.Sep
open Go.RowKit
section
variable {w0 : World} {I0 : IM} {m : List Nat} {I : IM} {P : Program} {Q : Exit → Act → World → Prop}
/-- RULE: a call that reads blocks of one's own, and hands back a row. -/
theorem callLF_rule {N : Nat} {ops : Array Oper} {ev : Ev} {l : List Oper} {H : List OB} {w : World} {f : FuncId} {args : Array Value} {R : Value → List OB → Prop} (d : Option Tmp)
    (s : St w0 I0 m I w H) (Ip : IM) (hI : I.Le Ip) (hsub : ∀ k o, Ip k = some o → I k = some o ∨ (k, o) ∈ H) (hf : FunM P f args Ip [] (fun v _ F' => R v F')) (h : callOf P N ops ev l = some (f, args, d))
    (k : ∀ v w' F', R v F' → St w0 I0 m I w' (H ++ F') → wpList P ops Q l.tail (ActOf N (putE d v ev)) w') : wpList P ops Q l (ActOf N ev) w := by
  obtain ⟨o, l', rfl, rfl, hw, hr⟩ := callOf_spec h
  refine wpList_step fun K hK => ?_
  rw [ActOf_yield, if_pos hw]
  unfold Oper.wp
  rw [ActOf_eval, hr]
  simp only [Oper.upon]
  have hS : Ip.Sub w := fun k o e => by
    rcases hsub k o e with h1 | h1
    · exact s.sub k o h1
    · exact s.own (k, o) h1
  refine (hf w hS (Owns.nil Ip w)).mono ?_
  rintro e w' ⟨v, I', H', rfl, p, r⟩
  refine hK _ _ ?_
  rw [ActOf_put]
  have p2 : St w I [] I w' H' := ⟨fun k o e => p.sub k o (p.le k o (hI k o e)), IM.Le.refl I, fun _ _ _ => rfl, p.fr, p.own, fun e he => by
      cases hk : I e.1 with
      | none => rfl
      | some o =>
        have h1 := s.sub.lt hk
        rcases p.fresh e he with h2 | h2
        · omega
        · simp at h2, p.fresh, p.nodup⟩
  have s2 := St.afterM (Hi := []) (Hr := H) s p2
  exact k v w' H' r (s2.perm List.perm_append_comm)
end
end Go.Sep
namespace Go.Proofs.Ytccjlkjadnghgaa
open Go.RowKit Go.Sep
end Go.Proofs.Ytccjlkjadnghgaa


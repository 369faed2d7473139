/- Rows that are lent to a call, read and written; rows that are made. -/
import Derived.Test.YtpnlaeapnokipaaRB3
import Derived.Test.YtpnlaeapnokipaaRS10
import Derived.Laws.MakeOwn
set_option linter.all false
set_option maxRecDepth 100000
namespace Go.Sep
open Go.RowKit
section
variable {w0 : World} {I0 : IM} {m : List Nat} {I : IM} {P : Program} {Q : Exit → Act → World → Prop}
/-- RULE: a call that reads blocks of one's own, and hands back a row. -/
theorem callLF_rule {N : Nat} {ops : Array Oper} {ev : Ev} {l : List Oper} {H : List OB} {w : World} {f : FuncId} {args : Array Value} {R : Value → List OB → Prop} (d : Option Tmp)
    (s : St w0 I0 m I w H) (Ip : IM) (hI : I.Le Ip) (hsub : ∀ k o, Ip k = some o → I k = some o ∨ (k, o) ∈ H) (hf : FunM P f args Ip [] (fun v _ F' => R v F')) (h : callOf P N ops ev l = some (f, args, d))
    (k : ∀ v w' F', R v F' → St w0 I0 m I w' (H ++ F') → wpList P ops Q l.tail (ActOf N (putE d v ev)) w') : wpList P ops Q l (ActOf N ev) w := by
  obtain ⟨o, l', rfl, rfl, hw, hr⟩ := callOf_spec h
  refine wpList_step fun K hK => ?_
  rw [ActOf_yield, if_pos hw]
  unfold Oper.wp
  rw [ActOf_eval, hr]
  simp only [Oper.upon]
  have hS : Ip.Sub w := fun k o e => by
    rcases hsub k o e with h1 | h1
    · exact s.sub k o h1
    · exact s.own (k, o) h1
  refine (hf w hS (Owns.nil Ip w)).mono ?_
  rintro e w' ⟨v, I', H', rfl, p, r⟩
  refine hK _ _ ?_
  rw [ActOf_put]
  have p2 : St w I [] I w' H' := ⟨fun k o e => p.sub k o (p.le k o (hI k o e)), IM.Le.refl I, fun _ _ _ => rfl, p.fr, p.own, fun e he => by
      cases hk : I e.1 with
      | none => rfl
      | some o =>
        have h1 := s.sub.lt hk
        rcases p.fresh e he with h2 | h2
        · omega
        · simp at h2, p.fresh, p.nodup⟩
  have s2 := St.afterM (Hi := []) (Hr := H) s p2
  exact k v w' H' r (s2.perm List.perm_append_comm)
/-- RULE: .. and hands back what lies in no memory. -/
theorem callL_rule {N : Nat} {ops : Array Oper} {ev : Ev} {l : List Oper} {H : List OB} {w : World} {f : FuncId} {args : Array Value} {R : Value → Prop} (d : Option Tmp)
    (s : St w0 I0 m I w H) (Ip : IM) (hI : I.Le Ip) (hsub : ∀ k o, Ip k = some o → I k = some o ∨ (k, o) ∈ H) (hf : Fun P f args Ip (fun v _ => R v)) (h : callOf P N ops ev l = some (f, args, d))
    (k : ∀ v w', R v → St w0 I0 m I w' H → wpList P ops Q l.tail (ActOf N (putE d v ev)) w') : wpList P ops Q l (ActOf N ev) w :=
  callLF_rule (R := fun v _ => R v) d s Ip hI hsub (fun w hw _ => (hf w hw).mono fun e w' ⟨v, I', H', he, p, r⟩ => ⟨v, I', H', he, p, r⟩) h fun v w' F' r st => k v w' r (st.drop (List.sublist_append_left H F'))
end
end Go.Sep
namespace Go.Proofs.Ytpnlaeapnokipaa
open Go.RowKit Go.Sep
theorem row_lend {I : IM} {g n cap : Nat} {cur : Array Value} {l : List UInt8} (h : RowH 5 1 (.slice (some ⟨g, 0, none⟩) n cap) n (l.map bV) [(g, .cells cur 5)]) : BSl (I.add g (.cells cur 5)) l (.slice (some ⟨g, 0, none⟩) n cap) := by
  have hl : l.length = n := by have := h.1; simpa using this
  rcases h.2 with ⟨h, _⟩ | ⟨g', cap', cur', hv, hF, hnc, hcm, hcs, ht⟩
  · cases h
  · cases hv
    cases hF
    refine ⟨some ⟨g, 0, none⟩, cap, congrArg (fun q => Value.slice (some ⟨g, 0, none⟩) q cap) hl.symm, by omega, fun j x hj => ⟨g, 0, cur, 5, (0, 0), rfl, IM.add_self _ _ _, ?_⟩⟩
    have hx : (l.map bV)[j]? = some (bV x) := by rw [List.getElem?_map, hj]; rfl
    rw [← ht, List.getElem?_take] at hx
    split at hx
    · have hx' : cur[j]? = some (bV x) := by simpa using hx
      rw [Nat.zero_add]; exact hx'
    · cases hx
theorem add_sub {I : IM} {g : Nat} {o : Obj} {H : List OB} (hm : (g, o) ∈ H) : ∀ k x, I.add g o k = some x → I k = some x ∨ (k, x) ∈ H := fun k x e => by
  unfold IM.add at e
  split at e
  · rename_i h; subst h; cases e; exact .inr hm
  · exact .inl e
theorem row_lendF {w0 : World} {I0 : IM} {m : List Nat} {I : IM} {w : World} {H F : List OB} {l : List UInt8} {v : Value} {n : Nat} (s : St w0 I0 m I w (H ++ F)) (h : RowH 5 1 v n (l.map bV) F) :
    ∃ Ip : IM, I.Le Ip ∧ (∀ k o, Ip k = some o → I k = some o ∨ (k, o) ∈ H ++ F) ∧ ∃ a c, v = .slice a l.length c ∧ BSl Ip l (.slice a l.length c) := by
  have hl : l.length = n := by have := h.1; simpa using this
  rcases h.2 with ⟨rfl, rfl, rfl⟩ | ⟨g, cap, cur, rfl, rfl, hnc, hcm, hcs, ht⟩
  · have : l = [] := List.eq_nil_of_length_eq_zero hl
    subst this
    exact ⟨I, IM.Le.refl I, fun k o e => .inl e, none, 0, rfl, bsl_nil I⟩
  · subst hl
    exact ⟨_, IM.le_add (s.free (g, .cells cur 5) (by simp)) _, add_sub (by simp), _, _, rfl, row_lend h⟩
theorem make_row {w0 : World} {I0 : IM} {m : List Nat} {I : IM} {w : World} {H : List OB} {c : Nat} (s : St w0 I0 m I w (H ++ [])) (hc : c ≤ 1000000000000) :
    ∃ g cur w', (Instr.makeSlice 34 (.int .i64 0) (.int .i64 ((c : Nat) : Int))).run Try.prog w = .ok (.slice (some ⟨g, 0, none⟩) 0 c) w' ∧ St w0 I0 m I w' (H ++ [(g, .cells cur 5)]) ∧ RowH 5 1 (.slice (some ⟨g, 0, none⟩) 0 c) 0 (([] : List UInt8).map bV) [(g, .cells cur 5)] := by
  rw [List.append_nil] at s
  have hr := run_make (P := Try.prog) w 34 5 Try.t5 (.int .u8 0) under34 (by kernel_rfl) (by kernel_rfl) .i64 .i64 0 c (Int.le_refl _) (by omega) (by show (1 : Int) * c ≤ _; omega) (by omega)
  simp only [Int.toNat_zero, Int.toNat_natCast] at hr
  refine ⟨_, _, _, hr, s.push _, rfl, .inr ⟨_, _, _, rfl, rfl, Nat.zero_le _, by simp only [maxLen]; omega, ?_, rfl⟩⟩
  rw [size_madeCells]; rfl
end Go.Proofs.Ytpnlaeapnokipaa

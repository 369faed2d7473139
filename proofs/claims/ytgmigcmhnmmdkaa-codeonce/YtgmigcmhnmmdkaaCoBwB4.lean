/- Rows that are lent to a call, read and written; rows that are made. -/
import Derived.Test.YtgmigcmhnmmdkaaCoBwB3
import Derived.Test.YtgmigcmhnmmdkaaCoS11
import Derived.Laws.MakeOwn
set_option linter.all false
set_option maxRecDepth 100000
namespace Go.Sep
open Go.RowKit
section
variable {w0 : World} {I0 : IM} {m : List Nat} {I : IM} {P : Program} {Q : Exit → Act → World → Prop}
/-- RULE: a call that reads blocks of one's own, and hands back a row. -/
theorem callLF_rule {N : Nat} {ops : Array Oper} {ev : Ev} {l : List Oper} {H : List OB} {w : World} {f : FuncId} {args : Array Value} {R : Value → List OB → Prop} (d : Option Tmp)
    (s : St w0 I0 m I w H) (Ip : IM) (hI : I.Le Ip) (hsub : ∀ k o, Ip k = some o → I k = some o ∨ (k, o) ∈ H) (hf : FunM P f args Ip [] (fun v _ F' => R v F')) (h : callOf P N ops ev l = some (f, args, d))
    (k : ∀ v w' F', R v F' → St w0 I0 m I w' (H ++ F') → wpList P ops Q l.tail (ActOf N (putE d v ev)) w') : wpList P ops Q l (ActOf N ev) w := by
  obtain ⟨o, l', rfl, rfl, hw, hr⟩ := callOf_spec h
  refine wpList_step fun K hK => ?_
  rw [ActOf_yield, if_pos hw]
  unfold Oper.wp
  rw [ActOf_eval, hr]
  simp only [Oper.upon]
  have hS : Ip.Sub w := fun k o e => by
    rcases hsub k o e with h1 | h1
    · exact s.sub k o h1
    · exact s.own (k, o) h1
  refine (hf w hS (Owns.nil Ip w)).mono ?_
  rintro e w' ⟨v, I', H', rfl, p, r⟩
  refine hK _ _ ?_
  rw [ActOf_put]
  have p2 : St w I [] I w' H' := ⟨fun k o e => p.sub k o (p.le k o (hI k o e)), IM.Le.refl I, fun _ _ _ => rfl, p.fr, p.own, fun e he => by
      cases hk : I e.1 with
      | none => rfl
      | some o =>
        have h1 := s.sub.lt hk
        rcases p.fresh e he with h2 | h2
        · omega
        · simp at h2, p.fresh, p.nodup⟩
  have s2 := St.afterM (Hi := []) (Hr := H) s p2
  exact k v w' H' r (s2.perm List.perm_append_comm)
end
end Go.Sep
namespace Go.Proofs.Ytgmigcmhnmmdkaa
open Go.RowKit Go.Sep
theorem row_lend {I : IM} {g n cap : Nat} {cur : Array Value} {l : List UInt8} (h : RowH 5 1 (.slice (some ⟨g, 0, none⟩) n cap) n (l.map bV) [(g, .cells cur 5)]) : BSl (I.add g (.cells cur 5)) l (.slice (some ⟨g, 0, none⟩) n cap) := by
  have hl : l.length = n := by have := h.1; simpa using this
  rcases h.2 with ⟨h, _⟩ | ⟨g', cap', cur', hv, hF, hnc, hcm, hcs, ht⟩
  · cases h
  · cases hv
    cases hF
    refine ⟨some ⟨g, 0, none⟩, cap, congrArg (fun q => Value.slice (some ⟨g, 0, none⟩) q cap) hl.symm, by omega, fun j x hj => ⟨g, 0, cur, 5, (0, 0), rfl, IM.add_self _ _ _, ?_⟩⟩
    have hx : (l.map bV)[j]? = some (bV x) := by rw [List.getElem?_map, hj]; rfl
    rw [← ht, List.getElem?_take] at hx
    split at hx
    · have hx' : cur[j]? = some (bV x) := by simpa using hx
      rw [Nat.zero_add]; exact hx'
    · cases hx
theorem add_sub {I : IM} {g : Nat} {o : Obj} {H : List OB} (hm : (g, o) ∈ H) : ∀ k x, I.add g o k = some x → I k = some x ∨ (k, x) ∈ H := fun k x e => by
  unfold IM.add at e
  split at e
  · rename_i h; subst h; cases e; exact .inr hm
  · exact .inl e
theorem row_open {v : Value} {n : Nat} {xs : List Value} {F : List OB} (h : RowH 5 1 v n xs F) (hn : 0 < n) : ∃ g cap cur, v = .slice (some ⟨g, 0, none⟩) n cap ∧ F = [(g, .cells cur 5)] ∧ n ≤ cap ∧ RowH 5 1 (.slice (some ⟨g, 0, none⟩) n cap) n xs [(g, .cells cur 5)] := by
  rcases h.2 with ⟨_, h0, _⟩ | ⟨g, cap, cur, hv, hF, hnc, _⟩
  · omega
  · subst hv; subst hF
    exact ⟨g, cap, cur, rfl, rfl, hnc, h⟩
theorem row_st {w0 : World} {I0 : IM} {m : List Nat} {I : IM} {w : World} {H : List OB} {q g n cap i x : Nat} {cur : Array Value} {l : List UInt8} (s : St w0 I0 m I w (H ++ [])) (hq : H[q]? = some (g, .cells cur 5)) (h : RowH 5 1 (.slice (some ⟨g, 0, none⟩) n cap) n (l.map bV) [(g, .cells cur 5)]) (hi : i < l.length) (hx : x < 256) :
    ∃ w' cur', (Instr.storeAt 5 (.pointer (some ⟨g, i, none⟩)) (.int .u8 ((x : Nat) : Int))).run Try.prog w = .ok () w' ∧ St w0 I0 m I w' (H.set q (g, .cells cur' 5) ++ []) ∧ RowH 5 1 (.slice (some ⟨g, 0, none⟩) n cap) n ((l.set i (UInt8.ofNat x)).map bV) [(g, .cells cur' 5)] := by
  rw [List.append_nil] at s
  have hl : l.length = n := by have := h.1; simpa using this
  have hb : w.heap[g]? = some (.cells cur 5 (0, 0)) := s.own (g, _) (List.mem_of_getElem? hq)
  rcases h.2 with ⟨h, _⟩ | ⟨g', cap', cur', hv, hF, hnc, hcm, hcs, ht⟩
  · cases h
  · cases hv
    cases hF
    have hic : i < cur.size := by omega
    have hcell : w.cell? ⟨g, i, none⟩ = some cur[i] := by rw [run_cell (a := ⟨g, i, none⟩) hb rfl rfl]; simp [hic]
    have hfz : w.frozen? ⟨g, i, none⟩ = false := by rw [Go.Sep.run_frozen (a := ⟨g, i, none⟩) hb rfl]; simp
    have e : (Instr.storeAt 5 (.pointer (some ⟨g, i, none⟩)) (.int .u8 ((x : Nat) : Int))).run Try.prog w = (store ⟨g, i, none⟩ (.int .u8 ((x : Nat) : Int))).run Try.prog w := by kernel_rfl
    refine ⟨w.setCell ⟨g, i, none⟩ (.int .u8 ((x : Nat) : Int)), cur.setIfInBounds i (.int .u8 ((x : Nat) : Int)), ?_, ?_, ?_⟩
    · rw [e]; simp only [store, Sem.run, hcell, hfz]; rfl
    · rw [List.append_nil]
      exact St.set (w' := w.setCell ⟨g, i, none⟩ (.int .u8 ((x : Nat) : Int))) (o' := .cells (cur.setIfInBounds i (.int .u8 ((x : Nat) : Int))) 5) s hq rfl rfl rfl (by simp [World.setCell]) (by
        show (w.heap.modify g _)[g]? = _
        rw [Array.getElem?_modify]; simp [hb]) (fun z hz => by
        show (w.heap.modify g _)[z]? = _
        rw [Array.getElem?_modify, if_neg (fun h => hz h.symm)])
    · refine ⟨by simpa using hl, .inr ⟨g, cap, _, rfl, rfl, hnc, hcm, by simpa using hcs, ?_⟩⟩
      rw [Array.toList_setIfInBounds, List.take_set, ht, List.map_set, cell_byte hx]
theorem row_bsl {I : IM} {g n cap : Nat} {cur : Array Value} {l : List UInt8} (h : RowH 5 1 (.slice (some ⟨g, 0, none⟩) n cap) n (l.map bV) [(g, .cells cur 5)]) (hg : I g = some (.cells cur 5)) : BSl I l (.slice (some ⟨g, 0, none⟩) n cap) := by
  refine BSl.mono (fun k o e => ?_) (row_lend (I := fun _ => none) h)
  unfold IM.add at e
  split at e
  · rename_i hk; subst hk; cases e; exact hg
  · cases e
theorem pAt_zero (g i : Nat) : pAt (some ⟨g, 0, none⟩) i = some ⟨g, i, none⟩ := congrArg some ((addr_addO g 0 i).trans (by rw [Nat.zero_add]))
theorem row_stA {w0 : World} {I0 : IM} {m : List Nat} {I : IM} {w : World} {H : List OB} {q g n cap i x : Nat} {cur : Array Value} {l : List UInt8} (s : St w0 I0 m I w (H ++ [])) (hq : H[q]? = some (g, .cells cur 5)) (h : RowH 5 1 (.slice (some ⟨g, 0, none⟩) n cap) n (l.map bV) [(g, .cells cur 5)]) (hi : i < l.length) (hx : x < 256) :
    ∃ w' cur', (Instr.storeAt 5 (.pointer (pAt (some ⟨g, 0, none⟩) i)) (.int .u8 ((x : Nat) : Int))).run Try.prog w = .ok () w' ∧ St w0 I0 m I w' (H.set q (g, .cells cur' 5) ++ []) ∧ RowH 5 1 (.slice (some ⟨g, 0, none⟩) n cap) n ((l.set i (UInt8.ofNat x)).map bV) [(g, .cells cur' 5)] := by
  rw [pAt_zero]; exact row_st s hq h hi hx
end Go.Proofs.Ytgmigcmhnmmdkaa


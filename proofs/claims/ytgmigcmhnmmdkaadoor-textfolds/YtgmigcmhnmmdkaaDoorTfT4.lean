/- What the library's own functions answer. -/
import Derived.Test.YtgmigcmhnmmdkaaDoorTfX3
import Derived.Test.YtgmigcmhnmmdkaaDoorTfShelfB
set_option linter.all false
set_option maxRecDepth 100000
namespace Go.Proofs.YtgmigcmhnmmdkaaDoor
open Go.RowKit Go.Sep
/-- behind a call that leaves all that was there at the beginning as it was -/
theorem st_low {w0 : World} {I0 : IM} {I : IM} {w w' : World} {H : List OB} (s : St w0 I0 [] I w H) (h0 : I0.Sub w0) (b : Below w0.heap.size w w') : St w0 I0 [] I0 w' [] where
  sub k o e := (b.block k (h0.lt e)).trans ((s.fr.block k (h0.lt e) (by simp)).trans (h0 k o e))
  le := IM.Le.refl _
  new _ _ _ := rfl
  fr := ⟨b.os.trans s.fr.os, b.tape.trans s.fr.tape, b.output.trans s.fr.output, Nat.le_trans s.fr.size b.size, fun k hk _ => (b.block k hk).trans (s.fr.block k hk (by simp))⟩
  own := by simp
  free := by simp
  fresh := by simp
  nodup := by simp
theorem bld_in {w0 : World} {I0 : IM} {I : IM} {w : World} {H F : List OB} {b : Nat} {p v0 : Value} {l : List UInt8} (s : St w0 I0 [] I w (H ++ F)) (hb : (b, .cells #[p, v0] 100) ∈ H) (hp : p = .pointer none ∨ p = .pointer (some ⟨b, 0, none⟩)) (row : RowH 5 1 v0 l.length (l.map bV) F) :
    Lib.IsBuilder 100 5 w0.heap.size b (l.map bV) w := by
  have h1 := s.own (b, .cells #[p, v0] 100) (by simp [hb])
  have h2 : w0.heap.size ≤ b := by
    rcases s.fresh (b, .cells #[p, v0] 100) (by simp [hb]) with h | h
    · exact h
    · simp at h
  have h3 : Lib.BuilderAt 100 5 w0.heap.size b p (l.map bV) w := by
    refine ⟨h2, v0, h1, ⟨by simp, ?_⟩, ?_⟩
    · rcases row.2 with ⟨hv, h0, _⟩ | ⟨g, cap, cur, hv, hF, hnc, hcm, hcs, ht⟩
      · exact .inl ⟨hv, by simpa using h0⟩
      · subst hF
        have hg := s.own (g, .cells cur 5) (by simp)
        have hg2 : w0.heap.size ≤ g := by
          rcases s.fresh (g, .cells cur 5) (by simp) with h | h
          · exact h
          · simp at h
        exact .inr ⟨g, cap, cur, by simpa using hv, hg2, hg, by simpa using hnc, hcm, hcs, by simpa using ht⟩
    · rcases row.2 with ⟨hv, h0, _⟩ | ⟨g, cap, cur, hv, hF, hnc, hcm, hcs, ht⟩
      · subst hv; simp [Value.ownBlock]
      · subst hv
        subst hF
        have hnd := s.nodup
        rw [List.map_append, List.nodup_append] at hnd
        intro e
        simp [Value.ownBlock] at e
        exact hnd.2.2 b (List.mem_map.2 ⟨_, hb, rfl⟩) g (by simp) e.symm
  rcases hp with rfl | rfl
  · exact .inl h3
  · exact .inr h3
theorem bld_out {w0 : World} {I0 : IM} {w' : World} {b : Nat} {p : Value} {l : List UInt8} (s : St w0 I0 [] I0 w' []) (h0 : I0.Sub w0) (h : Lib.BuilderAt 100 5 w0.heap.size b p (l.map bV) w') :
    ∃ v' F', RowH 5 1 v' l.length (l.map bV) F' ∧ St w0 I0 [] I0 w' ([(b, .cells #[p, v'] 100)] ++ F') := by
  obtain ⟨hB, v, hb, ⟨hl, hrow⟩, hne⟩ := h
  have free : ∀ k, w0.heap.size ≤ k → I0 k = none := fun k hk => by
    cases e : I0 k with
    | none => rfl
    | some o => exact absurd (h0.lt e) (by omega)
  rcases hrow with ⟨rfl, hz⟩ | ⟨g, cap, cur, rfl, hg2, hg, hnc, hcm, hcs, ht⟩
  · refine ⟨_, [], ⟨by simp, .inl ⟨rfl, by simpa using hz, rfl⟩⟩, ⟨s.sub, s.le, s.new, s.fr, ?_, ?_, ?_, ?_⟩⟩
    · intro e he; simp at he; subst he; exact hb
    · intro e he; simp at he; subst he; exact free _ hB
    · intro e he; simp at he; subst he; exact .inl hB
    · simp
  · have hbg : b ≠ g := fun e => hne (by simp [Value.ownBlock, e])
    simp only [List.length_map] at hb hnc ht
    refine ⟨_, [(g, .cells cur 5)], ⟨by simp, .inr ⟨g, cap, cur, rfl, rfl, hnc, hcm, hcs, ht⟩⟩, ⟨s.sub, s.le, s.new, s.fr, ?_, ?_, ?_, ?_⟩⟩
    · intro e he; simp at he; rcases he with rfl | rfl
      · exact hb
      · exact hg
    · intro e he; simp at he; rcases he with rfl | rfl
      · exact free _ hB
      · exact free _ hg2
    · intro e he; simp at he; rcases he with rfl | rfl
      · exact .inl hB
      · exact .inl hg2
    · simp [hbg]
section
variable {w0 : World} {I0 : IM} {I : IM} {Q : Exit → Act → World → Prop}
/-- RULE: a call of the library's, which leaves all that was there at the beginning; what is one's own is gone -/
theorem callE_rule {N : Nat} {ops : Array Oper} {ev : Ev} {l : List Oper} {H : List OB} {w : World} {f : FuncId} {args : Array Value} {v : Value} (d : Option Tmp)
    (s : St w0 I0 [] I w H) (h0 : I0.Sub w0) (hc : Calls Tryd.prog f args w (fun e w' => e = .returned v ∧ Below w0.heap.size w w')) (h : callOf Tryd.prog N ops ev l = some (f, args, d))
    (k : ∀ w', St w0 I0 [] I0 w' [] → wpList Tryd.prog ops Q l.tail (ActOf N (putE d v ev)) w') : wpList Tryd.prog ops Q l (ActOf N ev) w := by
  obtain ⟨o, l', rfl, rfl, hw, hr⟩ := callOf_spec h
  refine wpList_step fun K hK => ?_
  rw [ActOf_yield, if_pos hw]
  unfold Oper.wp
  rw [ActOf_eval, hr]
  simp only [Oper.upon]
  refine hc.mono ?_
  rintro e w' ⟨rfl, b⟩
  refine hK _ _ ?_
  rw [ActOf_put]
  exact k w' (st_low s h0 b)
/-- RULE: a builder is written -/
theorem callW_rule {N : Nat} {ops : Array Oper} {ev : Ev} {l : List Oper} {H : List OB} {w : World} {f : FuncId} {args : Array Value} {v p : Value} {b : Nat} {L : List UInt8} (d : Option Tmp)
    (s : St w0 I0 [] I w H) (h0 : I0.Sub w0) (hc : Calls Tryd.prog f args w (fun e w' => e = .returned v ∧ (Lib.BuilderAt 100 5 w0.heap.size b p (L.map bV) w' ∧ Below w0.heap.size w w'))) (h : callOf Tryd.prog N ops ev l = some (f, args, d))
    (k : ∀ v' w' F', RowH 5 1 v' L.length (L.map bV) F' → St w0 I0 [] I0 w' ([(b, .cells #[p, v'] 100)] ++ F') → wpList Tryd.prog ops Q l.tail (ActOf N (putE d v ev)) w') : wpList Tryd.prog ops Q l (ActOf N ev) w := by
  obtain ⟨o, l', rfl, rfl, hw, hr⟩ := callOf_spec h
  refine wpList_step fun K hK => ?_
  rw [ActOf_yield, if_pos hw]
  unfold Oper.wp
  rw [ActOf_eval, hr]
  simp only [Oper.upon]
  refine hc.mono ?_
  rintro e w' ⟨rfl, hb, b⟩
  refine hK _ _ ?_
  rw [ActOf_put]
  obtain ⟨v', F', row, s'⟩ := bld_out (st_low s h0 b) h0 hb
  exact k v' w' F' row s'
end
end Go.Proofs.YtgmigcmhnmmdkaaDoor

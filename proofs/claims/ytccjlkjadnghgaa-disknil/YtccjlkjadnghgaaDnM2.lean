/- Blocks of one's own, lent all at once; a disk's state. -/
import Derived.Test.YtccjlkjadnghgaaDnM1
import Derived.Test.YtccjlkjadnghgaaDnS15
set_option linter.all false
set_option maxRecDepth 100000
namespace Go.Sep
def IM.all (I : IM) (L : List OB) : IM := fun n => match L.find? (fun e => e.1 == n) with
  | some e => some e.2
  | none => I n
section
variable {w0 : World} {I0 : IM} {mm : List Nat} {I : IM} {w : World} {H L : List OB}
theorem all_cases {n : Nat} {o : Obj} (h : I.all L n = some o) : I n = some o ∨ (n, o) ∈ L := by
  unfold IM.all at h
  split at h
  · rename_i e he
    have h1 := List.mem_of_find?_eq_some he
    have h2 := List.find?_some he
    simp at h2
    cases h
    subst h2
    exact .inr h1
  · exact .inl h
theorem all_sub (hL : ∀ e ∈ L, e ∈ H) : ∀ k o, I.all L k = some o → I k = some o ∨ (k, o) ∈ H := fun k o h => (all_cases h).imp id (hL _)
theorem all_le (s : St w0 I0 mm I w H) (hL : ∀ e ∈ L, e ∈ H) : I.Le (I.all L) := fun n o h => by
  unfold IM.all
  split
  · rename_i e he
    have h1 := List.mem_of_find?_eq_some he
    have h2 := List.find?_some he
    simp at h2
    have h3 := s.free _ (hL _ h1)
    rw [h2, h] at h3; cases h3
  · exact h
theorem all_get (s : St w0 I0 mm I w H) (hL : ∀ e ∈ L, e ∈ H) : ∀ e ∈ L, I.all L e.1 = some e.2 := fun e he => by
  unfold IM.all
  split
  · rename_i e' he'
    have h1 := List.mem_of_find?_eq_some he'
    have h2 := List.find?_some he'
    simp at h2
    have h3 := s.own _ (hL _ h1)
    have h4 := s.own _ (hL _ he)
    rw [h2, h4] at h3
    exact h3.symm
  · rename_i he'
    have := List.find?_eq_none.1 he' e he
    simp at this
theorem all_subW (s : St w0 I0 mm I w H) (hL : ∀ e ∈ L, e ∈ H) : (I.all L).Sub w := fun k o h => by
  rcases all_cases h with h1 | h1
  · exact s.sub k o h1
  · exact s.own (k, o) (hL _ h1)
end
section
variable {P : Program} {Q : Exit → Act → World → Prop} {S : World → Prop} {ops : Array Oper} {N : Nat} {ev : Ev} {w : World} {fuel : Nat} {listed : Array Bool}
theorem held_ranS (m : Sem Value) (i : Nat) (v : Value) (d : Option Tmp) {I : IM} (hi : ops[i]? = some (ops.getD i default)) (hd : (ops.getD i default).dst = d) (hns : Region.noSelect ops = true) (hf : Region.free .any ops listed i = true) (hr : (Region.ready .any ops listed).contains i = true)
    (hQ : ∀ c d' v' a w, Q (.panic c) (a.put d' v') w → Q (.panic c) a w) (hw : Region.wanted (ops.getD i default) (yieldE N ops ev) = true) (he : execOp (evalE N ev) (ops.getD i default) = m.bind fun v => .pure (.value v)) (hm : ∀ w', SubS I w' → m.run P w' = .ok v w') (hS : SubS I w)
    (h : wpAnyH P .any ops Q (SubS I) fuel (listed.setIfInBounds i true) (ActOf N (putE d v ev)) w) : wpAnyH P .any ops Q (SubS I) (fuel + 1) listed (ActOf N ev) w := by
  subst hd
  refine wpAnyH_take (v := v) hi hns hf hr (fun c a w h => hQ c _ _ a w h) (.inl ⟨by rw [ActOf_yield]; exact hw, fun w' hw' => ?_⟩) hS (by rw [ActOf_put]; exact h)
  rw [ActOf_eval, he, show (m.bind fun v => Sem.pure (Next.value v)) = (m >>= fun v => pure (Next.value v)) from rfl, Sem.run_bind, hm w' hw']; rfl
theorem qn_normal {a : Act} {K : Act → World → Prop} (h : K a w) : Qn Q K .normal a w := h
theorem held_nextS {a : Act} {K : Act → World → Prop} (hs : S w) (h : K a w) : Qn Q (fun a' w' => S w' ∧ K a' w') .normal a w := ⟨hs, h⟩
variable {w0 : World} {I0 : IM} {mm : List Nat} {I : IM}
/-- RULE: a call to which the first two blocks and the rows of one kind are handed over. -/
theorem callD_rule {l : List Oper} {d0 m0 : OB} {Hr F Fw : List OB} {f : FuncId} {args : Array Value} {R : Value → IM → OB → OB → List OB → Prop} (dd : Option Tmp)
    (s : St w0 I0 mm I w ((d0 :: m0 :: Hr) ++ (F ++ Fw))) (hf : FunM P f args I (d0 :: m0 :: F) (fun v J H' => ∃ d1 m1 F', H' = d1 :: m1 :: F' ∧ R v J d1 m1 F')) (h : callOf P N ops ev l = some (f, args, dd))
    (k : ∀ v I' w' d1 m1 F', I.Le I' → R v I' d1 m1 F' → St w0 I0 mm I' w' ((d1 :: m1 :: Hr) ++ (F' ++ Fw)) → wpList P ops Q l.tail (ActOf N (putE dd v ev)) w') : wpList P ops Q l (ActOf N ev) w := by
  have hp : ((d0 :: m0 :: Hr) ++ (F ++ Fw)).Perm ((d0 :: m0 :: F) ++ (Hr ++ Fw)) := by
    simp only [List.cons_append]
    exact List.Perm.cons _ (List.Perm.cons _ (List.perm_append_comm_assoc _ _ _))
  refine callM_rule dd (s.perm hp) hf h fun v I' w' H' le r st => ?_
  obtain ⟨d1, m1, F', rfl, hR⟩ := r
  refine k v I' w' d1 m1 F' le hR (st.perm ?_)
  simp only [List.cons_append]
  exact List.Perm.cons _ (List.Perm.cons _ (List.perm_append_comm_assoc _ _ _))
end
end Go.Sep
namespace Go.Proofs.Ytccjlkjadnghgaa
open Go.RowKit Go.Sep
theorem row_all {J : IM} {v : Value} {b : List UInt8} {n : Nat} {F : List OB} (h : RowH 5 1 v n (b.map bV) F) (hJ : ∀ e ∈ F, J e.1 = some e.2) : BSl J b v := by
  have hl : b.length = n := by have := h.1; simpa using this
  rcases h.2 with ⟨rfl, rfl, rfl⟩ | ⟨g, cap, cur, rfl, rfl, hnc, hcm, hcs, ht⟩
  · have : b = [] := List.eq_nil_of_length_eq_zero hl
    subst this
    exact bsl_nil J
  · refine ⟨some ⟨g, 0, none⟩, cap, congrArg (fun q => Value.slice (some ⟨g, 0, none⟩) q cap) hl.symm, by omega, fun j x hj => ⟨g, 0, cur, 5, (0, 0), rfl, hJ (g, .cells cur 5) (by simp), ?_⟩⟩
    have hx : (b.map bV)[j]? = some (bV x) := by rw [List.getElem?_map, hj]; rfl
    rw [← ht, List.getElem?_take] at hx
    split at hx
    · have hx' : cur[j]? = some (bV x) := by simpa using hx
      rw [Nat.zero_add]; exact hx'
    · cases hx
/-- A disk's state. -/
structure DS where
  es : List (Nat × List UInt8)
  room : Nat
  used : Nat
  full : Bool
  off : Bool
  armed : Nat
  torn : Nat
def DS.cells (s : DS) (m : Nat) : Array Value := #[.map (some m), .int .i64 ((s.room : Nat) : Int), .int .i64 ((s.used : Nat) : Int), .bool s.full, .bool s.off, .int .i64 ((s.armed : Nat) : Int), .int .i64 ((s.torn : Nat) : Int)]
def cntE (armed : Nat) : Nat := if armed = 1 then 10 else 0
/-- What Append does. -/
def dApp (s : DS) (k : Nat) (p : List UInt8) : DS × Nat :=
  if s.off = true then (s, 10) else if s.full = true ∨ s.room - s.used < p.length then (s, 8) else
    ({ s with es := mput s.es k (((mget s.es k).getD []) ++ (if s.armed = 1 then p.take s.torn else p)), used := s.used + (if s.armed = 1 then p.take s.torn else p).length, off := decide (s.armed = 1), armed := s.armed - 1 }, cntE s.armed)
theorem dApp_off {es : List (Nat × List UInt8)} {room used armed torn k : Nat} {full : Bool} {p : List UInt8} : dApp ⟨es, room, used, full, true, armed, torn⟩ k p = (⟨es, room, used, full, true, armed, torn⟩, 10) := rfl
theorem dApp_full {es : List (Nat × List UInt8)} {room used armed torn k : Nat} {full : Bool} {p : List UInt8} (h : full = true ∨ room - used < p.length) : dApp ⟨es, room, used, full, false, armed, torn⟩ k p = (⟨es, room, used, full, false, armed, torn⟩, 8) := by
  unfold dApp
  rw [if_neg (by simp), if_pos h]
theorem dApp_go {es : List (Nat × List UInt8)} {room used armed torn k : Nat} {p q : List UInt8} (h : ¬ room - used < p.length) (hq : (if armed = 1 then p.take torn else p) = q) : dApp ⟨es, room, used, false, false, armed, torn⟩ k p = (⟨mput es k (((mget es k).getD []) ++ q), room, used + q.length, false, decide (armed = 1), armed - 1, torn⟩, cntE armed) := by
  subst hq
  unfold dApp
  rw [if_neg (by simp), if_neg (by simp only [Bool.false_eq_true, false_or]; exact h)]
theorem cnt_ne {armed : Nat} (h : cntE armed ≠ 0) : armed = 1 := by
  unfold cntE at h
  split at h
  · assumption
  · exact absurd rfl h
theorem cnt_eq {armed : Nat} (h : ¬ cntE armed ≠ 0) : ¬ armed = 1 := fun q => by subst q; exact h (by decide)
theorem take_min2 {l : List UInt8} {m : Nat} : l.take (min m l.length) = l.take m := by
  rw [Nat.min_comm]; exact take_min
end Go.Proofs.Ytccjlkjadnghgaa

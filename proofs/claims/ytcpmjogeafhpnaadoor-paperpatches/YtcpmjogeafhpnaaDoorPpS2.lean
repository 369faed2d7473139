/-
  Operations run over known blocks: an evaluator for the kernel, and that it is right.
-/
import Derived.Test.YtcpmjogeafhpnaaDoorPpS1
set_option linter.all false
namespace Go.Sep
open Go.RowKit

/-- Which known block an address lies in: one's own; one that is never written. -/
inductive Hint where
  | o (i : Nat)
  | c (i : Nat)
def blockOf (H C : List OB) : Hint → Option OB
  | .o i => H[i]?
  | .c i => C[i]?
def ownHint : List Hint → Bool
  | [] => false
  | .o _ :: _ => true
  | .c _ :: l => ownHint l
def isCell : Value → Bool
  | .agg _ => false
  | .tuple _ => false
  | _ => true
structure Res (α : Type) where
  a : α
  H : List OB
  hs : List Hint
  n : Nat
  eqs : List (Nat × Nat)
def Res.eq {α : Type} (r : Res α) (x y : Nat) : Res α := { r with eqs := (x, y) :: r.eqs }
def dup (l : List Nat) : List (Nat × Nat) := l.map fun k => (k, k)
def EqsOk (l : List (Nat × Nat)) : Prop := ∀ p ∈ l, p.1 = p.2
theorem dup_ok (l : List Nat) : EqsOk (dup l) := fun p hp => by
  obtain ⟨k, _, rfl⟩ := List.mem_map.1 hp; rfl

def exec {α : Type} (P : Program) (C : List OB) (φ : Nat → Nat) : Sem α → List OB → List Hint → Nat → Option (Res α)
  | .pure a, H, hs, n => some ⟨a, H, hs, n, []⟩
  | .program k, H, hs, n => exec P C φ (k P) H hs n
  | .mark _ k, H, hs, n => exec P C φ k H hs n
  | .load _ a k, H, hs, n => match hs with
    | [] => none
    | h :: hs => match blockOf H C h with
      | some (b, .cells c _ _) => match a.spot with
        | some _ => none
        | none => match c[a.off]? with
          | some v => (exec P C φ (k v) H hs n).map fun r => r.eq a.block b
          | none => none
      | _ => none
  | .store _ a v k, H, hs, n => match hs with
    | .o i :: hs => match H[i]? with
      | some (b, .cells c e f) => match a.spot with
        | some _ => none
        | none => bif isCell v && decide (a.off < c.size) && !(decide (f.1 ≤ a.off) && decide (a.off < f.2)) then
            (exec P C φ k (H.set i (b, .cells (c.setIfInBounds a.off v) e f)) hs n).map fun r => r.eq a.block b
          else none
      | _ => none
    | _ => none
  | .new o k, H, hs, n => exec P C φ (k (φ n)) (H ++ [(φ n, o)]) hs (n + 1)
  | .shape q k, H, hs, n => match hs with
    | [] => none
    | h :: hs => match blockOf H C h with
      | some (b, .cells c e _) => (exec P C φ (k (some (e, c.size))) H hs n).map fun r => r.eq q b
      | _ => none
  | .frozen a k, H, hs, n => match hs with
    | [] => none
    | h :: hs => match blockOf H C h with
      | some (b, .cells _ _ f) => (exec P C φ (k (decide (f.1 ≤ a.off) && decide (a.off < f.2))) H hs n).map fun r => r.eq a.block b
      | _ => none
  | .getObj q k, H, hs, n => match hs with
    | [] => none
    | h :: hs => match blockOf H C h with
      | some (_, .cells _ _ _) => none
      | some (b, o) => (exec P C φ (k o) H hs n).map fun r => r.eq q b
      | none => none
  | .setObj q o k, H, hs, n => match hs with
    | .o i :: hs => match H[i]? with
      | some (_, .cells _ _ _) => none
      | some (b, _) => (exec P C φ k (H.set i (b, o)) hs n).map fun r => r.eq q b
      | none => none
    | _ => none
  | _, _, _, _ => none

/-- Reading alone. -/
def look {α : Type} (P : Program) (C : List OB) (H : List OB) : Sem α → List Hint → Option (α × List (Nat × Nat))
  | .pure a, hs => match hs with
    | [] => some (a, [])
    | _ => none
  | .program k, hs => look P C H (k P) hs
  | .mark _ k, hs => look P C H k hs
  | .load _ a k, hs => match hs with
    | [] => none
    | h :: hs => match blockOf H C h with
      | some (b, .cells c _ _) => match a.spot with
        | some _ => none
        | none => match c[a.off]? with
          | some v => (look P C H (k v) hs).map fun r => (r.1, (a.block, b) :: r.2)
          | none => none
      | _ => none
  | .shape q k, hs => match hs with
    | [] => none
    | h :: hs => match blockOf H C h with
      | some (b, .cells c e _) => (look P C H (k (some (e, c.size))) hs).map fun r => (r.1, (q, b) :: r.2)
      | _ => none
  | .frozen a k, hs => match hs with
    | [] => none
    | h :: hs => match blockOf H C h with
      | some (b, .cells _ _ f) => (look P C H (k (decide (f.1 ≤ a.off) && decide (a.off < f.2))) hs).map fun r => (r.1, (a.block, b) :: r.2)
      | _ => none
  | .getObj q k, hs => match hs with
    | [] => none
    | h :: hs => match blockOf H C h with
      | some (_, .cells _ _ _) => none
      | some (b, o) => (look P C H (k o) hs).map fun r => (r.1, (q, b) :: r.2)
      | none => none
  | _, _ => none

def RoC (I : IM) : List OB → Prop
  | [] => True
  | e :: C => I e.1 = some e.2 ∧ RoC I C
theorem RoC.mem {I : IM} : ∀ {C : List OB}, RoC I C → ∀ e ∈ C, I e.1 = some e.2
  | [], _, e, he => by simp at he
  | x :: C, h, e, he => by
    rcases List.mem_cons.1 he with rfl | he
    · exact h.1
    · exact RoC.mem h.2 e he
theorem RoC.mono {I J : IM} (hl : I.Le J) : ∀ {C : List OB}, RoC I C → RoC J C
  | [], _ => trivial
  | x :: C, h => ⟨hl _ _ h.1, RoC.mono hl h.2⟩

section
variable {w0 : World} {I0 : IM} {m : List Nat} {I : IM}
theorem St.at {w : World} {H F C : List OB} (s : St w0 I0 m I w (H ++ F)) (hC : RoC I C) {h : Hint} {e : OB} (hb : blockOf H C h = some e) : w.heap[e.1]? = some e.2 := by
  cases h with
  | o i => exact s.own e (by simp [List.mem_of_getElem? hb])
  | c i => exact s.sub _ _ (hC.mem e (List.mem_of_getElem? hb))

theorem run_cell {w : World} {a : Addr} {b : Nat} {c : Array Value} {e : TypeId} {f : Nat × Nat} (hb : w.heap[b]? = some (.cells c e f)) (hab : a.block = b) (hsp : a.spot = none) : w.cell? a = c[a.off]? := by
  unfold World.cell?; rw [hab, hb]; simp [hsp]
theorem run_frozen {w : World} {a : Addr} {b : Nat} {c : Array Value} {e : TypeId} {f : Nat × Nat} (hb : w.heap[b]? = some (.cells c e f)) (hab : a.block = b) : w.frozen? a = (decide (f.1 ≤ a.off) && decide (a.off < f.2)) := by
  unfold World.frozen?; rw [hab, hb]

theorem eqs_map {α : Type} {o : Option (Res α)} {x y : Nat} {r : Res α} (h : (o.map fun r => r.eq x y) = some r) : ∃ r', o = some r' ∧ r = r'.eq x y := by
  cases o with
  | none => simp at h
  | some r' => simp at h; exact ⟨r', rfl, h.symm⟩

theorem exec_sound {α : Type} {P : Program} {C : List OB} {φ : Nat → Nat} (hC : RoC I C) : ∀ (s : Sem α) (H F : List OB) (hs : List Hint) (n : Nat) (w : World) (r : Res α),
    exec P C φ s H hs n = some r → EqsOk r.eqs → St w0 I0 m I w (H ++ F) → (∀ j, φ (n + j) = w.heap.size + j) →
    ∃ w', s.run P w = .ok r.a w' ∧ St w0 I0 m I w' (r.H ++ F) ∧ (∀ j, φ (r.n + j) = w'.heap.size + j) := by
  intro s
  induction s with
  | pure a =>
    intro H F hs n w r h he st hφ
    simp only [exec, Option.some.injEq] at h
    subst h
    exact ⟨w, rfl, st, hφ⟩
  | program k ih =>
    intro H F hs n w r h he st hφ
    exact ih P H F hs n w r h he st hφ
  | mark _ k ih =>
    intro H F hs n w r h he st hφ
    exact ih H F hs n w r h he st hφ
  | load md a k ih =>
    intro H F hs n w r h he st hφ
    rcases hs with _ | ⟨hd, hs'⟩
    · simp [exec] at h
    · simp only [exec] at h
      split at h
      · rename_i b c e f hb
        split at h
        · cases h
        · rename_i hsp
          split at h
          · rename_i v hv
            obtain ⟨r', h', rfl⟩ := eqs_map h
            have hab : a.block = b := he (a.block, b) (by simp [Res.eq])
            have := run_cell (st.at hC hb) hab hsp
            rw [hv] at this
            obtain ⟨w', hr, st', hφ'⟩ := ih v H F hs' n w r' h' (fun p hp => he p (by simp [Res.eq, hp])) st hφ
            exact ⟨w', by simp only [Sem.run, this]; exact hr, st', hφ'⟩
          · cases h
      · cases h
  | store md a v k ih =>
    intro H F hs n w r h he st hφ
    simp only [exec] at h
    split at h
    · rename_i i hs'
      split at h
      · rename_i b c e f hb
        split at h
        · cases h
        · rename_i hsp
          simp only [cond_eq_ite] at h
          split at h
          · rename_i hc
            simp only [Bool.and_eq_true, Bool.not_eq_true', decide_eq_true_eq] at hc
            obtain ⟨⟨hcell, hoff⟩, hfz⟩ := hc
            obtain ⟨r', h', rfl⟩ := eqs_map h
            have hab : a.block = b := he (a.block, b) (by simp [Res.eq])
            have hblk : w.heap[b]? = some (.cells c e f) := st.own (b, _) (by simp [List.mem_of_getElem? hb])
            have h1 := run_cell hblk hab hsp
            have h2 := run_frozen hblk hab
            rw [hfz] at h2
            have hsome : c[a.off]? = some c[a.off] := by simp [hoff]
            rw [hsome] at h1
            have hi : i < H.length := (List.getElem?_eq_some_iff.1 hb).1
            have hHF : (H ++ F)[i]? = some (b, .cells c e f) := by rw [List.getElem?_append_left hi]; exact hb
            have st2 : St w0 I0 m I (w.setCell a v) ((H.set i (b, .cells (c.setIfInBounds a.off v) e f)) ++ F) := by
              have := St.set (w' := w.setCell a v) (o' := .cells (c.setIfInBounds a.off v) e f) st hHF rfl rfl rfl (by simp [World.setCell]) (by
                show (w.heap.modify a.block _)[b]? = _
                rw [hab, Array.getElem?_modify]; simp [hblk, hsp]) (fun q hq => by
                show (w.heap.modify a.block _)[q]? = _
                rw [Array.getElem?_modify, if_neg (by rw [hab]; exact fun h => hq h.symm)])
              rw [List.set_append_left _ _ hi] at this
              exact this
            obtain ⟨w', hr, st', hφ'⟩ := ih _ F hs' n (w.setCell a v) r' h' (fun p hp => he p (by simp [Res.eq, hp])) st2 (by simpa [World.setCell] using hφ)
            refine ⟨w', ?_, st', hφ'⟩
            cases v <;> first | (simp [isCell] at hcell; done) | (simp only [Sem.run, h1, h2]; exact hr)
          · cases h
      · cases h
    · cases h
  | new o k ih =>
    intro H F hs n w r h he st hφ
    simp only [exec] at h
    have h0 : φ n = w.heap.size := by simpa using hφ 0
    rw [h0] at h
    have st2 := st.push o
    have st3 := st2.perm (H' := (H ++ [(w.heap.size, o)]) ++ F) (by
      rw [List.append_assoc, List.append_assoc]
      exact List.Perm.append_left H List.perm_append_comm)
    obtain ⟨w', hr, st', hφ'⟩ := ih w.heap.size _ F hs (n + 1) _ r h he st3 (fun j => by
      have := hφ (1 + j)
      simp only [Array.size_push]
      rw [← Nat.add_assoc] at this; omega)
    exact ⟨w', hr, st', hφ'⟩
  | shape q k ih =>
    intro H F hs n w r h he st hφ
    rcases hs with _ | ⟨hd, hs'⟩
    · simp [exec] at h
    · simp only [exec] at h
      split at h
      · rename_i b c e f hb
        obtain ⟨r', h', rfl⟩ := eqs_map h
        have hab : q = b := he (q, b) (by simp [Res.eq])
        have hblk := st.at hC hb
        have hsh : w.shape? q = some (e, c.size) := by unfold World.shape?; rw [hab, hblk]
        obtain ⟨w', hr, st', hφ'⟩ := ih _ H F hs' n w r' h' (fun p hp => he p (by simp [Res.eq, hp])) st hφ
        exact ⟨w', by simp only [Sem.run, hsh]; exact hr, st', hφ'⟩
      · cases h
  | frozen a k ih =>
    intro H F hs n w r h he st hφ
    rcases hs with _ | ⟨hd, hs'⟩
    · simp [exec] at h
    · simp only [exec] at h
      split at h
      · rename_i b c e f hb
        obtain ⟨r', h', rfl⟩ := eqs_map h
        have hab : a.block = b := he (a.block, b) (by simp [Res.eq])
        have hblk := st.at hC hb
        obtain ⟨w', hr, st', hφ'⟩ := ih _ H F hs' n w r' h' (fun p hp => he p (by simp [Res.eq, hp])) st hφ
        exact ⟨w', by simp only [Sem.run, run_frozen hblk hab]; exact hr, st', hφ'⟩
      · cases h
  | getObj q k ih =>
    intro H F hs n w r h he st hφ
    rcases hs with _ | ⟨hd, hs'⟩
    · simp [exec] at h
    · simp only [exec] at h
      split at h
      · cases h
      · rename_i b o hb hnot
        obtain ⟨r', h', rfl⟩ := eqs_map h
        have hab : q = b := he (q, b) (by simp [Res.eq])
        have hblk := st.at hC hnot
        obtain ⟨w', hr, st', hφ'⟩ := ih o H F hs' n w r' h' (fun p hp => he p (by simp [Res.eq, hp])) st hφ
        refine ⟨w', ?_, st', hφ'⟩
        rw [hab]
        simp only [Sem.run, hblk]
        cases o <;> first | exact (hb _ _ _ _ rfl).elim | exact hr
      · cases h
  | setObj q o k ih =>
    intro H F hs n w r h he st hφ
    simp only [exec] at h
    split at h
    · rename_i i hs'
      split at h
      · cases h
      · rename_i b o1 hb hnot
        obtain ⟨r', h', rfl⟩ := eqs_map h
        have hab : q = b := he (q, b) (by simp [Res.eq])
        have hblk : w.heap[b]? = some o1 := st.own (b, _) (by simp [List.mem_of_getElem? hnot])
        have hi : i < H.length := (List.getElem?_eq_some_iff.1 hnot).1
        have hHF : (H ++ F)[i]? = some (b, o1) := by rw [List.getElem?_append_left hi]; exact hnot
        have hlt := heap_lt hblk
        have st2 : St w0 I0 m I { w with heap := w.heap.setIfInBounds b o } ((H.set i (b, o)) ++ F) := by
          have := St.set (w' := { w with heap := w.heap.setIfInBounds b o }) (o' := o) st hHF rfl rfl rfl (by simp) (by
            show (w.heap.setIfInBounds b o)[b]? = _
            simp [hlt]) (fun q hq => by
            show (w.heap.setIfInBounds b o)[q]? = _
            rw [Array.getElem?_setIfInBounds_ne (fun h => hq h.symm)])
          rw [List.set_append_left _ _ hi] at this
          exact this
        obtain ⟨w', hr, st', hφ'⟩ := ih _ F hs' n _ r' h' (fun p hp => he p (by simp [Res.eq, hp])) st2 (by simpa using hφ)
        refine ⟨w', ?_, st', hφ'⟩
        rw [hab]
        simp only [Sem.run, hblk]
        cases o1 <;> first | exact (hb _ _ _ _ rfl).elim | exact hr
      · cases h
    · cases h
  | freeze a q k ih => intro H F hs n w r h; simp [exec] at h
  | choose q k ih => intro H F hs n w r h; simp [exec] at h
  | sys c k ih => intro H F hs n w r h; simp [exec] at h
  | halt h => intro H F hs n w r h; simp [exec] at h
theorem eqs_map2 {α : Type} {o : Option (α × List (Nat × Nat))} {x : Nat × Nat} {r : α × List (Nat × Nat)} (h : (o.map fun r => (r.1, x :: r.2)) = some r) : ∃ r', o = some r' ∧ r = (r'.1, x :: r'.2) := by
  cases o with
  | none => simp at h
  | some r' => simp at h; exact ⟨r', rfl, h.symm⟩

/-- What is known of the blocks that are read. -/
def Knows (w : World) (H C : List OB) (hs : List Hint) : Prop := ∀ h ∈ hs, ∀ e, blockOf H C h = some e → w.heap[e.1]? = some e.2
theorem Knows.nil (w : World) (H C : List OB) : Knows w H C [] := fun h hh => by simp at hh
theorem look_sound {α : Type} {P : Program} {C H : List OB} {w : World} : ∀ (s : Sem α) (hs : List Hint) (r : α × List (Nat × Nat)),
    look P C H s hs = some r → EqsOk r.2 → Knows w H C hs → s.run P w = .ok r.1 w := by
  intro s
  induction s with
  | pure a =>
    intro hs r h he kn
    simp only [look] at h
    split at h
    · simp only [Option.some.injEq] at h; subst h; rfl
    · cases h
  | program k ih => intro hs r h he kn; exact ih P hs r h he kn
  | mark _ k ih => intro hs r h he kn; exact ih hs r h he kn
  | load md a k ih =>
    intro hs r h he kn
    rcases hs with _ | ⟨hd, hs'⟩
    · simp [look] at h
    · simp only [look] at h
      split at h
      · rename_i b c e f hb
        split at h
        · cases h
        · rename_i hsp
          split at h
          · rename_i v hv
            obtain ⟨r', h', rfl⟩ := eqs_map2 h
            have hab : a.block = b := he (a.block, b) (by simp)
            have := run_cell (kn hd (by simp) _ hb) hab hsp
            rw [hv] at this
            simp only [Sem.run, this]
            exact ih v hs' r' h' (fun p hp => he p (by simp [hp])) (fun x hx => kn x (by simp [hx]))
          · cases h
      · cases h
  | shape q k ih =>
    intro hs r h he kn
    rcases hs with _ | ⟨hd, hs'⟩
    · simp [look] at h
    · simp only [look] at h
      split at h
      · rename_i b c e f hb
        obtain ⟨r', h', rfl⟩ := eqs_map2 h
        have hab : q = b := he (q, b) (by simp)
        have hblk := kn hd (by simp) _ hb
        have hsh : w.shape? q = some (e, c.size) := by unfold World.shape?; rw [hab, hblk]
        simp only [Sem.run, hsh]
        exact ih _ hs' r' h' (fun p hp => he p (by simp [hp])) (fun x hx => kn x (by simp [hx]))
      · cases h
  | frozen a k ih =>
    intro hs r h he kn
    rcases hs with _ | ⟨hd, hs'⟩
    · simp [look] at h
    · simp only [look] at h
      split at h
      · rename_i b c e f hb
        obtain ⟨r', h', rfl⟩ := eqs_map2 h
        have hab : a.block = b := he (a.block, b) (by simp)
        simp only [Sem.run, run_frozen (kn hd (by simp) _ hb) hab]
        exact ih _ hs' r' h' (fun p hp => he p (by simp [hp])) (fun x hx => kn x (by simp [hx]))
      · cases h
  | getObj q k ih =>
    intro hs r h he kn
    rcases hs with _ | ⟨hd, hs'⟩
    · simp [look] at h
    · simp only [look] at h
      split at h
      · cases h
      · rename_i b o hb hnot
        obtain ⟨r', h', rfl⟩ := eqs_map2 h
        have hab : q = b := he (q, b) (by simp)
        have hblk := kn hd (by simp) _ hnot
        rw [hab]
        simp only [Sem.run, hblk]
        have := ih o hs' r' h' (fun p hp => he p (by simp [hp])) (fun x hx => kn x (by simp [hx]))
        cases o <;> first | exact (hb _ _ _ _ rfl).elim | exact this
      · cases h
  | store md a v k ih => intro hs r h; simp [look] at h
  | new o k ih => intro hs r h; simp [look] at h
  | setObj q o k ih => intro hs r h; simp [look] at h
  | freeze a q k ih => intro hs r h; simp [look] at h
  | choose q k ih => intro hs r h; simp [look] at h
  | sys c k ih => intro hs r h; simp [look] at h
  | halt h => intro hs r h; simp [look] at h
theorem St.knowsF {w : World} {H F C : List OB} (s : St w0 I0 m I w (H ++ F)) (hC : RoC I C) (hs : List Hint) : Knows w H C hs := fun h _ e he => St.at s hC he
end
end Go.Sep

/-
  Regions that draw, whose last operation hangs on all the others; what is lent is one's own again.
-/
import Derived.Test.YtccjlkjadnghgaaDnS10
set_option linter.all false
namespace Go.Sep
open Go.RowKit
/-- Another end for what goes well. -/
def Qn (Q : Exit → Act → World → Prop) (K : Act → World → Prop) : Exit → Act → World → Prop
  | .normal, a, w => K a w
  | .exit id, a, w => Q (.exit id) a w
  | e, a, w => Q e a w
section
variable {P : Program} {Q : Exit → Act → World → Prop} {K : Act → World → Prop}
theorem lets_Qn (h : LetsOut (Qn Q K)) : LetsOut Q := by
  obtain ⟨a, w, h⟩ := h
  exact ⟨a, w, h⟩
theorem upon_Qn {o : Oper} {a : Act} {next : Act → World → Prop} {r : Result Next} (h : o.upon P a next (Qn Q K) r) : o.upon P a next Q r := by
  cases r with
  | ok n w' =>
    cases n <;> simp only [Oper.upon] at h ⊢ <;> first
      | exact h
      | (refine Calls.mono h fun e w'' he => ?_
         cases e with
         | returned v => exact he
         | panicked c => exact he
         | outgrown => exact lets_Qn he)
  | halt x w' => cases x <;> simp only [Oper.upon] at h ⊢ <;> exact h
theorem yielded_last {l : List Oper} {o : Oper} (hd : o.dst = none) (t : Array Value) : yielded (l ++ [o]).toArray t = yielded l.toArray t := by
  funext j
  unfold yielded
  have : ((l ++ [o]).toArray[j]?).bind (·.dst) = (l.toArray[j]?).bind (·.dst) := by
    simp only [List.getElem?_toArray]
    rcases Nat.lt_trichotomy j l.length with h | h | h
    · rw [List.getElem?_append_left h]
    · subst h; simp [hd]
    · rw [List.getElem?_eq_none (by simp; omega), List.getElem?_eq_none (by omega)]
  rw [this]
theorem ready_all {ops : Array Oper} {listed : Array Bool} (h : ∀ j, j < ops.size → listed.getD j true = true) : Region.ready .any ops listed = [] := by
  rw [List.eq_nil_iff_forall_not_mem]
  intro j hj
  obtain ⟨h0, o, ho, _⟩ := mem_ready.1 hj
  rw [h j (Array.getElem?_eq_some_iff.1 ho).1] at h0
  cases h0
theorem wpAny_done {ops : Array Oper} {listed : Array Bool} (h : ∀ j, j < ops.size → listed.getD j true = true) {a : Act} {w : World} (hq : Q .normal a w) : ∀ fuel, wpAny P .any ops Q fuel listed a w
  | 0 => ⟨ready_all h, hq⟩
  | fuel + 1 => ⟨fun _ => hq, fun i hi => by rw [ready_all h] at hi; cases hi⟩
theorem getD_push {listed : Array Bool} {b d : Bool} {j : Nat} : (listed.push b).getD j d = if j = listed.size then b else listed.getD j d := by
  rw [Array.getD_eq_getD_getElem?, Array.getD_eq_getD_getElem?, Array.getElem?_push]
  split
  · rfl
  · rfl
theorem set_push {listed : Array Bool} {b : Bool} {j : Nat} (h : j < listed.size) : (listed.push b).setIfInBounds j true = (listed.setIfInBounds j true).push b := by
  apply Array.ext_getElem?
  intro i
  rw [Array.getElem?_setIfInBounds, Array.getElem?_push, Array.getElem?_push, Array.getElem?_setIfInBounds]
  by_cases hj : j = i
  · subst hj
    have hne : ¬ j = listed.size := by omega
    have hlt : j < listed.size + 1 := by omega
    simp [h, hne, hlt]
  · simp [hj]
theorem all_listed {l : List Oper} {listed : Array Bool} (hs : listed.size = l.length) (hback : ∀ (j : Nat) (oj : Oper), l[j]? = some oj → ∀ e ∈ oj.after, Region.binds .any e = true → e.on < j) (hr : Region.ready .any l.toArray listed = []) : ∀ j, j < l.length → listed.getD j false = true := by
  intro j
  induction j using Nat.strongRecOn with
  | ind j ih =>
    intro hj
    cases hb : listed.getD j false with
    | true => rfl
    | false =>
      have hb' : listed.getD j true = false := by
        have : j < listed.size := by omega
        simpa [this] using hb
      have : j ∈ Region.ready .any l.toArray listed := mem_ready.2 ⟨hb', l[j], by simp [hj], fun e he hbd => ih _ (hback j l[j] (by simp [hj]) e he hbd) (by have := hback j l[j] (by simp [hj]) e he hbd; omega)⟩
      rw [hr] at this; cases this
theorem last_split {L : List Oper} (n : Nat) (h : L.drop n = [L.getD n default]) : L = L.take n ++ [L.getD n default] := by rw [← h, List.take_append_drop]
/-- .. and comes now: it answers nothing. -/
theorem last_rule {l : List Oper} {o : Oper} {N : Nat} {ev : Ev} {w w' : World} (s0 : Sem Unit) (hd : o.dst = none) (hw : Region.wanted o (yieldE N (l ++ [o]).toArray ev) = true) (hs : execOp (evalE N ev) o = s0.bind fun _ => .pure .skip) (hr : s0.run P w = .ok () w') (k : Q .normal (ActOf N ev) w') :
    wpOp P (l ++ [o]).toArray Q l.length (Q .normal) (ActOf N ev) w := by
  have hlast : (l ++ [o]).toArray[l.length]? = some o := by simp
  unfold wpOp
  rw [hlast]
  simp only [ActOf_yield, hw, if_true]
  refine .inl ?_
  unfold Oper.wp
  rw [ActOf_eval, hs]
  have : (s0.bind fun _ => Sem.pure Next.skip).run P w = .ok .skip w' := by
    rw [show (s0.bind fun _ => Sem.pure Next.skip) = (s0 >>= fun _ => pure Next.skip) from rfl, Sem.run_bind, hr]; rfl
  rw [this]
  simp only [Oper.upon]
  rw [hd]; exact k
end
section
variable {P : Program} {Q : Exit → Act → World → Prop} {w0 : World} {I0 : IM} {m : List Nat} {I : IM} {N : Nat} {ev : Ev} {l : List Oper} {C : List OB} (c : Cert) (R : Nat → MP) (F0 : List OB)
end
end Go.Sep

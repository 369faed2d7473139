/-
  Loops; shifts and remainders.
-/
import Derived.Test.YtcpmjogeafhpnaaDoorPpS8
import Derived.Deep.LoopGhost
set_option linter.all false
namespace Go.Sep
open Go.RowKit
theorem nat_rem {a b : Nat} : Int.tmod (a : Int) (b : Int) = ((a % b : Nat) : Int) := by
  rw [Int.tmod_eq_emod_of_nonneg (by omega)]; rfl
def knownB (X ev : Ev) : Prop := X.map (fun e => lookE ev e.1) = X.map (·.2)
theorem lookE_known {X ev : Ev} (h : knownB X ev) (t : Nat) : lookE (X ++ ev) t = lookE ev t := by
  induction X with
  | nil => rfl
  | cons e X ih =>
    simp only [knownB, List.map_cons, List.cons.injEq] at h
    rw [List.cons_append, show lookE (e :: (X ++ ev)) t = (bif Nat.beq e.1 t then e.2 else lookE (X ++ ev) t) from rfl, ih h.2]
    by_cases he : e.1 = t
    · subst he; rw [show Nat.beq e.1 e.1 = true by simp]; exact h.1.symm
    · have : Nat.beq e.1 t = false := by rw [Bool.eq_false_iff]; simpa [Nat.beq_eq] using he
      rw [this]; rfl
theorem ActOf_known {N : Nat} {X ev : Ev} (h : knownB X ev) : ActOf N ev = ActOf N (X ++ ev) := ActOf_congr fun t _ => (lookE_known h t).symm
section
variable {P : Program} {Q : Exit → Act → World → Prop} {w0 : World} {I0 : IM} {m : List Nat}
/-- What a round hands on. -/
structure Again (w0 : World) (I0 : IM) (m : List Nat) {α : Type} (N : Nat) (X : α → Ev) (HH : α → List OB) (Inv : Nat → α → IM → Prop) (n : Nat) (a : Act) (w : World) : Prop where
  ex : ∃ (n' : Nat) (x : α) (J : IM) (H : List OB) (ev : Ev), n' < n ∧ a = ActOf N ev ∧ St w0 I0 m J w H ∧ List.Sublist (HH x) H ∧ (X x).map (fun e => lookE ev e.1) = (X x).map (·.2) ∧ Inv n' x J
theorem loop_rule {α : Type} {c : Code} {N : Nat} {ev : Ev} {I : IM} {w : World} {H : List OB} (X : α → Ev) (HH : α → List OB) (Inv : Nat → α → IM → Prop) (n : Nat) (x : α) (s : St w0 I0 m I w H)
    (hX : (X x).map (fun e => lookE ev e.1) = (X x).map (·.2)) (hH : List.Sublist (HH x) H) (h0 : Inv n x I)
    (round : ∀ n x J w evj, St w0 I0 m J w (HH x) → Inv n x J → c.wp P (Exit.then (Again w0 I0 m N X HH Inv n) Q) (ActOf N (X x ++ evj)) w) : (Code.loop c).wp P Q (ActOf N ev) w := by
  refine Go.wp_loop_ghost (fun n a w => ∃ x J evj, a = ActOf N (X x ++ evj) ∧ St w0 I0 m J w (HH x) ∧ Inv n x J) n ⟨x, I, ev, ActOf_known hX, s.drop hH, h0⟩ ?_
  rintro n a w ⟨x, J, evj, rfl, s, h⟩
  refine wp_mono (round n x J w evj s h) ?_
  intro e a' w' hq
  cases e with
  | normal =>
    obtain ⟨n', x', J', H', ev', hn, rfl, s', hs, hk, hi⟩ := hq.ex
    exact ⟨n', hn, x', J', ev', ActOf_known hk, s'.drop hs, hi⟩
  | _ => exact hq
end
theorem run_cat {P : Program} {w : World} {x y : List UInt8} {t : TypeId} (h : x.length + y.length ≤ 9223372036854775807) : (binOp .add t (.string ⟨x.toArray⟩) (.string ⟨y.toArray⟩)).run P w = .ok (.string ⟨(x ++ y).toArray⟩) w := by
  have e : ¬ (((ByteArray.mk x.toArray).size + (ByteArray.mk y.toArray).size : Nat) : Int) > IntKind.i64.max := by
    have : (ByteArray.mk x.toArray).size + (ByteArray.mk y.toArray).size = x.length + y.length := by simp [ByteArray.size]
    rw [this]
    have h2 : IntKind.i64.max = 9223372036854775807 := by decide
    rw [h2]; omega
  have e2 : (ByteArray.mk x.toArray) ++ (ByteArray.mk y.toArray) = ⟨(x ++ y).toArray⟩ := by
    apply ByteArray.ext
    simp
  show (Op.stringOp .add _ _).run P w = _
  unfold Op.stringOp
  simp only
  rw [if_neg e, e2]; rfl
theorem nat_quoU {a b : Nat} (h : a < 18446744073709551616) : IntKind.wrap .u64 (Int.tdiv (a : Int) (b : Int)) = ((a / b : Nat) : Int) := by
  have e : Int.tdiv (a : Int) (b : Int) = ((a / b : Nat) : Int) := rfl
  have : a / b ≤ a := Nat.div_le_self a b
  rw [e]
  generalize a / b = q at this
  exact wrapU64 (by omega) (by omega)
theorem run_shr {P : Program} {w : World} {x : Int} {k : Nat} {kd yk : IntKind} {t : TypeId} : (binOp .shr t (.int kd x) (.int yk ((k : Nat) : Int))).run P w = .ok (.int kd (x.fdiv (2 ^ min k kd.bits))) w := by
  have : ¬ ((k : Int) < 0) := by omega
  simp [binOp, Op.shift, this]
end Go.Sep

/- Joins of stamps; what splitting and joining keep. -/
import Derived.Test.YtgdickihjaomjaaDoorTkP14
set_option linter.all false
set_option maxRecDepth 100000
namespace Go.Proofs.YtgdickihjaomjaaDoor
open Go.RowKit Go.Sep

theorem cover_self : ∀ t : T, coverT t t = true
  | .zero => rfl
  | .one => rfl
  | .node l r => by show (coverT l l && coverT r r) = true; rw [cover_self l, cover_self r]; rfl
theorem same_self (t : T) : sameT t t = true := by rw [sameT, cover_self]; rfl
theorem leqF_self : ∀ (n : Nat) (e : E), e.depth ≤ n → leqF n e e = true
  | n, .leaf m, _ => by cases n <;> simp [leqF, E.top, E.base]
  | 0, .node m l r, h => by have : 1 + max l.depth r.depth ≤ 0 := h; omega
  | n + 1, .node m l r, h => by
    have hd : 1 + max l.depth r.depth ≤ n + 1 := h
    have hup : ∀ (k : Nat) (e : E), (E.up k e).depth = e.depth := fun k e => by cases e <;> rfl
    have h1 := leqF_self n (E.up m l) (by rw [hup]; omega)
    have h2 := leqF_self n (E.up m r) (by rw [hup]; omega)
    show (_ || (!false && !false && (leqF n (E.up m l) (E.up m l) && leqF n (E.up m r) (E.up m r)))) = true
    rw [h1, h2]; simp
theorem sameE_self {e : E} (h : e.depth ≤ 64) : sameE e e = true := by rw [sameE, leqF_self 64 e h]; rfl
theorem E.up_nf {k : Nat} {e : E} (h : e.nf) : (E.up k e).nf := by
  cases e with
  | leaf n => trivial
  | node n l r => exact ⟨h.1, h.2.1, E.mk_iff.2 (E.mk_iff.1 h.2.2)⟩
theorem textT_len : ∀ t : T, (textT t).length + 3 ≤ 4 * 2 ^ t.depth
  | .zero => by decide
  | .one => by decide
  | .node l r => by
    have h1 := textT_len l
    have h2 := textT_len r
    have e : (T.node l r).depth = 1 + max l.depth r.depth := rfl
    have p1 : 2 ^ l.depth ≤ 2 ^ max l.depth r.depth := Nat.pow_le_pow_right (by omega) (by omega)
    have p2 : 2 ^ r.depth ≤ 2 ^ max l.depth r.depth := Nat.pow_le_pow_right (by omega) (by omega)
    rw [e, Nat.pow_add]
    simp only [textT, List.length_append, List.length_cons, List.length_nil]
    omega
theorem textE_len : ∀ e : E, e.top < 18446744073709551616 → (textE e).length + 1004 ≤ 2004 * 2 ^ e.depth
  | .leaf n, h => by
    have := digits_le n h
    show (Lib.decDigits n).length + 1004 ≤ 2004 * 2 ^ 0
    omega
  | .node n l r, h => by
    have h0 : n + max l.top r.top < 18446744073709551616 := h
    have h1 := textE_len l (by omega)
    have h2 := textE_len r (by omega)
    have h3 := digits_le n (by omega)
    have e : (E.node n l r).depth = 1 + max l.depth r.depth := rfl
    have p1 : 2 ^ l.depth ≤ 2 ^ max l.depth r.depth := Nat.pow_le_pow_right (by omega) (by omega)
    have p2 : 2 ^ r.depth ≤ 2 ^ max l.depth r.depth := Nat.pow_le_pow_right (by omega) (by omega)
    rw [e, Nat.pow_add]
    simp only [textE, List.length_append, List.length_cons, List.length_nil]
    omega
theorem textT_small {t : T} (h : t.depth ≤ 8) : (textT t).length ≤ 1000000000 := by
  have h1 := textT_len t
  have : 2 ^ t.depth ≤ 2 ^ 8 := Nat.pow_le_pow_right (by omega) h
  omega
theorem textE_small {e : E} (h : e.depth ≤ 8) (ht : e.top < 18446744073709551616) : (textE e).length ≤ 1000000000 := by
  have h1 := textE_len e ht
  have : 2 ^ e.depth ≤ 2 ^ 8 := Nat.pow_le_pow_right (by omega) h
  omega

end Go.Proofs.YtgdickihjaomjaaDoor

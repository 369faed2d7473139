/- Joins of stamps; what splitting and joining keep. -/
import Derived.Test.YtgdickihjaomjaaDoorElP14
set_option linter.all false
set_option maxRecDepth 100000
namespace Go.Proofs.YtgdickihjaomjaaDoor
open Go.RowKit Go.Sep

theorem E.up_base (k : Nat) (e : E) : (E.up k e).base = e.base + k := by cases e <;> rfl
theorem E.up_leaf (k : Nat) (e : E) : (E.up k e).isLeaf = e.isLeaf := by cases e <;> rfl
theorem E.up_nf {k : Nat} {e : E} (h : e.nf) : (E.up k e).nf := by
  cases e with
  | leaf n => trivial
  | node n l r => exact ⟨h.1, h.2.1, E.mk_iff.2 (E.mk_iff.1 h.2.2)⟩
theorem E.dn_up (k : Nat) (e : E) : E.dn k (E.up k e) = e := by
  cases e <;> simp [E.dn, E.up]
theorem textE_len : ∀ e : E, e.top < 18446744073709551616 → (textE e).length + 1004 ≤ 2004 * 2 ^ e.depth
  | .leaf n, h => by
    have := digits_le n h
    show (Lib.decDigits n).length + 1004 ≤ 2004 * 2 ^ 0
    omega
  | .node n l r, h => by
    have h0 : n + max l.top r.top < 18446744073709551616 := h
    have h1 := textE_len l (by omega)
    have h2 := textE_len r (by omega)
    have h3 := digits_le n (by omega)
    have e : (E.node n l r).depth = 1 + max l.depth r.depth := rfl
    have p1 : 2 ^ l.depth ≤ 2 ^ max l.depth r.depth := Nat.pow_le_pow_right (by omega) (by omega)
    have p2 : 2 ^ r.depth ≤ 2 ^ max l.depth r.depth := Nat.pow_le_pow_right (by omega) (by omega)
    rw [e, Nat.pow_add]
    simp only [textE, List.length_append, List.length_cons, List.length_nil]
    omega
theorem textE_small {e : E} (h : e.depth ≤ 8) (ht : e.top < 18446744073709551616) : (textE e).length ≤ 1000000000 := by
  have h1 := textE_len e ht
  have : 2 ^ e.depth ≤ 2 ^ 8 := Nat.pow_le_pow_right (by omega) h
  omega

end Go.Proofs.YtgdickihjaomjaaDoor

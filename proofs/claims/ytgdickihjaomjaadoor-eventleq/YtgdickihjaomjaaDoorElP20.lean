/- Heights, part by part; what filling does to them. -/
import Derived.Test.YtgdickihjaomjaaDoorElP18
set_option linter.all false
set_option maxRecDepth 100000
namespace Go.Proofs.YtgdickihjaomjaaDoor
open Go.RowKit Go.Sep

def hL : Nat → E → List Nat
  | 0, e => [e.top]
  | d + 1, e => hL d (E.up e.base e.left) ++ hL d (E.up e.base e.right)
def hAt : Nat → E → Nat → Nat
  | 0, e, _ => e.top
  | d + 1, e, k => if k < 2 ^ d then hAt d (E.up e.base e.left) k else hAt d (E.up e.base e.right) (k - 2 ^ d)
theorem two_succ (d : Nat) : 2 ^ (d + 1) = 2 ^ d + 2 ^ d := by rw [Nat.pow_succ]; omega
theorem hL_len : ∀ (d : Nat) (e : E), (hL d e).length = 2 ^ d
  | 0, _ => rfl
  | d + 1, e => by rw [hL, List.length_append, hL_len d, hL_len d, two_succ]
theorem hL_get : ∀ (d : Nat) (e : E) (k : Nat), k < 2 ^ d → (hL d e)[k]? = some (hAt d e k)
  | 0, e, k, h => by
    have : k = 0 := by simpa using h
    subst this; rfl
  | d + 1, e, k, h => by
    rw [hL, hAt, List.getElem?_append, hL_len]
    rw [two_succ] at h
    split
    · exact hL_get d _ k (by assumption)
    · exact hL_get d _ _ (by omega)
theorem E.up_left (c : Nat) (e : E) : E.up (E.up c e).base (E.up c e).left = E.up (e.base + c) e.left := by cases e <;> simp [E.up, E.base, E.left]
theorem E.up_right (c : Nat) (e : E) : E.up (E.up c e).base (E.up c e).right = E.up (e.base + c) e.right := by cases e <;> simp [E.up, E.base, E.right]
theorem hAt_up : ∀ (d : Nat) (c : Nat) (e : E) (k : Nat), hAt d (E.up c e) k = hAt d e k + c
  | 0, c, e, k => by rw [hAt, hAt, E.up_top]
  | d + 1, c, e, k => by
    rw [hAt, hAt, E.up_left, E.up_right]
    rw [hAt_up d _ e.left, hAt_up d _ e.right, hAt_up d _ e.left, hAt_up d _ e.right]
    split <;> omega
theorem hAt_leaf : ∀ (d n k : Nat), hAt d (.leaf n) k = n
  | 0, n, k => rfl
  | d + 1, n, k => by
    have h : ∀ k, hAt d (E.up n (.leaf 0)) k = n := fun k => by rw [show E.up n (.leaf 0) = .leaf n by simp [E.up]]; exact hAt_leaf d n k
    show (if k < 2 ^ d then hAt d (E.up n (.leaf 0)) k else hAt d (E.up n (.leaf 0)) (k - 2 ^ d)) = n
    rw [h, h]; simp
theorem hAt_node (d n : Nat) (l r : E) (k : Nat) : hAt (d + 1) (.node n l r) k = (if k < 2 ^ d then hAt d l k else hAt d r (k - 2 ^ d)) + n := by
  show (if k < 2 ^ d then hAt d (E.up n l) k else hAt d (E.up n r) (k - 2 ^ d)) = _
  rw [hAt_up, hAt_up]; split <;> rfl
theorem E.up_dn {m : Nat} {e : E} (h : m ≤ e.base) : E.up m (E.dn m e) = e := by
  cases e with
  | leaf n => have : m ≤ n := h; simp [E.up, E.dn, Nat.sub_add_cancel this]
  | node n l r => have : m ≤ n := h; simp [E.up, E.dn, Nat.sub_add_cancel this]
theorem hAt_dn {d m : Nat} {e : E} {k : Nat} (h : m ≤ e.base) : hAt d (E.dn m e) k + m = hAt d e k := by
  rw [← hAt_up, E.up_dn h]
theorem hAt_mk (d n : Nat) (l r : E) (k : Nat) : hAt (d + 1) (E.mk n l r) k = (if k < 2 ^ d then hAt d l k else hAt d r (k - 2 ^ d)) + n := by
  unfold E.mk
  split
  · rename_i h
    obtain ⟨h1, h2, h3⟩ := h
    cases l with
    | node _ _ _ => cases h1
    | leaf a =>
      cases r with
      | node _ _ _ => cases h2
      | leaf b =>
        have h3 : a = b := h3
        subst h3
        show hAt (d + 1) (.leaf (n + a)) k = _
        rw [hAt_leaf, hAt_leaf, hAt_leaf]; split <;> omega
  · rw [hAt_node]
    have h1 := hAt_dn (d := d) (m := min l.base r.base) (e := l) (k := k) (by omega)
    have h2 := hAt_dn (d := d) (m := min l.base r.base) (e := r) (k := k - 2 ^ d) (by omega)
    split <;> omega
theorem E.mk_top_eq (n : Nat) (l r : E) : (E.mk n l r).top = n + max l.top r.top := by
  unfold E.mk
  split
  · rename_i h
    obtain ⟨h1, h2, h3⟩ := h
    cases l with
    | node _ _ _ => cases h1
    | leaf a =>
      cases r with
      | node _ _ _ => cases h2
      | leaf b =>
        have h3 : a = b := h3
        subst h3
        show n + a = n + max a a
        omega
  · have h1 := E.up_top (min l.base r.base) (E.dn (min l.base r.base) l)
    have h2 := E.up_top (min l.base r.base) (E.dn (min l.base r.base) r)
    rw [E.up_dn (by omega)] at h1 h2
    show n + min l.base r.base + max (E.dn (min l.base r.base) l).top (E.dn (min l.base r.base) r).top = _
    omega
theorem hAt_le : ∀ (d : Nat) (e : E) (k : Nat), hAt d e k ≤ e.top
  | 0, e, k => Nat.le_refl _
  | d + 1, .leaf n, k => by rw [hAt_leaf]; exact Nat.le_refl _
  | d + 1, .node n l r, k => by
    rw [hAt_node]
    have h1 := hAt_le d l k
    have h2 := hAt_le d r (k - 2 ^ d)
    show _ ≤ n + max l.top r.top
    split <;> omega
end Go.Proofs.YtgdickihjaomjaaDoor

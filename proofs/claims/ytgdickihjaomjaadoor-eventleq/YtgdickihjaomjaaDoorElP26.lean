/- Joins are everywhere the greater; StampJoins. -/
import Derived.Test.YtgdickihjaomjaaDoorElP23
import Derived.Test.YtgdickihjaomjaaDoorElP24
set_option linter.all false
set_option maxRecDepth 100000
namespace Go.Proofs.YtgdickihjaomjaaDoor
open Go.RowKit Go.Sep

theorem E.half_dep (e : E) (h : e.isLeaf = false) : 1 + max e.left.depth e.right.depth = e.depth := by
  cases e with
  | leaf _ => cases h
  | node _ _ _ => rfl
theorem E.half_dep_le (e : E) : max e.left.depth e.right.depth ≤ e.depth - 1 := by
  cases e with
  | leaf _ => exact Nat.le_refl _
  | node _ l r => show max l.depth r.depth ≤ 1 + max l.depth r.depth - 1; omega
theorem leafs_cmp {A B : E} (hA : A.isLeaf = true) (hB : B.isLeaf = true) : A.top ≤ B.base ∨ B.top ≤ A.base := by
  cases A with
  | node _ _ _ => cases hA
  | leaf a =>
    cases B with
    | node _ _ _ => cases hB
    | leaf b => exact Nat.le_total a b
set_option maxHeartbeats 1000000 in
theorem join_at : ∀ (n d : Nat) {A B : E}, A.nf → B.nf → A.depth ≤ n → B.depth ≤ n → A.depth ≤ d → B.depth ≤ d →
    (joinF n A B).nf ∧ (joinF n A B).depth ≤ max A.depth B.depth ∧ ∀ k, hAt d (joinF n A B) k = max (hAt d A k) (hAt d B k) := by
  have up : ∀ {A B : E} (d k : Nat), B.nf → A.top ≤ B.base → hAt d A k ≤ hAt d B k := fun {A B} d k hB h => by
    have h1 := hAt_le d A k
    have h2 := hAt_min d B k
    rw [E.min_base hB] at h2
    omega
  intro n
  induction n with
  | zero =>
    intro d A B hA hB h1 h2 h3 h4
    have lA : A.isLeaf = true := by
      cases A with
      | leaf _ => rfl
      | node _ l r => have : 1 + max l.depth r.depth ≤ 0 := h1; omega
    have lB : B.isLeaf = true := by
      cases B with
      | leaf _ => rfl
      | node _ l r => have : 1 + max l.depth r.depth ≤ 0 := h2; omega
    rw [joinF]
    split
    · rename_i h
      exact ⟨hB, by omega, fun k => by have := up d k hB h; omega⟩
    · rename_i h
      have h' := (leafs_cmp lA lB).resolve_left h
      exact ⟨hA, by omega, fun k => by have := up d k hA h'; omega⟩
  | succ n ih =>
    intro d A B hA hB h1 h2 h3 h4
    rw [joinF]
    split
    · rename_i h
      exact ⟨hB, by omega, fun k => by have := up d k hB h; omega⟩
    · rename_i hn1
      split
      · rename_i h
        exact ⟨hA, by omega, fun k => by have := up d k hA h; omega⟩
      · rename_i hn2
        have hnl : ¬ (A.isLeaf = true ∧ B.isLeaf = true) := fun q => (leafs_cmp q.1 q.2).elim hn1 hn2
        have hd1 : 1 ≤ max A.depth B.depth := by
          cases qa : A.isLeaf
          · have := E.half_dep A qa; omega
          · cases qb : B.isLeaf
            · have := E.half_dep B qb; omega
            · exact absurd ⟨qa, qb⟩ hnl
        have ea := E.half_dep_le A
        have eb := E.half_dep_le B
        have nA := E.half_nf hA
        have nB := E.half_nf hB
        cases d with
        | zero => omega
        | succ d =>
          obtain ⟨f1, g1, k1⟩ := ih d (A := E.up A.base A.left) (B := E.up B.base B.left) (E.up_nf nA.1) (E.up_nf nB.1) (by rw [E.up_depth]; omega) (by rw [E.up_depth]; omega) (by rw [E.up_depth]; omega) (by rw [E.up_depth]; omega)
          obtain ⟨f2, g2, k2⟩ := ih d (A := E.up A.base A.right) (B := E.up B.base B.right) (E.up_nf nA.2) (E.up_nf nB.2) (by rw [E.up_depth]; omega) (by rw [E.up_depth]; omega) (by rw [E.up_depth]; omega) (by rw [E.up_depth]; omega)
          rw [E.up_depth, E.up_depth] at g1 g2
          refine ⟨E.nf_mk f1 f2, ?_, fun k => ?_⟩
          · have := E.mk_depth 0 (joinF n (E.up A.base A.left) (E.up B.base B.left)) (joinF n (E.up A.base A.right) (E.up B.base B.right))
            omega
          · rw [hAt_mk, k1, k2, hAt, hAt]
            split <;> rfl
/-- A tree of the law's: in its form, not deep, not high. -/
def E.ok (e : E) : Prop := e.nf ∧ e.depth ≤ 6 ∧ e.top ≤ 100
theorem ok_join {A B : E} (hA : A.ok) (hB : B.ok) : (joinF 64 A B).ok ∧ ∀ k, hAt 16 (joinF 64 A B) k = max (hAt 16 A k) (hAt 16 B k) := by
  obtain ⟨a1, a2, a3⟩ := hA
  obtain ⟨b1, b2, b3⟩ := hB
  have h := join_at 64 16 a1 b1 (by omega) (by omega) (by omega) (by omega)
  have ht := joinF_top 64 A B
  exact ⟨⟨h.1, by have := h.2.1; omega, by omega⟩, h.2.2⟩
theorem ok_of {e : E} (h : e.nf ∧ e.depth ≤ 6 ∧ e.top ≤ 7 + 3 * 6) : e.ok := ⟨h.1, h.2.1, by have := h.2.2; omega⟩

end Go.Proofs.YtgdickihjaomjaaDoor

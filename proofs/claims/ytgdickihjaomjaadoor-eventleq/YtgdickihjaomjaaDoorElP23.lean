/- At most, height by height; what growing and ticking do to heights. -/
import Derived.Test.YtgdickihjaomjaaDoorElP20
import Derived.Test.YtgdickihjaomjaaDoorElP15
set_option linter.all false
set_option maxRecDepth 100000
namespace Go.Proofs.YtgdickihjaomjaaDoor
open Go.RowKit Go.Sep

theorem hAt_min : ∀ (d : Nat) (e : E) (k : Nat), e.minE ≤ hAt d e k
  | 0, e, k => E.minE_le e
  | d + 1, .leaf n, k => by rw [hAt_leaf]; exact Nat.le_refl _
  | d + 1, .node n l r, k => by
    rw [hAt_node]
    have h1 := hAt_min d l k
    have h2 := hAt_min d r (k - 2 ^ d)
    show n + min l.minE r.minE ≤ _
    split <;> omega
theorem hAt_half (d : Nat) (e : E) (k : Nat) : hAt (d + 1) e k = (if k < 2 ^ d then hAt d e.left k else hAt d e.right (k - 2 ^ d)) + e.base := by
  rw [hAt, hAt_up, hAt_up]; split <;> rfl
theorem hits_top : ∀ (d : Nat) (e : E), ∃ k, k < 2 ^ d ∧ hAt d e k = e.top
  | 0, e => ⟨0, by decide, rfl⟩
  | d + 1, e => by
    obtain ⟨k1, hk1, h1⟩ := hits_top d e.left
    obtain ⟨k2, hk2, h2⟩ := hits_top d e.right
    have hb := E.base_half e
    have h2p := two_succ d
    by_cases h : e.right.top ≤ e.left.top
    · exact ⟨k1, by omega, by rw [hAt_half, if_pos hk1, h1]; omega⟩
    · refine ⟨k2 + 2 ^ d, by omega, ?_⟩
      rw [hAt_half, if_neg (by omega), show k2 + 2 ^ d - 2 ^ d = k2 by omega, h2]; omega
theorem hits_min : ∀ (d : Nat) (e : E), e.depth ≤ d → ∃ k, k < 2 ^ d ∧ hAt d e k = e.minE
  | d, .leaf n, _ => ⟨0, Nat.two_pow_pos d, by rw [hAt_leaf]; rfl⟩
  | 0, .node n l r, h => by
    have : 1 + max l.depth r.depth ≤ 0 := h
    omega
  | d + 1, .node n l r, h => by
    have h : 1 + max l.depth r.depth ≤ d + 1 := h
    obtain ⟨k1, hk1, h1⟩ := hits_min d l (by omega)
    obtain ⟨k2, hk2, h2⟩ := hits_min d r (by omega)
    have e0 : (E.node n l r).minE = n + min l.minE r.minE := rfl
    have h2p := two_succ d
    by_cases h : l.minE ≤ r.minE
    · exact ⟨k1, by omega, by rw [hAt_node, if_pos hk1, h1]; omega⟩
    · refine ⟨k2 + 2 ^ d, by omega, ?_⟩
      rw [hAt_node, if_neg (by omega), show k2 + 2 ^ d - 2 ^ d = k2 by omega, h2]; omega
theorem halves_iff (d : Nat) (A B : E) : (∀ k, k < 2 ^ (d + 1) → hAt (d + 1) A k ≤ hAt (d + 1) B k) ↔ (∀ k, k < 2 ^ d → hAt d (E.up A.base A.left) k ≤ hAt d (E.up B.base B.left) k) ∧ (∀ k, k < 2 ^ d → hAt d (E.up A.base A.right) k ≤ hAt d (E.up B.base B.right) k) := by
  have h2p := two_succ d
  constructor
  · intro h
    constructor
    · intro k hk
      have := h k (by omega)
      rw [hAt, hAt, if_pos hk, if_pos hk] at this
      exact this
    · intro k hk
      have := h (k + 2 ^ d) (by omega)
      rw [hAt, hAt, if_neg (by omega), if_neg (by omega), show k + 2 ^ d - 2 ^ d = k by omega] at this
      exact this
  · rintro ⟨h1, h2⟩ k hk
    rw [hAt, hAt]
    split
    · exact h1 k (by assumption)
    · exact h2 _ (by omega)
theorem leq_iff : ∀ (n d : Nat) (A B : E), A.nf → B.nf → A.depth ≤ n → B.depth ≤ n → A.depth ≤ d → B.depth ≤ d → (leqF n A B = true ↔ ∀ k, k < 2 ^ d → hAt d A k ≤ hAt d B k) := by
  have easy : ∀ (d : Nat) (A B : E), B.nf → A.top ≤ B.base → ∀ k, k < 2 ^ d → hAt d A k ≤ hAt d B k := fun d A B hB h k _ => by
    have h1 := hAt_le d A k
    have h2 := hAt_min d B k
    rw [E.min_base hB] at h2
    omega
  have leafy : ∀ (d : Nat) (A B : E), B.nf → B.depth ≤ d → (A.isLeaf = true ∨ B.isLeaf = true) → (∀ k, k < 2 ^ d → hAt d A k ≤ hAt d B k) → A.top ≤ B.base := fun d A B hB hd hl h => by
    rcases hl with hl | hl
    · obtain ⟨k, hk, e⟩ := hits_min d B hd
      have := h k hk
      rw [e, E.min_base hB] at this
      cases A with
      | node _ _ _ => cases hl
      | leaf n => rw [hAt_leaf] at this; exact this
    · obtain ⟨k, hk, e⟩ := hits_top d A
      have := h k hk
      cases B with
      | node _ _ _ => cases hl
      | leaf n => rw [hAt_leaf, e] at this; exact this
  intro n
  induction n with
  | zero =>
    intro d A B hA hB h1 h2 h3 h4
    have hl : A.isLeaf = true := by
      cases A with
      | leaf _ => rfl
      | node _ l r => have : 1 + max l.depth r.depth ≤ 0 := h1; omega
    rw [leqF, decide_eq_true_iff]
    exact ⟨fun h => easy d A B hB h, fun h => leafy d A B hB h4 (.inl hl) h⟩
  | succ n ih =>
    intro d A B hA hB h1 h2 h3 h4
    by_cases hl : A.isLeaf = true ∨ B.isLeaf = true
    · have e : leqF (n + 1) A B = decide (A.top ≤ B.base) := by
        rw [leqF]
        rcases hl with q | q <;> simp [q]
      rw [e, decide_eq_true_iff]
      exact ⟨fun h => easy d A B hB h, fun h => leafy d A B hB h4 hl h⟩
    · have hal : A.isLeaf = false := by cases q : A.isLeaf; · rfl
                                        · exact absurd (.inl q) hl
      have hbl : B.isLeaf = false := by cases q : B.isLeaf; · rfl
                                        · exact absurd (.inr q) hl
      cases d with
      | zero =>
        cases A with
        | leaf _ => cases hal
        | node _ l r => have : 1 + max l.depth r.depth ≤ 0 := h3; omega
      | succ d =>
        have hA2 := E.half_nf hA
        have hB2 := E.half_nf hB
        have dA : max A.left.depth A.right.depth + 1 = A.depth := by
          cases A with
          | leaf _ => cases hal
          | node _ l r => show max l.depth r.depth + 1 = 1 + max l.depth r.depth; omega
        have dB : max B.left.depth B.right.depth + 1 = B.depth := by
          cases B with
          | leaf _ => cases hbl
          | node _ l r => show max l.depth r.depth + 1 = 1 + max l.depth r.depth; omega
        have i1 := ih d (E.up A.base A.left) (E.up B.base B.left) (E.up_nf hA2.1) (E.up_nf hB2.1) (by rw [E.up_depth]; omega) (by rw [E.up_depth]; omega) (by rw [E.up_depth]; omega) (by rw [E.up_depth]; omega)
        have i2 := ih d (E.up A.base A.right) (E.up B.base B.right) (E.up_nf hA2.2) (E.up_nf hB2.2) (by rw [E.up_depth]; omega) (by rw [E.up_depth]; omega) (by rw [E.up_depth]; omega) (by rw [E.up_depth]; omega)
        rw [halves_iff, ← i1, ← i2, leqF, hal, hbl]
        simp only [Bool.not_false, Bool.true_and, Bool.or_eq_true, Bool.and_eq_true, decide_eq_true_iff]
        constructor
        · rintro (h | h)
          · have h := easy (d + 1) A B hB h
            rw [halves_iff] at h
            exact ⟨i1.2 h.1, i2.2 h.2⟩
          · exact h
        · exact .inr
end Go.Proofs.YtgdickihjaomjaaDoor

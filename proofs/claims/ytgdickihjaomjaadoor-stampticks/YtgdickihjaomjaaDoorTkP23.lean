/- At most, height by height; what growing and ticking do to heights. -/
import Derived.Test.YtgdickihjaomjaaDoorTkP20
import Derived.Test.YtgdickihjaomjaaDoorTkP15
set_option linter.all false
set_option maxRecDepth 100000
namespace Go.Proofs.YtgdickihjaomjaaDoor
open Go.RowKit Go.Sep

theorem hAt_min : ∀ (d : Nat) (e : E) (k : Nat), e.minE ≤ hAt d e k
  | 0, e, k => E.minE_le e
  | d + 1, .leaf n, k => by rw [hAt_leaf]; exact Nat.le_refl _
  | d + 1, .node n l r, k => by
    rw [hAt_node]
    have h1 := hAt_min d l k
    have h2 := hAt_min d r (k - 2 ^ d)
    show n + min l.minE r.minE ≤ _
    split <;> omega
theorem hAt_half (d : Nat) (e : E) (k : Nat) : hAt (d + 1) e k = (if k < 2 ^ d then hAt d e.left k else hAt d e.right (k - 2 ^ d)) + e.base := by
  rw [hAt, hAt_up, hAt_up]; split <;> rfl
theorem hits_top : ∀ (d : Nat) (e : E), ∃ k, k < 2 ^ d ∧ hAt d e k = e.top
  | 0, e => ⟨0, by decide, rfl⟩
  | d + 1, e => by
    obtain ⟨k1, hk1, h1⟩ := hits_top d e.left
    obtain ⟨k2, hk2, h2⟩ := hits_top d e.right
    have hb := E.base_half e
    have h2p := two_succ d
    by_cases h : e.right.top ≤ e.left.top
    · exact ⟨k1, by omega, by rw [hAt_half, if_pos hk1, h1]; omega⟩
    · refine ⟨k2 + 2 ^ d, by omega, ?_⟩
      rw [hAt_half, if_neg (by omega), show k2 + 2 ^ d - 2 ^ d = k2 by omega, h2]; omega
theorem hits_min : ∀ (d : Nat) (e : E), e.depth ≤ d → ∃ k, k < 2 ^ d ∧ hAt d e k = e.minE
  | d, .leaf n, _ => ⟨0, Nat.two_pow_pos d, by rw [hAt_leaf]; rfl⟩
  | 0, .node n l r, h => by
    have : 1 + max l.depth r.depth ≤ 0 := h
    omega
  | d + 1, .node n l r, h => by
    have h : 1 + max l.depth r.depth ≤ d + 1 := h
    obtain ⟨k1, hk1, h1⟩ := hits_min d l (by omega)
    obtain ⟨k2, hk2, h2⟩ := hits_min d r (by omega)
    have e0 : (E.node n l r).minE = n + min l.minE r.minE := rfl
    have h2p := two_succ d
    by_cases h : l.minE ≤ r.minE
    · exact ⟨k1, by omega, by rw [hAt_node, if_pos hk1, h1]; omega⟩
    · refine ⟨k2 + 2 ^ d, by omega, ?_⟩
      rw [hAt_node, if_neg (by omega), show k2 + 2 ^ d - 2 ^ d = k2 by omega, h2]; omega
theorem halves_iff (d : Nat) (A B : E) : (∀ k, k < 2 ^ (d + 1) → hAt (d + 1) A k ≤ hAt (d + 1) B k) ↔ (∀ k, k < 2 ^ d → hAt d (E.up A.base A.left) k ≤ hAt d (E.up B.base B.left) k) ∧ (∀ k, k < 2 ^ d → hAt d (E.up A.base A.right) k ≤ hAt d (E.up B.base B.right) k) := by
  have h2p := two_succ d
  constructor
  · intro h
    constructor
    · intro k hk
      have := h k (by omega)
      rw [hAt, hAt, if_pos hk, if_pos hk] at this
      exact this
    · intro k hk
      have := h (k + 2 ^ d) (by omega)
      rw [hAt, hAt, if_neg (by omega), if_neg (by omega), show k + 2 ^ d - 2 ^ d = k by omega] at this
      exact this
  · rintro ⟨h1, h2⟩ k hk
    rw [hAt, hAt]
    split
    · exact h1 k (by assumption)
    · exact h2 _ (by omega)
theorem leq_iff : ∀ (n d : Nat) (A B : E), A.nf → B.nf → A.depth ≤ n → B.depth ≤ n → A.depth ≤ d → B.depth ≤ d → (leqF n A B = true ↔ ∀ k, k < 2 ^ d → hAt d A k ≤ hAt d B k) := by
  have easy : ∀ (d : Nat) (A B : E), B.nf → A.top ≤ B.base → ∀ k, k < 2 ^ d → hAt d A k ≤ hAt d B k := fun d A B hB h k _ => by
    have h1 := hAt_le d A k
    have h2 := hAt_min d B k
    rw [E.min_base hB] at h2
    omega
  have leafy : ∀ (d : Nat) (A B : E), B.nf → B.depth ≤ d → (A.isLeaf = true ∨ B.isLeaf = true) → (∀ k, k < 2 ^ d → hAt d A k ≤ hAt d B k) → A.top ≤ B.base := fun d A B hB hd hl h => by
    rcases hl with hl | hl
    · obtain ⟨k, hk, e⟩ := hits_min d B hd
      have := h k hk
      rw [e, E.min_base hB] at this
      cases A with
      | node _ _ _ => cases hl
      | leaf n => rw [hAt_leaf] at this; exact this
    · obtain ⟨k, hk, e⟩ := hits_top d A
      have := h k hk
      cases B with
      | node _ _ _ => cases hl
      | leaf n => rw [hAt_leaf, e] at this; exact this
  intro n
  induction n with
  | zero =>
    intro d A B hA hB h1 h2 h3 h4
    have hl : A.isLeaf = true := by
      cases A with
      | leaf _ => rfl
      | node _ l r => have : 1 + max l.depth r.depth ≤ 0 := h1; omega
    rw [leqF, decide_eq_true_iff]
    exact ⟨fun h => easy d A B hB h, fun h => leafy d A B hB h4 (.inl hl) h⟩
  | succ n ih =>
    intro d A B hA hB h1 h2 h3 h4
    by_cases hl : A.isLeaf = true ∨ B.isLeaf = true
    · have e : leqF (n + 1) A B = decide (A.top ≤ B.base) := by
        rw [leqF]
        rcases hl with q | q <;> simp [q]
      rw [e, decide_eq_true_iff]
      exact ⟨fun h => easy d A B hB h, fun h => leafy d A B hB h4 hl h⟩
    · have hal : A.isLeaf = false := by cases q : A.isLeaf; · rfl
                                        · exact absurd (.inl q) hl
      have hbl : B.isLeaf = false := by cases q : B.isLeaf; · rfl
                                        · exact absurd (.inr q) hl
      cases d with
      | zero =>
        cases A with
        | leaf _ => cases hal
        | node _ l r => have : 1 + max l.depth r.depth ≤ 0 := h3; omega
      | succ d =>
        have hA2 := E.half_nf hA
        have hB2 := E.half_nf hB
        have dA : max A.left.depth A.right.depth + 1 = A.depth := by
          cases A with
          | leaf _ => cases hal
          | node _ l r => show max l.depth r.depth + 1 = 1 + max l.depth r.depth; omega
        have dB : max B.left.depth B.right.depth + 1 = B.depth := by
          cases B with
          | leaf _ => cases hbl
          | node _ l r => show max l.depth r.depth + 1 = 1 + max l.depth r.depth; omega
        have i1 := ih d (E.up A.base A.left) (E.up B.base B.left) (E.up_nf hA2.1) (E.up_nf hB2.1) (by rw [E.up_depth]; omega) (by rw [E.up_depth]; omega) (by rw [E.up_depth]; omega) (by rw [E.up_depth]; omega)
        have i2 := ih d (E.up A.base A.right) (E.up B.base B.right) (E.up_nf hA2.2) (E.up_nf hB2.2) (by rw [E.up_depth]; omega) (by rw [E.up_depth]; omega) (by rw [E.up_depth]; omega) (by rw [E.up_depth]; omega)
        rw [halves_iff, ← i1, ← i2, leqF, hal, hbl]
        simp only [Bool.not_false, Bool.true_and, Bool.or_eq_true, Bool.and_eq_true, decide_eq_true_iff]
        constructor
        · rintro (h | h)
          · have h := easy (d + 1) A B hB h
            rw [halves_iff] at h
            exact ⟨i1.2 h.1, i2.2 h.2⟩
          · exact h
        · exact .inr
def rleqF : Nat → E → E → Bool
  | 0, A, B => decide (A.base ≤ B.base)
  | n + 1, A, B => if (A.isLeaf && B.isLeaf) = true then decide (A.base ≤ B.base) else rleqF n (E.up A.base A.left) (E.up B.base B.left) && rleqF n (E.up A.base A.right) (E.up B.base B.right)
theorem rleq_leaf (d : Nat) (A B : E) (h1 : A.isLeaf = true) (h2 : B.isLeaf = true) : decide (A.base ≤ B.base) = true ↔ ∀ k, k < 2 ^ d → hAt d A k ≤ hAt d B k := by
  cases A with
  | node _ _ _ => cases h1
  | leaf a =>
    cases B with
    | node _ _ _ => cases h2
    | leaf b =>
      simp only [hAt_leaf, decide_eq_true_iff]
      exact ⟨fun h _ _ => h, fun h => h 0 (Nat.two_pow_pos d)⟩
theorem rleq_iff : ∀ (n : Nat) (A B : E), A.depth ≤ n → B.depth ≤ n → (rleqF n A B = true ↔ ∀ k, k < 2 ^ n → hAt n A k ≤ hAt n B k)
  | 0, A, B, h1, h2 => by
    have l1 : A.isLeaf = true := by
      cases A with
      | leaf _ => rfl
      | node _ l r => have : 1 + max l.depth r.depth ≤ 0 := h1; omega
    have l2 : B.isLeaf = true := by
      cases B with
      | leaf _ => rfl
      | node _ l r => have : 1 + max l.depth r.depth ≤ 0 := h2; omega
    exact rleq_leaf 0 A B l1 l2
  | n + 1, A, B, h1, h2 => by
    have a := E.half_depth A n h1
    have b := E.half_depth B n h2
    rw [rleqF]
    split
    · rename_i h
      simp only [Bool.and_eq_true] at h
      exact rleq_leaf (n + 1) A B h.1 h.2
    · rw [halves_iff, ← rleq_iff n _ _ a.1 b.1, ← rleq_iff n _ _ a.2 b.2, Bool.and_eq_true]
theorem rleq_leq {A B : E} (hA : A.nf) (hB : B.nf) (h1 : A.depth ≤ 16) (h2 : B.depth ≤ 16) : rleqF 16 A B = leqF 64 A B := by
  have a := rleq_iff 16 A B h1 h2
  have b := leq_iff 64 16 A B hA hB (by omega) (by omega) h1 h2
  cases p : rleqF 16 A B <;> cases q : leqF 64 A B
  · rfl
  · rw [p] at a; rw [q] at b; exact absurd (a.2 (b.1 rfl)) (by simp)
  · rw [p] at a; rw [q] at b; exact absurd (b.2 (a.1 rfl)) (by simp)
  · rfl
theorem mAt_half (d : Nat) (t : T) (k : Nat) : mAt (d + 1) t k = if k < 2 ^ d then mAt d t.left k else mAt d t.right (k - 2 ^ d) := rfl
set_option maxHeartbeats 1000000 in
theorem grow_lift : ∀ (n d : Nat) {i : T} {e : E}, i.live → i.isZero = false → i.depth + e.depth < n → max i.depth e.depth ≤ d →
    (∀ k, hAt d e k ≤ hAt d (growD n i e).1 k ∧ (hAt d e k ≠ hAt d (growD n i e).1 k → mAt d i k = true)) ∧ ∃ k, k < 2 ^ d ∧ hAt d e k < hAt d (growD n i e).1 k
  | 0, _, _, _, _, _, h, _ => by omega
  | n + 1, d, i, e, hl, hz, h, hd => by
    by_cases ha : i.isOne = true ∧ e.isLeaf = true
    · rw [growD_succ, if_pos ⟨kind_one.1 ha.1, ha.2⟩]
      cases e with
      | node _ _ _ => cases ha.2
      | leaf m =>
        have e0 : (E.leaf m).base = m := rfl
        refine ⟨fun k => ⟨by rw [hAt_leaf, hAt_leaf, e0]; omega, fun _ => mAt_one _ _ _ (kind_one.1 ha.1)⟩, 0, Nat.two_pow_pos d, by rw [hAt_leaf, hAt_leaf, e0]; omega⟩
    · have ha' : (i.isOne && e.isLeaf) = false := by simpa using ha
      have g := go_on hz ha' h
      have hh := T.live_half hl
      have dd := half_deep hz ha'
      have hD : ¬ (kindT i = 1 ∧ e.isLeaf = true) := fun q => ha ⟨kind_one.2 q.1, q.2⟩
      cases d with
      | zero => omega
      | succ d =>
        have h2p := two_succ d
        have left : i.left.isZero = false → (∀ k, hAt (d + 1) e k ≤ hAt (d + 1) (E.mk e.base (growD n i.left e.left).1 e.right) k ∧ (hAt (d + 1) e k ≠ hAt (d + 1) (E.mk e.base (growD n i.left e.left).1 e.right) k → mAt (d + 1) i k = true)) ∧ ∃ k, k < 2 ^ (d + 1) ∧ hAt (d + 1) e k < hAt (d + 1) (E.mk e.base (growD n i.left e.left).1 e.right) k := fun zl => by
          obtain ⟨p, k0, hk0, q⟩ := grow_lift n d hh.1 zl g.1 (show max i.left.depth e.left.depth ≤ d by omega)
          refine ⟨fun k => ?_, k0, by omega, ?_⟩
          · rw [hAt_half, hAt_mk, mAt_half]
            have := p k
            by_cases hk : k < 2 ^ d
            · simp only [if_pos hk]
              exact ⟨by omega, fun hne => this.2 (by omega)⟩
            · simp only [if_neg hk]
              exact ⟨Nat.le_refl _, fun hne => absurd rfl hne⟩
          · rw [hAt_half, hAt_mk, if_pos hk0, if_pos hk0]; omega
        have right : i.right.isZero = false → (∀ k, hAt (d + 1) e k ≤ hAt (d + 1) (E.mk e.base e.left (growD n i.right e.right).1) k ∧ (hAt (d + 1) e k ≠ hAt (d + 1) (E.mk e.base e.left (growD n i.right e.right).1) k → mAt (d + 1) i k = true)) ∧ ∃ k, k < 2 ^ (d + 1) ∧ hAt (d + 1) e k < hAt (d + 1) (E.mk e.base e.left (growD n i.right e.right).1) k := fun zr => by
          obtain ⟨p, k0, hk0, q⟩ := grow_lift n d hh.2 zr g.2 (show max i.right.depth e.right.depth ≤ d by omega)
          refine ⟨fun k => ?_, k0 + 2 ^ d, by omega, ?_⟩
          · rw [hAt_half, hAt_mk, mAt_half]
            have := p (k - 2 ^ d)
            by_cases hk : k < 2 ^ d
            · simp only [if_pos hk]
              exact ⟨Nat.le_refl _, fun hne => absurd rfl hne⟩
            · simp only [if_neg hk]
              exact ⟨by omega, fun hne => this.2 (by omega)⟩
          · rw [hAt_half, hAt_mk, if_neg (by omega), if_neg (by omega), show k0 + 2 ^ d - 2 ^ d = k0 by omega]; omega
        rw [growD_succ, if_neg hD]
        by_cases zl : i.left.isZero = true
        · rw [if_pos (kind_zero'.1 zl)]
          exact right (by have := T.live_or hl hz; rw [zl] at this; simpa using this)
        · have zl' : i.left.isZero = false := by simpa using zl
          rw [if_neg (fun q => zl (kind_zero'.2 q))]
          by_cases zr : i.right.isZero = true
          · rw [if_pos (kind_zero'.1 zr)]
            exact left zl'
          · have zr' : i.right.isZero = false := by simpa using zr
            rw [if_neg (fun q => zr (kind_zero'.2 q))]
            split
            · exact left zl'
            · exact right zr'
def sameB (i : T) (e : E) : Bool := leqF 64 (fillE i e) e && leqF 64 e (fillE i e)
def tickD (i : T) (e : E) : E × Nat := if sameB i e = true then (if kindT i = 0 then (e, 2) else ((growD 40 i e).1, 0)) else (fillE i e, 0)
theorem tickR_D {i : T} {e : E} (hl : i.nf) (hi : i.depth ≤ 6) (he : e.depth ≤ 6) (ht : e.top ≤ 1000000) : tickR i e = tickD i e := by
  unfold tickR tickD sameB
  split
  · by_cases hz : kindT i = 0
    · rw [if_pos hz, growR_zero e hz]
    · rw [if_neg hz, growR_eq hl hz hi he ht]
  · rfl
theorem tickD_b {i : T} {e : E} (hl : i.nf) (hn : e.nf) (hi : i.depth ≤ 6) (he : e.depth ≤ 6) (ht : e.top ≤ 1000000) : (tickD i e).1.nf ∧ (tickD i e).1.depth ≤ 6 ∧ (tickD i e).1.top ≤ e.top + 1 ∧ (tickD i e).2 ≤ 2 := by
  unfold tickD
  split
  · by_cases hz : kindT i = 0
    · rw [if_pos hz]; exact ⟨hn, he, Nat.le_succ _, Nat.le_refl _⟩
    · rw [if_neg hz]; exact ⟨growD_nf 40 i hn, growD_small hl hz hi he ht, growD_top 40 i e, by simp⟩
  · have := fill_bounds e i
    exact ⟨fill_nf i hn, by simp only; omega, by simp only; omega, by simp⟩
theorem tickD_no {i : T} {e : E} (h : (tickD i e).2 ≠ 0) : kindT i = 0 ∧ tickD i e = (e, 2) := by
  unfold tickD at h ⊢
  split at h
  · rename_i hs
    by_cases hz : kindT i = 0
    · rw [if_pos hs, if_pos hz]; exact ⟨hz, rfl⟩
    · rw [if_neg hz] at h; simp at h
  · simp at h
theorem tickD_cases (i : T) (e : E) : (kindT i = 0 ∧ tickD i e = (e, 2)) ∨ (kindT i ≠ 0 ∧ tickD i e = ((growD 40 i e).1, 0)) ∨ (sameB i e = false ∧ tickD i e = (fillE i e, 0)) := by
  unfold tickD
  cases hs : sameB i e
  · exact .inr (.inr ⟨rfl, if_neg (by simp)⟩)
  · by_cases hz : kindT i = 0
    · exact .inl ⟨hz, by rw [if_pos rfl, if_pos hz]⟩
    · exact .inr (.inl ⟨hz, by rw [if_pos rfl, if_neg hz]⟩)
theorem lift_fill {i : T} {e : E} (hn : e.nf) (he : e.depth ≤ 6) (hs : sameB i e = false) :
    (∀ k, hAt 7 e k ≤ hAt 7 (fillE i e) k ∧ (hAt 7 e k ≠ hAt 7 (fillE i e) k → mAt 7 i k = true)) ∧ leqF 64 e (fillE i e) = true ∧ leqF 64 (fillE i e) e = false := by
  have hb := fill_bounds e i
  have hf := fill_nf i hn
  have le1 : leqF 64 e (fillE i e) = true := (leq_iff 64 7 e (fillE i e) hn hf (by omega) (by omega) (by omega) (by omega)).2 fun k _ => (fill_lift 7 e i k).1
  refine ⟨fun k => ⟨(fill_lift 7 e i k).1, (fill_lift 7 e i k).2.2⟩, le1, ?_⟩
  unfold sameB at hs
  rw [le1, Bool.and_true] at hs
  exact hs
theorem lift_grow {i : T} {e : E} (hl : i.nf) (hn : e.nf) (hi : i.depth ≤ 6) (he : e.depth ≤ 6) (ht : e.top ≤ 1000000) (hz : kindT i ≠ 0) :
    (∀ k, hAt 7 e k ≤ hAt 7 (growD 40 i e).1 k ∧ (hAt 7 e k ≠ hAt 7 (growD 40 i e).1 k → mAt 7 i k = true)) ∧ leqF 64 e (growD 40 i e).1 = true ∧ leqF 64 (growD 40 i e).1 e = false := by
  have hg := grow_lift 40 7 (T.nf_live hl) (kind_nz hz) (show i.depth + e.depth < 40 by omega) (show max i.depth e.depth ≤ 7 by omega)
  have hd := growD_small hl hz hi he ht
  have hf := growD_nf 40 i hn
  generalize (growD 40 i e).1 = f at hg hd hf
  refine ⟨hg.1, (leq_iff 64 7 e f hn hf (by omega) (by omega) (by omega) (by omega)).2 fun k _ => (hg.1 k).1, ?_⟩
  obtain ⟨k, hk, hlt⟩ := hg.2
  have l2 := leq_iff 64 7 f e hf hn (by omega) (by omega) (by omega) (by omega)
  generalize leqF 64 f e = b at l2
  cases b
  · rfl
  · have := l2.1 rfl k hk
    omega
theorem tickD_yes {i : T} {e : E} (hl : i.nf) (hn : e.nf) (hi : i.depth ≤ 6) (he : e.depth ≤ 6) (ht : e.top ≤ 1000000) (h : (tickD i e).2 = 0) :
    (∀ k, hAt 7 e k ≤ hAt 7 (tickD i e).1 k ∧ (hAt 7 e k ≠ hAt 7 (tickD i e).1 k → mAt 7 i k = true)) ∧ leqF 64 e (tickD i e).1 = true ∧ leqF 64 (tickD i e).1 e = false := by
  rcases tickD_cases i e with ⟨hz, q⟩ | ⟨hz, q⟩ | ⟨hs, q⟩
  · rw [q] at h; cases h
  · have e1 : (tickD i e).1 = (growD 40 i e).1 := by rw [q]
    rw [e1]; exact lift_grow hl hn hi he ht hz
  · have e1 : (tickD i e).1 = fillE i e := by rw [q]
    rw [e1]; exact lift_fill hn he hs

end Go.Proofs.YtgdickihjaomjaaDoor

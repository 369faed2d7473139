/- The limits of stamps. -/
import Derived.Test.YtgdickihjaomjaaDoorP4
import Derived.Test.YtgdickihjaomjaaDoorS9
set_option linter.all false
set_option maxRecDepth 100000
namespace Go.Proofs.YtgdickihjaomjaaDoor
open Go.RowKit Go.Sep

theorem leq_leaf (n m : Nat) (h : n ≤ m) : leqF 64 (.leaf n) (.leaf m) = true := by
  show (decide (n ≤ m) || _) = true
  simp [h]
theorem same_leaf (n : Nat) : sameE (.leaf n) (.leaf n) = true := by
  unfold sameE; rw [leq_leaf n n (Nat.le_refl n)]; rfl
theorem tick_leaf (i : T) (n : Nat) : tickR i (.leaf n) = ((growR i (.leaf n)).1, (growR i (.leaf n)).2.2) := by
  have h : fillE i (.leaf n) = .leaf n := by unfold fillE; rfl
  rw [tickR, h, leq_leaf n n (Nat.le_refl n)]; rfl
theorem growF_one (X : Nat) : growF 40 T.one (.leaf X) = leafR (X + 1) := rfl
theorem tickOk_c {I : IM} {X : Nat} (hX : X < 1048576) : Fun Tryd.prog 45 #[stv true none X none] I (fun v J => v = .tuple #[stv true none (X + 1) none, .int .i64 0]) := by
  refine (tick_c (i := T.one) (e := E.leaf X) ⟨rfl, rfl⟩ ⟨rfl, rfl⟩ trivial (by decide) (show X ≤ 1048576 by omega) (Nat.zero_le _)).mono fun v J _ h => ?_
  obtain ⟨b, p, hv, hr⟩ := h
  have e1 : growR T.one (.leaf X) = (.leaf (X + 1), 0, 0) := by
    unfold growR
    have hl : leafR (X + 1) = (.leaf (X + 1), 0) := by rw [leafR, if_neg (by omega)]
    rw [if_neg (by decide), growF_one, hl]; rfl
  rw [tick_leaf, e1] at hv hr
  obtain ⟨rfl, rfl⟩ := hr
  exact hv
theorem tickNo_c {I : IM} {X : Nat} (hX : X = 1048576) : Fun Tryd.prog 45 #[stv true none X none] I (fun v J => v = .tuple #[stv true none X none, .int .i64 4]) := by
  refine (tick_c (i := T.one) (e := E.leaf X) ⟨rfl, rfl⟩ ⟨rfl, rfl⟩ trivial (by decide) (show X ≤ 1048576 by omega) (Nat.zero_le _)).mono fun v J _ h => ?_
  obtain ⟨b, p, hv, hr⟩ := h
  have e1 : growR T.one (.leaf X) = (.leaf X, 0, 4) := by
    unfold growR
    have hl : leafR (X + 1) = (.leaf 0, 4) := by rw [leafR, if_pos (by omega)]
    rw [if_neg (by decide), growF_one, hl]; rfl
  rw [tick_leaf, e1] at hv hr
  obtain ⟨rfl, rfl⟩ := hr
  exact hv
theorem ssame1_c {I : IM} {X : Nat} (hX : X ≤ 1048576) : Fun Tryd.prog 49 #[stv true none X none, stv true none X none] I (fun v J => v = .bool true) := by
  refine (ssame_c (A := T.one) (B := T.one) (C := E.leaf X) (D := E.leaf X) ⟨rfl, rfl⟩ ⟨rfl, rfl⟩ ⟨rfl, rfl⟩ ⟨rfl, rfl⟩ (Nat.zero_le _) (Nat.zero_le _) hX hX).mono fun v J _ h => ?_
  rw [h, same_leaf]; rfl
/-- An id with one part alone, so deep. -/
def Spine : Nat → T → Prop
  | 0, i => i = .one
  | k + 1, i => ∃ s, Spine k s ∧ (i = .node s .zero ∨ i = .node .zero s)
theorem Spine.nz : ∀ {k : Nat} {i : T}, Spine k i → i.isZero = false
  | 0, _, h => by rw [show _ = _ from h]; rfl
  | k + 1, _, ⟨s, hs, h⟩ => by rcases h with rfl | rfl <;> rfl
theorem Spine.live : ∀ {k : Nat} {i : T}, Spine k i → i.live
  | 0, _, h => by rw [show _ = _ from h]; trivial
  | k + 1, _, ⟨s, hs, h⟩ => by
    rcases h with rfl | rfl
    · exact ⟨hs.live, trivial, .inl hs.nz⟩
    · exact ⟨trivial, hs.live, .inr hs.nz⟩
theorem Spine.depth : ∀ {k : Nat} {i : T}, Spine k i → i.depth = k
  | 0, _, h => by rw [show _ = _ from h]; rfl
  | k + 1, _, ⟨s, hs, h⟩ => by
    have := hs.depth
    rcases h with rfl | rfl
    · show 1 + max s.depth 0 = k + 1; omega
    · show 1 + max 0 s.depth = k + 1; omega
theorem mk_left {s : T} (h : s.isZero = false) : T.mk s .zero = .node s .zero := by cases s <;> simp_all [T.isZero, T.mk]
theorem mk_right {s : T} (h : s.isZero = false) : T.mk .zero s = .node .zero s := by cases s <;> simp_all [T.isZero, T.mk]
theorem Spine.cut : ∀ {k : Nat} {i : T}, Spine k i → Spine (k + 1) (cutT i).1 ∧ Spine (k + 1) (cutT i).2
  | 0, _, h => by
    rw [show _ = _ from h]
    exact ⟨⟨.one, rfl, .inl rfl⟩, ⟨.one, rfl, .inr rfl⟩⟩
  | k + 1, _, ⟨s, hs, h⟩ => by
    have ih := hs.cut
    have hz := hs.nz
    rcases h with rfl | rfl
    · have : cutT (.node s .zero) = (T.mk (cutT s).1 .zero, T.mk (cutT s).2 .zero) := by
        rw [cutT, if_neg (by rw [hz]; simp), if_pos (show T.zero.isZero = true from rfl)]
      rw [this, mk_left ih.1.nz, mk_left ih.2.nz]
      exact ⟨⟨_, ih.1, .inl rfl⟩, ⟨_, ih.2, .inl rfl⟩⟩
    · have : cutT (.node .zero s) = (T.mk .zero (cutT s).1, T.mk .zero (cutT s).2) := by
        rw [cutT, if_pos (show T.zero.isZero = true from rfl)]
      rw [this, mk_right ih.1.nz, mk_right ih.2.nz]
      exact ⟨⟨_, ih.1, .inr rfl⟩, ⟨_, ih.2, .inr rfl⟩⟩
theorem forkOk_c {I : IM} {k : Nat} {i : T} {b : Bool} {p : Option Addr} (hk : k < 16) (hs : Spine k i) (h : TRep I i b p) : Fun Tryd.prog 57 #[stv b p 0 none] I (fun v J => ∃ b1 p1 b2 p2, v = .tuple #[stv b1 p1 0 none, stv b2 p2 0 none, .int .i64 0] ∧ TRep J (cutT i).1 b1 p1 ∧ TRep J (cutT i).2 b2 p2) := by
  refine (fork_c (e := E.leaf 0) h ⟨rfl, rfl⟩ (by rw [hs.depth]; omega)).mono fun v J _ h => ?_
  obtain ⟨b1, p1, b2, p2, b3, p3, hv, h1, h2, h3⟩ := h
  have e : splitT i = ((cutT i).1, (cutT i).2, 0) := by
    rw [splitT, if_neg (by rw [hs.cut.1.depth, hs.cut.2.depth]; omega)]
  rw [e] at hv h1 h2 h3
  obtain ⟨rfl, rfl⟩ : b3 = 0 ∧ p3 = none := by simpa [ERep] using h3
  exact ⟨b1, p1, b2, p2, hv, h1, h2⟩
theorem forkNo_c {I : IM} {i : T} {b : Bool} {p : Option Addr} (hs : Spine 16 i) (h : TRep I i b p) : Fun Tryd.prog 57 #[stv b p 0 none] I (fun v J => v = .tuple #[stv false none 0 none, stv false none 0 none, .int .i64 3]) := by
  refine (fork_c (e := E.leaf 0) h ⟨rfl, rfl⟩ (by rw [hs.depth]; omega)).mono fun v J _ h => ?_
  obtain ⟨b1, p1, b2, p2, b3, p3, hv, h1, h2, h3⟩ := h
  have e : splitT i = (.zero, .zero, 3) := by
    rw [splitT, if_pos (by rw [hs.cut.1.depth, hs.cut.2.depth]; omega)]
  rw [e] at hv h1 h2 h3
  obtain ⟨rfl, rfl⟩ : b3 = 0 ∧ p3 = none := by simpa [ERep] using h3
  obtain ⟨rfl, rfl⟩ := h1
  obtain ⟨rfl, rfl⟩ := h2
  exact hv
theorem spine_grow : ∀ (n k : Nat) {i : T}, Spine k i → k < n → n ≤ 1000 → k ≤ 16 → (growF n i (.leaf 0)).2 = 0 ∧ (growF n i (.leaf 0)).1.depth = k ∧ (growF n i (.leaf 0)).1.top = 1 ∧ ((growF n i (.leaf 0)).1.base = 0 ∨ (growF n i (.leaf 0)).1 = .leaf 1)
  | 0, _, _, _, h, _, _ => by omega
  | n + 1, 0, _, hs, _, _, _ => by
    rw [show _ = _ from hs]
    exact ⟨rfl, rfl, rfl, .inr rfl⟩
  | n + 1, k + 1, _, ⟨s, hs, h⟩, hk, hn, hk2 => by
    have ih := spine_grow n k hs (by omega) (by omega) (by omega)
    have hd := hs.depth
    have hp := price_lt n (e := .leaf 0) hs.live hs.nz (by rw [hd]; exact (show k + 0 < n by omega))
    have hz : priceF n .zero (.leaf 0) = 1048576 := priceF_zero (by omega) rfl
    obtain ⟨h1, h2, h3, h4⟩ := ih
    generalize hG : growF n s (.leaf 0) = G at *
    obtain ⟨G, err⟩ := G
    simp only at h1 h2 h3 h4
    subst h1
    have hb : G.base = 0 ∨ G = .leaf 1 := h4
    rcases h with rfl | rfl
    · have e : growF (n + 1) (.node s .zero) (.leaf 0) = (E.mk 0 G (.leaf 0), 0) := by
        rw [growF_succ]
        rw [if_neg (show ¬ (T.isOne (.node s .zero) = true ∧ E.isLeaf (.leaf 0) = true) by simp [T.isOne]), if_pos (show priceF n (T.left (.node s .zero)) (E.left (.leaf 0)) < priceF n (T.right (.node s .zero)) (E.right (.leaf 0)) from (show priceF n s (.leaf 0) < priceF n .zero (.leaf 0) by omega))]
        show (if (growF n s (.leaf 0)).2 ≠ 0 then (E.leaf 0, (growF n s (.leaf 0)).2) else nodeR 0 (growF n s (.leaf 0)).1 (.leaf 0)) = _
        rw [hG, if_neg (by simp)]
        show nodeR 0 G (.leaf 0) = _
        unfold nodeR
        rw [if_neg (by simp only [E.depth]; omega), if_neg (by omega), if_neg (by simp only [E.top]; omega)]
      have e2 : E.mk 0 G (.leaf 0) = .node 0 G (.leaf 0) := by
        unfold E.mk
        have hm : min G.base (E.leaf 0).base = 0 := by simp [E.base]
        have hl : ¬ (G.isLeaf = true ∧ (E.leaf 0).isLeaf = true ∧ G.base = (E.leaf 0).base) := by
          rintro ⟨q1, _, q3⟩
          cases G with
          | leaf m => have : m = 1 := h3; have : m = 0 := q3; omega
          | node _ _ _ => cases q1
        rw [if_neg hl, hm]
        have hdn : ∀ e : E, E.dn 0 e = e := fun e => by cases e <;> rfl
        rw [hdn, hdn]
      rw [e, e2]
      exact ⟨rfl, show 1 + max G.depth 0 = k + 1 by omega, show 0 + max G.top 0 = 1 by omega, .inl rfl⟩
    · have e : growF (n + 1) (.node .zero s) (.leaf 0) = (E.mk 0 (.leaf 0) G, 0) := by
        rw [growF_succ]
        rw [if_neg (show ¬ (T.isOne (.node .zero s) = true ∧ E.isLeaf (.leaf 0) = true) by simp [T.isOne]), if_neg (show ¬ (priceF n (T.left (.node .zero s)) (E.left (.leaf 0)) < priceF n (T.right (.node .zero s)) (E.right (.leaf 0))) from (show ¬ (priceF n .zero (.leaf 0) < priceF n s (.leaf 0)) by omega))]
        show (if (growF n s (.leaf 0)).2 ≠ 0 then (E.leaf 0, (growF n s (.leaf 0)).2) else nodeR 0 (.leaf 0) (growF n s (.leaf 0)).1) = _
        rw [hG, if_neg (by simp)]
        show nodeR 0 (.leaf 0) G = _
        unfold nodeR
        rw [if_neg (by simp only [E.depth]; omega), if_neg (by omega), if_neg (by simp only [E.top]; omega)]
      have e2 : E.mk 0 (.leaf 0) G = .node 0 (.leaf 0) G := by
        unfold E.mk
        have hm : min (E.leaf 0).base G.base = 0 := by simp [E.base]
        have hl : ¬ ((E.leaf 0).isLeaf = true ∧ G.isLeaf = true ∧ (E.leaf 0).base = G.base) := by
          rintro ⟨_, q1, q3⟩
          cases G with
          | leaf m => have : m = 1 := h3; have : 0 = m := q3; omega
          | node _ _ _ => cases q1
        rw [if_neg hl, hm]
        have hdn : ∀ e : E, E.dn 0 e = e := fun e => by cases e <;> rfl
        rw [hdn, hdn]
      rw [e, e2]
      exact ⟨rfl, show 1 + max 0 G.depth = k + 1 by omega, show 0 + max 0 G.top = 1 by omega, .inl rfl⟩
theorem tickSpine_c {I : IM} {i : T} {b : Bool} {p : Option Addr} (hs : Spine 16 i) (h : TRep I i b p) : Fun Tryd.prog 45 #[stv b p 0 none] I (fun v J => ∃ eb ep, v = .tuple #[stv b p eb ep, .int .i64 0] ∧ ERep J (growF 40 i (.leaf 0)).1 eb ep) := by
  refine (tick_c (e := E.leaf 0) h ⟨rfl, rfl⟩ hs.live (by rw [hs.depth]; omega) (by decide) (by decide)).mono fun v J _ h => ?_
  obtain ⟨b1, p1, hv, h1⟩ := h
  have hg := spine_grow 40 16 hs (by omega) (by omega) (by omega)
  have e : growR i (.leaf 0) = ((growF 40 i (.leaf 0)).1, priceF 40 i (.leaf 0), 0) := by
    unfold growR
    rw [if_neg (by rw [hs.nz]; simp), hg.1]; rfl
  rw [tick_leaf, e] at hv h1
  exact ⟨b1, p1, hv, h1⟩


end Go.Proofs.YtgdickihjaomjaaDoor

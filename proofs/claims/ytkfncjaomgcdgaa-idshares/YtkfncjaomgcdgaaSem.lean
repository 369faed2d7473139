/- What an id has, place by place; disjoint, covers, sums by that. -/
import Derived.Test.YtkfncjaomgcdgaaW14
set_option linter.all false
namespace Go.Proofs.Ytkfncjaomgcdgaa

theorem wf_l {l r : T} (h : (T.node l r).wf = true) : l.wf = true := by simp only [T.wf, Bool.and_eq_true] at h; exact h.1.1
theorem wf_r {l r : T} (h : (T.node l r).wf = true) : r.wf = true := by simp only [T.wf, Bool.and_eq_true] at h; exact h.1.2
def sem : T → (Nat → Bool) → Bool
  | .zero, _ => false
  | .one, _ => true
  | .node l r, f => if f 0 then sem r (fun i => f (i + 1)) else sem l (fun i => f (i + 1))
/-- a way that begins so -/
def way (b : Bool) (f : Nat → Bool) : Nat → Bool
  | 0 => b
  | i + 1 => f i
theorem sem_way_l (l r : T) (f : Nat → Bool) : sem (.node l r) (way false f) = sem l f := by simp [sem, way]
theorem sem_way_r (l r : T) (f : Nat → Bool) : sem (.node l r) (way true f) = sem r f := by simp [sem, way]
theorem sem_mk (l r : T) (f : Nat → Bool) : sem (T.mk l r) f = sem (.node l r) f := by
  cases l <;> cases r <;> simp [T.mk, sem]
theorem sem_half (t : T) (f : Nat → Bool) : sem t f = if f 0 then sem t.right (fun i => f (i + 1)) else sem t.left (fun i => f (i + 1)) := by
  cases t <;> simp [sem, T.left, T.right]
theorem left_wf {t : T} (h : t.wf = true) : t.left.wf = true := by
  cases t with
  | node l r => exact wf_l h
  | _ => rfl
theorem right_wf {t : T} (h : t.wf = true) : t.right.wf = true := by
  cases t with
  | node l r => exact wf_r h
  | _ => rfl

theorem some_in : ∀ {t : T}, t.wf = true → t ≠ .zero → ∃ f, sem t f = true
  | .zero, _, h => absurd rfl h
  | .one, _, _ => ⟨fun _ => false, rfl⟩
  | .node l r, h, _ => by
    by_cases hl : l = .zero
    · by_cases hr : r = .zero
      · subst hl; subst hr; simp [T.wf, mayT, kind, mayB] at h
      · obtain ⟨f, hf⟩ := some_in (wf_r h) hr
        exact ⟨way true f, by rw [sem_way_r]; exact hf⟩
    · obtain ⟨f, hf⟩ := some_in (wf_l h) hl
      exact ⟨way false f, by rw [sem_way_l]; exact hf⟩
theorem some_out : ∀ {t : T}, t.wf = true → t ≠ .one → ∃ f, sem t f = false
  | .zero, _, _ => ⟨fun _ => false, rfl⟩
  | .one, _, h => absurd rfl h
  | .node l r, h, _ => by
    by_cases hl : l = .one
    · by_cases hr : r = .one
      · subst hl; subst hr; simp [T.wf, mayT, kind, mayB] at h
      · obtain ⟨f, hf⟩ := some_out (wf_r h) hr
        exact ⟨way true f, by rw [sem_way_r]; exact hf⟩
    · obtain ⟨f, hf⟩ := some_out (wf_l h) hl
      exact ⟨way false f, by rw [sem_way_l]; exact hf⟩

theorem disj_iff : ∀ {a b : T}, a.wf = true → b.wf = true → (disjT a b = true ↔ ∀ f, ¬ (sem a f = true ∧ sem b f = true))
  | .zero, b, _, _ => by simp [disjT, sem]
  | .one, .zero, _, _ => by simp [disjT, sem]
  | .node _ _, .zero, _, _ => by simp [disjT, sem]
  | .one, .one, _, _ => by simp [disjT, sem]
  | .one, .node l r, _, hb => by
    obtain ⟨f, hf⟩ := some_in hb (by simp)
    simp only [disjT, Bool.false_eq_true, false_iff]
    exact fun h => h f ⟨rfl, hf⟩
  | .node l r, .one, ha, _ => by
    obtain ⟨f, hf⟩ := some_in ha (by simp)
    simp only [disjT, Bool.false_eq_true, false_iff]
    exact fun h => h f ⟨hf, rfl⟩
  | .node l r, .node l' r', ha, hb => by
    simp only [disjT, Bool.and_eq_true]
    rw [disj_iff (wf_l ha) (wf_l hb), disj_iff (wf_r ha) (wf_r hb)]
    constructor
    · intro h f hf
      simp only [sem] at hf
      split at hf
      · exact h.2 _ hf
      · exact h.1 _ hf
    · intro h
      exact ⟨fun f hf => h (way false f) (by rw [sem_way_l, sem_way_l]; exact hf), fun f hf => h (way true f) (by rw [sem_way_r, sem_way_r]; exact hf)⟩

theorem cover_iff : ∀ {a b : T}, a.wf = true → b.wf = true → (coverT a b = true ↔ ∀ f, sem b f = true → sem a f = true)
  | .one, b, _, _ => by simp [coverT, sem]
  | .zero, .zero, _, _ => by simp [coverT, sem]
  | .node _ _, .zero, _, _ => by simp [coverT, sem]
  | .zero, .one, _, _ => by simp [coverT, sem]
  | .zero, .node l r, _, hb => by
    obtain ⟨f, hf⟩ := some_in hb (by simp)
    simp only [coverT, Bool.false_eq_true, false_iff]
    exact fun h => by have := h f hf; simp [sem] at this
  | .node l r, .one, ha, _ => by
    obtain ⟨f, hf⟩ := some_out ha (by simp)
    simp only [coverT, Bool.false_eq_true, false_iff]
    exact fun h => by have := h f rfl; rw [hf] at this; cases this
  | .node l r, .node l' r', ha, hb => by
    simp only [coverT, Bool.and_eq_true]
    rw [cover_iff (wf_l ha) (wf_l hb), cover_iff (wf_r ha) (wf_r hb)]
    constructor
    · intro h f hf
      simp only [sem] at hf ⊢
      split at hf
      · rename_i h0; rw [if_pos h0]; exact h.2 _ hf
      · rename_i h0; rw [if_neg h0]; exact h.1 _ hf
    · intro h
      exact ⟨fun f hf => by have := h (way false f) (by rw [sem_way_l]; exact hf); rwa [sem_way_l] at this, fun f hf => by have := h (way true f) (by rw [sem_way_r]; exact hf); rwa [sem_way_r] at this⟩

theorem sem_union : ∀ (a b : T) (f : Nat → Bool), sem (unionT a b) f = (sem a f || sem b f)
  | .zero, b, f => by simp [unionT, sem]
  | .one, .zero, f => by simp [unionT, sem]
  | .one, .one, f => by simp [unionT, sem]
  | .one, .node _ _, f => by simp [unionT, sem]
  | .node _ _, .zero, f => by simp [unionT, sem]
  | .node _ _, .one, f => by simp [unionT, sem]
  | .node l r, .node l' r', f => by
    rw [unionT, sem_mk]
    simp only [sem]
    split
    · exact sem_union r r' _
    · exact sem_union l l' _
theorem union_wf : ∀ {a b : T}, a.wf = true → b.wf = true → (unionT a b).wf = true
  | .zero, b, _, hb => by simpa [unionT] using hb
  | .one, .zero, _, _ => rfl
  | .one, .one, _, _ => rfl
  | .one, .node _ _, _, _ => rfl
  | .node l r, .zero, ha, _ => by simpa [unionT] using ha
  | .node _ _, .one, _, _ => rfl
  | .node l r, .node l' r', ha, hb => by
    rw [unionT]; exact mk_wf (union_wf (wf_l ha) (wf_l hb)) (union_wf (wf_r ha) (wf_r hb))

/-- no two ids are one share -/
theorem sem_inj : ∀ {a b : T}, a.wf = true → b.wf = true → (∀ f, sem a f = sem b f) → a = b := by
  intro a
  induction a with
  | zero =>
    intro b _ hb h
    by_cases hz : b = .zero
    · exact hz.symm
    · obtain ⟨f, hf⟩ := some_in hb hz; have := h f; rw [hf] at this; cases this
  | one =>
    intro b _ hb h
    by_cases hz : b = .one
    · exact hz.symm
    · obtain ⟨f, hf⟩ := some_out hb hz; have := h f; rw [hf] at this; cases this
  | node l r ihl ihr =>
    intro b ha hb h
    cases b with
    | zero => obtain ⟨f, hf⟩ := some_in ha (by simp); have := h f; rw [hf] at this; cases this
    | one => obtain ⟨f, hf⟩ := some_out ha (by simp); have := h f; rw [hf] at this; cases this
    | node l' r' =>
      rw [ihl (wf_l ha) (wf_l hb) (fun f => by have := h (way false f); rwa [sem_way_l, sem_way_l] at this), ihr (wf_r ha) (wf_r hb) (fun f => by have := h (way true f); rwa [sem_way_r, sem_way_r] at this)]

theorem same_iff {a b : T} (ha : a.wf = true) (hb : b.wf = true) : sameT a b = true ↔ a = b := by
  unfold sameT
  rw [Bool.and_eq_true, cover_iff ha hb, cover_iff hb ha]
  constructor
  · rintro ⟨h1, h2⟩
    refine sem_inj ha hb fun f => ?_
    rw [Bool.eq_iff_iff]; exact ⟨h2 f, h1 f⟩
  · rintro rfl; exact ⟨fun _ h => h, fun _ h => h⟩
theorem same_refl (t : T) (h : t.wf = true) : sameT t t = true := (same_iff h h).2 rfl
theorem mk_halves {t : T} (h : t.wf = true) : T.mk t.left t.right = t := by
  cases t with
  | node l r => exact wf_mk h
  | zero => rfl
  | one => rfl

/-- what a cut gives -/
theorem cut_wf : ∀ {t : T}, t.wf = true → (cutT t).1.wf = true ∧ (cutT t).2.wf = true
  | .zero, _ => ⟨rfl, rfl⟩
  | .one, _ => ⟨rfl, rfl⟩
  | .node .zero r, h => by have := cut_wf (wf_r h); exact ⟨mk_wf rfl this.1, mk_wf rfl this.2⟩
  | .node .one .zero, _ => ⟨rfl, rfl⟩
  | .node (.node a b) .zero, h => by have := cut_wf (wf_l h); exact ⟨mk_wf this.1 rfl, mk_wf this.2 rfl⟩
  | .node .one .one, _ => ⟨rfl, rfl⟩
  | .node .one (.node c d), h => ⟨rfl, mk_wf (l := .zero) rfl (wf_r h)⟩
  | .node (.node a b) .one, h => ⟨mk_wf (wf_l h) rfl, rfl⟩
  | .node (.node a b) (.node c d), h => ⟨mk_wf (wf_l h) rfl, mk_wf (l := .zero) rfl (wf_r h)⟩
theorem cut_sem : ∀ (t : T) (f : Nat → Bool), sem t f = (sem (cutT t).1 f || sem (cutT t).2 f) ∧ ¬ (sem (cutT t).1 f = true ∧ sem (cutT t).2 f = true)
  | .zero, f => by simp [cutT, sem]
  | .one, f => by simp only [cutT, sem_mk, sem]; cases f 0 <;> simp
  | .node .zero r, f => by
    have := cut_sem r (fun i => f (i + 1))
    simp only [cutT, sem_mk, sem]
    cases f 0
    · simp
    · simpa using this
  | .node .one .zero, f => by
    have := cut_sem .one (fun i => f (i + 1))
    simp only [cutT, sem_mk, sem] at *
    cases f 0
    · simpa using this
    · simp
  | .node (.node a b) .zero, f => by
    have := cut_sem (.node a b) (fun i => f (i + 1))
    simp only [cutT, sem_mk]
    rw [show ∀ l r f, sem (.node l r) f = if f 0 then sem r (fun i => f (i + 1)) else sem l (fun i => f (i + 1)) from fun _ _ _ => rfl, show ∀ x, sem (.node x .zero) f = if f 0 then false else sem x (fun i => f (i + 1)) from fun _ => rfl, show ∀ x, sem (.node x .zero) f = if f 0 then false else sem x (fun i => f (i + 1)) from fun _ => rfl]
    cases f 0
    · simpa using this
    · simp [sem]
  | .node .one .one, f => by simp only [cutT, sem_mk, sem]; cases f 0 <;> simp
  | .node .one (.node c d), f => by simp only [cutT, sem_mk, sem]; cases f 0 <;> simp
  | .node (.node a b) .one, f => by simp only [cutT, sem_mk, sem]; cases f 0 <;> simp
  | .node (.node a b) (.node c d), f => by simp only [cutT, sem_mk, sem]; cases f 0 <;> simp
theorem cut_disj {t : T} (h : t.wf = true) : disjT (cutT t).1 (cutT t).2 = true := (disj_iff (cut_wf h).1 (cut_wf h).2).2 fun f => (cut_sem t f).2
theorem cut_union {t : T} (h : t.wf = true) : unionT (cutT t).1 (cutT t).2 = t :=
  sem_inj (union_wf (cut_wf h).1 (cut_wf h).2) h fun f => by rw [sem_union]; exact (cut_sem t f).1.symm
theorem mk_nz {t : T} (h : t.isZero = false) : (T.mk .zero t).isZero = false ∧ (T.mk t .zero).isZero = false := by cases t <;> simp_all [T.mk, T.isZero]
theorem cut_nz : ∀ {t : T}, t.wf = true → t.isZero = false → (cutT t).1.isZero = false ∧ (cutT t).2.isZero = false
  | .zero, _, h => by simp [T.isZero] at h
  | .one, _, _ => ⟨rfl, rfl⟩
  | .node .zero r, h, _ => by
    have hr : r.isZero = false := by cases r <;> simp_all [T.wf, mayT, kind, mayB, T.isZero]
    have := cut_nz (wf_r h) hr
    exact ⟨(mk_nz this.1).1, (mk_nz this.2).1⟩
  | .node .one .zero, _, _ => ⟨rfl, rfl⟩
  | .node (.node a b) .zero, h, _ => by
    have := cut_nz (wf_l h) rfl
    exact ⟨(mk_nz this.1).2, (mk_nz this.2).2⟩
  | .node .one .one, _, _ => ⟨rfl, rfl⟩
  | .node .one (.node c d), _, _ => ⟨rfl, rfl⟩
  | .node (.node a b) .one, _, _ => ⟨rfl, rfl⟩
  | .node (.node a b) (.node c d), _, _ => ⟨rfl, rfl⟩

theorem disj_half {a b : T} (ha : a.wf = true) (hb : b.wf = true) : disjT a b = (disjT a.left b.left && disjT a.right b.right) := by
  rw [Bool.eq_iff_iff, Bool.and_eq_true, disj_iff ha hb, disj_iff (left_wf ha) (left_wf hb), disj_iff (right_wf ha) (right_wf hb)]
  constructor
  · intro h
    exact ⟨fun f hf => h (way false f) (by rw [sem_half a, sem_half b]; simpa [way] using hf), fun f hf => h (way true f) (by rw [sem_half a, sem_half b]; simpa [way] using hf)⟩
  · intro h f hf
    rw [sem_half a, sem_half b] at hf
    cases h0 : f 0
    · exact h.1 _ (by simpa [h0] using hf)
    · exact h.2 _ (by simpa [h0] using hf)
theorem cover_half {a b : T} (ha : a.wf = true) (hb : b.wf = true) : coverT a b = (coverT a.left b.left && coverT a.right b.right) := by
  rw [Bool.eq_iff_iff, Bool.and_eq_true, cover_iff ha hb, cover_iff (left_wf ha) (left_wf hb), cover_iff (right_wf ha) (right_wf hb)]
  constructor
  · intro h
    exact ⟨fun f hf => by have := h (way false f) (by rw [sem_half b]; simpa [way] using hf); rw [sem_half a] at this; simpa [way] using this, fun f hf => by have := h (way true f) (by rw [sem_half b]; simpa [way] using hf); rw [sem_half a] at this; simpa [way] using this⟩
  · intro h f hf
    rw [sem_half b] at hf
    rw [sem_half a]
    cases h0 : f 0
    · have := h.1 (fun i => f (i + 1)) (by simpa [h0] using hf); simpa [h0] using this
    · have := h.2 (fun i => f (i + 1)) (by simpa [h0] using hf); simpa [h0] using this
theorem disj_comm {a b : T} (ha : a.wf = true) (hb : b.wf = true) : disjT a b = disjT b a := by
  rw [Bool.eq_iff_iff, disj_iff ha hb, disj_iff hb ha]
  exact ⟨fun h f hf => h f hf.symm, fun h f hf => h f hf.symm⟩
theorem union_covers {a b : T} (ha : a.wf = true) (hb : b.wf = true) : coverT (unionT a b) a = true ∧ coverT (unionT a b) b = true := by
  have hu := union_wf ha hb
  exact ⟨(cover_iff hu ha).2 fun f hf => by rw [sem_union, hf]; rfl, (cover_iff hu hb).2 fun f hf => by rw [sem_union, hf]; simp⟩
theorem cover_disj {a b : T} (ha : a.wf = true) (hb : b.wf = true) (hc : coverT a b = true) (hd : disjT a b = true) : b.isZero = true := by
  cases hz : b.isZero
  · obtain ⟨f, hf⟩ := some_in hb (by rintro rfl; simp [T.isZero] at hz)
    exact absurd ⟨(cover_iff ha hb).1 hc f hf, hf⟩ ((disj_iff ha hb).1 hd f)
  · rfl
theorem union_comm {a b : T} (ha : a.wf = true) (hb : b.wf = true) : unionT a b = unionT b a :=
  sem_inj (union_wf ha hb) (union_wf hb ha) fun f => by rw [sem_union, sem_union, Bool.or_comm]
theorem parse_wf : ∀ (n : Nat) (s : List UInt8) {t : T} {r : List UInt8}, parseT n s = some (t, r) → t.wf = true
  | 0, _, _, _, h => by simp [parseT] at h
  | n + 1, [], _, _, h => by simp [parseT] at h
  | n + 1, x :: s, t, r, h => by
    rw [parseT] at h
    split at h
    · simp at h; rw [← h.1]; rfl
    · split at h
      · simp at h; rw [← h.1]; rfl
      · split at h
        · split at h
          · rename_i l y r2 hl
            split at h
            · split at h
              · rename_i q z r4 hq
                split at h
                · rename_i hz
                  simp at h
                  rw [← h.1]
                  simp only [T.wf, Bool.and_eq_true]
                  exact ⟨⟨parse_wf n _ hl, parse_wf n _ hq⟩, hz.2⟩
                · cases h
              · cases h
            · cases h
          · cases h
        · cases h
theorem text_len : ∀ t : T, (textT t).length + 3 ≤ 4 * 2 ^ t.depth
  | .zero => by simp [textT, T.depth]
  | .one => by simp [textT, T.depth]
  | .node l r => by
    have h1 := text_len l
    have h2 := text_len r
    have a : 2 ^ l.depth ≤ 2 ^ max l.depth r.depth := Nat.pow_le_pow_right (by omega) (by omega)
    have b : 2 ^ r.depth ≤ 2 ^ max l.depth r.depth := Nat.pow_le_pow_right (by omega) (by omega)
    simp only [textT, T.depth, List.length_append, List.length_cons, List.length_nil, Nat.pow_add, Nat.pow_one]
    omega
theorem text_le {t : T} (h : t.depth ≤ 20) : (textT t).length ≤ 1000000000 := by
  have := text_len t
  have h2 : 2 ^ t.depth ≤ 2 ^ 20 := Nat.pow_le_pow_right (by omega) h
  omega
end Go.Proofs.Ytkfncjaomgcdgaa

/- Parts of the whole: what splitting and summing keeps. -/
import Derived.Test.YtkfncjaomgcdgaaSem
set_option linter.all false
namespace Go.Proofs.Ytkfncjaomgcdgaa
open Go.RowKit Go.Facts

def Good (ps : List T) : Prop := (∀ (i : Nat) t, ps[i]? = some t → t.wf = true ∧ t.isZero = false ∧ t.depth ≤ 16) ∧ (∀ f, ∃ (i : Nat) (t : T), ps[i]? = some t ∧ sem t f = true) ∧
  (∀ (i j : Nat) t u, i ≠ j → ps[i]? = some t → ps[j]? = some u → ∀ f, ¬ (sem t f = true ∧ sem u f = true))

theorem good_one : Good [.one] := by
  refine ⟨fun i t h => ?_, fun f => ⟨0, .one, rfl, rfl⟩, fun i j t u hij hi hj => ?_⟩
  · cases i with
    | zero => simp at h; subst h; exact ⟨rfl, rfl, by simp [T.depth]⟩
    | succ i => simp at h
  · cases i <;> cases j <;> simp_all

theorem get_new {ps : List T} {p : Nat} {a c : T} (i : Nat) {t : T} (h : (ps.set p a ++ [c])[i]? = some t) :
    (i = ps.length ∧ t = c) ∨ (i < ps.length ∧ i = p ∧ t = a) ∨ (i < ps.length ∧ i ≠ p ∧ ps[i]? = some t) := by
  by_cases hi : i < ps.length
  · rw [List.getElem?_append_left (by simpa using hi), List.getElem?_set] at h
    by_cases hp : p = i
    · rw [if_pos hp, if_pos (by omega)] at h
      exact .inr (.inl ⟨hi, hp.symm, by simpa using h.symm⟩)
    · rw [if_neg hp] at h
      exact .inr (.inr ⟨hi, fun e => hp e.symm, h⟩)
  · rw [List.getElem?_append_right (by simp; omega)] at h
    simp only [List.length_set] at h
    rcases Nat.eq_zero_or_pos (i - ps.length) with e | e
    · rw [e] at h; simp at h; exact .inl ⟨by omega, h.symm⟩
    · rw [List.getElem?_eq_none (by simp; omega)] at h; cases h

theorem good_split {ps : List T} {p : Nat} {t : T} (h : Good ps) (hp : ps[p]? = some t) (h1 : (cutT t).1.depth ≤ 16) (h2 : (cutT t).2.depth ≤ 16) : Good (ps.set p (cutT t).1 ++ [(cutT t).2]) := by
  obtain ⟨hm, hc, hd⟩ := h
  obtain ⟨wt, zt, dt⟩ := hm p t hp
  have cw := cut_wf wt
  have cz := cut_nz wt zt
  have hpl := (List.getElem?_eq_some_iff.1 hp).1
  have c1 : ∀ f, sem (cutT t).1 f = true → sem t f = true := fun f h => by rw [(cut_sem t f).1, h]; rfl
  have c2 : ∀ f, sem (cutT t).2 f = true → sem t f = true := fun f h => by rw [(cut_sem t f).1, h]; simp
  refine ⟨fun i u hu => ?_, fun f => ?_, fun i j u v hij hi hj f => ?_⟩
  · rcases get_new i hu with ⟨_, rfl⟩ | ⟨_, _, rfl⟩ | ⟨_, _, hh⟩
    · exact ⟨cw.2, cz.2, h2⟩
    · exact ⟨cw.1, cz.1, h1⟩
    · exact hm i u hh
  · obtain ⟨i, u, hu, hs⟩ := hc f
    by_cases hip : i = p
    · subst hip
      rw [hp] at hu; cases hu
      rw [(cut_sem t f).1, Bool.or_eq_true] at hs
      rcases hs with hs | hs
      · exact ⟨i, _, by rw [List.getElem?_append_left (by simpa using hpl), List.getElem?_set, if_pos rfl, if_pos hpl], hs⟩
      · exact ⟨ps.length, _, by rw [List.getElem?_append_right (by simp)]; simp, hs⟩
    · have hil := (List.getElem?_eq_some_iff.1 hu).1
      exact ⟨i, u, by rw [List.getElem?_append_left (by simpa using hil), List.getElem?_set, if_neg (fun e => hip e.symm)]; exact hu, hs⟩
  · rcases get_new i hi with ⟨ei, rfl⟩ | ⟨_, ei, rfl⟩ | ⟨li, ni, gi⟩ <;> rcases get_new j hj with ⟨ej, rfl⟩ | ⟨_, ej, rfl⟩ | ⟨lj, nj, gj⟩
    · omega
    · exact fun h => (cut_sem t f).2 ⟨h.2, h.1⟩
    · exact fun h => hd j p _ _ nj gj hp f ⟨h.2, c2 f h.1⟩
    · exact (cut_sem t f).2
    · omega
    · exact fun h => hd j p _ _ nj gj hp f ⟨h.2, c1 f h.1⟩
    · exact fun h => hd i p _ _ ni gi hp f ⟨h.1, c2 f h.2⟩
    · exact fun h => hd i p _ _ ni gi hp f ⟨h.1, c1 f h.2⟩
    · exact hd i j _ _ hij gi gj f

theorem good_disj {ps : List T} (h : Good ps) {i j : Nat} {t u : T} (hij : i ≠ j) (hi : ps[i]? = some t) (hj : ps[j]? = some u) : disjT t u = true :=
  (disj_iff (h.1 i t hi).1 (h.1 j u hj).1).2 fun f => h.2.2 i j t u hij hi hj f

def Acc (ps : List T) (k : Nat) (a : T) : Prop := a.wf = true ∧ a.depth ≤ 16 ∧ ∀ f, sem a f = true ↔ ∃ (i : Nat) (t : T), i < k ∧ ps[i]? = some t ∧ sem t f = true
theorem acc_zero (ps : List T) : Acc ps 0 .zero := ⟨rfl, by simp [T.depth], fun f => ⟨fun h => by simp [sem] at h, fun ⟨_, _, h, _⟩ => by omega⟩⟩
theorem acc_disj {ps : List T} {k : Nat} {a t : T} (h : Good ps) (ha : Acc ps k a) (ht : ps[k]? = some t) : disjT a t = true :=
  (disj_iff ha.1 (h.1 k t ht).1).2 fun f ⟨h1, h2⟩ => by
    obtain ⟨i, u, hi, hu, hs⟩ := (ha.2.2 f).1 h1
    exact h.2.2 i k u t (by omega) hu ht f ⟨hs, h2⟩
theorem acc_step {ps : List T} {k : Nat} {a t : T} (h : Good ps) (ha : Acc ps k a) (ht : ps[k]? = some t) : Acc ps (k + 1) (unionT a t) := by
  have gt := h.1 k t ht
  have hud := union_depth a t
  refine ⟨union_wf ha.1 gt.1, by have := ha.2.1; omega, fun f => ?_⟩
  rw [sem_union, Bool.or_eq_true, ha.2.2 f]
  constructor
  · rintro (⟨i, u, hi, hu, hs⟩ | hs)
    · exact ⟨i, u, by omega, hu, hs⟩
    · exact ⟨k, t, by omega, ht, hs⟩
  · rintro ⟨i, u, hi, hu, hs⟩
    by_cases hik : i = k
    · subst hik; rw [ht] at hu; cases hu; exact .inr hs
    · exact .inl ⟨i, u, by omega, hu, hs⟩
theorem acc_all {ps : List T} {a : T} (h : Good ps) (ha : Acc ps ps.length a) : a = .one :=
  sem_inj ha.1 rfl fun f => by
    obtain ⟨i, t, ht, hs⟩ := h.2.1 f
    rw [(ha.2.2 f).2 ⟨i, t, (List.getElem?_eq_some_iff.1 ht).1, ht, hs⟩]
    rfl
end Go.Proofs.Ytkfncjaomgcdgaa

/-
  Whole blocks as facts on a world, and how they stay while it grows or is written to.
-/
import Derived.Test.YtkfncjaomgcdgaaFacts
import Derived.WalkKit
import Derived.WalkSpells
import Derived.WalkLawsBesides
import Derived.Lib.Hide
set_option linter.all false
namespace Go.Facts
open Go.RowKit

/-- Block k holds just these cells, of which none is frozen. -/
def Blk (w : World) (k : Nat) (cs : List Value) (t : TypeId) : Prop := w.heap[k]? = some (.cells cs.toArray t (0, 0))

theorem Blk.lt {w : World} {k : Nat} {cs : List Value} {t : TypeId} (h : Blk w k cs t) : k < w.heap.size := by
  rcases Nat.lt_or_ge k w.heap.size with h' | h'
  · exact h'
  · unfold Blk at h; simp [Array.getElem?_eq_none h'] at h

theorem Blk.ext {w w' : World} {k : Nat} {cs : List Value} {t : TypeId} (h : Blk w k cs t) (e : Ext w w') : Blk w' k cs t := (e.block k h.lt).trans h

theorem Blk.c {w : World} {k : Nat} {cs : List Value} {t : TypeId} (h : Blk w k cs t) (i : Nat) {v : Value} (hv : cs[i]? = some v) : w.cell? ⟨k, i, none⟩ = some v := by
  unfold World.cell?
  rw [show w.heap[(⟨k, i, none⟩ : Addr).block]? = _ from h]
  simpa using hv

theorem Blk.f {w : World} {k : Nat} {cs : List Value} {t : TypeId} (h : Blk w k cs t) (i : Nat) : w.frozen? ⟨k, i, none⟩ = false := by
  unfold World.frozen?
  rw [show w.heap[(⟨k, i, none⟩ : Addr).block]? = _ from h]
  simp

theorem Blk.ne {w : World} {k k' : Nat} {cs cs' : List Value} {t t' : TypeId} (h : Blk w k cs t) (h' : Blk w k' cs' t') (ht : t ≠ t') : k ≠ k' := fun e => by
  subst e
  rw [Blk, h] at h'
  simp at h'
  exact ht h'.2

theorem blk_alloc (w : World) (cs : List Value) (t : TypeId) : Blk (w.alloc (.cells cs.toArray t)) w.heap.size cs t := by
  show (w.heap.push _)[w.heap.size]? = _
  simp

theorem blk_set {w : World} {k : Nat} {cs : List Value} {t : TypeId} (h : Blk w k cs t) (i : Nat) (u : Value) : Blk (w.setCell ⟨k, i, none⟩ u) k (cs.set i u) t := by
  show (w.heap.modify k _)[k]? = _
  rw [Array.getElem?_modify]
  simp [show w.heap[k]? = _ from h]

theorem blk_set_ne {w : World} {k : Nat} {cs : List Value} {t : TypeId} (h : Blk w k cs t) {k' : Nat} (hk : k ≠ k') (i : Nat) (u : Value) : Blk (w.setCell ⟨k', i, none⟩ u) k cs t :=
  (Below.heap_setCell w ⟨k', i, none⟩ u k hk).trans h

/-- Blocks of these types are never written to. -/
def Imm (ts : List TypeId) (w w' : World) : Prop := ∀ k cs t, t ∈ ts → Blk w k cs t → Blk w' k cs t
theorem Imm.refl (ts : List TypeId) (w : World) : Imm ts w w := fun _ _ _ _ h => h
theorem Imm.trans {ts : List TypeId} {a b c : World} (h : Imm ts a b) (h' : Imm ts b c) : Imm ts a c := fun k cs t ht hb => h' k cs t ht (h k cs t ht hb)
theorem imm_of_ext {ts : List TypeId} {w w' : World} (e : Ext w w') : Imm ts w w' := fun _ _ _ _ h => h.ext e
theorem imm_set {ts : List TypeId} {w : World} {k : Nat} {cs : List Value} {t : TypeId} (h : Blk w k cs t) (ht : t ∉ ts) (i : Nat) (u : Value) : Imm ts w (w.setCell ⟨k, i, none⟩ u) := fun k' cs' t' ht' hb =>
  blk_set_ne hb (hb.ne h (fun e => ht (e ▸ ht'))) i u

/-- One store into a block that is not older than B. -/
theorem below_set {B : Nat} {w w' : World} (h : Below B w w') {k : Nat} (hk : B ≤ k) (i : Nat) (u : Value) : Below B w (w'.setCell ⟨k, i, none⟩ u) := Below.setCell h hk u

/-- What a store leaves. -/
structure Stored (w W : World) (k : Nat) (cs : List Value) (t : TypeId) : Prop where
  blk : Blk W k cs t
  keep : ∀ {k' : Nat} {cs' : List Value} {t' : TypeId}, Blk w k' cs' t' → k' ≠ k → Blk W k' cs' t'
  imm : ∀ ts : List TypeId, t ∉ ts → Imm ts w W
  below : ∀ {B : Nat} {v : World}, Below B v w → B ≤ k → Below B v W
  size : W.heap.size = w.heap.size

theorem stored1 {w : World} {k : Nat} {cs : List Value} {t : TypeId} (h : Blk w k cs t) (i : Nat) (u : Value) : Stored w (w.setCell ⟨k, i, none⟩ u) k (cs.set i u) t :=
  ⟨blk_set h i u, fun hb hne => blk_set_ne hb hne i u, fun _ ht => imm_set h ht i u, fun hB hk => below_set hB hk i u, by simp [World.setCell]⟩

theorem Stored.more {w W : World} {k : Nat} {cs : List Value} {t : TypeId} (h : Stored w W k cs t) (i : Nat) (u : Value) : Stored w (W.setCell ⟨k, i, none⟩ u) k (cs.set i u) t :=
  ⟨blk_set h.blk i u, fun hb hne => blk_set_ne (h.keep hb hne) hne i u, fun ts ht => (h.imm ts ht).trans (imm_set h.blk ht i u), fun hB hk => below_set (h.below hB hk) hk i u, by simp [World.setCell, h.size]⟩

theorem ex1 {w : World} {k : Nat} {a : Value} {t : TypeId} (h : Blk w k [a] t) (u : Value) : ∃ W, w.setCell ⟨k, 0, none⟩ u = W ∧ Stored w W k [u] t := ⟨_, rfl, stored1 h 0 u⟩
theorem ex2 {w : World} {k : Nat} {a b : Value} {t : TypeId} (h : Blk w k [a, b] t) (u v : Value) : ∃ W, (w.setCell ⟨k, 0, none⟩ u).setCell ⟨k, 1, none⟩ v = W ∧ Stored w W k [u, v] t :=
  ⟨_, rfl, (stored1 h 0 u).more 1 v⟩

theorem box1 (w : World) (A : List Value) (t : TypeId) : ∃ W, w.alloc (.cells A.toArray t) = W ∧ Ext w W ∧ W.heap.size = w.heap.size + 1 ∧ Blk W w.heap.size A t :=
  ⟨_, rfl, (Ext.refl w).alloc _, by simp, blk_alloc _ _ _⟩
theorem box2 (w : World) (A B : List Value) (t u : TypeId) : ∃ W, (w.alloc (.cells A.toArray t)).alloc (.cells B.toArray u) = W ∧ Ext w W ∧ W.heap.size = w.heap.size + 2 ∧ Blk W w.heap.size A t ∧ Blk W (w.heap.size + 1) B u := by
  obtain ⟨W1, h1, e1, s1, b1⟩ := box1 w A t
  obtain ⟨W2, h2, e2, s2, b2⟩ := box1 W1 B u
  exact ⟨W2, by rw [h1, h2], e1.trans e2, by omega, b1.ext e2, by rw [← s1]; exact b2⟩
theorem box3 (w : World) (A B C : List Value) (t u x : TypeId) : ∃ W, ((w.alloc (.cells A.toArray t)).alloc (.cells B.toArray u)).alloc (.cells C.toArray x) = W ∧ Ext w W ∧ W.heap.size = w.heap.size + 3 ∧
    Blk W w.heap.size A t ∧ Blk W (w.heap.size + 1) B u ∧ Blk W (w.heap.size + 1 + 1) C x := by
  obtain ⟨W1, h1, e1, s1, b1, b2⟩ := box2 w A B t u
  obtain ⟨W2, h2, e2, s2, b3⟩ := box1 W1 C x
  exact ⟨W2, by rw [h1, h2], e1.trans e2, by omega, b1.ext e2, b2.ext e2, by rw [show w.heap.size + 1 + 1 = W1.heap.size by omega]; exact b3⟩
theorem box4 (w : World) (A B C D : List Value) (t u x y : TypeId) : ∃ W, (((w.alloc (.cells A.toArray t)).alloc (.cells B.toArray u)).alloc (.cells C.toArray x)).alloc (.cells D.toArray y) = W ∧ Ext w W ∧ W.heap.size = w.heap.size + 4 ∧
    Blk W w.heap.size A t ∧ Blk W (w.heap.size + 1) B u ∧ Blk W (w.heap.size + 1 + 1) C x ∧ Blk W (w.heap.size + 1 + 1 + 1) D y := by
  obtain ⟨W1, h1, e1, s1, b1, b2, b3⟩ := box3 w A B C t u x
  obtain ⟨W2, h2, e2, s2, b4⟩ := box1 W1 D y
  exact ⟨W2, by rw [h1, h2], e1.trans e2, by omega, b1.ext e2, b2.ext e2, b3.ext e2, by rw [show w.heap.size + 1 + 1 + 1 = W1.heap.size by omega]; exact b4⟩

/-- A pointer to a block of these cells. -/
def BoxOf (cs : List Value) (t : TypeId) : PP := ⟨fun v w => ∃ k, v = .pointer (some ⟨k, 0, none⟩) ∧ Blk w k cs t, fun h ⟨k, hv, hb⟩ => ⟨k, hv, hb.ext h⟩⟩
/-- .. that is not older than B. -/
def NewOf (B : Nat) (cs : List Value) (t : TypeId) : PP := ⟨fun v w => ∃ k, v = .pointer (some ⟨k, 0, none⟩) ∧ B ≤ k ∧ Blk w k cs t, fun h ⟨k, hv, hB, hb⟩ => ⟨k, hv, hB, hb.ext h⟩⟩
theorem newOf_alloc {B : Nat} {w : World} (h : B ≤ w.heap.size) (cs : List Value) (t : TypeId) : (NewOf B cs t).p (.pointer (some ⟨w.heap.size, 0, none⟩)) (w.alloc (.cells cs.toArray t)) := ⟨_, rfl, h, blk_alloc _ _ _⟩
theorem freshIn_alloc (w : World) (o : Obj) : FreshIn w (w.alloc o) (.pointer (some ⟨w.heap.size, 0, none⟩)) := ⟨_, rfl, Nat.le_refl _, by simp⟩

def Ret (w : World) (R : Value → World → Prop) (e : Ending) (w' : World) : Prop := ∃ v, e = .returned v ∧ R v w' ∧ Ext w w'
theorem ret_of {P : Program} {fn : Func} {a : Act} {w w' : World} {R : Value → World → Prop} (v : Value) (h : (results fn a.tmps).run P w' = .ok v w') (hd : a.defers = []) (hr : R v w') (hx : Ext w w') :
    bodyPost P fn (Ret w R) .ret a w' := bodyPost_ret h hd ⟨v, rfl, hr, hx⟩
theorem ret_at {w w' : World} {R : Value → World → Prop} {v : Value} (hr : R v w') (hx : Ext w w') : Ret w R (.returned v) w' := ⟨v, rfl, hr, hx⟩

end Go.Facts

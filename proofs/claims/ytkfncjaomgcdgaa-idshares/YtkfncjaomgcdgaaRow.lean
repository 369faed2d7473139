/-
  Rows of bytes that a call owns: appended to, and made into a string; blocks of other types stay.
-/
import Derived.Test.YtkfncjaomgcdgaaBase
set_option linter.all false
namespace Go.Facts
open Go.RowKit

/-- Below B nothing has turned; blocks of other types than ts neither. -/
structure Keeps (B : Nat) (ts : List TypeId) (w w' : World) : Prop where
  below : Below B w w'
  keep : ∀ {k : Nat} {cs : List Value} {t : TypeId}, Blk w k cs t → t ∉ ts → Blk w' k cs t

theorem Keeps.refl (B : Nat) (ts : List TypeId) (w : World) : Keeps B ts w w := ⟨Below.refl _ _, fun h _ => h⟩
theorem Keeps.trans {B : Nat} {ts : List TypeId} {a b c : World} (h : Keeps B ts a b) (k : Keeps B ts b c) : Keeps B ts a c :=
  ⟨h.below.trans k.below, fun hb ht => k.keep (h.keep hb ht) ht⟩
theorem Keeps.of_ext {B : Nat} {ts : List TypeId} {w w' : World} (e : Ext w w') (hB : B ≤ w.heap.size) : Keeps B ts w w' := ⟨e.mono hB, fun hb _ => hb.ext e⟩
theorem Keeps.imm {B : Nat} {ts us : List TypeId} {w w' : World} (h : Keeps B ts w w') (hd : ∀ t ∈ us, t ∉ ts) : Imm us w w' := fun _ _ t ht hb => h.keep hb (hd t ht)
theorem Keeps.size {B : Nat} {ts : List TypeId} {w w' : World} (h : Keeps B ts w w') : w.heap.size ≤ w'.heap.size := h.below.size
theorem Keeps.ext {ts : List TypeId} {w w' : World} (h : Keeps w.heap.size ts w w') : Ext w w' := h.below

theorem own_ext {w w' : World} {B : Nat} {e : TypeId} {size : Nat} {v : Value} {n : Nat} {xs : List Value} (h : w.ownsRow B e size v n xs) (x : Ext w w') : w'.ownsRow B e size v n xs := by
  obtain ⟨h1, h2⟩ := h
  refine ⟨h1, ?_⟩
  rcases h2 with h2 | ⟨g, cap, cur, hv, hg, hh, r⟩
  · exact .inl h2
  · have hlt : g < w.heap.size := by
      rcases Nat.lt_or_ge g w.heap.size with h' | h'
      · exact h'
      · simp [Array.getElem?_eq_none h'] at hh
    exact .inr ⟨g, cap, cur, hv, hg, by rw [x.block g hlt]; exact hh, r⟩

theorem keeps_append {B : Nat} {e : TypeId} {w w' : World} {p : Value} {n : Nat} {xs : List Value} {size : Nat} (own : w.ownsRow B e size p n xs) (hB : B ≤ w.heap.size) {o : Obj} (hg : (w.alloc o).grownBy w' p.ownBlock) : Keeps B [e] w w' := by
  obtain ⟨_, h2⟩ := own
  have row : ∀ k, p.ownBlock = some k → B ≤ k ∧ ∃ cur, w.heap[k]? = some (.cells cur e (0, 0)) := fun k hk => by
    rcases h2 with ⟨hv, _⟩ | ⟨g, cap, cur, hv, hg, hh, _⟩
    · rw [hv] at hk; simp [Value.ownBlock] at hk
    · rw [hv] at hk; simp [Value.ownBlock] at hk; subst hk; exact ⟨hg, cur, hh⟩
  refine ⟨Below.grown ((Below.refl B w).alloc hB o) hg (by simp; omega) (fun k hk => (row k hk).1), fun {k cs t} hb ht => ?_⟩
  have hlt := hb.lt
  have hne : some k ≠ p.ownBlock := fun h => by
    obtain ⟨_, cur, hh⟩ := row k h.symm
    unfold Blk at hb
    rw [hb] at hh
    simp at hh
    exact ht (by simp [hh.2])
  have := hg.block k (by simp; omega) hne
  rw [Below.heap_alloc _ _ _ hlt] at this
  exact this.trans hb

/-- bytes as cells -/
def bv (b : UInt8) : Value := .int .u8 (b.toNat : Int)
def bvs (l : List UInt8) : List Value := l.map bv
theorem bvs_append (a b : List UInt8) : bvs (a ++ b) = bvs a ++ bvs b := List.map_append
theorem bvs_length (a : List UInt8) : (bvs a).length = a.length := List.length_map _

theorem strOf_bytes (l : List UInt8) : strOfNums (l.map fun b => (b.toNat : Int)) = ⟨l.toArray⟩ := by
  unfold strOfNums
  simp [List.map_map, Function.comp_def]

theorem convert_owned {P : Program} {w : World} {B : Nat} {p : Value} {n : Nat} {l : List UInt8} (own : w.ownsRow B 5 1 p n (bvs l)) (src e : TypeId) (hs : P.underlying src = some (.slice e)) (he : P.underlying e = some (.int .u8)) (dst : TypeId) (hd : P.underlying dst = some .string) :
    (convert src dst p).run P w = .ok (.string ⟨l.toArray⟩) w := by
  obtain ⟨h1, h2⟩ := own
  rw [bvs_length] at h1
  rcases h2 with ⟨rfl, rfl⟩ | ⟨g, cap, cur, rfl, _, hh, hn, _, hc, ht⟩
  · have : l = [] := by cases l <;> simp_all
    subst this
    rw [run_convert_bytes_nil w src e hs he 0 0 dst hd]; rfl
  · have hb : ∀ i, i < n → w.cell? ⟨g, 0 + i, none⟩ = some (.int .u8 ((l.map fun b => (b.toNat : Int)).getD i 0)) := fun i hi => by
      unfold World.cell?
      rw [show w.heap[(⟨g, 0 + i, none⟩ : Addr).block]? = _ from hh]
      have h3 : (cur.toList.take (n * 1))[i]? = (bvs l)[i]? := by rw [ht]
      rw [List.getElem?_take] at h3
      simp only [Nat.mul_one, hi, if_true] at h3
      have hl : i < l.length := by omega
      simp only [Nat.zero_add]
      have h4 : (bvs l)[i]? = some (bv l[i]) := by simp [bvs, hl]
      rw [h4] at h3
      simp at h3
      simp [h3, bv, hl]
    rw [run_convert_bytes_arg w src e hs he g 0 n cap _ (by simp; omega) hb dst hd, strOf_bytes]

def RetK (B : Nat) (ts : List TypeId) (w : World) (R : Value → World → Prop) (e : Ending) (w' : World) : Prop := ∃ v, e = .returned v ∧ R v w' ∧ Keeps B ts w w'

end Go.Facts

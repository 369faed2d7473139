/- Rows of bytes that grow. -/
import Derived.Test.YtccjlkjadnghgaaDnB2
set_option linter.all false
set_option maxRecDepth 100000
namespace Go.Proofs.Ytccjlkjadnghgaa
open Go.RowKit Go.Sep
theorem row_snoc {v : Value} {k : Nat} {x y : List UInt8} {nw : List Value} {F : List OB} (h : RowH 5 1 v k (x.map bV ++ nw) F) (e : nw = y.map bV) : RowH 5 1 v (x ++ y).length ((x ++ y).map bV) F := by
  subst e
  have hk : k = (x ++ y).length := by have := h.1; simp at this ⊢; omega
  subst hk
  rw [List.map_append]; exact h
theorem row_app {v : Value} {k : Nat} {x y : List UInt8} {F : List OB} (h : RowH 5 1 v k (x.map bV ++ y.map bV) F) : RowH 5 1 v (x ++ y).length ((x ++ y).map bV) F := row_snoc h rfl
theorem bsl_none {I : IM} {l : List UInt8} {n c : Nat} (h : BSl I l (.slice none n c)) : l = [] := by
  obtain ⟨a, c', hv, hc, hr⟩ := h
  cases l with
  | nil => rfl
  | cons x l =>
    obtain ⟨b, o, cs, T, fr, e, _⟩ := hr 0 x rfl
    cases hv; cases e
theorem take_min {l : List UInt8} {m : Nat} : l.take (min l.length m) = l.take m := by
  rcases Nat.le_total l.length m with h | h
  · rw [Nat.min_eq_left h, List.take_length, List.take_of_length_le h]
  · rw [Nat.min_eq_right h]
end Go.Proofs.Ytccjlkjadnghgaa


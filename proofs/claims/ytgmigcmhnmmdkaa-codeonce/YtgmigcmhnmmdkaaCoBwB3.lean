/- Rows of bytes that grow. -/
import Derived.Test.YtgmigcmhnmmdkaaCoBwB2
set_option linter.all false
set_option maxRecDepth 100000
namespace Go.Proofs.Ytgmigcmhnmmdkaa
open Go.RowKit Go.Sep
theorem row_snoc {v : Value} {k : Nat} {x y : List UInt8} {nw : List Value} {F : List OB} (h : RowH 5 1 v k (x.map bV ++ nw) F) (e : nw = y.map bV) : RowH 5 1 v (x ++ y).length ((x ++ y).map bV) F := by
  subst e
  have hk : k = (x ++ y).length := by have := h.1; simp at this ⊢; omega
  subst hk
  rw [List.map_append]; exact h
theorem row_app {v : Value} {k : Nat} {x y : List UInt8} {F : List OB} (h : RowH 5 1 v k (x.map bV ++ y.map bV) F) : RowH 5 1 v (x ++ y).length ((x ++ y).map bV) F := row_snoc h rfl
theorem cell_byte {a : Nat} (h : a < 256) : Value.int .u8 ((a : Nat) : Int) = bV (UInt8.ofNat a) := by
  unfold bV; rw [UInt8.toNat_ofNat_of_lt' h]
end Go.Proofs.Ytgmigcmhnmmdkaa


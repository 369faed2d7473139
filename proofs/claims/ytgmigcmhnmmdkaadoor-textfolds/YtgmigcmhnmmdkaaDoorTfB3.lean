/- Rows of bytes that grow. -/
import Derived.Test.YtgmigcmhnmmdkaaDoorTfB2
set_option linter.all false
set_option maxRecDepth 100000
namespace Go.Proofs.YtgmigcmhnmmdkaaDoor
open Go.RowKit Go.Sep
theorem cell_byte {a : Nat} (h : a < 256) : Value.int .u8 ((a : Nat) : Int) = bV (UInt8.ofNat a) := by
  unfold bV; rw [UInt8.toNat_ofNat_of_lt' h]
theorem cells_bytes1 {a : Nat} (h : a < 256) : [Value.int .u8 ((a : Nat) : Int)] = [bV (UInt8.ofNat a)] := by rw [cell_byte h]
theorem ro_mono {I J : IM} (le : I.Le J) {k : Nat} {o : Obj} (h : I k = some o) : J k = some o := le _ _ h
theorem take_min {l : List UInt8} {m : Nat} : l.take (min l.length m) = l.take m := by
  rcases Nat.le_total l.length m with h | h
  · rw [Nat.min_eq_left h, List.take_length, List.take_of_length_le h]
  · rw [Nat.min_eq_right h]
theorem bsl_litC {I : IM} {b n : Nat} {cs : Array Value} {T : TypeId} {fr : Nat × Nat} {l : List UInt8} {nw : List Value} (h : I b = some (.cells cs T fr)) (hc : cs.toList = nw) (e : nw = l.map bV) (hn : n = l.length) : BSl I l (.slice (some ⟨b, 0, none⟩) n n) := bsl_lit h (hc.trans e) hn
end Go.Proofs.YtgmigcmhnmmdkaaDoor

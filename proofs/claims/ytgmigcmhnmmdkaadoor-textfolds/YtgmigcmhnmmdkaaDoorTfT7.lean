/- Quoted bytes; a builder's calls. -/
import Derived.Test.YtgmigcmhnmmdkaaDoorTfT4
import Derived.Test.YtgmigcmhnmmdkaaDoorTfT5
import Derived.Test.YtgmigcmhnmmdkaaDoorTfX4
set_option linter.all false
set_option maxRecDepth 100000
namespace Go.Proofs.YtgmigcmhnmmdkaaDoor
open Go.RowKit Go.Sep
def quoL (l : List UInt8) : List UInt8 := l.flatMap (fun b => quo b.toNat)
def quoteS (l : List UInt8) : List UInt8 := bif decide (l = []) then [92, 45] else quoL l
theorem quoL_nil : quoL [] = [] := rfl
theorem quoL_cons (b : UInt8) (l : List UInt8) : quoL (b :: l) = quo b.toNat ++ quoL l := by simp [quoL]
theorem quoL_app (a b : List UInt8) : quoL (a ++ b) = quoL a ++ quoL b := by simp [quoL]
theorem take_snoc {l : List UInt8} {i : Nat} (h : i < l.length) : l.take (i + 1) = l.take i ++ [l.getD i 0] := by
  rw [List.take_succ, getD_some h]; rfl
theorem quoL_snoc {l : List UInt8} {i : Nat} (h : i < l.length) : quoL (l.take i) ++ quo (l.getD i 0).toNat = quoL (l.take (i + 1)) := by
  rw [take_snoc h, quoL_app, quoL_cons, quoL_nil, List.append_nil]
theorem quoL_le (l : List UInt8) : (quoL l).length ≤ 3 * l.length := by
  induction l with
  | nil => exact Nat.le_refl _
  | cons b l ih =>
    rw [quoL_cons, List.length_append, List.length_cons]
    have := quo_le b.toNat
    omega
theorem quoteS_e {l : List UInt8} (h : l = []) : ([92, 45] : List UInt8) = quoteS l := by unfold quoteS; rw [decide_eq_true h]; rfl
theorem quoteS_n {l : List UInt8} (h : ¬ l = []) : quoL l = quoteS l := by unfold quoteS; rw [decide_eq_false h]; rfl
theorem rowL_cast {v : Value} {l l2 : List UInt8} {F : List OB} (h : RowH 5 1 v l.length (l.map bV) F) (e : l = l2) : RowH 5 1 v l2.length (l2.map bV) F := e ▸ h
section
variable {w0 : World} {I0 : IM} {I : IM}
theorem wr_str {w : World} {H F : List OB} {b : Nat} {p v0 : Value} {l x : List UInt8} (s : St w0 I0 [] I w (H ++ F)) (hb : (b, .cells #[p, v0] 100) ∈ H) (hp : p = .pointer none ∨ p = .pointer (some ⟨b, 0, none⟩)) (row : RowH 5 1 v0 l.length (l.map bV) F) (hlen : l.length + x.length ≤ 140737488355328) :
    Calls Tryd.prog 58 #[.pointer (some ⟨b, 0, none⟩), .string ⟨x.toArray⟩] w (fun e w' => e = .returned (.tuple #[.int .i64 ((x.length : Nat) : Int), .nilIface]) ∧ (Lib.BuilderAt 100 5 w0.heap.size b (.pointer (some ⟨b, 0, none⟩)) ((l ++ x).map bV) w' ∧ Below w0.heap.size w w')) := by
  have h := Tryd.Builder_WriteString w0.heap.size b (l.map bV) ⟨x.toArray⟩ w (bld_in s hb hp row) (by rw [List.length_map]; exact hlen) s.fr.size
  rw [List.map_append]
  exact h
theorem b_str {w : World} {H F : List OB} {b : Nat} {p v0 : Value} {l : List UInt8} (s : St w0 I0 [] I w (H ++ F)) (hb : (b, .cells #[p, v0] 100) ∈ H) (hp : p = .pointer none ∨ p = .pointer (some ⟨b, 0, none⟩)) (row : RowH 5 1 v0 l.length (l.map bV) F) :
    Calls Tryd.prog 60 #[.pointer (some ⟨b, 0, none⟩)] w (fun e w' => e = .returned (.string ⟨l.toArray⟩) ∧ Below w0.heap.size w w') :=
  Tryd.Builder_String_any w0.heap.size b l w (bld_in s hb hp row) s.fr.size
end
theorem ck0 {l : List UInt8} {k : Nat} (h : l.length ≤ k) : ckE l k = 0 ↔ okS l = true := by
  unfold ckE
  rw [decide_eq_false (by omega)]
  cases okS l <;> simp
theorem take_le (l : List UInt8) (k : Nat) : (l.take k).length ≤ k := by rw [List.length_take]; omega
end Go.Proofs.YtgmigcmhnmmdkaaDoor

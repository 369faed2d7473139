/- Strings: what operations on them answer. -/
import Derived.Test.YtgmigcmhnmmdkaaDoorTfB3
import Derived.Test.YtgmigcmhnmmdkaaDoorTfS11
import Derived.Laws.MakeOwn
import Derived.Lib.TrimUEq
import Derived.Laws.IdiomStrings
set_option linter.all false
set_option maxRecDepth 100000
namespace Go.Proofs.YtgmigcmhnmmdkaaDoor
open Go.RowKit Go.Sep

theorem under9 : Tryd.prog.underlying 9 = some .string := by kernel_rfl
theorem strL_beq (x y : List UInt8) : ((⟨x.toArray⟩ : ByteArray).toList == (⟨y.toArray⟩ : ByteArray).toList) = decide (x = y) := by
  have hx : ∀ l : List UInt8, (⟨l.toArray⟩ : ByteArray).toList = l := fun l => by rw [ByteArray.toList_eq]
  rw [hx, hx]
  exact Bool.beq_eq_decide_eq x y
theorem run_eqS {w : World} {t : TypeId} {x y : List UInt8} : (binOp .eql t (.string ⟨x.toArray⟩) (.string ⟨y.toArray⟩)).run Tryd.prog w = .ok (.bool (decide (x = y))) w := by
  show (Op.stringOp .eql _ _).run Tryd.prog w = _
  unfold Op.stringOp
  simp only [strL_beq]; rfl
theorem take_string {s : List UInt8} {hi : Nat} : (⟨s.toArray⟩ : ByteArray).extract 0 hi = ⟨(s.take hi).toArray⟩ := by
  apply ByteArray.ext
  rw [ByteArray.data_extract]
  apply Array.ext'
  simp only [Array.toList_extract, List.extract_eq_take_drop]
  simp
theorem mid_string {s : List UInt8} {lo hi : Nat} : (⟨s.toArray⟩ : ByteArray).extract lo hi = ⟨((s.drop lo).take (hi - lo)).toArray⟩ := by
  apply ByteArray.ext
  rw [ByteArray.data_extract]
  apply Array.ext'
  simp only [Array.toList_extract, List.extract_eq_take_drop]
theorem run_takeS {w : World} {s : List UInt8} {hi : Nat} (h : hi ≤ s.length) :
    (Instr.sliceAt 9 (.string ⟨s.toArray⟩) none (some (.int .i64 ((hi : Nat) : Int))) none).run Tryd.prog w = .ok (.string ⟨(s.take hi).toArray⟩) w := by
  rw [run_sliceStrTo under9 (by exact h), take_string]
theorem run_idxK {w : World} {s : List UInt8} {i : Nat} {kd : IntKind} (h : i < s.length) :
    (Instr.index 9 (.string ⟨s.toArray⟩) (.int kd ((i : Nat) : Int))).run Tryd.prog w = .ok (.int .u8 (((s.getD i 0).toNat : Nat) : Int)) w := by
  have hb : (⟨s.toArray⟩ : ByteArray)[i]? = some (s.getD i 0) := by
    have hl : i < (⟨s.toArray⟩ : ByteArray).size := h
    rw [getElem?_pos _ i hl]
    show some (s.toArray[i]) = _
    simp [h]
  simp [Instr.index, asIntOf, run_underlying under9, hb]
/-- a range over a string begins -/
theorem range_new {w0 : World} {I0 : IM} {m : List Nat} {I : IM} {w : World} {H : List OB} (s : St w0 I0 m I w (H ++ [])) (x : ByteArray) :
    ∃ k w', (Instr.range 9 (.string x)).run Tryd.prog w = .ok (.pointer (some ⟨k, 0, none⟩)) w' ∧ St w0 I0 m I w' ((H ++ [(k, .stringIter x 0)]) ++ []) := by
  rw [List.append_nil] at s
  refine ⟨w.heap.size, { w with heap := w.heap.push (.stringIter x 0) }, ?_, ?_⟩
  · simp [Instr.range, run_underlying under9, newObj, Sem.run]
  · rw [List.append_nil]; exact s.push _
/-- the sign at a place, and how many bytes it has -/
def dR (l : List UInt8) (p : Nat) : Nat := (Lib.decodeL (l.drop p)).1
def dW (l : List UInt8) (p : Nat) : Nat := (Lib.decodeL (l.drop p)).2
theorem dec_at (l : List UInt8) (p : Nat) : Utf8.decode ⟨l.toArray⟩ p = Lib.decodeL (l.drop p) := (Lib.decodeL_drop ⟨l.toArray⟩ p).symm
theorem next_own {w0 : World} {I0 : IM} {m : List Nat} {I : IM} {w : World} {k pos : Nat} {l : List UInt8} {ty : TypeId} (s : St w0 I0 m I w ([(k, .stringIter ⟨l.toArray⟩ pos)] ++ [])) (h : pos < l.length) :
    ∃ w', (Instr.next (.pointer (some ⟨k, 0, none⟩)) true ty).run Tryd.prog w = .ok (.tuple #[.bool true, .int .i64 ((pos : Nat) : Int), .int .i32 ((dR l pos : Nat) : Int)]) w' ∧ St w0 I0 m I w' ([(k, .stringIter ⟨l.toArray⟩ (pos + dW l pos))] ++ []) := by
  rw [List.append_nil] at s
  have hk : w.heap[k]? = some (.stringIter ⟨l.toArray⟩ pos) := s.own (k, _) (by simp)
  have hlt : k < w.heap.size := heap_lt hk
  have hp : pos < (⟨l.toArray⟩ : ByteArray).size := h
  refine ⟨{ w with heap := w.heap.set k (.stringIter ⟨l.toArray⟩ (pos + dW l pos)) hlt }, ?_, ?_⟩
  · simp only [Instr.next, getObj, setObj, Sem.run_bind, Sem.run, hk, Result.andThen, hp, if_true, dec_at]
    simp [goInt, hlt, dR, dW, Array.setIfInBounds]
  · rw [List.append_nil]
    have := St.set (i := 0) (k := k) (o' := .stringIter ⟨l.toArray⟩ (pos + dW l pos)) (w' := { w with heap := w.heap.set k (.stringIter ⟨l.toArray⟩ (pos + dW l pos)) hlt }) s rfl rfl rfl rfl (by simp) (by simp) (fun q hq => by
      simp only [Array.getElem?_set]; rw [if_neg (fun h => hq h.symm)])
    exact this
theorem next_end {w0 : World} {I0 : IM} {m : List Nat} {I : IM} {w : World} {k pos : Nat} {l : List UInt8} {ty : TypeId} (s : St w0 I0 m I w ([(k, .stringIter ⟨l.toArray⟩ pos)] ++ [])) (h : ¬ pos < l.length) :
    (Instr.next (.pointer (some ⟨k, 0, none⟩)) true ty).run Tryd.prog w = .ok (.tuple #[.bool false]) w := by
  have hk : w.heap[k]? = some (.stringIter ⟨l.toArray⟩ pos) := s.own (k, _) (by simp)
  have hp : ¬ pos < (⟨l.toArray⟩ : ByteArray).size := h
  simp [Instr.next, getObj, Sem.run, hk, hp]
/-- bytes that are never written, as a string -/
theorem run_toS {I : IM} {w : World} (hs : I.Sub w) {l : List UInt8} {a : Option Addr} {n c : Nat} (h : BSl I l (.slice a n c)) : (convert 22 9 (.slice a n c)).run Tryd.prog w = .ok (.string ⟨l.toArray⟩) w := by
  obtain ⟨a', c', hv, hc, hr⟩ := h
  cases hv
  cases a with
  | none =>
    have : l = [] := by
      cases l with
      | nil => rfl
      | cons y l => obtain ⟨b, o, cs, T, fr, e, _⟩ := hr 0 y rfl; cases e
    subst this
    rw [run_convert_bytes_string w 22 9 5 none _ c under22 under5 under9]
    simp [Conv.bytesToString]; rfl
  | some x =>
    refine run_convert_bytes_back w 22 9 5 x c l under22 under5 under9 fun j hj => ?_
    obtain ⟨b', o', cs', T', fr', e1, e2, e3⟩ := hr j l[j] (by simp [hj])
    cases e1
    rw [addr_addO, run_cell (a := ⟨b', o' + j, none⟩) (hs _ _ e2) rfl rfl]
    exact e3
end Go.Proofs.YtgmigcmhnmmdkaaDoor

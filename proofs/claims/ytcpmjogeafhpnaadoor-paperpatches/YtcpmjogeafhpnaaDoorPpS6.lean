/-
  Numbers brought to Nat.
-/
import Derived.Test.YtcpmjogeafhpnaaDoorPpS5
set_option linter.all false
namespace Go.Sep
open Go.RowKit
theorem wrapU64 {x : Int} (h0 : 0 ≤ x) (h1 : x < 18446744073709551616) : IntKind.wrap .u64 x = x := by
  simp only [IntKind.wrap, IntKind.signed, IntKind.bits]
  simp
  omega
theorem wrapI64 {x : Int} (h0 : -9223372036854775808 ≤ x) (h1 : x < 9223372036854775808) : IntKind.wrap .i64 x = x := by
  simp only [IntKind.wrap, IntKind.signed, IntKind.bits]
  simp
  omega
theorem nat_addU {a b : Nat} (h : a + b < 18446744073709551616) : IntKind.wrap .u64 ((a : Int) + (b : Int)) = ((a + b : Nat) : Int) := by
  rw [wrapU64 (by omega) (by omega)]; omega
theorem nat_addI {a b : Nat} (h : a + b < 9223372036854775808) : IntKind.wrap .i64 ((a : Int) + (b : Int)) = ((a + b : Nat) : Int) := by
  rw [wrapI64 (by omega) (by omega)]; omega
theorem nat_mulI {a b : Nat} (h : a * b < 9223372036854775808) : IntKind.wrap .i64 ((a : Int) * (b : Int)) = ((a * b : Nat) : Int) := by
  rw [← Int.natCast_mul, wrapI64 (by omega) (by omega)]
theorem nat_min {a b : Nat} : (if (b : Int) < (a : Int) then (b : Int) else (a : Int)) = ((min a b : Nat) : Int) := by split <;> omega
theorem nat_eql {a b : Nat} : ((a : Int) == (b : Int)) = decide (a = b) := by
  by_cases h : a = b
  · subst h; simp
  · have : (a : Int) ≠ (b : Int) := by omega
    simp [h, this]
theorem nat_neq {a b : Nat} : ((a : Int) != (b : Int)) = decide (a ≠ b) := by
  by_cases h : a = b
  · subst h; simp
  · have : (a : Int) ≠ (b : Int) := by omega
    simp [h, this]
theorem nat_lss {a b : Nat} : decide ((a : Int) < (b : Int)) = decide (a < b) := by simp
theorem nat_gtr {a b : Nat} : decide ((a : Int) > (b : Int)) = decide (b < a) := by simp
theorem nat_geq {a b : Nat} : decide ((a : Int) ≥ (b : Int)) = decide (b ≤ a) := by simp
theorem nat_wrapI {a : Nat} (h : a < 9223372036854775808) : IntKind.wrap .i64 (a : Int) = (a : Int) := wrapI64 (by omega) (by omega)
theorem nat_wrapU {a : Nat} (h : a < 18446744073709551616) : IntKind.wrap .u64 (a : Int) = (a : Int) := wrapU64 (by omega) (by omega)
theorem erase_perm {α : Type} : ∀ (H : List α) (i : Nat) (x : α), H[i]? = some x → (x :: H.eraseIdx i).Perm H
  | [], i, x, h => by simp at h
  | y :: H, 0, x, h => by simp at h; subst h; exact List.Perm.refl _
  | y :: H, i + 1, x, h => by
    have ih := erase_perm H i x (by simpa using h)
    rw [List.eraseIdx_cons_succ]
    exact (List.Perm.swap y x _).trans (ih.cons y)
/-- A block of one's own is never written from now on. -/
theorem St.freezeAt {w0 : World} {I0 : IM} {m : List Nat} {I : IM} {w : World} {H : List OB} (s : St w0 I0 m I w H) (i k : Nat) (o : Obj) (H' : List OB) (hi : H[i]? = some (k, o)) (hH : H.eraseIdx i = H') :
    ∃ I', I.Le I' ∧ I' k = some o ∧ St w0 I0 m I' w H' := by
  subst hH
  have hp := erase_perm H i _ hi
  have s' := s.perm hp.symm
  exact ⟨I.add k o, IM.le_add (s'.free _ (List.mem_cons_self ..)) o, IM.add_self I k o, s'.freeze⟩
end Go.Sep

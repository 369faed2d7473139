/- The scanner: take, mayPair. -/
import Derived.Test.YtkfncjaomgcdgaaW5
import Derived.Deep.QuietTactic
import Derived.BigQuiet
import Derived.Deep.LoopGhost
set_option linter.all false
namespace Go.Proofs.Ytkfncjaomgcdgaa
open Go.RowKit Go.Facts

theorem drewN_ext (w : World) (n : Nat) : Ext w (w.drewN n) := ⟨rfl, rfl, rfl, Nat.le_refl _, fun _ _ => rfl⟩
theorem stored_after {w w1 W : World} {k : Nat} {cs : List Value} {t : TypeId} (e : Ext w w1) (hs : w1.heap.size = w.heap.size) (h : Stored w1 W k cs t) : Stored w W k cs t :=
  ⟨h.blk, fun hb hne => h.keep (hb.ext e) hne, fun ts ht => (imm_of_ext e).trans (h.imm ts ht), fun {B v} hB hk => h.below (hB.trans ⟨e.os, e.tape, e.output, e.size, fun i _ => by
    rcases Nat.lt_or_ge i w.heap.size with h' | h'
    · exact e.block i h'
    · rw [Array.getElem?_eq_none h', Array.getElem?_eq_none (by omega)]⟩) hk, h.size.trans hs⟩

theorem drop_cons {s : ByteArray} {i : Nat} {x : UInt8} {r : List UInt8} (h : s.data.toList.drop i = x :: r) : ∃ hi : i < s.size, s[i] = x ∧ s.data.toList.drop (i + 1) = r := by
  have hi : i < s.data.toList.length := by
    rcases Nat.lt_or_ge i s.data.toList.length with h' | h'
    · exact h'
    · rw [List.drop_eq_nil_of_le h'] at h; cases h
  have h2 := List.drop_eq_getElem_cons hi
  rw [h] at h2
  simp only [List.cons.injEq] at h2
  exact ⟨by simpa using hi, by rw [h2.1]; rfl, h2.2.symm⟩
theorem drop_nil {s : ByteArray} {i : Nat} (h : s.data.toList.drop i = []) : s.size ≤ i := by
  simpa using h

set_option maxRecDepth 100000 in
set_option maxHeartbeats 1000000 in
theorem take_y {k i d : Nat} {s : ByteArray} {L : Value} {c : Int} {x : UInt8} {r : List UInt8} {w : World} (g : Blk w k [.string s, .int .i64 i, L, .int .i64 d] 79) (hs : s.size ≤ 1000000000000) (hr : s.data.toList.drop i = x :: r) (hx : (x.toNat : Int) = c) :
    Calls Try.prog 54 #[.pointer (some ⟨k, 0, none⟩), .int .u8 c] w fun e w' => e = .returned (.bool true) ∧ Stored w w' k [.string s, .int .i64 (i + 1 : Nat), L, .int .i64 d] 79 := by
  obtain ⟨hi, h1, _⟩ := drop_cons hr
  have hc : ((s[i].toNat : Int) != c) = false := by rw [h1, hx]; simp
  clear hr hx h1
  have e0 := g.c 0 rfl; have e1 := g.c 1 rfl
  have f1 := g.f 1
  have hne : ((i : Int) == (s.size : Int)) = false := beq_eq_false_iff_ne.2 (by omega)
  have hii : (i : Int) < (s.size : Int) := by omega
  go_enter Try.func54, Try.ntmps54
  go_wp2_with fail
  go_quiet (fail)
  go_wp2_with fail
  go_ret
  exact ⟨rfl, stored_after (drewN_ext w nq) rfl (stored1 (g.ext (drewN_ext w nq)) 1 _)⟩

set_option maxRecDepth 100000 in
set_option maxHeartbeats 1000000 in
theorem take_n1 {k i d : Nat} {s : ByteArray} {L : Value} {c : Int} {x : UInt8} {r : List UInt8} {w : World} (g : Blk w k [.string s, .int .i64 i, L, .int .i64 d] 79) (hs : s.size ≤ 1000000000000) (hr : s.data.toList.drop i = x :: r) (hx : (x.toNat : Int) ≠ c) :
    Calls Try.prog 54 #[.pointer (some ⟨k, 0, none⟩), .int .u8 c] w fun e w' => e = .returned (.bool false) ∧ Ext w w' := by
  obtain ⟨hi, h1, _⟩ := drop_cons hr
  have hc : ((s[i].toNat : Int) != c) = true := by rw [h1]; simpa using hx
  clear hr hx h1
  have e0 := g.c 0 rfl; have e1 := g.c 1 rfl
  have hne : ((i : Int) == (s.size : Int)) = false := beq_eq_false_iff_ne.2 (by omega)
  have hii : (i : Int) < (s.size : Int) := by omega
  go_enter Try.func54, Try.ntmps54
  go_wp2_with fail
  go_quiet (fail)
  go_wp2_with fail
  go_ret
  exact ⟨rfl, drewN_ext w nq⟩

set_option maxRecDepth 100000 in
set_option maxHeartbeats 1000000 in
theorem take_n2 {k i d : Nat} {s : ByteArray} {L : Value} {c : Int} {w : World} (g : Blk w k [.string s, .int .i64 i, L, .int .i64 d] 79) (hs : s.size ≤ 1000000000000) (hi : i = s.size) :
    Calls Try.prog 54 #[.pointer (some ⟨k, 0, none⟩), .int .u8 c] w fun e w' => e = .returned (.bool false) ∧ Ext w w' := by
  have e0 := g.c 0 rfl; have e1 := g.c 1 rfl
  have hne : ((i : Int) == (s.size : Int)) = true := beq_iff_eq.2 (by omega)
  clear hi
  go_enter Try.func54, Try.ntmps54
  go_wp2_with fail
  go_quiet (fail)
  go_wp2_with fail
  go_ret
  exact ⟨rfl, drewN_ext w nq⟩

/-- not taken: the text does not go on with that sign -/
theorem take_n {k i d : Nat} {s : ByteArray} {L : Value} {c : Int} {w : World} (g : Blk w k [.string s, .int .i64 i, L, .int .i64 d] 79) (hs : s.size ≤ 1000000000000) (hi : i ≤ s.size) (hr : ∀ x r, s.data.toList.drop i = x :: r → (x.toNat : Int) ≠ c) :
    Calls Try.prog 54 #[.pointer (some ⟨k, 0, none⟩), .int .u8 c] w fun e w' => e = .returned (.bool false) ∧ Ext w w' := by
  cases h : s.data.toList.drop i with
  | nil => exact take_n2 g hs (by have := drop_nil h; omega)
  | cons x r => exact take_n1 g hs h (hr x r h)

def mayB (l r : UInt8) : Bool := l != r || l == 40
set_option maxHeartbeats 1000000 in
theorem mayPair_c (l r : UInt8) (w : World) : Calls Try.prog 55 #[bv l, bv r] w fun e w' => e = .returned (.bool (mayB l r)) ∧ w = w' := by
  unfold bv mayB
  by_cases h : l = r
  · subst h
    have h1 : ((l.toNat : Int) != (l.toNat : Int)) = false := by simp
    have h2 : ((l.toNat : Int) == 40) = (l == 40) := by
      rw [Bool.eq_iff_iff]; simp only [beq_iff_eq]
      constructor
      · intro h; exact UInt8.toNat_inj.1 (by simpa using (show l.toNat = 40 by omega))
      · intro h; rw [h]; rfl
    go_enter Try.func55, Try.ntmps55
    go_wp2
    go_ret
    exact ⟨by simp, rfl⟩
  · have h1 : ((l.toNat : Int) != (r.toNat : Int)) = true := by
      rw [bne_iff_ne]; intro e; exact h (UInt8.toNat_inj.1 (by omega))
    have h3 : (l != r) = true := by simpa using h
    go_enter Try.func55, Try.ntmps55
    go_wp2
    go_ret
    exact ⟨by rw [h3]; rfl, rfl⟩

end Go.Proofs.Ytkfncjaomgcdgaa

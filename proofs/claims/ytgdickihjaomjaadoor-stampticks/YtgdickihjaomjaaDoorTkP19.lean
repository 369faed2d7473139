/- StampGrows. -/
import Derived.Test.YtgdickihjaomjaaDoorTkP18
set_option linter.all false
set_option maxRecDepth 100000
namespace Go.Proofs.YtgdickihjaomjaaDoor
open Go.RowKit Go.Sep

theorem rgrow_c : ∀ (n : Nat) {I : IM} {i : T} {e : E} {ki ke : Nat}, n ≤ 1000 → i.live → kindT i ≠ 0 → i.depth + e.depth < n → e.nf → e.top + 1 < 18446744073709551616 → RT I i ki → RE I e ke → Fun Tryd.prog 56 #[.pointer (some ⟨ki, 0, none⟩), .pointer (some ⟨ke, 0, none⟩)] I (fun v J => ∃ k, v = .tuple #[.pointer (some ⟨k, 0, none⟩), .int .i64 (((growD n i e).2 : Nat) : Int)] ∧ RE J (growD n i e).1 k)
  | 0, _, _, _, _, _, _, _, _, h, _, _, _, _ => by omega
  | n + 1, I, i, e, _, _, hn, hl, hz, h, hnf, ht, hi, he => by
    have hz' := kind_nz hz
    have hh := T.live_half hl
    have hn2 := E.half_nf hnf
    have hle := E.half_le e
    refine rgrow_step hi he hnf ht (by omega) (fun k q => ?_) (fun ha nz {J} {k1 k2} a b => ?_) (fun ha nz {J} {k1 k2} a b => ?_)
    · have := T.live_or hl hz'
      rw [kind_zero'.2 k, kind_zero'.2 q] at this
      simp at this
    · have ha' : (i.isOne && e.isLeaf) = false := by
        cases h1 : i.isOne
        · rfl
        · cases h2 : e.isLeaf
          · rfl
          · exact absurd ⟨kind_one.1 h1, h2⟩ ha
      exact rgrow_c n (by omega) hh.1 nz (go_on hz' ha' h).1 hn2.1 (by omega) a b
    · have ha' : (i.isOne && e.isLeaf) = false := by
        cases h1 : i.isOne
        · rfl
        · cases h2 : e.isLeaf
          · rfl
          · exact absurd ⟨kind_one.1 h1, h2⟩ ha
      exact rgrow_c n (by omega) hh.2 nz (go_on hz' ha' h).2 hn2.2 (by omega) a b
end Go.Proofs.YtgdickihjaomjaaDoor

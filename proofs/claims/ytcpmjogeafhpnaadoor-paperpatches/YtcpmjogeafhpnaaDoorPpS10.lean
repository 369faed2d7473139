/-
  Blocks that are handed over with a row; rows that are read, written and cut; strings as lists.
-/
import Derived.Test.YtcpmjogeafhpnaaDoorPpS9
set_option linter.all false
namespace Go.Sep
open Go.RowKit

section
variable {w0 : World} {I0 : IM} {m : List Nat} {I : IM} {P : Program} {Q : Exit → Act → World → Prop}
/-- RULE: .. the first block alone. -/
theorem callB_rule {N : Nat} {ops : Array Oper} {ev : Ev} {l : List Oper} {b : OB} {H Hr F : List OB} {w : World} {f : FuncId} {args : Array Value} {R : Value → IM → OB → Prop} (d : Option Tmp) (q : Nat)
    (s : St w0 I0 m I w (H ++ F)) (hb : H[q]? = some b) (hr : H.eraseIdx q = Hr) (hf : FunM P f args I [b] (fun v J H' => ∃ b', H' = [b'] ∧ b'.1 = b.1 ∧ R v J b')) (h : callOf P N ops ev l = some (f, args, d))
    (k : ∀ v I' w' b', I.Le I' → b'.1 = b.1 → R v I' b' → St w0 I0 m I' w' ((b' :: Hr) ++ F) → wpList P ops Q l.tail (ActOf N (putE d v ev)) w') : wpList P ops Q l (ActOf N ev) w := by
  have hp : (H ++ F).Perm ([b] ++ (Hr ++ F)) := by
    have h1 : H.Perm (b :: Hr) := by
      rw [← hr]
      exact (erase_perm H q b hb).symm
    exact (List.Perm.append_right F h1)
  refine callM_rule d (s.perm hp) hf h fun v I' w' H' le r st => ?_
  obtain ⟨b', rfl, hb1, hR⟩ := r
  exact k v I' w' b' le hb1 hR st
end

/-- a row's cell is read -/
theorem row_cell {w0 : World} {I0 : IM} {m : List Nat} {I : IM} {H F : List OB} {w : World} (s : St w0 I0 m I w (H ++ F)) {e : TypeId} {size g n cap j : Nat} {xs : List Value} {v : Value} (hrow : RowH e size (.slice (some ⟨g, 0, none⟩) n cap) n xs F) (hv : xs[j]? = some v) : w.cell? ⟨g, j, none⟩ = some v := by
  rcases hrow.2 with ⟨h, _⟩ | ⟨g', cap', cur, h, hF, _, _, _, ht⟩
  · cases h
  · cases h
    subst hF
    have hg := s.own (g, .cells cur e) (by simp)
    rw [run_cell (a := ⟨g, j, none⟩) hg rfl rfl]
    rw [← ht, List.getElem?_take] at hv
    split at hv
    · simpa using hv
    · cases hv
theorem row_some {e : TypeId} {size n : Nat} {v : Value} {xs : List Value} {F : List OB} (h : RowH e size v n xs F) (hn : 0 < n) : ∃ g cap, v = .slice (some ⟨g, 0, none⟩) n cap := by
  rcases h.2 with ⟨_, h0, _⟩ | ⟨g, cap, cur, hv, _⟩
  · omega
  · exact ⟨g, cap, hv⟩
/-- a row is cut -/
theorem RowH.take {e : TypeId} {size n k g cap : Nat} {xs : List Value} {F : List OB} (h : RowH e size (.slice (some ⟨g, 0, none⟩) n cap) n xs F) (hk : k ≤ n) : RowH e size (.slice (some ⟨g, 0, none⟩) k cap) k (xs.take (k * size)) F := by
  have hl := h.1
  rcases h.2 with ⟨h, _⟩ | ⟨g', cap', cur, hv, hF, hnc, hcm, hcs, ht⟩
  · cases h
  · cases hv
    have hm : k * size ≤ n * size := Nat.mul_le_mul_right _ hk
    refine ⟨by rw [List.length_take]; omega, .inr ⟨g, cap, cur, rfl, hF, by omega, hcm, hcs, ?_⟩⟩
    rw [← ht, List.take_take, Nat.min_eq_left hm]
end Go.Sep

/-
  Blocks that are handed over with a row; rows that are read, written and cut; strings as lists.
-/
import Derived.Test.YtcpmjogeafhpnaaDoorCoS9
set_option linter.all false
namespace Go.Sep
open Go.RowKit

section
variable {w0 : World} {I0 : IM} {m : List Nat} {I : IM} {P : Program} {Q : Exit → Act → World → Prop}
end

/-- a row's cell is read -/
theorem row_cell {w0 : World} {I0 : IM} {m : List Nat} {I : IM} {H F : List OB} {w : World} (s : St w0 I0 m I w (H ++ F)) {e : TypeId} {size g n cap j : Nat} {xs : List Value} {v : Value} (hrow : RowH e size (.slice (some ⟨g, 0, none⟩) n cap) n xs F) (hv : xs[j]? = some v) : w.cell? ⟨g, j, none⟩ = some v := by
  rcases hrow.2 with ⟨h, _⟩ | ⟨g', cap', cur, h, hF, _, _, _, ht⟩
  · cases h
  · cases h
    subst hF
    have hg := s.own (g, .cells cur e) (by simp)
    rw [run_cell (a := ⟨g, j, none⟩) hg rfl rfl]
    rw [← ht, List.getElem?_take] at hv
    split at hv
    · simpa using hv
    · cases hv
theorem row_some {e : TypeId} {size n : Nat} {v : Value} {xs : List Value} {F : List OB} (h : RowH e size v n xs F) (hn : 0 < n) : ∃ g cap, v = .slice (some ⟨g, 0, none⟩) n cap := by
  rcases h.2 with ⟨_, h0, _⟩ | ⟨g, cap, cur, hv, _⟩
  · omega
  · exact ⟨g, cap, hv⟩
/-- a row is cut -/
theorem RowH.take {e : TypeId} {size n k g cap : Nat} {xs : List Value} {F : List OB} (h : RowH e size (.slice (some ⟨g, 0, none⟩) n cap) n xs F) (hk : k ≤ n) : RowH e size (.slice (some ⟨g, 0, none⟩) k cap) k (xs.take (k * size)) F := by
  have hl := h.1
  rcases h.2 with ⟨h, _⟩ | ⟨g', cap', cur, hv, hF, hnc, hcm, hcs, ht⟩
  · cases h
  · cases hv
    have hm : k * size ≤ n * size := Nat.mul_le_mul_right _ hk
    refine ⟨by rw [List.length_take]; omega, .inr ⟨g, cap, cur, rfl, hF, by omega, hcm, hcs, ?_⟩⟩
    rw [← ht, List.take_take, Nat.min_eq_left hm]
theorem drop_string {s : List UInt8} {lo : Nat} : (⟨s.toArray⟩ : ByteArray).extract lo (⟨s.toArray⟩ : ByteArray).size = ⟨(s.drop lo).toArray⟩ := by
  apply ByteArray.ext
  have : (⟨s.toArray⟩ : ByteArray).size = s.length := rfl
  rw [this]
  rw [ByteArray.data_extract]
  apply Array.ext'
  simp only [Array.toList_extract, List.extract_eq_take_drop]
  exact List.take_of_length_le (by rw [List.length_drop]; exact Nat.le_refl _)
theorem run_dropStr {P : Program} {w : World} {t : TypeId} {s : List UInt8} {lo : Nat} (ht : P.underlying t = some .string) (h1 : lo ≤ s.length) :
    (Instr.sliceAt t (.string ⟨s.toArray⟩) (some (.int .i64 ((lo : Nat) : Int))) none none).run P w = .ok (.string ⟨(s.drop lo).toArray⟩) w := by
  rw [run_sliceStrFrom ht (by exact h1), drop_string]
end Go.Sep

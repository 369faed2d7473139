/- Fold's calls. -/
import Derived.Test.YtgmigcmhnmmdkaaDoorTfT11
import Derived.Test.YtgmigcmhnmmdkaaDoorTfX6
import Derived.Test.YtgmigcmhnmmdkaaDoorTfShelfD
import Derived.WalkKit
set_option linter.all false
set_option maxRecDepth 100000
namespace Go.Proofs.YtgmigcmhnmmdkaaDoor
open Go.RowKit Go.Sep
theorem blank_calls (x : Nat) (W : World) : Calls Tryd.prog 57 #[.int .i32 ((x : Nat) : Int)] W fun e w' => e = .returned (.bool (pB x)) ∧ ∃ q, w' = W.drewN q := by
  have e : (((x : Nat) : Int) == 32) = pB x := by
    unfold pB
    by_cases h : x = 32
    · subst h; rfl
    · rw [decide_eq_false h]; simp; omega
  rw [← e]
  go_enter Tryd.func57, Tryd.ntmps57
  go_wp2
  go_ret
  exact ⟨by rw [e]; rfl, 0, rfl⟩
theorem blank_enters : ∀ args w, (callFunc 57 args).run Tryd.prog w = .ok (.enter 57 args) w := enters_of Tryd.func57 (by kernel_rfl) rfl
def fN (l : List UInt8) : Nat := (Lib.goFieldsP pB ⟨l.toArray⟩).length
theorem wd_cnt : ∀ (l acc : List UInt8), (wd acc l).length ≤ l.length + 1
  | [], acc => by
    by_cases h : acc = []
    · subst h; simp [wd]
    · simp [wd, h]
  | b :: l, acc => by
    unfold wd
    have h1 := wd_cnt l []
    have h2 := wd_cnt l (acc ++ [b])
    split
    · split
      · rw [List.length_cons]; omega
      · rw [List.length_cons, List.length_cons]; omega
    · rw [List.length_cons]; omega
theorem fN_le (l : List UInt8) : fN l ≤ l.length + 1 := by
  have := wd_cnt l []
  rw [← fields_wd, List.length_map] at this; exact this
theorem fields_c {I : IM} {l : List UInt8} (hn : l.length ≤ 1000000) : Fun Tryd.prog 56 #[.string ⟨l.toArray⟩, .func (.func 57) #[] #[]] I (fun v J => ∃ A cur, v = .slice (some ⟨A, 0, none⟩) (fN l) (fN l) ∧ J A = some (.cells cur 9) ∧ cur.toList.take (fN l) = (Lib.goFieldsP pB ⟨l.toArray⟩).map Value.string) := fun w hw => by
  refine (Tryd.strings_FieldsFunc_runes 57 #[] blank_enters pB ⟨l.toArray⟩ w (show l.length ≤ 4294967296 by omega) (fun W x _ _ => blank_calls x W)).mono ?_
  rintro e w' ⟨A, rfl, hA, hrow, b⟩
  rcases hrow.2 with ⟨h, _⟩ | ⟨g, cap, cur, hv, hg2, hg, hnc, hcm, hcs, ht⟩
  · cases h
  · cases hv
    refine ⟨_, I.add A (.cells cur 9), [], rfl, ⟨fun k o e => ?_, ?_, fun k hk _ => ?_, ⟨b.os, b.tape, b.output, b.size, fun k hk _ => b.block k hk⟩, by simp, by simp, by simp, by simp⟩, A, cur, rfl, IM.add_self _ _ _, ?_⟩
    · unfold IM.add at e
      split at e
      · rename_i q; subst q; cases e; exact hg
      · exact (b.block k (hw.lt e)).trans (hw k o e)
    · refine IM.le_add ?_ _
      cases q : I A with
      | none => rfl
      | some o => exact absurd (hw.lt q) (by omega)
    · unfold IM.add; rw [if_neg (by omega)]
    · rw [Nat.mul_one] at ht; exact ht
theorem join_c {J : IM} {A : Nat} {cur : Array Value} {l : List UInt8} (hn : l.length ≤ 1000000) (hA : J A = some (.cells cur 9)) (hc : cur.toList.take (fN l) = (Lib.goFieldsP pB ⟨l.toArray⟩).map Value.string) :
    Fun Tryd.prog 55 #[.slice (some ⟨A, 0, none⟩) (fN l) (fN l), .string ⟨([32] : List UInt8).toArray⟩] J (fun v _ => v = .string ⟨(fldS l).toArray⟩) := fun w hw => by
  have hl := fN_le l
  have hf := fldS_len l
  have e0 : Lib.join ((Lib.goFieldsP pB ⟨l.toArray⟩).map (·.data.toList)) [32] = fldS l := by rw [fields_wd]; rfl
  refine (Tryd.strings_Join A 0 (fN l) (Lib.goFieldsP pB ⟨l.toArray⟩) ⟨([32] : List UInt8).toArray⟩ w (fun j x hx => ?_) (hw.lt hA) (show fN l ≤ _ by omega) (Nat.le_refl _) (by
    show (Lib.join ((Lib.goFieldsP pB ⟨l.toArray⟩).map (·.data.toList)) [32]).length ≤ _
    rw [e0]; omega)).mono ?_
  · rw [run_cell (a := ⟨A, 0 + j, none⟩) (hw _ _ hA) rfl rfl]
    have hj : j < fN l := (List.getElem?_eq_some_iff.1 hx).1
    have h2 : (cur.toList.take (fN l))[j]? = some (.string x) := by rw [hc, List.getElem?_map, hx]; rfl
    rw [List.getElem?_take, if_pos hj] at h2
    rw [Nat.zero_add]; simpa using h2
  · rintro e w' ⟨rfl, b⟩
    exact ⟨_, J, [], rfl, st_below hw b, by
      show Value.string ⟨(Lib.join ((Lib.goFieldsP pB ⟨l.toArray⟩).map (·.data.toList)) [32]).toArray⟩ = _
      rw [e0]⟩
end Go.Proofs.YtgmigcmhnmmdkaaDoor

/- Texts that are joined, and cut. -/
import Derived.Test.YtgmigcmhnmmdkaaDoorTfT2
set_option linter.all false
set_option maxRecDepth 100000
namespace Go.Proofs.YtgmigcmhnmmdkaaDoor
open Go.RowKit Go.Sep Go.Lib
set_option maxHeartbeats 2000000 in
theorem decN_ext {n b0 b1 b2 b3 r w n' b1' b2' b3' : Nat} (h : decodeN n b0 b1 b2 b3 = (r, w)) (hb : ¬ (r = 65533 ∧ w = 1)) (hn : w ≤ n') (e1 : 1 < w → b1' = b1) (e2 : 2 < w → b2' = b2) (e3 : 3 < w → b3' = b3) : decodeN n' b0 b1' b2' b3' = (r, w) := by
  rcases decodeN_shape n b0 b1 b2 b3 with ⟨c, e⟩ | ⟨c1, c2, c3, cv, e⟩ | ⟨c1, c2, c3, c4, cv, cs, e⟩ | ⟨c1, c2, c3, c4, c5, cv, cw, e⟩ | e
  · rw [e] at h; obtain ⟨rfl, rfl⟩ := Prod.mk.inj h
    unfold decodeN; rw [if_pos c]
  · rw [e] at h; obtain ⟨h1, h2⟩ := Prod.mk.inj h
    subst h2
    rw [e1 (by omega)]
    unfold decodeN
    rw [if_neg (by omega), if_pos (by omega), if_pos (by omega), h1]
  · rw [e] at h; obtain ⟨h1, h2⟩ := Prod.mk.inj h
    subst h2
    rw [e1 (by omega), e2 (by omega)]
    unfold decodeN
    rw [if_neg (by omega), if_neg (by omega), if_pos (by omega), if_pos (by omega), h1]
  · rw [e] at h; obtain ⟨h1, h2⟩ := Prod.mk.inj h
    subst h2
    rw [e1 (by omega), e2 (by omega), e3 (by omega)]
    unfold decodeN
    rw [if_neg (by omega), if_neg (by omega), if_neg (by omega), if_pos (by omega), if_pos (by omega), h1]
  · rw [e] at h; obtain ⟨h1, h2⟩ := Prod.mk.inj h
    exact absurd ⟨h1.symm, h2.symm⟩ hb
theorem getD_takeU (l : List UInt8) (k i : Nat) (h : i < k) : (l.take k).getD i 0 = l.getD i 0 := by simp [List.getD, List.getElem?_take, h]
/-- what is read hangs on the sign's own bytes alone -/
theorem dec_same {x y : List UInt8} (hg : badD (decodeL x) = false) (hl : (decodeL x).2 ≤ y.length) (he : ∀ i, i < (decodeL x).2 → y.getD i 0 = x.getD i 0) : decodeL y = decodeL x := by
  have hw := decodeL_width x
  have h := decodeL_N x
  rw [decodeL_N y]
  have e0 := he 0 (by omega)
  rw [e0]
  exact decN_ext (r := (decodeL x).1) (w := (decodeL x).2) (by rw [← h]) (of_decide_eq_false hg) hl (fun q => by rw [he 1 q]) (fun q => by rw [he 2 q]) (fun q => by rw [he 3 q])
theorem dec_app {a b : List UInt8} (ha : a ≠ []) (hg : badD (decodeL a) = false) : decodeL (a ++ b) = decodeL a := by
  have hl := decodeL_le a ha
  refine dec_same hg (by rw [List.length_append]; omega) fun i hi => ?_
  simp [List.getD, List.getElem?_append, show i < a.length by omega]
theorem steps_app : ∀ (n : Nat) (a b : List UInt8), a.length ≤ n → (steps a).all (fun d => !badD d) = true → steps (a ++ b) = steps a ++ steps b
  | 0, a, b, h, _ => by
    have : a = [] := List.length_eq_zero_iff.1 (by omega)
    subst this; rfl
  | n + 1, a, b, h, hg => by
    by_cases e : a = []
    · subst e; rfl
    · have hw := decodeL_width a
      have hl := decodeL_le a e
      rw [steps_cons e, List.all_cons, Bool.and_eq_true] at hg
      have hb : badD (decodeL a) = false := by simpa using hg.1
      have e2 : a ++ b ≠ [] := by simp [e]
      rw [steps_cons e2, steps_cons e, dec_app e hb, List.drop_append_of_le_length hl, steps_app n (a.drop (decodeL a).2) b (by rw [List.length_drop]; omega) hg.2]
      rfl
theorem okS_valid {l : List UInt8} (h : okS l = true) : (steps l).all (fun d => !badD d) = true := by
  unfold okS at h; rw [all_and, Bool.and_eq_true] at h; exact h.1
theorem okS_app {a b : List UInt8} (ha : okS a = true) (hb : okS b = true) : okS (a ++ b) = true := by
  unfold okS; rw [steps_app _ a b (Nat.le_refl _) (okS_valid ha), List.all_append]
  unfold okS at ha hb; rw [ha, hb]; rfl
theorem okS_cons {l : List UInt8} (h : l ≠ []) : okS l = ((!badD (decodeL l) && plainD (decodeL l)) && okS (l.drop (decodeL l).2)) := by
  unfold okS; rw [steps_cons h, List.all_cons]
end Go.Proofs.YtgmigcmhnmmdkaaDoor

/- Texts that are joined, and cut. -/
import Derived.Test.YtgmigcmhnmmdkaaDoorTjT2
set_option linter.all false
set_option maxRecDepth 100000
namespace Go.Proofs.YtgmigcmhnmmdkaaDoor
open Go.RowKit Go.Sep Go.Lib
set_option maxHeartbeats 2000000 in
theorem decN_ext {n b0 b1 b2 b3 r w n' b1' b2' b3' : Nat} (h : decodeN n b0 b1 b2 b3 = (r, w)) (hb : ¬ (r = 65533 ∧ w = 1)) (hn : w ≤ n') (e1 : 1 < w → b1' = b1) (e2 : 2 < w → b2' = b2) (e3 : 3 < w → b3' = b3) : decodeN n' b0 b1' b2' b3' = (r, w) := by
  rcases decodeN_shape n b0 b1 b2 b3 with ⟨c, e⟩ | ⟨c1, c2, c3, cv, e⟩ | ⟨c1, c2, c3, c4, cv, cs, e⟩ | ⟨c1, c2, c3, c4, c5, cv, cw, e⟩ | e
  · rw [e] at h; obtain ⟨rfl, rfl⟩ := Prod.mk.inj h
    unfold decodeN; rw [if_pos c]
  · rw [e] at h; obtain ⟨h1, h2⟩ := Prod.mk.inj h
    subst h2
    rw [e1 (by omega)]
    unfold decodeN
    rw [if_neg (by omega), if_pos (by omega), if_pos (by omega), h1]
  · rw [e] at h; obtain ⟨h1, h2⟩ := Prod.mk.inj h
    subst h2
    rw [e1 (by omega), e2 (by omega)]
    unfold decodeN
    rw [if_neg (by omega), if_neg (by omega), if_pos (by omega), if_pos (by omega), h1]
  · rw [e] at h; obtain ⟨h1, h2⟩ := Prod.mk.inj h
    subst h2
    rw [e1 (by omega), e2 (by omega), e3 (by omega)]
    unfold decodeN
    rw [if_neg (by omega), if_neg (by omega), if_neg (by omega), if_pos (by omega), if_pos (by omega), h1]
  · rw [e] at h; obtain ⟨h1, h2⟩ := Prod.mk.inj h
    exact absurd ⟨h1.symm, h2.symm⟩ hb
set_option maxHeartbeats 2000000 in
theorem decN_cut {n b0 b1 b2 b3 r w n' b1' b2' b3' : Nat} (h : decodeN n b0 b1 b2 b3 = (r, w)) (hn : n' < w) : decodeN n' b0 b1' b2' b3' = (65533, 1) ∨ n' = 0 := by
  rcases decodeN_shape n b0 b1 b2 b3 with ⟨c, e⟩ | ⟨c1, c2, c3, cv, e⟩ | ⟨c1, c2, c3, c4, cv, cs, e⟩ | ⟨c1, c2, c3, c4, c5, cv, cw, e⟩ | e
  · rw [e] at h; obtain ⟨h1, h2⟩ := Prod.mk.inj h; right; omega
  · rw [e] at h; obtain ⟨h1, h2⟩ := Prod.mk.inj h
    left; unfold decodeN
    rw [if_neg (by omega), if_neg (by omega), if_neg (by omega), if_neg (by omega)]
  · rw [e] at h; obtain ⟨h1, h2⟩ := Prod.mk.inj h
    left; unfold decodeN
    rw [if_neg (by omega), if_neg (by omega), if_neg (by omega), if_neg (by omega)]
  · rw [e] at h; obtain ⟨h1, h2⟩ := Prod.mk.inj h
    left; unfold decodeN
    rw [if_neg (by omega), if_neg (by omega), if_neg (by omega), if_neg (by omega)]
  · rw [e] at h; obtain ⟨h1, h2⟩ := Prod.mk.inj h; right; omega
theorem getD_takeU (l : List UInt8) (k i : Nat) (h : i < k) : (l.take k).getD i 0 = l.getD i 0 := by simp [List.getD, List.getElem?_take, h]
/-- what is read hangs on the sign's own bytes alone -/
theorem dec_same {x y : List UInt8} (hg : badD (decodeL x) = false) (hl : (decodeL x).2 ≤ y.length) (he : ∀ i, i < (decodeL x).2 → y.getD i 0 = x.getD i 0) : decodeL y = decodeL x := by
  have hw := decodeL_width x
  have h := decodeL_N x
  rw [decodeL_N y]
  have e0 := he 0 (by omega)
  rw [e0]
  exact decN_ext (r := (decodeL x).1) (w := (decodeL x).2) (by rw [← h]) (of_decide_eq_false hg) hl (fun q => by rw [he 1 q]) (fun q => by rw [he 2 q]) (fun q => by rw [he 3 q])
theorem dec_app {a b : List UInt8} (ha : a ≠ []) (hg : badD (decodeL a) = false) : decodeL (a ++ b) = decodeL a := by
  have hl := decodeL_le a ha
  refine dec_same hg (by rw [List.length_append]; omega) fun i hi => ?_
  simp [List.getD, List.getElem?_append, show i < a.length by omega]
theorem dec_take {l : List UInt8} {k : Nat} (hl : l ≠ []) (hg : badD (decodeL l) = false) (hk : (decodeL l).2 ≤ k) : decodeL (l.take k) = decodeL l := by
  have h2 := decodeL_le l hl
  refine dec_same hg (by rw [List.length_take]; omega) fun i hi => getD_takeU l k i (by omega)
theorem dec_cut {l : List UInt8} {k : Nat} (hk : k < (decodeL l).2) (h0 : 0 < k) (hl : l ≠ []) : badD (decodeL (l.take k)) = true := by
  have h := decodeL_N l
  have h2 := decodeL_le l hl
  rcases decN_cut (n' := (l.take k).length) (b1' := ((l.take k).getD 1 0).toNat) (b2' := ((l.take k).getD 2 0).toNat) (b3' := ((l.take k).getD 3 0).toNat) (r := (decodeL l).1) (w := (decodeL l).2) (by rw [← h]) (by rw [List.length_take]; omega) with e | e
  · have e2 := decodeL_N (l.take k)
    rw [getD_takeU l k 0 h0, e] at e2
    rw [e2]; rfl
  · rw [List.length_take] at e
    have := List.length_pos_iff.2 hl
    omega
theorem steps_app : ∀ (n : Nat) (a b : List UInt8), a.length ≤ n → (steps a).all (fun d => !badD d) = true → steps (a ++ b) = steps a ++ steps b
  | 0, a, b, h, _ => by
    have : a = [] := List.length_eq_zero_iff.1 (by omega)
    subst this; rfl
  | n + 1, a, b, h, hg => by
    by_cases e : a = []
    · subst e; rfl
    · have hw := decodeL_width a
      have hl := decodeL_le a e
      rw [steps_cons e, List.all_cons, Bool.and_eq_true] at hg
      have hb : badD (decodeL a) = false := by simpa using hg.1
      have e2 : a ++ b ≠ [] := by simp [e]
      rw [steps_cons e2, steps_cons e, dec_app e hb, List.drop_append_of_le_length hl, steps_app n (a.drop (decodeL a).2) b (by rw [List.length_drop]; omega) hg.2]
      rfl
theorem okS_valid {l : List UInt8} (h : okS l = true) : (steps l).all (fun d => !badD d) = true := by
  unfold okS at h; rw [all_and, Bool.and_eq_true] at h; exact h.1
theorem okS_app {a b : List UInt8} (ha : okS a = true) (hb : okS b = true) : okS (a ++ b) = true := by
  unfold okS; rw [steps_app _ a b (Nat.le_refl _) (okS_valid ha), List.all_append]
  unfold okS at ha hb; rw [ha, hb]; rfl
theorem nR_app {a b : List UInt8} (ha : okS a = true) : nR (a ++ b) = nR a + nR b := by
  unfold nR; rw [steps_app _ a b (Nat.le_refl _) (okS_valid ha), List.length_append]
/-- how many beginnings may be written -/
def cntF (l : List UInt8) : Nat → Nat
  | 0 => 0
  | i + 1 => cntF l i + (bif okS (l.take i) then 1 else 0)
theorem okS_cons {l : List UInt8} (h : l ≠ []) : okS l = ((!badD (decodeL l) && plainD (decodeL l)) && okS (l.drop (decodeL l).2)) := by
  unfold okS; rw [steps_cons h, List.all_cons]
theorem cnt_head {l : List UInt8} (hl : l ≠ []) : ∀ k, k + 1 ≤ (decodeL l).2 → cntF l (k + 1) = 1
  | 0, _ => by
    show 0 + (bif okS (l.take 0) then 1 else 0) = 1
    rw [List.take_zero]; rfl
  | k + 1, h => by
    show cntF l (k + 1) + (bif okS (l.take (k + 1)) then 1 else 0) = 1
    rw [cnt_head hl k (by omega)]
    have hne : l.take (k + 1) ≠ [] := by
      have := List.length_pos_iff.2 hl
      intro q; have := congrArg List.length q; rw [List.length_take, List.length_nil] at this; omega
    rw [okS_cons hne, dec_cut (k := k + 1) (by omega) (by omega) hl]
    rfl
theorem cnt_tail {l : List UInt8} (hl : l ≠ []) (hg : badD (decodeL l) = false) (hp : plainD (decodeL l) = true) : ∀ j, cntF l ((decodeL l).2 + j) = cntF l (decodeL l).2 + cntF (l.drop (decodeL l).2) j
  | 0 => rfl
  | j + 1 => by
    show cntF l ((decodeL l).2 + j) + (bif okS (l.take ((decodeL l).2 + j)) then 1 else 0) = cntF l (decodeL l).2 + (cntF (l.drop (decodeL l).2) j + (bif okS ((l.drop (decodeL l).2).take j) then 1 else 0))
    rw [cnt_tail hl hg hp j]
    have hw := decodeL_width l
    have hne : l.take ((decodeL l).2 + j) ≠ [] := by
      have := List.length_pos_iff.2 hl
      intro q; have := congrArg List.length q; rw [List.length_take, List.length_nil] at this; omega
    have e := dec_take (k := (decodeL l).2 + j) hl hg (by omega)
    rw [okS_cons hne, e, hg, hp, List.drop_take, Nat.add_sub_cancel_left]
    rw [Nat.add_assoc]; rfl
theorem cnt_all : ∀ (n : Nat) (l : List UInt8), l.length ≤ n → okS l = true → cntF l (l.length + 1) = nR l + 1
  | 0, l, h, _ => by
    have : l = [] := List.length_eq_zero_iff.1 (by omega)
    subst this; rfl
  | n + 1, l, h, hok => by
    by_cases e : l = []
    · subst e; rfl
    · have hw := decodeL_width l
      have hle := decodeL_le l e
      rw [okS_cons e, Bool.and_eq_true, Bool.and_eq_true] at hok
      have hg : badD (decodeL l) = false := by simpa using hok.1.1
      have ih := cnt_all n (l.drop (decodeL l).2) (by rw [List.length_drop]; omega) hok.2
      rw [List.length_drop] at ih
      have h1 := cnt_head e ((decodeL l).2 - 1) (by omega)
      rw [show (decodeL l).2 - 1 + 1 = (decodeL l).2 by omega] at h1
      have h2 := cnt_tail e hg hok.1.2 (l.length - (decodeL l).2 + 1)
      rw [show (decodeL l).2 + (l.length - (decodeL l).2 + 1) = l.length + 1 by omega, h1, ih] at h2
      rw [h2]
      unfold nR; rw [steps_cons e, List.length_cons]; omega
end Go.Proofs.YtgmigcmhnmmdkaaDoor

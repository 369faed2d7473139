/- Blanks. -/
import Derived.Test.YtgmigcmhnmmdkaaDoorTfT5
import Derived.Lib.FieldsP
import Derived.Lib.Join
set_option linter.all false
set_option maxRecDepth 100000
namespace Go.Proofs.YtgmigcmhnmmdkaaDoor
open Go.RowKit Go.Sep Go.Lib
/-- the words of a text -/
def wd : List UInt8 → List UInt8 → List (List UInt8)
  | acc, [] => if acc = [] then [] else [acc]
  | acc, b :: l => if b = 32 then (if acc = [] then wd [] l else acc :: wd [] l) else wd (acc ++ [b]) l
def fldS (l : List UInt8) : List UInt8 := join (wd [] l) [32]
theorem wd_lead (l : List UInt8) : wd [] (32 :: l) = wd [] l := by simp [wd]
theorem wd_end (a : UInt8) : ∀ (l acc : List UInt8), wd acc (l ++ [32]) = wd acc l
  | [], acc => by
    by_cases h : acc = []
    · subst h; simp [wd]
    · simp [wd, h]
  | b :: l, acc => by
    simp only [List.cons_append, wd, wd_end a l]
theorem wd_two : ∀ (x y acc : List UInt8), wd acc (x ++ 32 :: 32 :: y) = wd acc (x ++ 32 :: y)
  | [], y, acc => by
    by_cases h : acc = []
    · subst h; simp [wd]
    · simp [wd, h]
  | b :: x, y, acc => by
    simp only [List.cons_append, wd, wd_two x y]
theorem wd_plain : ∀ (x acc y : List UInt8), (∀ b ∈ x, b ≠ 32) → wd acc (x ++ y) = wd (acc ++ x) y
  | [], acc, y, _ => by simp
  | b :: x, acc, y, h => by
    have hb : ¬ b = 32 := h b (by simp)
    rw [List.cons_append]
    show (if b = 32 then _ else wd (acc ++ [b]) (x ++ y)) = _
    rw [if_neg hb, wd_plain x (acc ++ [b]) y (fun c hc => h c (by simp [hc])), List.append_assoc]
    rfl
theorem join_cc (x y : List UInt8) (r : List (List UInt8)) : join (x :: y :: r) [32] = x ++ 32 :: join (y :: r) [32] := by
  rw [join_cons, join_cons]; simp [joinTail]
theorem wd_len : ∀ (l acc : List UInt8), (join (wd acc l) [32]).length ≤ acc.length + l.length
  | [], acc => by
    by_cases h : acc = []
    · subst h; simp [wd, join_nil]
    · simp [wd, h, join_one]
  | b :: l, acc => by
    unfold wd
    by_cases hb : b = 32
    · rw [if_pos hb]
      have ih := wd_len l []
      by_cases h : acc = []
      · rw [if_pos h, List.length_cons]; simp at ih; omega
      · rw [if_neg h]
        cases e : wd [] l with
        | nil => rw [join_one, List.length_cons]; omega
        | cons y r => rw [e] at ih; rw [join_cc]; simp at ih ⊢; omega
    · rw [if_neg hb]
      have ih := wd_len l (acc ++ [b])
      rw [List.length_append, List.length_cons, List.length_nil] at ih
      rw [List.length_cons]; omega
theorem fldS_len (l : List UInt8) : (fldS l).length ≤ l.length := by have := wd_len l []; simpa [fldS] using this
/-- words have signs, and no blanks -/
theorem wd_good : ∀ (l acc : List UInt8), (∀ b ∈ acc, b ≠ 32) → ∀ w ∈ wd acc l, w ≠ [] ∧ ∀ b ∈ w, b ≠ 32
  | [], acc, ha, w, hw => by
    by_cases h : acc = []
    · subst h; simp [wd] at hw
    · simp [wd, h] at hw; subst hw; exact ⟨h, ha⟩
  | b :: l, acc, ha, w, hw => by
    unfold wd at hw
    by_cases hb : b = 32
    · rw [if_pos hb] at hw
      by_cases h : acc = []
      · rw [if_pos h] at hw; exact wd_good l [] (by simp) w hw
      · rw [if_neg h, List.mem_cons] at hw
        rcases hw with rfl | hw
        · exact ⟨h, ha⟩
        · exact wd_good l [] (by simp) w hw
    · rw [if_neg hb] at hw
      refine wd_good l (acc ++ [b]) ?_ w hw
      intro c hc
      rw [List.mem_append, List.mem_singleton] at hc
      rcases hc with hc | rfl
      · exact ha c hc
      · exact hb
theorem wd_join : ∀ ws : List (List UInt8), (∀ w ∈ ws, w ≠ [] ∧ ∀ b ∈ w, b ≠ 32) → wd [] (join ws [32]) = ws
  | [], _ => by rw [join_nil]; rfl
  | [w], h => by
    have hw := h w (by simp)
    rw [join_one]
    have := wd_plain w [] [] hw.2
    rw [List.append_nil, List.nil_append] at this
    rw [this]; simp [wd, hw.1]
  | w :: w2 :: ws, h => by
    have hw := h w (by simp)
    rw [join_cc, wd_plain w [] _ hw.2, List.nil_append]
    show (if (32 : UInt8) = 32 then (if w = [] then _ else w :: wd [] (join (w2 :: ws) [32])) else _) = _
    rw [if_pos rfl, if_neg hw.1, wd_join (w2 :: ws) (fun x hx => h x (by simp [hx]))]
theorem fldS_again (l : List UInt8) : fldS (fldS l) = fldS l := by
  unfold fldS; rw [wd_join _ (wd_good l [] (by simp))]
theorem fldS_wide (l : List UInt8) : fldS ([32] ++ l ++ [32, 32]) = fldS l := by
  unfold fldS
  rw [show [32] ++ l ++ [32, 32] = 32 :: ((l ++ [32]) ++ [32]) by simp, wd_lead, wd_end 0, wd_end 0]
/-- nothing to fold -/
def tidy : List UInt8 → Prop
  | [] => True
  | [b] => b ≠ 32
  | b :: c :: l => ¬ (b = 32 ∧ c = 32) ∧ tidy (c :: l)
theorem tidy_join : ∀ (l acc : List UInt8), tidy l → (acc = [] → ∀ b r, l = b :: r → b ≠ 32) → join (wd acc l) [32] = acc ++ l
  | [], acc, _, _ => by
    by_cases h : acc = []
    · subst h; simp [wd, join_nil]
    · simp [wd, h, join_one]
  | b :: l, acc, ht, hs => by
    have ht' : tidy l := by
      cases l with
      | nil => trivial
      | cons c l => exact ht.2
    unfold wd
    by_cases hb : b = 32
    · rw [if_pos hb]
      have ha : ¬ acc = [] := fun q => hs q b l rfl hb
      rw [if_neg ha]
      cases l with
      | nil => exact absurd hb ht
      | cons c l =>
        have hc : ¬ c = 32 := fun q => ht.1 ⟨hb, q⟩
        have ih := tidy_join (c :: l) [] ht' (fun _ b' r' e => by cases e; exact hc)
        cases e : wd [] (c :: l) with
        | nil => rw [e, join_nil] at ih; cases ih
        | cons y r => rw [e] at ih; rw [join_cc, ih, hb]; rfl
    · rw [if_neg hb]
      have ih := tidy_join l (acc ++ [b]) ht' (fun q => by simp at q)
      rw [ih]; simp
theorem fldS_tidy {l : List UInt8} (h : tidy l) (h0 : ∀ b r, l = b :: r → b ≠ 32) : fldS l = l := by
  have := tidy_join l [] h (fun _ => h0)
  simpa [fldS] using this
/-- a blank is a sign of its own -/
theorem dec_byte {l : List UInt8} {k : Nat} (hk : k < (decodeL l).2) (hg : badD (decodeL l) = false) (h1 : 1 ≤ k) : 128 ≤ (l.getD k 0).toNat := by
  have h := decodeL_N l
  rw [h] at hk
  rcases decodeN_shape l.length (l.getD 0 0).toNat (l.getD 1 0).toNat (l.getD 2 0).toNat (l.getD 3 0).toNat with ⟨c, e⟩ | ⟨c1, c2, c3, cv, e⟩ | ⟨c1, c2, c3, c4, cv, cs, e⟩ | ⟨c1, c2, c3, c4, c5, cv, cw, e⟩ | e
  · rw [e] at hk; dsimp only at hk; omega
  · rw [e] at hk; dsimp only at hk
    obtain rfl : k = 1 := by omega
    omega
  · rw [e] at hk; dsimp only at hk
    rcases (by omega : k = 1 ∨ k = 2) with rfl | rfl <;> omega
  · rw [e] at hk; dsimp only at hk
    rcases (by omega : k = 1 ∨ k = 2 ∨ k = 3) with rfl | rfl | rfl <;> omega
  · rw [e] at hk; dsimp only at hk; omega
theorem dec_32 {l : List UInt8} (h : (l.getD 0 0).toNat = 32) : decodeL l = (32, 1) := by
  rw [decodeL_N, h]; unfold decodeN; rw [if_pos (by decide)]
theorem dec_is32 {l : List UInt8} (h : (decodeL l).1 = 32) : (l.getD 0 0).toNat = 32 := by
  rw [decodeL_N] at h
  rcases decodeN_shape l.length (l.getD 0 0).toNat (l.getD 1 0).toNat (l.getD 2 0).toNat (l.getD 3 0).toNat with ⟨c, e⟩ | ⟨c1, c2, c3, cv, e⟩ | ⟨c1, c2, c3, c4, cv, cs, e⟩ | ⟨c1, c2, c3, c4, c5, cv, cw, e⟩ | e
  all_goals (rw [e] at h; dsimp only at h; omega)
theorem dec_one {l : List UInt8} (hb : badD (decodeL l) = true) : (decodeL l).2 = 1 := (of_decide_eq_true hb).2
theorem okS_32 (y : List UInt8) : okS (32 :: y) = okS y := by
  have e : decodeL (32 :: y) = (32, 1) := dec_32 rfl
  rw [okS_cons (by simp), e]; rfl
theorem okS_cut32 : ∀ (n : Nat) (x y : List UInt8), x.length ≤ n → okS (x ++ 32 :: y) = true → okS x = true ∧ okS y = true
  | 0, x, y, h, ho => by
    have : x = [] := List.length_eq_zero_iff.1 (by omega)
    subst this; rw [List.nil_append, okS_32] at ho; exact ⟨rfl, ho⟩
  | n + 1, x, y, h, ho => by
    by_cases e : x = []
    · subst e; rw [List.nil_append, okS_32] at ho; exact ⟨rfl, ho⟩
    · have hx : 0 < x.length := List.length_pos_iff.2 e
      rw [okS_cons (by simp), Bool.and_eq_true, Bool.and_eq_true] at ho
      have hg : badD (decodeL (x ++ 32 :: y)) = false := by simpa using ho.1.1
      have hw1 := decodeL_width (x ++ 32 :: y)
      have hw : (decodeL (x ++ 32 :: y)).2 ≤ x.length := by
        refine Decidable.byContradiction fun q => ?_
        have := dec_byte (l := x ++ 32 :: y) (k := x.length) (by omega) hg (by omega)
        rw [show (x ++ 32 :: y).getD x.length 0 = 32 by simp [List.getD]] at this
        exact absurd this (by decide)
      have hd : decodeL x = decodeL (x ++ 32 :: y) := dec_same hg hw (fun i hi => by
        have hi2 : i < x.length := by omega
        simp [List.getD, List.getElem?_append, hi2])
      rw [List.drop_append_of_le_length hw] at ho
      obtain ⟨h1, h2⟩ := okS_cut32 n _ y (by rw [List.length_drop]; omega) ho.2
      refine ⟨?_, h2⟩
      rw [okS_cons e, hd, ho.1.1, ho.1.2, h1]; rfl
theorem okS_wd : ∀ (l acc : List UInt8), okS (acc ++ l) = true → ∀ w ∈ wd acc l, okS w = true
  | [], acc, ho, w, hw => by
    by_cases h : acc = []
    · subst h; simp [wd] at hw
    · simp [wd, h] at hw; subst hw; simpa using ho
  | b :: l, acc, ho, w, hw => by
    unfold wd at hw
    by_cases hb : b = 32
    · rw [if_pos hb] at hw
      rw [hb] at ho
      obtain ⟨h1, h2⟩ := okS_cut32 _ acc l (Nat.le_refl _) ho
      by_cases h : acc = []
      · rw [if_pos h] at hw; exact okS_wd l [] h2 w hw
      · rw [if_neg h, List.mem_cons] at hw
        rcases hw with rfl | hw
        · exact h1
        · exact okS_wd l [] h2 w hw
    · rw [if_neg hb] at hw
      exact okS_wd l (acc ++ [b]) (by rw [List.append_assoc]; exact ho) w hw
theorem okS_join : ∀ ws : List (List UInt8), (∀ w ∈ ws, okS w = true) → okS (join ws [32]) = true
  | [], _ => by rw [join_nil]; rfl
  | [w], h => by rw [join_one]; exact h w (by simp)
  | w :: w2 :: ws, h => by
    rw [join_cc]
    exact okS_app (h w (by simp)) (by rw [okS_32]; exact okS_join (w2 :: ws) (fun x hx => h x (by simp [hx])))
theorem okS_fold {l : List UInt8} (h : okS l = true) : okS (fldS l) = true := okS_join _ (okS_wd l [] h)
end Go.Proofs.YtgmigcmhnmmdkaaDoor

/- What a text is: the scanner's rounds are the parse of the document. -/
import Derived.Test.YtkfncjaomgcdgaaW9
set_option linter.all false
namespace Go.Proofs.Ytkfncjaomgcdgaa

def kind : T → UInt8
  | .zero => 48
  | .one => 49
  | .node _ _ => 40
theorem kind_ne (t : T) : kind t ≠ 32 := by cases t <;> simp [kind]

def mayT (l r : T) : Bool := mayB (kind l) (kind r)
theorem mk_may {l r : T} (h : mayT l r = true) : T.mk l r = .node l r := by
  cases l <;> cases r <;> first | rfl | (exfalso; revert h; decide)

def parseT : Nat → List UInt8 → Option (T × List UInt8)
  | 0, _ => none
  | _ + 1, [] => none
  | n + 1, x :: r =>
    if x = 48 then some (.zero, r) else if x = 49 then some (.one, r) else if x = 40 then
      match parseT n r with
      | some (l, y :: r2) => if y = 44 then
          match parseT n r2 with
          | some (q, z :: r4) => if z = 41 ∧ mayT l q = true then some (.node l q, r4) else none
          | _ => none
        else none
      | _ => none
    else none

theorem parseT_len : ∀ (n : Nat) (s : List UInt8) {t : T} {r : List UInt8}, parseT n s = some (t, r) → r.length < s.length
  | 0, _, _, _, h => by simp [parseT] at h
  | n + 1, [], _, _, h => by simp [parseT] at h
  | n + 1, x :: s, t, r, h => by
    rw [parseT] at h
    split at h
    · simp at h; simp [h.2]
    · split at h
      · simp at h; simp [h.2]
      · split at h
        · split at h
          · rename_i l y r2 hl
            split at h
            · split at h
              · rename_i q z r4 hq
                split at h
                · simp at h
                  have h1 := parseT_len n _ hl
                  have h2 := parseT_len n _ hq
                  simp at h1 h2 ⊢
                  rw [← h.2]; omega
                · cases h
              · cases h
            · cases h
          · cases h
        · cases h

def contL (m : Nat) (h : UInt8) (r st : List UInt8) (d : Nat) : Nat × Bool :=
  match closeP h r st with
  | none => (0, false)
  | some (_, r2, []) => (d, r2.isEmpty)
  | some (h', r2, _ :: st2) => match r2 with
    | [] => (0, false)
    | y :: r3 => if y = 44 then scanL m r3 (h' :: st2) d else (0, false)

theorem scanL_succ (m : Nat) (rest st : List UInt8) (d : Nat) : scanL (m + 1) rest st d = match leafP rest st d with
    | (none, _) => (0, false)
    | (some x, r, st1, d1) => contL m x r st1 d1 := by
  rw [scanL]; rfl

theorem contL_congr {m m' : Nat} {h : UInt8} {r st : List UInt8} {d : Nat} (e : ∀ r3 st d, r3.length < r.length → scanL m r3 st d = scanL m' r3 st d) : contL m h r st d = contL m' h r st d := by
  unfold contL
  split
  · rfl
  · rfl
  · rename_i h' r2 l st2 hc
    have := closeP_len _ _ _ hc
    split
    · rfl
    · split
      · exact e _ _ _ (by simp at this; omega)
      · rfl

theorem scanL_fuel : ∀ (m m' : Nat) (rest st : List UInt8) (d : Nat), rest.length < m → rest.length < m' → scanL m rest st d = scanL m' rest st d
  | 0, _, _, _, _, h, _ => by omega
  | _, 0, _, _, _, _, h => by omega
  | m + 1, m' + 1, rest, st, d, h, h' => by
    rw [scanL_succ, scanL_succ]
    split
    · rfl
    · rename_i x r st1 d1 hl
      have := leafP_len _ _ _ hl
      exact contL_congr fun r3 st d h3 => scanL_fuel m m' r3 st d (by simp at this; omega) (by simp at this; omega)

/-- with as much fuel as there is text -/
def scanI (rest st : List UInt8) (d : Nat) : Nat × Bool := scanL (rest.length + 1) rest st d
def contI (h : UInt8) (r st : List UInt8) (d : Nat) : Nat × Bool := contL (r.length + 1) h r st d

theorem scanI_40 (r st : List UInt8) (d : Nat) : scanI (40 :: r) st d = scanI r (32 :: st) (max d (st.length + 1)) := by
  have h : leafP (40 :: r) st d = leafP r (32 :: st) (max d (st.length + 1)) := by rw [leafP, if_pos rfl]
  unfold scanI
  rw [scanL_succ, scanL_succ, h]
  split
  · rfl
  · rename_i x r' st1 d1 hl
    have := leafP_len _ _ _ hl
    exact contL_congr fun r3 st d h3 => scanL_fuel _ _ r3 st d (by simp at this ⊢; omega) (by simp at this ⊢; omega)
theorem scanI_leaf {x : UInt8} (hx : x = 48 ∨ x = 49) (r st : List UInt8) (d : Nat) : scanI (x :: r) st d = contI x r st d := by
  have h : leafP (x :: r) st d = (some x, r, st, d) := by
    rw [leafP, if_neg (by rcases hx with rfl | rfl <;> decide), if_pos hx]
  unfold scanI contI
  rw [scanL_succ, h]; rfl
theorem scanI_bad {rest : List UInt8} (h : ∀ x r, rest = x :: r → x ≠ 40 ∧ x ≠ 48 ∧ x ≠ 49) (st : List UInt8) (d : Nat) : scanI rest st d = (0, false) := by
  unfold scanI
  rw [scanL_succ]
  cases rest with
  | nil => rfl
  | cons x r =>
    obtain ⟨h1, h2, h3⟩ := h x r rfl
    rw [leafP, if_neg h1, if_neg (by rintro (h | h); exact h2 h; exact h3 h)]
theorem contI_32 (h : UInt8) (r st : List UInt8) (d : Nat) : contI h r (32 :: st) d = match r with
    | [] => (0, false)
    | y :: r2 => if y = 44 then scanI r2 (h :: st) d else (0, false) := by
  unfold contI contL
  rw [closeP_32 rfl]
  cases r with
  | nil => rfl
  | cons y r2 =>
    simp only []
    split
    · exact scanL_fuel _ _ _ _ _ (by simp; omega) (by omega)
    · rfl
theorem contI_l {l : UInt8} (hl : l ≠ 32) (h : UInt8) (r st : List UInt8) (d : Nat) : contI h r (l :: st) d = match r with
    | [] => (0, false)
    | z :: r4 => if z = 41 ∧ mayB l h = true then contI 40 r4 st d else (0, false) := by
  unfold contI
  cases r with
  | nil => unfold contL; rw [closeP_ne hl]
  | cons z r4 =>
    have e : contL ((z :: r4).length + 1) h (z :: r4) (l :: st) d = if z = 41 ∧ mayB l h = true then contL ((z :: r4).length + 1) 40 r4 st d else (0, false) := by
      unfold contL; rw [closeP_ne hl]
      by_cases hz : z = 41 ∧ mayB l h = true
      · simp only [if_pos hz]
      · simp only [if_neg hz]
    rw [e]
    simp only []
    split
    · exact contL_congr fun r3 st d h3 => scanL_fuel _ _ r3 st d (by simp; omega) (by omega)
    · rfl

theorem scan_parse : ∀ (n : Nat) (rest st : List UInt8) (d : Nat), rest.length < n → st.length ≤ d → scanI rest st d = match parseT n rest with
    | some (t, r) => contI (kind t) r st (max d (st.length + t.depth))
    | none => (0, false)
  | 0, _, _, _, h, _ => by omega
  | n + 1, [], st, d, _, _ => by rw [scanI_bad (by intro x r h; cases h)]; rfl
  | n + 1, x :: rest, st, d, hn, hd => by
    have hn' : rest.length < n := by simp at hn; omega
    by_cases h0 : x = 48
    · subst h0
      rw [scanI_leaf (.inl rfl)]
      have : max d (st.length + T.zero.depth) = d := by simp only [T.depth]; omega
      simp [parseT, kind, this]
    · by_cases h1 : x = 49
      · subst h1
        rw [scanI_leaf (.inr rfl)]
        have : max d (st.length + T.one.depth) = d := by simp only [T.depth]; omega
        simp [parseT, kind, this]
      · by_cases h4 : x = 40
        · subst h4
          rw [scanI_40, scan_parse n rest (32 :: st) _ hn' (by simp; omega), parseT, if_neg h0, if_neg h1, if_pos rfl]
          cases hl : parseT n rest with
          | none => rfl
          | some o =>
            obtain ⟨l, r1⟩ := o
            have hl1 := parseT_len _ _ hl
            simp only []
            rw [contI_32]
            cases r1 with
            | nil => rfl
            | cons y r2 =>
              simp only []
              by_cases hy : y = 44
              · rw [if_pos hy, if_pos hy, scan_parse n r2 (kind l :: st) _ (by simp at hl1; omega) (by simp; omega)]
                cases hq : parseT n r2 with
                | none => rfl
                | some o =>
                  obtain ⟨q, r3⟩ := o
                  simp only []
                  rw [contI_l (kind_ne l)]
                  cases r3 with
                  | nil => rfl
                  | cons z r4 =>
                    simp only []
                    by_cases hz : z = 41 ∧ mayT l q = true
                    · rw [if_pos hz, if_pos (show z = 41 ∧ mayB (kind l) (kind q) = true from hz)]
                      simp only [kind, T.depth, List.length_cons]
                      congr 1; omega
                    · rw [if_neg hz, if_neg (show ¬ (z = 41 ∧ mayB (kind l) (kind q) = true) from hz)]
              · rw [if_neg hy, if_neg hy]
        · rw [scanI_bad (by intro y r h; cases h; exact ⟨h4, h0, h1⟩), parseT, if_neg h0, if_neg h1, if_neg h4]

theorem scan_text (s : List UInt8) : scanL (s.length + 1) s [] 0 = match parseT (s.length + 1) s with
    | some (t, r) => (t.depth, r.isEmpty)
    | none => (0, false) := by
  have := scan_parse (s.length + 1) s [] 0 (by omega) (by simp)
  unfold scanI at this
  rw [this]
  cases parseT (s.length + 1) s with
  | none => rfl
  | some o =>
    obtain ⟨t, r⟩ := o
    simp only []
    unfold contI contL
    rw [closeP]
    simp

end Go.Proofs.Ytkfncjaomgcdgaa

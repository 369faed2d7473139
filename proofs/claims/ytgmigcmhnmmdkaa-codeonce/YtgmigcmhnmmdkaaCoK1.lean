/- Trees as bits: no tree's bits are the beginning of another one's. -/
import Derived.Test.YtgmigcmhnmmdkaaCoBwC13
import Derived.Test.YtgmigcmhnmmdkaaCoBwB5
import Derived.Test.YtgmigcmhnmmdkaaCoP9
set_option linter.all false
namespace Go.Proofs.Ytgmigcmhnmmdkaa

theorem two_eq {x y : Nat} (hx : x < 2) (hy : y < 2) (h : (x % 2 = 1) = (y % 2 = 1)) : x = y := by
  have h1 : x = 0 ∨ x = 1 := by omega
  have h2 : y = 0 ∨ y = 1 := by omega
  rcases h1 with rfl | rfl <;> rcases h2 with rfl | rfl <;> simp at h ⊢
theorem putBits_inj : ∀ (k : Nat) {a b : Nat}, a < 2 ^ k → b < 2 ^ k → putBits a k = putBits b k → a = b
  | 0, a, b, ha, hb, _ => by simp at ha hb; omega
  | k + 1, a, b, ha, hb, h => by
    rw [putBits_succ, putBits_succ, List.cons.injEq] at h
    have hp := Nat.two_pow_pos k
    have key : ∀ x, putBits x k = putBits (x % 2 ^ k) k := fun x => by
      unfold putBits
      apply List.map_congr_left
      intro i hi
      have hi' : i < k := by simpa using hi
      unfold bitF
      congr 1
      have e : 2 ^ k = 2 ^ (k - 1 - i) * 2 ^ (i + 1) := by rw [← Nat.pow_add]; congr 1; omega
      rw [e, Nat.mod_mul_right_div_self, Nat.pow_succ, Nat.mul_comm (2 ^ i), Nat.mod_mul_right_mod]
    rw [Nat.pow_succ] at ha hb
    have h1 : a / 2 ^ k < 2 := Nat.div_lt_of_lt_mul (by omega)
    have h2 : b / 2 ^ k < 2 := Nat.div_lt_of_lt_mul (by omega)
    have h3 : a % 2 ^ k = b % 2 ^ k := putBits_inj k (Nat.mod_lt _ hp) (Nat.mod_lt _ hp) (by rw [← key, ← key]; exact h.2)
    have h4 : (a / 2 ^ k % 2 = 1) = (b / 2 ^ k % 2 = 1) := by simpa using h.1
    have h5 : a / 2 ^ k = b / 2 ^ k := two_eq h1 h2 h4
    rw [← Nat.div_add_mod a (2 ^ k), ← Nat.div_add_mod b (2 ^ k), h3, h5]
theorem numW_prefix : ∀ (f k a b : Nat), a < 2 ^ (f + k) → b < 2 ^ (f + k) → numW f k a <+: numW f k b → a = b
  | 0, k, a, b, ha, hb, h => by
    rw [Nat.zero_add] at ha hb
    have h1 : putBits a k <+: putBits b k := by simpa [numW] using h
    exact putBits_inj k ha hb (h1.eq_of_length (by rw [putBits_len, putBits_len]))
  | f + 1, k, a, b, ha, hb, h => by
    by_cases pa : a / 2 ^ k = 0 <;> by_cases pb : b / 2 ^ k = 0
    · rw [numW_stop pa, numW_stop pb] at h
      have h1 : putBits a k <+: putBits b k := by simpa using h
      exact putBits_inj k (div_lt_pow pa) (div_lt_pow pb) (h1.eq_of_length (by rw [putBits_len, putBits_len]))
    · rw [numW_stop pa, numW_go pb] at h; simp at h
    · rw [numW_go pa, numW_stop pb] at h; simp at h
    · rw [numW_go pa, numW_go pb] at h
      have h1 : numW f (k + 1) (a - 2 ^ k) <+: numW f (k + 1) (b - 2 ^ k) := by simpa using h
      have e : f + 1 + k = f + (k + 1) := by omega
      rw [e] at ha hb
      have := numW_prefix f (k + 1) _ _ (Nat.lt_of_le_of_lt (Nat.sub_le _ _) ha) (Nat.lt_of_le_of_lt (Nat.sub_le _ _) hb) h1
      have := pow_le_of_div pa
      have := pow_le_of_div pb
      omega
theorem num_cut {a b : Nat} {x y : List Bool} (ha : a < 18446744073709551616) (hb : b < 18446744073709551616) (h : numW 62 2 a ++ x = numW 62 2 b ++ y) : a = b ∧ x = y := by
  have e : a = b := by
    rcases List.prefix_or_prefix_of_prefix (List.prefix_append (numW 62 2 a) x) (h ▸ List.prefix_append (numW 62 2 b) y) with q | q
    · exact numW_prefix 62 2 a b ha hb q
    · exact (numW_prefix 62 2 b a hb ha q).symm
  subst e; exact ⟨rfl, List.append_cancel_left h⟩

def idK (t : Ev.T) : Nat := if (t.isZero || t.isOne) = true then 0 else if t.left.isZero = true then 1 else if t.right.isZero = true then 2 else 3
def lbT (t : Ev.T) : Nat := if t.isOne = true then 1 else 0
def idB : Ev.T → List Bool
  | .zero => putBits 0 2 ++ putBits 0 1
  | .one => putBits 0 2 ++ putBits 1 1
  | .node l r => putBits (idK (.node l r)) 2 ++ ((if idK (.node l r) = 1 then [] else idB l) ++ (if idK (.node l r) = 2 then [] else idB r))
theorem pb02 : putBits 0 2 = [false, false] := by decide
theorem pb12 : putBits 1 2 = [false, true] := by decide
theorem pb22 : putBits 2 2 = [true, false] := by decide
theorem pb32 : putBits 3 2 = [true, true] := by decide
theorem pb01 : putBits 0 1 = [false] := by decide
theorem pb11 : putBits 1 1 = [true] := by decide
theorem T_zero : ∀ {t : Ev.T}, t.isZero = true → t = .zero
  | .zero, _ => rfl
  | .one, h => by simp [Ev.T.isZero] at h
  | .node _ _, h => by simp [Ev.T.isZero] at h
theorem idB_node (l r : Ev.T) : (l = .zero ∧ idB (.node l r) = false :: true :: idB r) ∨ (r = .zero ∧ idB (.node l r) = true :: false :: idB l) ∨ (idB (.node l r) = true :: true :: (idB l ++ idB r)) := by
  have e0 : (Ev.T.node l r).isZero = false := rfl
  have e1 : (Ev.T.node l r).isOne = false := rfl
  have e2 : (Ev.T.node l r).left = l := rfl
  have e3 : (Ev.T.node l r).right = r := rfl
  by_cases h1 : l.isZero = true
  · have hk : idK (.node l r) = 1 := by unfold idK; simp [e0, e1, e2, h1]
    exact .inl ⟨T_zero h1, by simp [idB, hk, pb12]⟩
  · by_cases h2 : r.isZero = true
    · have hk : idK (.node l r) = 2 := by unfold idK; simp [e0, e1, e2, e3, h1, h2]
      exact .inr (.inl ⟨T_zero h2, by simp [idB, hk, pb22]⟩)
    · have hk : idK (.node l r) = 3 := by unfold idK; simp [e0, e1, e2, e3, h1, h2]
      exact .inr (.inr (by simp [idB, hk, pb32]))
theorem idB_cut : ∀ (t u : Ev.T) {x y : List Bool}, idB t ++ x = idB u ++ y → t = u ∧ x = y
  | .zero, .zero, x, y, h => ⟨rfl, List.append_cancel_left h⟩
  | .zero, .one, x, y, h => by simp [idB, pb02, pb01, pb11] at h
  | .one, .zero, x, y, h => by simp [idB, pb02, pb01, pb11] at h
  | .one, .one, x, y, h => ⟨rfl, List.append_cancel_left h⟩
  | .zero, .node l r, x, y, h => by rcases idB_node l r with ⟨-, e⟩ | ⟨-, e⟩ | e <;> rw [e] at h <;> simp [idB, pb02, pb01] at h
  | .one, .node l r, x, y, h => by rcases idB_node l r with ⟨-, e⟩ | ⟨-, e⟩ | e <;> rw [e] at h <;> simp [idB, pb02, pb11] at h
  | .node l r, .zero, x, y, h => by rcases idB_node l r with ⟨-, e⟩ | ⟨-, e⟩ | e <;> rw [e] at h <;> simp [idB, pb02, pb01] at h
  | .node l r, .one, x, y, h => by rcases idB_node l r with ⟨-, e⟩ | ⟨-, e⟩ | e <;> rw [e] at h <;> simp [idB, pb02, pb11] at h
  | .node l r, .node l' r', x, y, h => by
    rcases idB_node l r with ⟨a, e⟩ | ⟨a, e⟩ | e <;> rcases idB_node l' r' with ⟨a', e'⟩ | ⟨a', e'⟩ | e' <;> rw [e, e'] at h <;> simp at h
    · obtain ⟨h1, h2⟩ := idB_cut r r' h
      exact ⟨by rw [a, a', h1], h2⟩
    · obtain ⟨h1, h2⟩ := idB_cut l l' h
      exact ⟨by rw [a, a', h1], h2⟩
    · obtain ⟨h1, h2⟩ := idB_cut l l' h
      obtain ⟨h3, h4⟩ := idB_cut r r' h2
      exact ⟨by rw [h1, h3], h4⟩
theorem idB_pos : ∀ (t : Ev.T), 3 ≤ (idB t).length
  | .zero => by simp [idB, putBits_len]
  | .one => by simp [idB, putBits_len]
  | .node l r => by
    have h1 := idB_pos l
    have h2 := idB_pos r
    rcases idB_node l r with ⟨a, e⟩ | ⟨a, e⟩ | e <;> rw [e] <;> simp <;> omega
theorem idB_len : ∀ (t : Ev.T) (n : Nat), t.depth ≤ n → (idB t).length + 2 ≤ 5 * 2 ^ n
  | .zero, n, _ => by have := Nat.one_le_two_pow (n := n); simp [idB, putBits_len]; omega
  | .one, n, _ => by have := Nat.one_le_two_pow (n := n); simp [idB, putBits_len]; omega
  | .node l r, 0, h => by simp [Ev.T.depth] at h
  | .node l r, n + 1, h => by
    have hd : l.depth ≤ n ∧ r.depth ≤ n := by simp only [Ev.T.depth] at h; omega
    have h1 := idB_len l n hd.1
    have h2 := idB_len r n hd.2
    rw [Nat.pow_succ]
    rcases idB_node l r with ⟨a, e⟩ | ⟨a, e⟩ | e <;> rw [e] <;> simp <;> omega
/- the steps of the writer -/
theorem idB_leaf {t : Ev.T} (h : idK t = 0) : idB t = putBits (idK t) 2 ++ putBits (lbT t) 1 := by
  cases t with
  | zero => rfl
  | one => rfl
  | node l r =>
    exfalso; revert h; unfold idK
    have e0 : (Ev.T.node l r).isZero = false := rfl
    have e1 : (Ev.T.node l r).isOne = false := rfl
    simp only [e0, e1, Bool.or_self, Bool.false_eq_true, if_false]
    split
    · simp
    · split <;> simp
theorem idB_pair {t : Ev.T} (h : idK t ≠ 0) : idB t = putBits (idK t) 2 ++ ((if idK t = 1 then [] else idB t.left) ++ (if idK t = 2 then [] else idB t.right)) := by
  cases t with
  | zero => exact absurd rfl h
  | one => exact absurd rfl h
  | node l r => rfl
theorem idK_lt (t : Ev.T) : idK t < 4 := by unfold idK; split; · omega
                                            split; · omega
                                            split <;> omega
/- events -/
def kindE (l r : Ev.E) : Nat := if l.top = 0 then 0 else if r.top = 0 then 1 else 2
theorem kindE_lt (l r : Ev.E) : kindE l r < 3 := by unfold kindE; split; · omega
                                                    split <;> omega
def headB (n k : Nat) : List Bool := if n = 0 then putBits k 2 else if k = 2 then putBits 3 2 ++ putBits 1 1 ++ numW 62 2 n else putBits 3 2 ++ putBits 0 1 ++ putBits k 1 ++ numW 62 2 n
def evB : Ev.E → List Bool
  | .leaf n => putBits 1 1 ++ numW 62 2 n
  | .node n l r => putBits 0 1 ++ headB n (kindE l r) ++ ((if kindE l r = 0 then [] else evB l) ++ (if kindE l r = 1 then [] else evB r))
theorem headB_cut {n n' k k' : Nat} {x y : List Bool} (hk : k < 3) (hk' : k' < 3) (hn : n < 18446744073709551616) (hn' : n' < 18446744073709551616) (h : headB n k ++ x = headB n' k' ++ y) : n = n' ∧ k = k' ∧ x = y := by
  have c : k = 0 ∨ k = 1 ∨ k = 2 := by omega
  have c' : k' = 0 ∨ k' = 1 ∨ k' = 2 := by omega
  by_cases z : n = 0 <;> by_cases z' : n' = 0 <;> rcases c with rfl | rfl | rfl <;> rcases c' with rfl | rfl | rfl <;> simp [headB, z, z', pb02, pb12, pb22, pb32, pb01, pb11] at h ⊢ <;> first | exact h | exact num_cut hn hn' h
theorem E_zero : ∀ {e : Ev.E}, e.nf → e.top = 0 → e = .leaf 0
  | .leaf n, _, h => by have : n = 0 := h; rw [this]
  | .node n l r, h, ht => by
    have h1 : n + max l.top r.top = 0 := ht
    have el := E_zero h.1 (by omega)
    have er := E_zero h.2.1 (by omega)
    have hm := h.2.2
    rw [el, er] at hm
    simp [Ev.E.mk, Ev.E.isLeaf, Ev.E.base] at hm
theorem evB_cut : ∀ (t u : Ev.E) {x y : List Bool}, t.nf → u.nf → t.top < 18446744073709551616 → u.top < 18446744073709551616 → evB t ++ x = evB u ++ y → t = u ∧ x = y
  | .leaf n, .leaf m, x, y, _, _, hn, hm, h => by
    simp [evB, pb11] at h
    obtain ⟨h1, h2⟩ := num_cut hn hm h
    exact ⟨congrArg Ev.E.leaf h1, h2⟩
  | .leaf n, .node m l r, x, y, _, _, hn, hm, h => by simp [evB, pb11, pb01] at h
  | .node m l r, .leaf n, x, y, _, _, hn, hm, h => by simp [evB, pb11, pb01] at h
  | .node n l r, .node n' l' r', x, y, f, f', hn, hn', h => by
    have t1 : n + max l.top r.top < 18446744073709551616 := hn
    have t2 : n' + max l'.top r'.top < 18446744073709551616 := hn'
    simp [evB, pb01] at h
    obtain ⟨h1, h2, h3⟩ := headB_cut (kindE_lt l r) (kindE_lt l' r') (by omega) (by omega) h
    subst h1
    have rec1 : ∀ {x y : List Bool}, evB l ++ x = evB l' ++ y → l = l' ∧ x = y := fun q => evB_cut l l' f.1 f'.1 (by omega) (by omega) q
    have rec2 : ∀ {x y : List Bool}, evB r ++ x = evB r' ++ y → r = r' ∧ x = y := fun q => evB_cut r r' f.2.1 f'.2.1 (by omega) (by omega) q
    by_cases z : l.top = 0
    · have k0 : kindE l r = 0 := by unfold kindE; rw [if_pos z]
      have k0' := h2 ▸ k0
      have z' : l'.top = 0 := by
        rcases Nat.eq_zero_or_pos l'.top with q | q
        · exact q
        · unfold kindE at k0'; rw [if_neg (by omega)] at k0'; split at k0' <;> omega
      rw [if_pos k0, if_neg (by omega), if_pos k0', if_neg (by omega)] at h3
      obtain ⟨a, b⟩ := rec2 (by simpa using h3)
      exact ⟨by rw [E_zero f.1 z, E_zero f'.1 z', a], b⟩
    · have k0 : kindE l r ≠ 0 := by unfold kindE; rw [if_neg z]; split <;> omega
      have z' : ¬ l'.top = 0 := fun q => k0 (by rw [h2]; unfold kindE; rw [if_pos q])
      have k0' : kindE l' r' ≠ 0 := h2 ▸ k0
      by_cases w : r.top = 0
      · have k1 : kindE l r = 1 := by unfold kindE; rw [if_neg z, if_pos w]
        have k1' := h2 ▸ k1
        have w' : r'.top = 0 := by
          rcases Nat.eq_zero_or_pos r'.top with q | q
          · exact q
          · unfold kindE at k1'; rw [if_neg z', if_neg (by omega)] at k1'; omega
        rw [if_neg k0, if_pos k1, if_neg k0', if_pos k1'] at h3
        obtain ⟨a, b⟩ := rec1 (by simpa using h3)
        exact ⟨by rw [E_zero f.2.1 w, E_zero f'.2.1 w', a], b⟩
      · have k1 : kindE l r ≠ 1 := by unfold kindE; rw [if_neg z, if_neg w]; omega
        have k1' : kindE l' r' ≠ 1 := h2 ▸ k1
        rw [if_neg k0, if_neg k1, if_neg k0', if_neg k1'] at h3
        obtain ⟨a, b⟩ := rec1 (by simpa using h3)
        obtain ⟨a2, b2⟩ := rec2 b
        exact ⟨by rw [a, a2], b2⟩
theorem headB_len (n k : Nat) : (headB n k).length ≤ 131 := by
  have := numW_len 62 2 n
  unfold headB; split
  · rw [putBits_len]; omega
  · split <;> simp [putBits_len] <;> omega
theorem evB_len : ∀ (t : Ev.E) (n : Nat), t.depth ≤ n → (evB t).length + 132 ≤ 270 * 2 ^ n
  | .leaf m, n, _ => by have := Nat.one_le_two_pow (n := n); have := numW_len 62 2 m; simp [evB, putBits_len]; omega
  | .node m l r, 0, h => by simp [Ev.E.depth] at h
  | .node m l r, n + 1, h => by
    have hd : l.depth ≤ n ∧ r.depth ≤ n := by simp only [Ev.E.depth] at h; omega
    have h1 := evB_len l n hd.1
    have h2 := evB_len r n hd.2
    have h3 := headB_len m (kindE l r)
    rw [Nat.pow_succ]
    unfold evB
    simp only [List.length_append, putBits_len]
    split <;> split <;> (try simp only [List.length_nil]) <;> omega
theorem evB_leaf {t : Ev.E} (h : t.isLeaf = true) : evB t = putBits 1 1 ++ numW 62 2 t.base := by
  cases t with
  | leaf n => rfl
  | node n l r => simp [Ev.E.isLeaf] at h
theorem evB_nd {t : Ev.E} (h : t.isLeaf = false) : evB t = putBits 0 1 ++ headB t.base (kindE t.left t.right) ++ ((if kindE t.left t.right = 0 then [] else evB t.left) ++ (if kindE t.left t.right = 1 then [] else evB t.right)) := by
  cases t with
  | leaf n => simp [Ev.E.isLeaf] at h
  | node n l r => rfl
/- what stands behind is told by the bytes but for noughts at the end -/
theorem pk_alike {A B : List Bool} (h : pk A = pk B) : ∃ i j, A ++ List.replicate i false = B ++ List.replicate j false := by
  refine ⟨B.length - A.length, A.length - B.length, ?_⟩
  have hb : ∀ j, A.getD j false = B.getD j false := fun j => by rw [← pk_bit, ← pk_bit, h]
  apply List.ext_getElem
  · simp; omega
  · intro n h1 h2
    have q := hb n
    simp only [List.getD_eq_getElem?_getD] at q
    rw [List.getElem_append, List.getElem_append]
    split <;> split
    · rename_i a b; simpa [List.getElem?_eq_getElem a, List.getElem?_eq_getElem b] using q
    · rename_i a b; simpa [List.getElem?_eq_getElem a, List.getElem?_eq_none (Nat.not_lt.1 b)] using q
    · rename_i a b; simpa [List.getElem?_eq_getElem b, List.getElem?_eq_none (Nat.not_lt.1 a)] using q
    · simp
theorem id_once {t u : Ev.T} : pk (idB t) = pk (idB u) ↔ t = u :=
  ⟨fun h => by obtain ⟨i, j, e⟩ := pk_alike h; exact (idB_cut t u e).1, fun h => by rw [h]⟩
theorem ev_once {t u : Ev.E} (f : t.nf) (g : u.nf) (ht : t.top < 18446744073709551616) (hu : u.top < 18446744073709551616) : pk (evB t) = pk (evB u) ↔ t = u :=
  ⟨fun h => by obtain ⟨i, j, e⟩ := pk_alike h; exact (evB_cut t u f g ht hu e).1, fun h => by rw [h]⟩
theorem st_once {a b : Ev.T} {t u : Ev.E} (f : t.nf) (g : u.nf) (ht : t.top < 18446744073709551616) (hu : u.top < 18446744073709551616) : pk (idB a ++ evB t) = pk (idB b ++ evB u) ↔ a = b ∧ t = u :=
  ⟨fun h => by
    obtain ⟨i, j, e⟩ := pk_alike h
    rw [List.append_assoc, List.append_assoc] at e
    obtain ⟨h1, h2⟩ := idB_cut a b e
    exact ⟨h1, (evB_cut t u f g ht hu h2).1⟩, fun h => by rw [h.1, h.2]⟩
/- the same -/
theorem cover_same : ∀ (a b : Ev.T), (Ev.coverT a b && Ev.coverT b a) = decide (a = b)
  | .zero, .zero => by simp [Ev.coverT]
  | .zero, .one => by simp [Ev.coverT]
  | .zero, .node _ _ => by simp [Ev.coverT]
  | .one, .zero => by simp [Ev.coverT]
  | .one, .one => by simp [Ev.coverT]
  | .one, .node _ _ => by simp [Ev.coverT]
  | .node _ _, .zero => by simp [Ev.coverT]
  | .node _ _, .one => by simp [Ev.coverT]
  | .node l r, .node l' r' => by
    have h1 := cover_same l l'
    have h2 := cover_same r r'
    have e : (Ev.coverT (.node l r) (.node l' r') && Ev.coverT (.node l' r') (.node l r)) = ((Ev.coverT l l' && Ev.coverT l' l) && (Ev.coverT r r' && Ev.coverT r' r)) := by
      simp only [Ev.coverT]
      cases Ev.coverT l l' <;> cases Ev.coverT l' l <;> cases Ev.coverT r r' <;> cases Ev.coverT r' r <;> rfl
    rw [e, h1, h2]
    simp
theorem up_nf {m : Nat} {e : Ev.E} (h : e.nf) : (Ev.E.up m e).nf := by
  cases e with
  | leaf n => trivial
  | node n l r => exact ⟨h.1, h.2.1, Ev.E.mk_iff.2 (Ev.E.mk_iff.1 h.2.2)⟩
theorem up_base (m : Nat) (e : Ev.E) : (Ev.E.up m e).base = e.base + m := by cases e <;> rfl
theorem up_inj {m : Nat} {a b : Ev.E} (h : Ev.E.up m a = Ev.E.up m b) : a = b := by
  cases a <;> cases b <;> simp [Ev.E.up] at h ⊢ <;> exact h
theorem nd_top {n : Nat} {l r : Ev.E} (h : (Ev.E.node n l r).nf) : n < (Ev.E.node n l r).top := by
  show n < n + max l.top r.top
  rcases Nat.eq_zero_or_pos (max l.top r.top) with q | q
  · have hm := (Ev.E.mk_iff.1 h.2.2).1
    rw [E_zero h.1 (by omega), E_zero h.2.1 (by omega)] at hm
    exact absurd ⟨rfl, rfl, rfl⟩ hm
  · omega
theorem leq_top : ∀ (n : Nat) (A B : Ev.E), Ev.leqF n A B = true → A.top ≤ B.top
  | 0, A, B, h => Nat.le_trans (of_decide_eq_true h) (Ev.E.base_le B)
  | n + 1, A, B, h => by
    simp only [Ev.leqF, Bool.or_eq_true, Bool.and_eq_true, decide_eq_true_eq] at h
    rcases h with h | ⟨⟨h1, h2⟩, h3, h4⟩
    · exact Nat.le_trans h (Ev.E.base_le B)
    · have a := leq_top n _ _ h3
      have b := leq_top n _ _ h4
      have c := Ev.E.half_top B
      cases A with
      | leaf _ => simp [Ev.E.isLeaf] at h1
      | node k l r =>
        rw [Ev.E.up_top] at a b
        have e1 : l.top + k ≤ (Ev.E.up B.base B.left).top := a
        have e2 : r.top + k ≤ (Ev.E.up B.base B.right).top := b
        show k + max l.top r.top ≤ B.top
        omega
theorem leq_same : ∀ (n : Nat) (A B : Ev.E), A.nf → B.nf → Ev.leqF n A B = true → Ev.leqF n B A = true → A = B
  | n, .leaf a, .leaf b, _, _, h1, h2 => by
    have x : a ≤ b := leq_top n _ _ h1
    have y : b ≤ a := leq_top n _ _ h2
    rw [Nat.le_antisymm x y]
  | n, .leaf a, .node b l r, f, g, h1, h2 => by
    have x : (Ev.E.node b l r).top ≤ a := leq_top n _ _ h2
    have y := nd_top g
    have z : a ≤ b := by
      cases n with
      | zero => exact of_decide_eq_true h1
      | succ n => have q := h1; simp [Ev.leqF, Ev.E.isLeaf, Ev.E.top, Ev.E.base] at q; exact of_decide_eq_true q
    omega
  | n, .node b l r, .leaf a, f, g, h1, h2 => by
    have x : (Ev.E.node b l r).top ≤ a := leq_top n _ _ h1
    have y := nd_top f
    have z : a ≤ b := by
      cases n with
      | zero => exact of_decide_eq_true h2
      | succ n => have q := h2; simp [Ev.leqF, Ev.E.isLeaf, Ev.E.top, Ev.E.base] at q; exact of_decide_eq_true q
    omega
  | 0, .node a l r, .node b l' r', f, g, h1, h2 => by
    have x : (Ev.E.node a l r).top ≤ b := of_decide_eq_true h1
    have y : (Ev.E.node b l' r').top ≤ a := of_decide_eq_true h2
    have := nd_top f
    have := nd_top g
    omega
  | n + 1, .node a l r, .node b l' r', f, g, h1, h2 => by
    have t1 := leq_top _ _ _ h1
    have t2 := leq_top _ _ _ h2
    have u := nd_top f
    have v := nd_top g
    have g1 : ¬ (Ev.E.node a l r).top ≤ b := by omega
    have g2 : ¬ (Ev.E.node b l' r').top ≤ a := by omega
    have e1 : (Ev.E.node a l r).base = a := rfl
    have e2 : (Ev.E.node b l' r').base = b := rfl
    have e3 : (Ev.E.node a l r).left = l := rfl
    have e4 : (Ev.E.node b l' r').left = l' := rfl
    have e5 : (Ev.E.node a l r).right = r := rfl
    have e6 : (Ev.E.node b l' r').right = r' := rfl
    have e7 : (Ev.E.node a l r).isLeaf = false := rfl
    have e8 : (Ev.E.node b l' r').isLeaf = false := rfl
    simp only [Ev.leqF, e1, e2, e3, e4, e5, e6, e7, e8, Bool.or_eq_true, Bool.and_eq_true, decide_eq_true_eq, g1, g2, false_or] at h1 h2
    have p := leq_same n _ _ (up_nf f.1) (up_nf g.1) h1.2.1 h2.2.1
    have q := leq_same n _ _ (up_nf f.2.1) (up_nf g.2.1) h1.2.2 h2.2.2
    have m1 := (Ev.E.mk_iff.1 f.2.2).2
    have m2 := (Ev.E.mk_iff.1 g.2.2).2
    have b1 := congrArg Ev.E.base p
    have b2 := congrArg Ev.E.base q
    rw [up_base, up_base] at b1 b2
    have hab : a = b := by omega
    subst hab
    rw [up_inj p, up_inj q]
theorem leq_self : ∀ (n : Nat) (A : Ev.E), A.depth ≤ n → Ev.leqF n A A = true
  | 0, .leaf a, _ => by simp [Ev.leqF, Ev.E.top, Ev.E.base]
  | 0, .node _ _ _, h => by simp [Ev.E.depth] at h
  | n + 1, .leaf a, _ => by simp [Ev.leqF, Ev.E.top, Ev.E.base]
  | n + 1, .node a l r, h => by
    have hd := Ev.E.half_depth _ n h
    have h1 := leq_self n _ hd.1
    have h2 := leq_self n _ hd.2
    simp only [Ev.leqF, h1, h2]
    simp [Ev.E.isLeaf]
theorem leq_same_iff {A B : Ev.E} (f : A.nf) (g : B.nf) (hA : A.depth ≤ 64) (hB : B.depth ≤ 64) : (Ev.leqF 64 A B && Ev.leqF 64 B A) = decide (A = B) := by
  by_cases h : A = B
  · subst h; simp [leq_self 64 A hA]
  · rw [decide_eq_false h]
    cases h1 : Ev.leqF 64 A B
    · rfl
    · cases h2 : Ev.leqF 64 B A
      · rfl
      · exact absurd (leq_same 64 A B f g h1 h2) h
end Go.Proofs.Ytgmigcmhnmmdkaa

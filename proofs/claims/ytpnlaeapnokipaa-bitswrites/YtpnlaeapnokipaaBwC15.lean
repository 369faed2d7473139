/- What is written is read again. -/
import Derived.Test.YtpnlaeapnokipaaBwC13
import Derived.Test.YtpnlaeapnokipaaBwB5
set_option linter.all false
set_option maxRecDepth 100000
namespace Go.Proofs.Ytpnlaeapnokipaa
open Go.RowKit Go.Sep
/-- a number of bits, taken apart -/
theorem numW_form : ∀ (f k n : Nat), n < 2 ^ (f + k) → ∃ j m, j ≤ f ∧ numW f k n = List.replicate j true ++ false :: putBits m (k + j) ∧ n + 2 ^ k = 2 ^ (k + j) + m ∧ m < 2 ^ (k + j)
  | 0, k, n, h => ⟨0, n, Nat.le_refl _, rfl, by rw [Nat.add_zero]; omega, by rw [Nat.zero_add] at h; exact h⟩
  | f + 1, k, n, h => by
    by_cases hd : n / 2 ^ k = 0
    · exact ⟨0, n, by omega, by rw [numW_stop hd]; rfl, by rw [Nat.add_zero]; omega, div_lt_pow hd⟩
    · have hp := pow_le_of_div hd
      have h2 : n - 2 ^ k < 2 ^ (f + (k + 1)) := by rw [show f + (k + 1) = f + 1 + k by omega]; exact Nat.lt_of_le_of_lt (Nat.sub_le _ _) h
      obtain ⟨j, m, hj, e1, e2, e3⟩ := numW_form f (k + 1) (n - 2 ^ k) h2
      have ek : 2 ^ (k + 1) = 2 ^ k * 2 := Nat.pow_succ ..
      refine ⟨j + 1, m, by omega, ?_, ?_, ?_⟩
      · rw [numW_go hd, e1, List.replicate_succ, show k + 1 + j = k + (j + 1) by omega]; rfl
      · rw [show k + (j + 1) = k + 1 + j by omega]; omega
      · rw [show k + (j + 1) = k + 1 + j by omega]; exact e3
theorem getD_mid {A X B : List Bool} {i : Nat} (h : i < X.length) : (A ++ X ++ B).getD (A.length + i) false = X.getD i false := by
  rw [List.append_assoc]
  simp [List.getD, List.getElem?_append, h, show ¬ A.length + i < A.length by omega]
theorem pk_room {A X B : List Bool} : A.length + X.length ≤ (pk (A ++ X ++ B)).length * 8 := by
  rw [pk_len]; simp only [List.length_append]; omega
theorem num_again {A B : List Bool} {n : Nat} (hn : n < 18446744073709551616) : bnV ((bitsL (pk (A ++ numW 62 2 n ++ B))).drop A.length) 0 = n ∧ bnD ((bitsL (pk (A ++ numW 62 2 n ++ B))).drop A.length) 0 = (numW 62 2 n).length ∧ bnE ((bitsL (pk (A ++ numW 62 2 n ++ B))).drop A.length) 0 = 0 := by
  obtain ⟨j, m, hj, e1, e2, e3⟩ := numW_form 62 2 n (by rw [show (2 : Nat) ^ (62 + 2) = 18446744073709551616 by decide]; exact hn)
  have hlen : (numW 62 2 n).length = j + 1 + (j + 2) := by rw [e1]; simp [putBits_len]; omega
  have hroom := pk_room (A := A) (X := numW 62 2 n) (B := B)
  rw [hlen] at hroom
  have hbit : ∀ i, i < j + 1 + (j + 2) → bitB (pk (A ++ numW 62 2 n ++ B)) (A.length + i) = (numW 62 2 n).getD i false := fun i hi => by
    rw [pk_bit, getD_mid (by rw [hlen]; exact hi)]
  have hone : OnesL (pk (A ++ numW 62 2 n ++ B)) A.length j := by
    refine ⟨by omega, fun i hi => ?_⟩
    rw [hbit i (by omega), e1]; simp [List.getD, List.getElem?_append, hi]
  have hz : bitB (pk (A ++ numW 62 2 n ++ B)) (A.length + j) = false := by
    rw [hbit j (by omega), e1]; simp [List.getD, List.getElem?_append]
  have hrun := hone.run hj (by omega) hz
  have hv : rd (pk (A ++ numW 62 2 n ++ B)) (A.length + j + 1) (j + 2) = m := by
    have := rd_put (A ++ List.replicate j true ++ [false]) B m (2 + j)
    rw [show A ++ List.replicate j true ++ [false] ++ putBits m (2 + j) ++ B = A ++ numW 62 2 n ++ B by rw [e1]; simp] at this
    rw [show (A ++ List.replicate j true ++ [false]).length = A.length + j + 1 by simp; omega, Nat.mod_eq_of_lt e3] at this
    rw [Nat.add_comm j 2]; exact this
  have hfew : fewV ((bitsL (pk (A ++ numW 62 2 n ++ B))).drop A.length) j = n := by
    have h4 : 2 ^ 2 ≤ 2 ^ (2 + j) := Nat.pow_le_pow_right (by decide) (by omega)
    rw [few_rd (by omega), hv, Nat.add_comm j 2]; omega
  have hbad : ¬ fewBad ((bitsL (pk (A ++ numW 62 2 n ++ B))).drop A.length) j := by
    unfold fewBad
    rw [hfew, dropB_len, bitsL_get (by omega), hz]
    rintro (h | h | h)
    · omega
    · cases h
    · omega
  obtain ⟨g1, g2, g3⟩ := bn_good rfl hrun hbad
  rw [g1, g2, g3, hfew, hlen]; exact ⟨rfl, rfl, rfl⟩
theorem get_again {A B : List Bool} {n k : Nat} : geV (pk (A ++ putBits n k ++ B)) A.length 0 k = n % 2 ^ k ∧ geD (pk (A ++ putBits n k ++ B)) A.length 0 k = k ∧ geE (pk (A ++ putBits n k ++ B)) A.length 0 k = 0 := by
  have hroom := pk_room (A := A) (X := putBits n k) (B := B)
  rw [putBits_len] at hroom
  unfold geV geD geE
  rw [if_pos ⟨rfl, by omega⟩, if_pos ⟨rfl, by omega⟩, if_neg (by omega), rd_put]
  exact ⟨rfl, rfl, rfl⟩
theorem end_again {A : List Bool} : eoE (pk A) A.length 0 = 0 := by
  have h := pk_len A
  have ho : oneL (pk A) A.length = false := oneL_false fun i hi => by
    rw [pk_bit]; simp [List.getD]
  unfold eoE
  rw [ho, if_neg]
  rintro ⟨_, q | q⟩
  · omega
  · cases q
/-- the document's bytes -/
theorem rd_byte {l : List UInt8} {q : Nat} : rd l (q * 8) 8 = (l.getD q 0).toNat := by
  have h := rd_all (l := l) (a := q * 8) (n := (l.getD q 0).toNat) (k := 8) fun i hi => by
    have hb := bit_read (l := l) (j := q * 8 + i)
    rw [show (q * 8 + i) / 8 = q by omega, show (q * 8 + i) % 8 = i by omega] at hb
    unfold bitF
    rw [show 8 - 1 - i = 7 - i by omega, hb]
    cases bitB l (q * 8 + i) <;> rfl
  rw [h]
  have := byte_lt (l.getD q 0)
  exact Nat.mod_eq_of_lt (by omega)
theorem rd_dbl {l : List UInt8} {p i : Nat} (h : bitB l (p + i) = false) : rd l p i * 2 = rd l p (i + 1) := by
  show _ = 2 * rd l p i + (bitB l (p + i)).toNat
  rw [h, Nat.mul_comm]; rfl
theorem rd_dbl1 {l : List UInt8} {p i : Nat} (h : bitB l (p + i) = true) : rd l p i * 2 + 1 = rd l p (i + 1) := by
  show _ = 2 * rd l p i + (bitB l (p + i)).toNat
  rw [h, Nat.mul_comm]; rfl
theorem take_snocU {l : List UInt8} {q : Nat} (h : q < l.length) : l.take q ++ [UInt8.ofNat (rd l (q * 8) 8)] = l.take (q + 1) := by
  rw [rd_byte, List.take_succ, show l[q]? = some (l.getD q 0) by simp [h]]
  simp
/-- all acts' bits -/
def actB (t : Nat × Nat × Int) : List Bool := if t.1 % 2 = 0 then putBits t.2.1 (clampN t.2.2) else numW 62 2 t.2.1
def wA (L : List (Nat × Nat × Int)) : List Bool := L.flatMap actB
theorem wA_app (a b : List (Nat × Nat × Int)) : wA (a ++ b) = wA a ++ wA b := by simp [wA]
theorem wA_snoc {L : List (Nat × Nat × Int)} {i : Nat} (h : i < L.length) : wA (L.take i) ++ actB (L.getD i (0, 0, 0)) = wA (L.take (i + 1)) := by
  rw [List.take_succ, show L[i]? = some (L.getD i (0, 0, 0)) by simp [h]]
  simp [wA]
theorem actB_len (t : Nat × Nat × Int) : (actB t).length ≤ 127 := by
  unfold actB
  split
  · rw [putBits_len]; have := clampN_le t.2.2; omega
  · have := numW_len 62 2 t.2.1; omega
theorem wA_len : ∀ L : List (Nat × Nat × Int), (wA L).length ≤ L.length * 127
  | [] => Nat.le_refl _
  | t :: L => by
    have h1 := actB_len t
    have h2 := wA_len L
    show (actB t ++ wA L).length ≤ _
    rw [List.length_append, List.length_cons]; omega
theorem wA_parts {L : List (Nat × Nat × Int)} {i : Nat} (h : i < L.length) : ∃ B, wA L = wA (L.take i) ++ actB (L.getD i (0, 0, 0)) ++ B := by
  refine ⟨wA (L.drop (i + 1)), ?_⟩
  rw [wA_snoc h]
  conv => lhs; rw [← List.take_append_drop (i + 1) L, wA_app]
theorem actB_0 {t : Nat × Nat × Int} (h : t.1 % 2 = 0) : actB t = putBits t.2.1 (clampN t.2.2) := by unfold actB; rw [if_pos h]
theorem actB_1 {t : Nat × Nat × Int} (h : ¬ t.1 % 2 = 0) : actB t = numW 62 2 t.2.1 := by unfold actB; rw [if_neg h]
/-- each act is read again -/
theorem rg_num {L : List (Nat × Nat × Int)} {i : Nat} (h : i < L.length) (h1 : ¬ (L.getD i (0, 0, 0)).1 % 2 = 0) (hn : (L.getD i (0, 0, 0)).2.1 < 18446744073709551616) :
    bnV ((bitsL (pk (wA L))).drop (wA (L.take i)).length) 0 = (L.getD i (0, 0, 0)).2.1 ∧ (wA (L.take i)).length + bnD ((bitsL (pk (wA L))).drop (wA (L.take i)).length) 0 = (wA (L.take (i + 1))).length ∧ bnE ((bitsL (pk (wA L))).drop (wA (L.take i)).length) 0 = 0 := by
  obtain ⟨B, e⟩ := wA_parts h
  have e2 := wA_snoc h
  rw [actB_1 h1] at e e2
  obtain ⟨g1, g2, g3⟩ := num_again (A := wA (L.take i)) (B := B) hn
  rw [e, g1, g2, g3, ← e2, List.length_append]; exact ⟨rfl, rfl, rfl⟩
theorem rg_get {L : List (Nat × Nat × Int)} {i : Nat} (h : i < L.length) (h1 : (L.getD i (0, 0, 0)).1 % 2 = 0) :
    geV (pk (wA L)) (wA (L.take i)).length 0 (clampN (L.getD i (0, 0, 0)).2.2) = (L.getD i (0, 0, 0)).2.1 % 2 ^ clampN (L.getD i (0, 0, 0)).2.2 ∧ (wA (L.take i)).length + geD (pk (wA L)) (wA (L.take i)).length 0 (clampN (L.getD i (0, 0, 0)).2.2) = (wA (L.take (i + 1))).length ∧ geE (pk (wA L)) (wA (L.take i)).length 0 (clampN (L.getD i (0, 0, 0)).2.2) = 0 := by
  obtain ⟨B, e⟩ := wA_parts h
  have e2 := wA_snoc h
  rw [actB_0 h1] at e e2
  obtain ⟨g1, g2, g3⟩ := get_again (A := wA (L.take i)) (B := B) (n := (L.getD i (0, 0, 0)).2.1) (k := clampN (L.getD i (0, 0, 0)).2.2)
  rw [e, g1, g2, g3, ← e2, List.length_append, putBits_len]; exact ⟨rfl, rfl, rfl⟩
theorem wA_room {L : List (Nat × Nat × Int)} {i : Nat} : (wA (L.take i)).length ≤ (pk (wA L)).length * 8 := by
  have h : wA L = wA (L.take i) ++ wA (L.drop i) := by
    conv => lhs; rw [← List.take_append_drop i L, wA_app]
  rw [pk_len, h, List.length_append]; omega
end Go.Proofs.Ytpnlaeapnokipaa

/- Bits: as they are put, as numbers have them. -/
import Derived.Test.YtgmigcmhnmmdkaaCoBwC3
set_option linter.all false
set_option maxRecDepth 100000
namespace Go.Proofs.Ytgmigcmhnmmdkaa
def bitF (n k i : Nat) : Bool := decide (n / 2 ^ (k - 1 - i) % 2 = 1)
def putBits (n k : Nat) : List Bool := (List.range k).map (bitF n k)
theorem putBits_len (n k : Nat) : (putBits n k).length = k := by simp [putBits]
theorem putBits_succ (n k : Nat) : putBits n (k + 1) = decide (n / 2 ^ k % 2 = 1) :: putBits n k := by
  unfold putBits
  rw [List.range_succ_eq_map, List.map_cons, List.map_map]
  congr 1
  apply List.map_congr_left
  intro i hi
  simp only [Function.comp, bitF]
  rw [show k + 1 - 1 - (i + 1) = k - 1 - i by omega]
def numW : Nat → Nat → Nat → List Bool
  | 0, k, n => false :: putBits n k
  | f + 1, k, n => if n / 2 ^ k ≠ 0 then true :: numW f (k + 1) (n - 2 ^ k) else false :: putBits n k
theorem numW_stop {f k n : Nat} (h : n / 2 ^ k = 0) : numW f k n = false :: putBits n k := by
  cases f with
  | zero => rfl
  | succ f => rw [numW, if_neg (fun q => q h)]
theorem numW_go {f k n : Nat} (h : n / 2 ^ k ≠ 0) : numW (f + 1) k n = true :: numW f (k + 1) (n - 2 ^ k) := by rw [numW, if_pos h]
theorem div_lt_pow {n k : Nat} (h : n / 2 ^ k = 0) : n < 2 ^ k := by
  rcases Nat.div_eq_zero_iff.1 h with h | h
  · exact absurd h (Nat.ne_of_gt (Nat.two_pow_pos k))
  · exact h
theorem pow_le_of_div {n k : Nat} (h : n / 2 ^ k ≠ 0) : 2 ^ k ≤ n := by
  rcases Nat.lt_or_ge n (2 ^ k) with q | q
  · exact absurd (Nat.div_eq_of_lt q) h
  · exact q
theorem numW_len : ∀ (f k n : Nat), (numW f k n).length ≤ 1 + 2 * f + k
  | 0, k, n => by simp [numW, putBits_len]; omega
  | f + 1, k, n => by
    by_cases p : n / 2 ^ k = 0
    · rw [numW_stop p]; simp [putBits_len]; omega
    · rw [numW_go p]; have := numW_len f (k + 1) (n - 2 ^ k); simp; omega
def Alike (l m : List Bool) (i : Nat) : Prop := l.length ≤ m.length ∧ ∀ j, j < i → l.getD j false = m.getD j false
theorem Alike.self (l : List Bool) (i : Nat) : Alike l l i := ⟨Nat.le_refl _, fun _ _ => rfl⟩
theorem Alike.step {l m : List Bool} {i : Nat} (h : Alike l m i) (e : l.getD i false = m.getD i false) : Alike l m (i + 1) :=
  ⟨h.1, fun j hj => by
    rcases Nat.lt_or_ge j i with q | q
    · exact h.2 j q
    · rw [show j = i by omega]; exact e⟩
theorem Alike.back {l m : List Bool} {i : Nat} (h : Alike l m (i + 1)) : Alike l m i ∧ l.getD i false = m.getD i false := ⟨⟨h.1, fun j hj => h.2 j (by omega)⟩, h.2 i (by omega)⟩
/-- a bit is added -/
def addB (l : List UInt8) (n x : Nat) : List UInt8 :=
  (if n % 8 = 0 then l ++ [0] else l).set ((if n % 8 = 0 then l ++ [0] else l).length - 1) (UInt8.ofNat (bor 8 ((if n % 8 = 0 then l ++ [0] else l).getD ((if n % 8 = 0 then l ++ [0] else l).length - 1) 0).toNat (bshl 64 x (7 - n % 8) % 256)))
def pkS (s : List UInt8 × Nat) (b : Bool) : List UInt8 × Nat := (addB s.1 s.2 b.toNat, s.2 + 1)
def pk (bs : List Bool) : List UInt8 := (bs.foldl pkS ([], 0)).1
theorem pk_count (bs : List Bool) : ∀ s : List UInt8 × Nat, (bs.foldl pkS s).2 = s.2 + bs.length := by
  induction bs with
  | nil => intro s; rfl
  | cons b bs ih => intro s; rw [List.foldl_cons, ih]; simp [pkS]; omega
theorem pk_snoc (bs : List Bool) (b : Bool) : pk (bs ++ [b]) = addB (pk bs) bs.length b.toNat := by
  unfold pk
  rw [List.foldl_append]
  show addB _ (bs.foldl pkS ([], 0)).2 b.toNat = _
  rw [pk_count]; simp
theorem addB_len (l : List UInt8) (n x : Nat) : (addB l n x).length = if n % 8 = 0 then l.length + 1 else l.length := by
  unfold addB; split <;> simp
theorem pk_len (bs : List Bool) : (pk bs).length = (bs.length + 7) / 8 := by
  induction h : bs.length generalizing bs with
  | zero => rw [List.eq_nil_of_length_eq_zero h]; rfl
  | succ n ih =>
    have hne : bs ≠ [] := fun e => by rw [e] at h; cases h
    obtain ⟨cs, b, rfl⟩ : ∃ cs b, bs = cs ++ [b] := ⟨bs.dropLast, bs.getLast hne, (List.dropLast_concat_getLast hne).symm⟩
    have hc : cs.length = n := by simpa using h
    rw [pk_snoc, addB_len, ih cs hc, hc]
    split <;> omega
theorem band64_one {a : Nat} (h : a < 18446744073709551616) : band 64 a 1 = a % 2 := by
  unfold band
  rw [BitVec.toNat_and, BitVec.toNat_ofNat, BitVec.toNat_ofNat, Nat.mod_eq_of_lt (by omega)]
  exact Nat.and_one_is_mod a
theorem bit_toNat {x : Nat} (h : x < 2) : (decide (x = 1)).toNat = x := by
  have : x = 0 ∨ x = 1 := by omega
  rcases this with rfl | rfl <;> rfl
end Go.Proofs.Ytgmigcmhnmmdkaa


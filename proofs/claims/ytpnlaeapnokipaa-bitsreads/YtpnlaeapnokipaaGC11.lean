/- Bits that are read of a list of bits. -/
import Derived.Test.YtpnlaeapnokipaaGC10
set_option linter.all false
set_option maxRecDepth 100000
namespace Go.Proofs.Ytpnlaeapnokipaa
def rdB (bs : List Bool) : Nat → Nat
  | 0 => 0
  | i + 1 => 2 * rdB bs i + (bs.getD i false).toNat
theorem rdB_lt (bs : List Bool) : ∀ i, rdB bs i < 2 ^ i
  | 0 => by show 0 < 1; decide
  | i + 1 => by
    have := rdB_lt bs i
    have hb := Bool.toNat_le (bs.getD i false)
    rw [rdB, Nat.pow_succ]; omega
theorem rdB_63 {bs : List Bool} {i k : Nat} (h : i < k) (hk : k ≤ 64) : rdB bs i < 9223372036854775808 :=
  Nat.lt_of_lt_of_le (rdB_lt bs i) (show 2 ^ i ≤ 2 ^ 63 from Nat.pow_le_pow_right (by decide) (by omega))
theorem getD_takeB {bs : List Bool} {i k : Nat} (h : i < k) : (bs.take k).getD i false = bs.getD i false := by
  rw [List.getD_eq_getElem?_getD, List.getD_eq_getElem?_getD, List.getElem?_take, if_pos h]
theorem rdB_one {bs : List Bool} {i k : Nat} (h : i < k) (hb : (bs.take k).getD i false = true) : rdB bs i * 2 + 1 = rdB bs (i + 1) := by
  rw [getD_takeB h] at hb; rw [rdB, hb]; simp; omega
theorem rdB_nil {bs : List Bool} {i k : Nat} (h : i < k) (hb : (bs.take k).getD i false = false) : rdB bs i * 2 = rdB bs (i + 1) := by
  rw [getD_takeB h] at hb; rw [rdB, hb]; simp; omega
def bgV (bs : List Bool) (e k : Nat) : Nat := if e = 0 ∧ k ≤ bs.length then rdB bs k else 0
def bgD (bs : List Bool) (e k : Nat) : Nat := if e = 0 ∧ k ≤ bs.length then k else 0
def bgE (bs : List Bool) (e k : Nat) : Nat := if e = 0 ∧ bs.length < k then 6 else e
def anyB (bs : List Bool) (i : Nat) : Bool := (bs.take i).any id
theorem anyB_succ {bs : List Bool} {i : Nat} (h : i < bs.length) : anyB bs (i + 1) = (anyB bs i || bs.getD i false) := by
  unfold anyB
  rw [List.take_succ, List.any_append, show bs[i]? = some (bs.getD i false) by simp [h]]
  simp
def beE (bs : List Bool) (e : Nat) : Nat := if e = 0 ∧ (8 ≤ bs.length ∨ anyB bs bs.length = true) then 6 else e
/-- the bits of bytes -/
def bitsL (l : List UInt8) : List Bool := (List.range (l.length * 8)).map fun i => bitB l i
theorem bitsL_len (l : List UInt8) : (bitsL l).length = l.length * 8 := by unfold bitsL; simp
theorem bitsL_get {l : List UInt8} {p i : Nat} (h : p + i < l.length * 8) : ((bitsL l).drop p).getD i false = bitB l (p + i) := by
  rw [List.getD_eq_getElem?_getD, List.getElem?_drop]
  unfold bitsL
  rw [List.getElem?_map, List.getElem?_range h]; rfl
theorem rdB_rd {l : List UInt8} {p : Nat} : ∀ {i : Nat}, p + i ≤ l.length * 8 → rdB ((bitsL l).drop p) i = rd l p i
  | 0, _ => rfl
  | i + 1, h => by rw [rdB, rd, rdB_rd (i := i) (by omega), bitsL_get (by omega)]
theorem dropB_len {l : List UInt8} {p : Nat} : ((bitsL l).drop p).length = l.length * 8 - p := by rw [List.length_drop, bitsL_len]
theorem bg_ge {l : List UInt8} {p e k : Nat} (hp : p ≤ l.length * 8) : bgV ((bitsL l).drop p) e k = geV l p e k ∧ bgD ((bitsL l).drop p) e k = geD l p e k ∧ bgE ((bitsL l).drop p) e k = geE l p e k := by
  unfold bgV geV bgD geD bgE geE
  rw [dropB_len]
  refine ⟨?_, rfl, rfl⟩
  by_cases h : e = 0 ∧ k ≤ l.length * 8 - p
  · rw [if_pos h, if_pos h, rdB_rd (by omega)]
  · rw [if_neg h, if_neg h]
theorem anyB_oneL {l : List UInt8} {p : Nat} : anyB ((bitsL l).drop p) ((bitsL l).drop p).length = oneL l p := by
  unfold anyB oneL
  rw [List.take_length, Bool.eq_iff_iff, List.any_eq_true, List.any_eq_true]
  constructor
  · rintro ⟨x, hx, hb⟩
    obtain ⟨i, hi, rfl⟩ := List.mem_iff_getElem.1 hx
    have hi' := hi
    rw [dropB_len] at hi'
    refine ⟨i, List.mem_range.2 hi', ?_⟩
    rw [← bitsL_get (by omega), List.getD_eq_getElem?_getD, List.getElem?_eq_getElem hi]
    exact hb
  · rintro ⟨i, hi, hb⟩
    have hi' := List.mem_range.1 hi
    have hi2 : i < ((bitsL l).drop p).length := by rw [dropB_len]; exact hi'
    refine ⟨((bitsL l).drop p)[i], List.getElem_mem hi2, ?_⟩
    rw [← bitsL_get (by omega), List.getD_eq_getElem?_getD, List.getElem?_eq_getElem hi2] at hb
    exact hb
theorem be_eo {l : List UInt8} {p e : Nat} : beE ((bitsL l).drop p) e = eoE l p e := by unfold beE eoE; rw [anyB_oneL, dropB_len]
end Go.Proofs.Ytpnlaeapnokipaa

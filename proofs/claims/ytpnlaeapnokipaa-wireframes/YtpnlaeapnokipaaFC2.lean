/- Frames; a byte that is turned is seen. -/
import Derived.Test.YtpnlaeapnokipaaFC1
set_option linter.all false
set_option maxRecDepth 100000
namespace Go.Proofs.Ytpnlaeapnokipaa
def wd4 (n : Nat) : List UInt8 := [UInt8.ofNat (n % 256), UInt8.ofNat (n / 256 % 256), UInt8.ofNat (n / 65536 % 256), UInt8.ofNat (n / 16777216 % 256)]
def frameL (l : List UInt8) : List UInt8 := wd4 l.length ++ wd4 (4294967295 - crc (crc 4294967295 (wd4 l.length)) l) ++ l
theorem frameL_len (l : List UInt8) : (frameL l).length = 8 + l.length := by unfold frameL wd4; simp; omega
theorem ofNat_toNat {n : Nat} (h : n < 256) : (UInt8.ofNat n).toNat = n := UInt8.toNat_ofNat_of_lt' h
theorem le4_wd4 {n : Nat} (h : n < 4294967296) (r : List UInt8) : le4 (wd4 n ++ r) = n := by
  unfold le4 wd4
  simp only [List.cons_append, List.nil_append, List.getD_cons_zero, List.getD_cons_succ]
  rw [ofNat_toNat (by omega), ofNat_toNat (by omega), ofNat_toNat (by omega), ofNat_toNat (by omega)]
  omega
theorem xor_inj {a b c : Nat} (e : a ^^^ b = a ^^^ c) : b = c := by
  have h := congrArg (fun x => a ^^^ x) e
  simpa [← Nat.xor_assoc] using h
theorem crcBit_inj {r r' : Nat} (h : r < 4294967296) (h' : r' < 4294967296) (e : crcBit r = crcBit r') : r = r' := by
  have key : ∀ r, r < 4294967296 → (crcBit r).testBit 31 = decide (r % 2 = 1) := fun r h => by
    unfold crcBit
    rw [Nat.testBit_xor, Nat.testBit_lt_two_pow (x := r / 2) (by omega)]
    split
    · rename_i h1; rw [h1]; decide
    · rename_i h1; simp [h1]
  have hp : decide (r % 2 = 1) = decide (r' % 2 = 1) := by rw [← key r h, ← key r' h', e]
  have hq : (r % 2 = 1) = (r' % 2 = 1) := by simpa using hp
  unfold crcBit at e
  by_cases h1 : r % 2 = 1
  · have h2 : r' % 2 = 1 := hq ▸ h1
    rw [if_pos h1, if_pos h2] at e
    have := xor_inj (a := 3988292384) (by simpa [Nat.xor_comm] using e : 3988292384 ^^^ r / 2 = 3988292384 ^^^ r' / 2)
    omega
  · have h2 : ¬ r' % 2 = 1 := fun q => h1 (hq ▸ q)
    rw [if_neg h1, if_neg h2, Nat.xor_zero, Nat.xor_zero] at e
    omega
theorem crcBits_inj : ∀ (k : Nat) {r r' : Nat}, r < 4294967296 → r' < 4294967296 → crcBits k r = crcBits k r' → r = r'
  | 0, _, _, _, _, e => e
  | k + 1, _, _, h, h', e => crcBit_inj h h' (crcBits_inj k (crcBit_lt h) (crcBit_lt h') e)
theorem xor_injL {a b c : Nat} (e : b ^^^ a = c ^^^ a) : b = c := xor_inj (a := a) (by rw [Nat.xor_comm, e, Nat.xor_comm])
theorem crc_inj : ∀ (l : List UInt8) {r r' : Nat}, r < 4294967296 → r' < 4294967296 → crc r l = crc r' l → r = r'
  | [], _, _, _, _, e => e
  | b :: l, r, r', h, h', e => by
    have hb : b.toNat < 4294967296 := by have := byte_lt b; omega
    have := crc_inj l (crcBits_lt 8 (xor_lt32 h hb)) (crcBits_lt 8 (xor_lt32 h' hb)) e
    exact xor_injL (crcBits_inj 8 (xor_lt32 h hb) (xor_lt32 h' hb) this)
theorem crc_set {l : List UInt8} {i : Nat} {y : UInt8} {r : Nat} (hr : r < 4294967296) (hi : i < l.length) (hy : y ≠ l.getD i 0) : crc r (l.set i y) ≠ crc r l := by
  induction l generalizing i r with
  | nil => simp at hi
  | cons b l ih =>
    have hb : b.toNat < 4294967296 := by have := byte_lt b; omega
    cases i with
    | zero =>
      simp only [List.set_cons_zero, List.getD_cons_zero] at hy ⊢
      have hy' : y.toNat < 4294967296 := by have := byte_lt y; omega
      intro e
      have e2 : crc (crcBits 8 (r ^^^ y.toNat)) l = crc (crcBits 8 (r ^^^ b.toNat)) l := e
      have e3 := crc_inj l (crcBits_lt 8 (xor_lt32 hr hy')) (crcBits_lt 8 (xor_lt32 hr hb)) e2
      have e4 := crcBits_inj 8 (xor_lt32 hr hy') (xor_lt32 hr hb) e3
      exact hy (UInt8.toNat_inj.1 (xor_inj e4))
    | succ i =>
      simp only [List.set_cons_succ, List.getD_cons_succ] at hy ⊢
      exact ih (crcBits_lt 8 (xor_lt32 hr hb)) (by simpa using hi) hy
theorem frame_parts (l m : List UInt8) (hl : l.length < 1048577) : le4 (frameL l ++ m) = l.length ∧ le4 ((frameL l ++ m).drop 4) = 4294967295 - crc (crc 4294967295 ((frameL l ++ m).take 4)) l ∧ ((frameL l ++ m).drop 8).take l.length = l ∧ (frameL l ++ m).length = 8 + l.length + m.length := by
  have h0 : (4294967295 - crc (crc 4294967295 (wd4 l.length)) l) < 4294967296 := by omega
  have t4 : (frameL l ++ m).take 4 = wd4 l.length := rfl
  refine ⟨?_, ?_, ?_, ?_⟩
  · unfold frameL; rw [List.append_assoc, List.append_assoc]; exact le4_wd4 (by omega) _
  · rw [t4]
    have : (frameL l ++ m).drop 4 = wd4 (4294967295 - crc (crc 4294967295 (wd4 l.length)) l) ++ (l ++ m) := by unfold frameL wd4; simp
    rw [this]; exact le4_wd4 h0 _
  · have : (frameL l ++ m).drop 8 = l ++ m := by unfold frameL wd4; simp
    rw [this]; exact List.take_left
  · rw [List.length_append, frameL_len]
theorem frame_open (l m : List UInt8) (hl : l.length < 1048577) : openD (frameL l ++ m) = (l, (frameL l).length, 0) := by
  obtain ⟨h1, h2, h3, h4⟩ := frame_parts l m hl
  unfold openD
  rw [if_neg (by omega), h1, if_neg (by omega), if_neg (by omega), h3, h2, if_neg (fun q => q rfl), frameL_len]
theorem take_set_ge {l : List UInt8} {i n : Nat} {y : UInt8} (h : n ≤ i) : (l.set i y).take n = l.take n := List.take_set_of_le h
theorem le4_take {l m : List UInt8} (h : l.take 4 = m.take 4) : le4 l = le4 m := by
  have g : ∀ (l : List UInt8) (i : Nat), i < 4 → l.getD i 0 = (l.take 4).getD i 0 := fun l i hi => by
    rw [List.getD_eq_getElem?_getD, List.getD_eq_getElem?_getD, List.getElem?_take, if_pos hi]
  unfold le4
  rw [g l 0 (by decide), g l 1 (by decide), g l 2 (by decide), g l 3 (by decide), g m 0 (by decide), g m 1 (by decide), g m 2 (by decide), g m 3 (by decide), h]
theorem le4_set {l : List UInt8} {i : Nat} {y : UInt8} (hi : i < 4) (hl : 4 ≤ l.length) (hy : y ≠ l.getD i 0) : le4 (l.set i y) ≠ le4 l := by
  match l, hl with
  | a :: b :: c :: d :: r, _ =>
    have hne : ∀ {u v : UInt8}, u ≠ v → u.toNat ≠ v.toNat := fun h e => h (UInt8.toNat_inj.1 e)
    have ha := byte_lt a; have hb := byte_lt b; have hc := byte_lt c; have hd := byte_lt d; have hy0 := byte_lt y
    match i, hi with
    | 0, _ => have := hne hy; simp only [List.getD_cons_zero] at this; simp only [le4, List.set_cons_zero, List.getD_cons_zero, List.getD_cons_succ]; omega
    | 1, _ => have := hne hy; simp only [List.getD_cons_zero, List.getD_cons_succ] at this; simp only [le4, List.set_cons_zero, List.set_cons_succ, List.getD_cons_zero, List.getD_cons_succ]; omega
    | 2, _ => have := hne hy; simp only [List.getD_cons_zero, List.getD_cons_succ] at this; simp only [le4, List.set_cons_zero, List.set_cons_succ, List.getD_cons_zero, List.getD_cons_succ]; omega
    | 3, _ => have := hne hy; simp only [List.getD_cons_zero, List.getD_cons_succ] at this; simp only [le4, List.set_cons_zero, List.set_cons_succ, List.getD_cons_zero, List.getD_cons_succ]; omega
/-- a byte of a frame that is turned, but of those that say how long it is -/
theorem frame_turned (l : List UInt8) (hl : l.length < 1048577) {j : Nat} {y : UInt8} (h4 : 4 ≤ j) (hj : j < (frameL l).length) (hy : y ≠ (frameL l).getD j 0) : openD ((frameL l).set j y) = ([], 0, 13) := by
  obtain ⟨h1, h2, h3, h5⟩ := frame_parts l [] hl
  rw [List.append_nil] at h1 h2 h3 h5
  have hlen : ((frameL l).set j y).length = 8 + l.length := by rw [List.length_set]; exact frameL_len l
  have t4 : ((frameL l).set j y).take 4 = (frameL l).take 4 := take_set_ge h4
  have e1 : le4 ((frameL l).set j y) = l.length := (le4_take t4).trans h1
  have hd : (frameL l).drop 8 = l := by unfold frameL wd4; simp
  unfold openD
  rw [if_neg (by omega), e1, if_neg (by omega), if_neg (by omega), if_pos]
  rw [t4]
  by_cases h8 : j < 8
  · have d8 : ((frameL l).set j y).drop 8 = l := by rw [List.drop_set, if_pos h8]; exact hd
    have d4 : ((frameL l).set j y).drop 4 = ((frameL l).drop 4).set (j - 4) y := by rw [List.drop_set, if_neg (by omega)]
    have hg : ((frameL l).drop 4).getD (j - 4) 0 = (frameL l).getD j 0 := by
      rw [List.getD_eq_getElem?_getD, List.getD_eq_getElem?_getD, List.getElem?_drop, show 4 + (j - 4) = j by omega]
    rw [d8, d4, List.take_of_length_le (Nat.le_refl _)]
    intro e
    refine le4_set (l := (frameL l).drop 4) (i := j - 4) (y := y) (by omega) (by rw [List.length_drop, frameL_len]; omega) (by rw [hg]; exact hy) ?_
    rw [← e, h2]
  · have d8 : ((frameL l).set j y).drop 8 = l.set (j - 8) y := by rw [List.drop_set, if_neg (by omega), hd]
    have d4 : (((frameL l).set j y).drop 4).take 4 = ((frameL l).drop 4).take 4 := by rw [List.drop_set, if_neg (by omega)]; exact take_set_ge (by omega)
    have hg : l.getD (j - 8) 0 = (frameL l).getD j 0 := by
      conv => lhs; rw [← hd]
      rw [List.getD_eq_getElem?_getD, List.getD_eq_getElem?_getD, List.getElem?_drop, show 8 + (j - 8) = j by omega]
    rw [le4_take d4, d8, List.take_of_length_le (l := l.set (j - 8) y) (i := l.length) (by rw [List.length_set]; exact Nat.le_refl _), h2]
    have hc := crc_set (l := l) (i := j - 8) (y := y) (r := crc 4294967295 ((frameL l).take 4)) (crc_lt _ (by decide)) (by rw [frameL_len] at hj; omega) (by rw [hg]; exact hy)
    have b1 := crc_lt (l.set (j - 8) y) (crc_lt ((frameL l).take 4) (show 4294967295 < 4294967296 by decide))
    have b2 := crc_lt l (crc_lt ((frameL l).take 4) (show 4294967295 < 4294967296 by decide))
    intro e
    exact hc (by omega)
theorem turn_ne {x t : Nat} (hx : x < 256) (ht : t < 256) (h : ¬ t = 0) : UInt8.ofNat (bxor 8 x t) ≠ UInt8.ofNat x := by
  intro e
  have hb : bxor 8 x t < 256 := BitVec.isLt _
  have e2 := congrArg UInt8.toNat e
  rw [ofNat_toNat hb, ofNat_toNat hx] at e2
  unfold bxor at e2
  rw [BitVec.toNat_xor, BitVec.toNat_ofNat, BitVec.toNat_ofNat, Nat.mod_eq_of_lt (by omega), Nat.mod_eq_of_lt (by omega)] at e2
  exact h (xor_inj (a := x) (by rw [e2, Nat.xor_zero]))
end Go.Proofs.Ytpnlaeapnokipaa

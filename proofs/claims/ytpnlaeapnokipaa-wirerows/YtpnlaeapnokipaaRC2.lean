/- Frames; a byte that is turned is seen. -/
import Derived.Test.YtpnlaeapnokipaaRC1
set_option linter.all false
set_option maxRecDepth 100000
namespace Go.Proofs.Ytpnlaeapnokipaa
def wd4 (n : Nat) : List UInt8 := [UInt8.ofNat (n % 256), UInt8.ofNat (n / 256 % 256), UInt8.ofNat (n / 65536 % 256), UInt8.ofNat (n / 16777216 % 256)]
def frameL (l : List UInt8) : List UInt8 := wd4 l.length ++ wd4 (4294967295 - crc (crc 4294967295 (wd4 l.length)) l) ++ l
theorem frameL_len (l : List UInt8) : (frameL l).length = 8 + l.length := by unfold frameL wd4; simp; omega
theorem ofNat_toNat {n : Nat} (h : n < 256) : (UInt8.ofNat n).toNat = n := UInt8.toNat_ofNat_of_lt' h
theorem le4_wd4 {n : Nat} (h : n < 4294967296) (r : List UInt8) : le4 (wd4 n ++ r) = n := by
  unfold le4 wd4
  simp only [List.cons_append, List.nil_append, List.getD_cons_zero, List.getD_cons_succ]
  rw [ofNat_toNat (by omega), ofNat_toNat (by omega), ofNat_toNat (by omega), ofNat_toNat (by omega)]
  omega
theorem frame_parts (l m : List UInt8) (hl : l.length < 1048577) : le4 (frameL l ++ m) = l.length ∧ le4 ((frameL l ++ m).drop 4) = 4294967295 - crc (crc 4294967295 ((frameL l ++ m).take 4)) l ∧ ((frameL l ++ m).drop 8).take l.length = l ∧ (frameL l ++ m).length = 8 + l.length + m.length := by
  have h0 : (4294967295 - crc (crc 4294967295 (wd4 l.length)) l) < 4294967296 := by omega
  have t4 : (frameL l ++ m).take 4 = wd4 l.length := rfl
  refine ⟨?_, ?_, ?_, ?_⟩
  · unfold frameL; rw [List.append_assoc, List.append_assoc]; exact le4_wd4 (by omega) _
  · rw [t4]
    have : (frameL l ++ m).drop 4 = wd4 (4294967295 - crc (crc 4294967295 (wd4 l.length)) l) ++ (l ++ m) := by unfold frameL wd4; simp
    rw [this]; exact le4_wd4 h0 _
  · have : (frameL l ++ m).drop 8 = l ++ m := by unfold frameL wd4; simp
    rw [this]; exact List.take_left
  · rw [List.length_append, frameL_len]
theorem frame_open (l m : List UInt8) (hl : l.length < 1048577) : openD (frameL l ++ m) = (l, (frameL l).length, 0) := by
  obtain ⟨h1, h2, h3, h4⟩ := frame_parts l m hl
  unfold openD
  rw [if_neg (by omega), h1, if_neg (by omega), if_neg (by omega), h3, h2, if_neg (fun q => q rfl), frameL_len]
end Go.Proofs.Ytpnlaeapnokipaa

/- IdTexts. -/
import Derived.Test.YtkfncjaomgcdgaaW14
import Derived.Test.YtkfncjaomgcdgaaSem
import Derived.Test.YtkfncjaomgcdgaaW21
set_option linter.all false
namespace Go.Proofs.Ytkfncjaomgcdgaa
open Go.RowKit Go.Facts

theorem parse_0 {l : List UInt8} {w : World} {t : T} (h : parseR l = (t, 0)) (hl : l.length ≤ 200) : Calls Try.prog 32 #[sv l] w (Ret w (Two (IsId t).toPP (PP.eq (.int .i64 0))).p) := by
  have := parse_c l w (by omega); rw [h] at this; exact this
theorem parse_n {l : List UInt8} {w : World} {t : T} {n : Nat} (h : parseR l = (t, n)) (hl : l.length ≤ 200) : Calls Try.prog 32 #[sv l] w (Ret w (Two (IsId t).toPP (PP.eq (.int .i64 (n : Int)))).p) := by
  have := parse_c l w (by omega); rw [h] at this; exact this
theorem rparse_0 {l : List UInt8} {w : World} {t : T} (h : parseR l = (t, 0)) (hl : l.length ≤ 200) : Calls Try.prog 33 #[sv l] w (Ret w (Two (IsRef t).toPP (PP.eq (.int .i64 0))).p) := by
  have := rparse_c l w (by omega); rw [h] at this; exact this
theorem rparse_n {l : List UInt8} {w : World} {t : T} {n : Nat} (h : parseR l = (t, n)) (hl : l.length ≤ 200) : Calls Try.prog 33 #[sv l] w (Ret w (Two (IsRef t).toPP (PP.eq (.int .i64 (n : Int)))).p) := by
  have := rparse_c l w (by omega); rw [h] at this; exact this
theorem text_e {t : T} {l : List UInt8} {v : Value} {w : World} (h : (IsId t).p v w) (hd : t.depth ≤ 20) (ht : textT t = l) : Calls Try.prog 34 #[v] w (Ret w (PP.eq (sv l)).p) := by
  have := text_le hd
  have := text_c h (by omega); rw [ht] at this; exact this

set_option maxRecDepth 100000 in
set_option maxHeartbeats 2000000 in
theorem idTexts_c {s : ByteArray} {w : World} :
    Calls Try.prog 7 #[.string s] w (Ret w (PP.eq (.bool true)).p) := by
  go_enter Try.func7, Try.ntmps7
  go_wp2_with fail
  refine (awake_c).mono ?_
  rintro _ w1 ⟨_, rfl, rfl, hb⟩
  have hx := hb; have s0 := hb.size
  go_wp2_with fail
  ·
    obtain ⟨l, hl, hX⟩ : ∃ l : List UInt8, l.length ≤ 200 ∧ s.extract 0 200 = ⟨l.toArray⟩ := ⟨(s.extract 0 200).data.toList, by rw [← ba_size (s := s.extract 0 200) rfl]; rw [ByteArray.size_extract]; omega, ba_ext rfl⟩
    rw [hX]
    have HX := Lib.hid hX; clear hX
    obtain ⟨t, n, hR⟩ : ∃ t n, parseR l = (t, n) := ⟨_, _, rfl⟩
    have ht : t.depth ≤ 16 := by have := parseR_depth l; rw [hR] at this; exact this
    by_cases hn : n = 0
    ·
      subst hn
      have hT : textT t = l := by have := parseR_ok (l := l) (by rw [hR]); rw [hR] at this; exact this
      have HT := Lib.hid hT; clear hT
      have HR := Lib.hid hR; clear hR
      refine (parse_0 HR.out hl).mono ?_
      rintro _ w2 ⟨cv, rfl, c, hb⟩
      replace hx := Ext.trans hx hb; have s1 := hb.size
      obtain ⟨cv, _, rfl, ch, rfl⟩ := c
      obtain ⟨cb, cp, rfl, cr⟩ := ch
      go_wp2_with fail
      obtain ⟨w3, hW, hb, z2, gc⟩ := box1 w2 [.bool cb, .pointer cp] 26
      rw [hW]; clear hW
      replace hx := Ext.trans hx hb; replace cr := (PRep t cb cp).mono hb cr; have s3 := hb.size
      refine (rparse_0 HR.out hl).mono ?_
      rintro _ w4 ⟨dv, rfl, d, hb⟩
      replace hx := Ext.trans hx hb; replace gc := gc.ext hb; replace cr := (PRep t cb cp).mono hb cr; have s4 := hb.size
      obtain ⟨dv, _, rfl, dh, rfl⟩ := d
      have gc_0 := gc.c 0 rfl; have gcf0 := gc.f 0; have gc_1 := gc.c 1 rfl; have gcf1 := gc.f 1; have gcl := gc.lt
      go_wp2_with fail
      clear gc_0 gcf0 gc_1 gcf1 gcl
      refine (like_c t (by omega) (text_le (by omega)) _ _ _ (PRep.is cr) dh).mono ?_
      rintro _ w5 ⟨_, rfl, rfl, hb⟩
      replace hx := Ext.trans hx hb; replace gc := gc.ext hb; replace cr := (PRep t cb cp).mono hb cr; replace dh := (IsRef t).mono hb dh; have s5 := hb.size
      have gc_0 := gc.c 0 rfl; have gcf0 := gc.f 0; have gc_1 := gc.c 1 rfl; have gcf1 := gc.f 1; have gcl := gc.lt
      go_wp2_with fail
      clear gc_0 gcf0 gc_1 gcf1 gcl
      refine (text_e (PRep.is cr) (by omega) HT.out).mono ?_
      rintro _ w6 ⟨_, rfl, rfl, hb⟩
      replace hx := Ext.trans hx hb; replace gc := gc.ext hb; replace cr := (PRep t cb cp).mono hb cr; replace dh := (IsRef t).mono hb dh; have s6 := hb.size
      have gc_0 := gc.c 0 rfl; have gcf0 := gc.f 0; have gc_1 := gc.c 1 rfl; have gcf1 := gc.f 1; have gcl := gc.lt
      go_wp2_with fail
      clear gc_0 gcf0 gc_1 gcf1 gcl
      go_ret
      exact ⟨_, rfl, rfl, hx⟩
    ·
      have he : (((n : Nat) : Int) == ((n : Nat) : Int)) = true := by simp
      have hne : (((n : Nat) : Int) != 0) = true := by simp; omega
      have HR := Lib.hid hR; clear hR
      refine (parse_n HR.out hl).mono ?_
      rintro _ w2 ⟨cv, rfl, c, hb⟩
      replace hx := Ext.trans hx hb; have s7 := hb.size
      obtain ⟨cv, _, rfl, ch, rfl⟩ := c
      obtain ⟨cb, cp, rfl, cr⟩ := ch
      go_wp2_with fail
      obtain ⟨w3, hW, hb, z8, gc⟩ := box1 w2 [.bool cb, .pointer cp] 26
      rw [hW]; clear hW
      replace hx := Ext.trans hx hb; replace cr := (PRep t cb cp).mono hb cr; have s9 := hb.size
      refine (rparse_n HR.out hl).mono ?_
      rintro _ w4 ⟨dv, rfl, d, hb⟩
      replace hx := Ext.trans hx hb; replace gc := gc.ext hb; replace cr := (PRep t cb cp).mono hb cr; have s10 := hb.size
      obtain ⟨dv, _, rfl, dh, rfl⟩ := d
      have gc_0 := gc.c 0 rfl; have gcf0 := gc.f 0; have gc_1 := gc.c 1 rfl; have gcf1 := gc.f 1; have gcl := gc.lt
      go_wp2_with fail
      clear gc_0 gcf0 gc_1 gcf1 gcl
      refine (like_c t (by omega) (text_le (by omega)) _ _ _ (PRep.is cr) dh).mono ?_
      rintro _ w5 ⟨_, rfl, rfl, hb⟩
      replace hx := Ext.trans hx hb; replace gc := gc.ext hb; replace cr := (PRep t cb cp).mono hb cr; replace dh := (IsRef t).mono hb dh; have s11 := hb.size
      have gc_0 := gc.c 0 rfl; have gcf0 := gc.f 0; have gc_1 := gc.c 1 rfl; have gcf1 := gc.f 1; have gcl := gc.lt
      go_wp2_with fail
      clear gc_0 gcf0 gc_1 gcf1 gcl
      go_ret
      exact ⟨_, rfl, rfl, hx⟩
  ·
    obtain ⟨l, hl, hX⟩ : ∃ l : List UInt8, l.length ≤ 200 ∧ s = ⟨l.toArray⟩ := ⟨(s).data.toList, by rw [← ba_size (s := s) rfl]; omega, ba_ext rfl⟩
    rw [hX]
    have HX := Lib.hid hX; clear hX
    obtain ⟨t, n, hR⟩ : ∃ t n, parseR l = (t, n) := ⟨_, _, rfl⟩
    have ht : t.depth ≤ 16 := by have := parseR_depth l; rw [hR] at this; exact this
    by_cases hn : n = 0
    ·
      subst hn
      have hT : textT t = l := by have := parseR_ok (l := l) (by rw [hR]); rw [hR] at this; exact this
      have HT := Lib.hid hT; clear hT
      have HR := Lib.hid hR; clear hR
      refine (parse_0 HR.out hl).mono ?_
      rintro _ w2 ⟨cv, rfl, c, hb⟩
      replace hx := Ext.trans hx hb; have s12 := hb.size
      obtain ⟨cv, _, rfl, ch, rfl⟩ := c
      obtain ⟨cb, cp, rfl, cr⟩ := ch
      go_wp2_with fail
      obtain ⟨w3, hW, hb, z13, gc⟩ := box1 w2 [.bool cb, .pointer cp] 26
      rw [hW]; clear hW
      replace hx := Ext.trans hx hb; replace cr := (PRep t cb cp).mono hb cr; have s14 := hb.size
      refine (rparse_0 HR.out hl).mono ?_
      rintro _ w4 ⟨dv, rfl, d, hb⟩
      replace hx := Ext.trans hx hb; replace gc := gc.ext hb; replace cr := (PRep t cb cp).mono hb cr; have s15 := hb.size
      obtain ⟨dv, _, rfl, dh, rfl⟩ := d
      have gc_0 := gc.c 0 rfl; have gcf0 := gc.f 0; have gc_1 := gc.c 1 rfl; have gcf1 := gc.f 1; have gcl := gc.lt
      go_wp2_with fail
      clear gc_0 gcf0 gc_1 gcf1 gcl
      refine (like_c t (by omega) (text_le (by omega)) _ _ _ (PRep.is cr) dh).mono ?_
      rintro _ w5 ⟨_, rfl, rfl, hb⟩
      replace hx := Ext.trans hx hb; replace gc := gc.ext hb; replace cr := (PRep t cb cp).mono hb cr; replace dh := (IsRef t).mono hb dh; have s16 := hb.size
      have gc_0 := gc.c 0 rfl; have gcf0 := gc.f 0; have gc_1 := gc.c 1 rfl; have gcf1 := gc.f 1; have gcl := gc.lt
      go_wp2_with fail
      clear gc_0 gcf0 gc_1 gcf1 gcl
      refine (text_e (PRep.is cr) (by omega) HT.out).mono ?_
      rintro _ w6 ⟨_, rfl, rfl, hb⟩
      replace hx := Ext.trans hx hb; replace gc := gc.ext hb; replace cr := (PRep t cb cp).mono hb cr; replace dh := (IsRef t).mono hb dh; have s17 := hb.size
      have gc_0 := gc.c 0 rfl; have gcf0 := gc.f 0; have gc_1 := gc.c 1 rfl; have gcf1 := gc.f 1; have gcl := gc.lt
      go_wp2_with fail
      clear gc_0 gcf0 gc_1 gcf1 gcl
      go_ret
      exact ⟨_, rfl, rfl, hx⟩
    ·
      have he : (((n : Nat) : Int) == ((n : Nat) : Int)) = true := by simp
      have hne : (((n : Nat) : Int) != 0) = true := by simp; omega
      have HR := Lib.hid hR; clear hR
      refine (parse_n HR.out hl).mono ?_
      rintro _ w2 ⟨cv, rfl, c, hb⟩
      replace hx := Ext.trans hx hb; have s18 := hb.size
      obtain ⟨cv, _, rfl, ch, rfl⟩ := c
      obtain ⟨cb, cp, rfl, cr⟩ := ch
      go_wp2_with fail
      obtain ⟨w3, hW, hb, z19, gc⟩ := box1 w2 [.bool cb, .pointer cp] 26
      rw [hW]; clear hW
      replace hx := Ext.trans hx hb; replace cr := (PRep t cb cp).mono hb cr; have s20 := hb.size
      refine (rparse_n HR.out hl).mono ?_
      rintro _ w4 ⟨dv, rfl, d, hb⟩
      replace hx := Ext.trans hx hb; replace gc := gc.ext hb; replace cr := (PRep t cb cp).mono hb cr; have s21 := hb.size
      obtain ⟨dv, _, rfl, dh, rfl⟩ := d
      have gc_0 := gc.c 0 rfl; have gcf0 := gc.f 0; have gc_1 := gc.c 1 rfl; have gcf1 := gc.f 1; have gcl := gc.lt
      go_wp2_with fail
      clear gc_0 gcf0 gc_1 gcf1 gcl
      refine (like_c t (by omega) (text_le (by omega)) _ _ _ (PRep.is cr) dh).mono ?_
      rintro _ w5 ⟨_, rfl, rfl, hb⟩
      replace hx := Ext.trans hx hb; replace gc := gc.ext hb; replace cr := (PRep t cb cp).mono hb cr; replace dh := (IsRef t).mono hb dh; have s22 := hb.size
      have gc_0 := gc.c 0 rfl; have gcf0 := gc.f 0; have gc_1 := gc.c 1 rfl; have gcf1 := gc.f 1; have gcl := gc.lt
      go_wp2_with fail
      clear gc_0 gcf0 gc_1 gcf1 gcl
      go_ret
      exact ⟨_, rfl, rfl, hx⟩

end Go.Proofs.Ytkfncjaomgcdgaa

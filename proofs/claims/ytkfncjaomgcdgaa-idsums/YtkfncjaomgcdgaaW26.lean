/- IdSums. -/
import Derived.Test.YtkfncjaomgcdgaaW15
import Derived.Test.YtkfncjaomgcdgaaW25
set_option linter.all false
namespace Go.Proofs.Ytkfncjaomgcdgaa
open Go.RowKit Go.Facts

theorem text_inj : ∀ (a b : T) (r s : List UInt8), textT a ++ r = textT b ++ s → a = b ∧ r = s
  | .zero, .zero, _, _, h => by simp [textT] at h; exact ⟨rfl, h⟩
  | .one, .one, _, _, h => by simp [textT] at h; exact ⟨rfl, h⟩
  | .zero, .one, _, _, h => by simp [textT] at h
  | .one, .zero, _, _, h => by simp [textT] at h
  | .zero, .node _ _, _, _, h => by simp [textT] at h
  | .one, .node _ _, _, _, h => by simp [textT] at h
  | .node _ _, .zero, _, _, h => by simp [textT] at h
  | .node _ _, .one, _, _, h => by simp [textT] at h
  | .node l r, .node l' r', x, y, h => by
    simp only [textT, List.cons_append, List.append_assoc, List.cons.injEq, true_and] at h
    obtain ⟨rfl, h2⟩ := text_inj l l' _ _ h
    simp only [List.cons.injEq, true_and] at h2
    obtain ⟨rfl, h3⟩ := text_inj r r' _ _ h2
    simp at h3
    exact ⟨rfl, h3⟩
theorem text_eq {a b : T} : textT a = textT b ↔ a = b := ⟨fun h => (text_inj a b [] [] (by simpa using h)).1, fun h => by rw [h]⟩
theorem same_b {a b : T} (ha : a.wf = true) (hb : b.wf = true) : sameT a b = decide (a = b) := by
  cases h : sameT a b
  · simp; intro e; rw [(same_iff ha hb).2 e] at h; cases h
  · simp; exact (same_iff ha hb).1 h
theorem str_eq {a b : T} : decide (a = b) = (textT a == textT b) := by
  by_cases h : a = b
  · subst h; simp
  · have : textT a ≠ textT b := fun e => h (text_eq.1 e)
    simp [h, this]
theorem disj_v {a b : T} {c : Bool} {va vb : Value} {w : World} (h : disjT a b = c) (ha : (IsId a).p va w) (hb : (IsId b).p vb w) : Calls Try.prog 21 #[va, vb] w (Ret w (PP.eq (.bool c)).p) := h ▸ disj_c a b va vb w ha hb
theorem cov_v {a b : T} {c : Bool} {va vb : Value} {w : World} (h : coverT a b = c) (ha : (IsId a).p va w) (hb : (IsId b).p vb w) : Calls Try.prog 24 #[va, vb] w (Ret w (PP.eq (.bool c)).p) := h ▸ cov_c a b va vb w ha hb
theorem rdisj_v {a b : T} {c : Bool} {va vb : Value} {w : World} (h : disjT a b = c) (ha : (IsRef a).p va w) (hb : (IsRef b).p vb w) (wa : a.wf = true) (wb : b.wf = true) (hda : a.depth ≤ 7) (hdb : b.depth ≤ 7) : Calls Try.prog 23 #[va, vb] w (Ret w (PP.eq (.bool c)).p) := h ▸ rdisj_c ha hb wa wb (by omega) (by omega)
theorem same_v {a b : T} {va vb : Value} {w : World} (wa : a.wf = true) (wb : b.wf = true) (ha : (IsId a).p va w) (hb : (IsId b).p vb w) : Calls Try.prog 16 #[va, vb] w (Ret w (PP.eq (.bool (decide (a = b)))).p) := same_b wa wb ▸ same_c ha hb
theorem same_w {t : T} {v u : Value} {w : World} (ht : t.wf = true) (h : (IsId t).p v w) (k : (IsId t).p u w) : Calls Try.prog 16 #[v, u] w (Ret w (PP.eq (.bool true)).p) := by
  have := same_c h k; rw [same_refl t ht] at this; exact this
theorem isz_v {t : T} {c : Bool} {v : Value} {w : World} (h : t.isZero = c) (k : (IsId t).p v w) : Calls Try.prog 22 #[v] w (Ret w (PP.eq (.bool c)).p) := h ▸ isZero_c k

set_option maxRecDepth 100000 in
set_option maxHeartbeats 8000000 in
theorem idSums_c {l q : List UInt8} {v u : Value} {w : World} (h : Bsl l v w) (k : Bsl q u w) :
    Calls Try.prog 5 #[v, u] w (Ret w (PP.eq (.bool true)).p) := by
  obtain ⟨a0, cap0, rfl, hh⟩ := id h
  clear hh
  obtain ⟨a1, cap1, rfl, hh⟩ := id k
  clear hh
  go_enter Try.func5, Try.ntmps5
  go_wp2_with fail
  refine (awake_c).mono ?_
  rintro _ a1 ⟨_, rfl, rfl, hb⟩
  have hx := hb; have s0 := hb.size
  go_wp2_with fail
  refine (made_c ((BslP _).mono hx h)).mono ?_
  rintro _ mx ⟨_, rfl, ⟨x, xi, xx, rfl, xw, xd, xhi, xhx⟩, hb⟩
  replace hx := Ext.trans hx hb; have s1 := hb.size
  obtain ⟨xb, xp, rfl, xr⟩ := xhi
  obtain ⟨xxp, rfl, xxr⟩ := id xhx
  go_wp2_with fail
  obtain ⟨Bx, hW, hb, z2, gx⟩ := box1 mx [.bool xb, .pointer xp] 26
  rw [hW]; clear hW
  replace hx := Ext.trans hx hb; replace xhx := (IsRef x).mono hb xhx; replace xr := (PRep x xb xp).mono hb xr; have s3 := hb.size
  refine (made_c ((BslP _).mono hx k)).mono ?_
  rintro _ my ⟨_, rfl, ⟨y, yi, yx, rfl, yw, yd, yhi, yhx⟩, hb⟩
  replace hx := Ext.trans hx hb; replace gx := gx.ext hb; replace xhx := (IsRef x).mono hb xhx; replace xr := (PRep x xb xp).mono hb xr; have s4 := hb.size
  obtain ⟨yb, yp, rfl, yr⟩ := yhi
  obtain ⟨yxp, rfl, yxr⟩ := id yhx
  have gx_0 := gx.c 0 rfl; have gxf0 := gx.f 0; have gx_1 := gx.c 1 rfl; have gxf1 := gx.f 1; have gxl := gx.lt
  go_wp2_with fail
  clear gx_0 gxf0 gx_1 gxf1 gxl
  have gxlt5 := gx.lt
  obtain ⟨By, hW, hb, z5, gy⟩ := box1 my [.bool yb, .pointer yp] 26
  rw [hW]; clear hW
  replace hx := Ext.trans hx hb; replace gx := gx.ext hb; replace xhx := (IsRef x).mono hb xhx; replace xr := (PRep x xb xp).mono hb xr; replace yhx := (IsRef y).mono hb yhx; replace yr := (PRep y yb yp).mono hb yr; have s6 := hb.size
  have hxt := text_le (t := x) (by omega)
  have hyt := text_le (t := y) (by omega)
  cases hD : disjT x y
  ·
    refine (rdisj_v hD xhx yhx xw yw xd yd).mono ?_
    rintro _ u1 ⟨_, rfl, rfl, hb⟩
    replace hx := Ext.trans hx hb; replace gx := gx.ext hb; replace gy := gy.ext hb; replace xhx := (IsRef x).mono hb xhx; replace xr := (PRep x xb xp).mono hb xr; replace yhx := (IsRef y).mono hb yhx; replace yr := (PRep y yb yp).mono hb yr; have s7 := hb.size
    have gx_0 := gx.c 0 rfl; have gxf0 := gx.f 0; have gx_1 := gx.c 1 rfl; have gxf1 := gx.f 1; have gxl := gx.lt; have gy_0 := gy.c 0 rfl; have gyf0 := gy.f 0; have gy_1 := gy.c 1 rfl; have gyf1 := gy.f 1; have gyl := gy.lt
    go_wp2_with fail
    clear gx_0 gxf0 gx_1 gxf1 gxl gy_0 gyf0 gy_1 gyf1 gyl
    have hs := sum_f (PRep.is xr) (PRep.is yr) (by omega) (by omega) hD
    refine (hs).mono ?_
    rintro _ u2 ⟨cv, rfl, c, hb⟩
    replace hx := Ext.trans hx hb; replace gx := gx.ext hb; replace gy := gy.ext hb; replace xhx := (IsRef x).mono hb xhx; replace xr := (PRep x xb xp).mono hb xr; replace yhx := (IsRef y).mono hb yhx; replace yr := (PRep y yb yp).mono hb yr; have s8 := hb.size
    obtain ⟨cv, _, rfl, ch, rfl⟩ := c
    clear hs
    obtain ⟨cb, cp, rfl, cr⟩ := ch
    have gx_0 := gx.c 0 rfl; have gxf0 := gx.f 0; have gx_1 := gx.c 1 rfl; have gxf1 := gx.f 1; have gxl := gx.lt; have gy_0 := gy.c 0 rfl; have gyf0 := gy.f 0; have gy_1 := gy.c 1 rfl; have gyf1 := gy.f 1; have gyl := gy.lt
    go_wp2_with fail
    clear gx_0 gxf0 gx_1 gxf1 gxl gy_0 gyf0 gy_1 gyf1 gyl
    have gxlt9 := gx.lt
    have gylt9 := gy.lt
    obtain ⟨u3, hW, hb, z9, gc⟩ := box1 u2 [.bool cb, .pointer cp] 26
    rw [hW]; clear hW
    replace hx := Ext.trans hx hb; replace gx := gx.ext hb; replace gy := gy.ext hb; replace xhx := (IsRef x).mono hb xhx; replace xr := (PRep x xb xp).mono hb xr; replace yhx := (IsRef y).mono hb yhx; replace yr := (PRep y yb yp).mono hb yr; replace cr := (PRep .zero cb cp).mono hb cr; have s10 := hb.size
    refine (disj_v hD (PRep.is xr) (PRep.is yr)).mono ?_
    rintro _ u4 ⟨_, rfl, rfl, hb⟩
    replace hx := Ext.trans hx hb; replace gx := gx.ext hb; replace gy := gy.ext hb; replace gc := gc.ext hb; replace xhx := (IsRef x).mono hb xhx; replace xr := (PRep x xb xp).mono hb xr; replace yhx := (IsRef y).mono hb yhx; replace yr := (PRep y yb yp).mono hb yr; replace cr := (PRep .zero cb cp).mono hb cr; have s11 := hb.size
    have gx_0 := gx.c 0 rfl; have gxf0 := gx.f 0; have gx_1 := gx.c 1 rfl; have gxf1 := gx.f 1; have gxl := gx.lt; have gy_0 := gy.c 0 rfl; have gyf0 := gy.f 0; have gy_1 := gy.c 1 rfl; have gyf1 := gy.f 1; have gyl := gy.lt; have gc_0 := gc.c 0 rfl; have gcf0 := gc.f 0; have gc_1 := gc.c 1 rfl; have gcf1 := gc.f 1; have gcl := gc.lt
    go_wp2_with fail
    clear gx_0 gxf0 gx_1 gxf1 gxl gy_0 gyf0 gy_1 gyf1 gyl gc_0 gcf0 gc_1 gcf1 gcl
    refine (cov_c x y _ _ _ (PRep.is xr) (PRep.is yr)).mono ?_
    rintro _ u5 ⟨_, rfl, rfl, hb⟩
    replace hx := Ext.trans hx hb; replace gx := gx.ext hb; replace gy := gy.ext hb; replace gc := gc.ext hb; replace xhx := (IsRef x).mono hb xhx; replace xr := (PRep x xb xp).mono hb xr; replace yhx := (IsRef y).mono hb yhx; replace yr := (PRep y yb yp).mono hb yr; replace cr := (PRep .zero cb cp).mono hb cr; have s12 := hb.size
    have gx_0 := gx.c 0 rfl; have gxf0 := gx.f 0; have gx_1 := gx.c 1 rfl; have gxf1 := gx.f 1; have gxl := gx.lt; have gy_0 := gy.c 0 rfl; have gyf0 := gy.f 0; have gy_1 := gy.c 1 rfl; have gyf1 := gy.f 1; have gyl := gy.lt; have gc_0 := gc.c 0 rfl; have gcf0 := gc.f 0; have gc_1 := gc.c 1 rfl; have gcf1 := gc.f 1; have gcl := gc.lt
    go_wp2_with fail
    clear gx_0 gxf0 gx_1 gxf1 gxl gy_0 gyf0 gy_1 gyf1 gyl gc_0 gcf0 gc_1 gcf1 gcl
    refine (rcov_c xhx yhx xw yw (by omega) (by omega)).mono ?_
    rintro _ u6 ⟨_, rfl, rfl, hb⟩
    replace hx := Ext.trans hx hb; replace gx := gx.ext hb; replace gy := gy.ext hb; replace gc := gc.ext hb; replace xhx := (IsRef x).mono hb xhx; replace xr := (PRep x xb xp).mono hb xr; replace yhx := (IsRef y).mono hb yhx; replace yr := (PRep y yb yp).mono hb yr; replace cr := (PRep .zero cb cp).mono hb cr; have s13 := hb.size
    have gx_0 := gx.c 0 rfl; have gxf0 := gx.f 0; have gx_1 := gx.c 1 rfl; have gxf1 := gx.f 1; have gxl := gx.lt; have gy_0 := gy.c 0 rfl; have gyf0 := gy.f 0; have gy_1 := gy.c 1 rfl; have gyf1 := gy.f 1; have gyl := gy.lt; have gc_0 := gc.c 0 rfl; have gcf0 := gc.f 0; have gc_1 := gc.c 1 rfl; have gcf1 := gc.f 1; have gcl := gc.lt
    go_wp2_with fail
    clear gx_0 gxf0 gx_1 gxf1 gxl gy_0 gyf0 gy_1 gyf1 gyl gc_0 gcf0 gc_1 gcf1 gcl
    refine (same_v xw yw (PRep.is xr) (PRep.is yr)).mono ?_
    rintro _ u7 ⟨_, rfl, rfl, hb⟩
    replace hx := Ext.trans hx hb; replace gx := gx.ext hb; replace gy := gy.ext hb; replace gc := gc.ext hb; replace xhx := (IsRef x).mono hb xhx; replace xr := (PRep x xb xp).mono hb xr; replace yhx := (IsRef y).mono hb yhx; replace yr := (PRep y yb yp).mono hb yr; replace cr := (PRep .zero cb cp).mono hb cr; have s14 := hb.size
    have gx_0 := gx.c 0 rfl; have gxf0 := gx.f 0; have gx_1 := gx.c 1 rfl; have gxf1 := gx.f 1; have gxl := gx.lt; have gy_0 := gy.c 0 rfl; have gyf0 := gy.f 0; have gy_1 := gy.c 1 rfl; have gyf1 := gy.f 1; have gyl := gy.lt; have gc_0 := gc.c 0 rfl; have gcf0 := gc.f 0; have gc_1 := gc.c 1 rfl; have gcf1 := gc.f 1; have gcl := gc.lt
    go_wp2_with fail
    clear gx_0 gxf0 gx_1 gxf1 gxl gy_0 gyf0 gy_1 gyf1 gyl gc_0 gcf0 gc_1 gcf1 gcl
    refine (rtext_c x hxt _ _ xhx).mono ?_
    rintro _ u8 ⟨_, rfl, rfl, hb⟩
    replace hx := Ext.trans hx hb; replace gx := gx.ext hb; replace gy := gy.ext hb; replace gc := gc.ext hb; replace xhx := (IsRef x).mono hb xhx; replace xr := (PRep x xb xp).mono hb xr; replace yhx := (IsRef y).mono hb yhx; replace yr := (PRep y yb yp).mono hb yr; replace cr := (PRep .zero cb cp).mono hb cr; have s15 := hb.size
    have gx_0 := gx.c 0 rfl; have gxf0 := gx.f 0; have gx_1 := gx.c 1 rfl; have gxf1 := gx.f 1; have gxl := gx.lt; have gy_0 := gy.c 0 rfl; have gyf0 := gy.f 0; have gy_1 := gy.c 1 rfl; have gyf1 := gy.f 1; have gyl := gy.lt; have gc_0 := gc.c 0 rfl; have gcf0 := gc.f 0; have gc_1 := gc.c 1 rfl; have gcf1 := gc.f 1; have gcl := gc.lt
    go_wp2_with fail
    clear gx_0 gxf0 gx_1 gxf1 gxl gy_0 gyf0 gy_1 gyf1 gyl gc_0 gcf0 gc_1 gcf1 gcl
    refine (rtext_c y hyt _ _ yhx).mono ?_
    rintro _ u9 ⟨_, rfl, rfl, hb⟩
    replace hx := Ext.trans hx hb; replace gx := gx.ext hb; replace gy := gy.ext hb; replace gc := gc.ext hb; replace xhx := (IsRef x).mono hb xhx; replace xr := (PRep x xb xp).mono hb xr; replace yhx := (IsRef y).mono hb yhx; replace yr := (PRep y yb yp).mono hb yr; replace cr := (PRep .zero cb cp).mono hb cr; have s16 := hb.size
    have hse := str_eq (a := x) (b := y)
    have gx_0 := gx.c 0 rfl; have gxf0 := gx.f 0; have gx_1 := gx.c 1 rfl; have gxf1 := gx.f 1; have gxl := gx.lt; have gy_0 := gy.c 0 rfl; have gyf0 := gy.f 0; have gy_1 := gy.c 1 rfl; have gyf1 := gy.f 1; have gyl := gy.lt; have gc_0 := gc.c 0 rfl; have gcf0 := gc.f 0; have gc_1 := gc.c 1 rfl; have gcf1 := gc.f 1; have gcl := gc.lt
    go_wp2_with fail
    clear gx_0 gxf0 gx_1 gxf1 gxl gy_0 gyf0 gy_1 gyf1 gyl gc_0 gcf0 gc_1 gcf1 gcl
    clear hse
    refine (isz_v rfl (PRep.is cr)).mono ?_
    rintro _ u10 ⟨_, rfl, rfl, hb⟩
    replace hx := Ext.trans hx hb; replace gx := gx.ext hb; replace gy := gy.ext hb; replace gc := gc.ext hb; replace xhx := (IsRef x).mono hb xhx; replace xr := (PRep x xb xp).mono hb xr; replace yhx := (IsRef y).mono hb yhx; replace yr := (PRep y yb yp).mono hb yr; replace cr := (PRep .zero cb cp).mono hb cr; have s17 := hb.size
    have gx_0 := gx.c 0 rfl; have gxf0 := gx.f 0; have gx_1 := gx.c 1 rfl; have gxf1 := gx.f 1; have gxl := gx.lt; have gy_0 := gy.c 0 rfl; have gyf0 := gy.f 0; have gy_1 := gy.c 1 rfl; have gyf1 := gy.f 1; have gyl := gy.lt; have gc_0 := gc.c 0 rfl; have gcf0 := gc.f 0; have gc_1 := gc.c 1 rfl; have gcf1 := gc.f 1; have gcl := gc.lt
    go_wp2_with fail
    clear gx_0 gxf0 gx_1 gxf1 gxl gy_0 gyf0 gy_1 gyf1 gyl gc_0 gcf0 gc_1 gcf1 gcl
    go_ret
    exact ⟨_, rfl, rfl, hx⟩
  ·
    refine (rdisj_v hD xhx yhx xw yw xd yd).mono ?_
    rintro _ u1 ⟨_, rfl, rfl, hb⟩
    replace hx := Ext.trans hx hb; replace gx := gx.ext hb; replace gy := gy.ext hb; replace xhx := (IsRef x).mono hb xhx; replace xr := (PRep x xb xp).mono hb xr; replace yhx := (IsRef y).mono hb yhx; replace yr := (PRep y yb yp).mono hb yr; have s18 := hb.size
    have gx_0 := gx.c 0 rfl; have gxf0 := gx.f 0; have gx_1 := gx.c 1 rfl; have gxf1 := gx.f 1; have gxl := gx.lt; have gy_0 := gy.c 0 rfl; have gyf0 := gy.f 0; have gy_1 := gy.c 1 rfl; have gyf1 := gy.f 1; have gyl := gy.lt
    go_wp2_with fail
    clear gx_0 gxf0 gx_1 gxf1 gxl gy_0 gyf0 gy_1 gyf1 gyl
    have hs := sum_t (PRep.is xr) (PRep.is yr) (by omega) (by omega) hD
    refine (hs).mono ?_
    rintro _ u2 ⟨cv, rfl, c, hb⟩
    replace hx := Ext.trans hx hb; replace gx := gx.ext hb; replace gy := gy.ext hb; replace xhx := (IsRef x).mono hb xhx; replace xr := (PRep x xb xp).mono hb xr; replace yhx := (IsRef y).mono hb yhx; replace yr := (PRep y yb yp).mono hb yr; have s19 := hb.size
    obtain ⟨cv, _, rfl, ch, rfl⟩ := c
    clear hs
    obtain ⟨cb, cp, rfl, cr⟩ := ch
    have gx_0 := gx.c 0 rfl; have gxf0 := gx.f 0; have gx_1 := gx.c 1 rfl; have gxf1 := gx.f 1; have gxl := gx.lt; have gy_0 := gy.c 0 rfl; have gyf0 := gy.f 0; have gy_1 := gy.c 1 rfl; have gyf1 := gy.f 1; have gyl := gy.lt
    go_wp2_with fail
    clear gx_0 gxf0 gx_1 gxf1 gxl gy_0 gyf0 gy_1 gyf1 gyl
    have gxlt20 := gx.lt
    have gylt20 := gy.lt
    obtain ⟨u3, hW, hb, z20, gc⟩ := box1 u2 [.bool cb, .pointer cp] 26
    rw [hW]; clear hW
    replace hx := Ext.trans hx hb; replace gx := gx.ext hb; replace gy := gy.ext hb; replace xhx := (IsRef x).mono hb xhx; replace xr := (PRep x xb xp).mono hb xr; replace yhx := (IsRef y).mono hb yhx; replace yr := (PRep y yb yp).mono hb yr; replace cr := (PRep (unionT x y) cb cp).mono hb cr; have s21 := hb.size
    refine (disj_v hD (PRep.is xr) (PRep.is yr)).mono ?_
    rintro _ u4 ⟨_, rfl, rfl, hb⟩
    replace hx := Ext.trans hx hb; replace gx := gx.ext hb; replace gy := gy.ext hb; replace gc := gc.ext hb; replace xhx := (IsRef x).mono hb xhx; replace xr := (PRep x xb xp).mono hb xr; replace yhx := (IsRef y).mono hb yhx; replace yr := (PRep y yb yp).mono hb yr; replace cr := (PRep (unionT x y) cb cp).mono hb cr; have s22 := hb.size
    have gx_0 := gx.c 0 rfl; have gxf0 := gx.f 0; have gx_1 := gx.c 1 rfl; have gxf1 := gx.f 1; have gxl := gx.lt; have gy_0 := gy.c 0 rfl; have gyf0 := gy.f 0; have gy_1 := gy.c 1 rfl; have gyf1 := gy.f 1; have gyl := gy.lt; have gc_0 := gc.c 0 rfl; have gcf0 := gc.f 0; have gc_1 := gc.c 1 rfl; have gcf1 := gc.f 1; have gcl := gc.lt
    go_wp2_with fail
    clear gx_0 gxf0 gx_1 gxf1 gxl gy_0 gyf0 gy_1 gyf1 gyl gc_0 gcf0 gc_1 gcf1 gcl
    refine (cov_c x y _ _ _ (PRep.is xr) (PRep.is yr)).mono ?_
    rintro _ u5 ⟨_, rfl, rfl, hb⟩
    replace hx := Ext.trans hx hb; replace gx := gx.ext hb; replace gy := gy.ext hb; replace gc := gc.ext hb; replace xhx := (IsRef x).mono hb xhx; replace xr := (PRep x xb xp).mono hb xr; replace yhx := (IsRef y).mono hb yhx; replace yr := (PRep y yb yp).mono hb yr; replace cr := (PRep (unionT x y) cb cp).mono hb cr; have s23 := hb.size
    have gx_0 := gx.c 0 rfl; have gxf0 := gx.f 0; have gx_1 := gx.c 1 rfl; have gxf1 := gx.f 1; have gxl := gx.lt; have gy_0 := gy.c 0 rfl; have gyf0 := gy.f 0; have gy_1 := gy.c 1 rfl; have gyf1 := gy.f 1; have gyl := gy.lt; have gc_0 := gc.c 0 rfl; have gcf0 := gc.f 0; have gc_1 := gc.c 1 rfl; have gcf1 := gc.f 1; have gcl := gc.lt
    go_wp2_with fail
    clear gx_0 gxf0 gx_1 gxf1 gxl gy_0 gyf0 gy_1 gyf1 gyl gc_0 gcf0 gc_1 gcf1 gcl
    refine (rcov_c xhx yhx xw yw (by omega) (by omega)).mono ?_
    rintro _ u6 ⟨_, rfl, rfl, hb⟩
    replace hx := Ext.trans hx hb; replace gx := gx.ext hb; replace gy := gy.ext hb; replace gc := gc.ext hb; replace xhx := (IsRef x).mono hb xhx; replace xr := (PRep x xb xp).mono hb xr; replace yhx := (IsRef y).mono hb yhx; replace yr := (PRep y yb yp).mono hb yr; replace cr := (PRep (unionT x y) cb cp).mono hb cr; have s24 := hb.size
    have gx_0 := gx.c 0 rfl; have gxf0 := gx.f 0; have gx_1 := gx.c 1 rfl; have gxf1 := gx.f 1; have gxl := gx.lt; have gy_0 := gy.c 0 rfl; have gyf0 := gy.f 0; have gy_1 := gy.c 1 rfl; have gyf1 := gy.f 1; have gyl := gy.lt; have gc_0 := gc.c 0 rfl; have gcf0 := gc.f 0; have gc_1 := gc.c 1 rfl; have gcf1 := gc.f 1; have gcl := gc.lt
    go_wp2_with fail
    clear gx_0 gxf0 gx_1 gxf1 gxl gy_0 gyf0 gy_1 gyf1 gyl gc_0 gcf0 gc_1 gcf1 gcl
    refine (same_v xw yw (PRep.is xr) (PRep.is yr)).mono ?_
    rintro _ u7 ⟨_, rfl, rfl, hb⟩
    replace hx := Ext.trans hx hb; replace gx := gx.ext hb; replace gy := gy.ext hb; replace gc := gc.ext hb; replace xhx := (IsRef x).mono hb xhx; replace xr := (PRep x xb xp).mono hb xr; replace yhx := (IsRef y).mono hb yhx; replace yr := (PRep y yb yp).mono hb yr; replace cr := (PRep (unionT x y) cb cp).mono hb cr; have s25 := hb.size
    have gx_0 := gx.c 0 rfl; have gxf0 := gx.f 0; have gx_1 := gx.c 1 rfl; have gxf1 := gx.f 1; have gxl := gx.lt; have gy_0 := gy.c 0 rfl; have gyf0 := gy.f 0; have gy_1 := gy.c 1 rfl; have gyf1 := gy.f 1; have gyl := gy.lt; have gc_0 := gc.c 0 rfl; have gcf0 := gc.f 0; have gc_1 := gc.c 1 rfl; have gcf1 := gc.f 1; have gcl := gc.lt
    go_wp2_with fail
    clear gx_0 gxf0 gx_1 gxf1 gxl gy_0 gyf0 gy_1 gyf1 gyl gc_0 gcf0 gc_1 gcf1 gcl
    refine (rtext_c x hxt _ _ xhx).mono ?_
    rintro _ u8 ⟨_, rfl, rfl, hb⟩
    replace hx := Ext.trans hx hb; replace gx := gx.ext hb; replace gy := gy.ext hb; replace gc := gc.ext hb; replace xhx := (IsRef x).mono hb xhx; replace xr := (PRep x xb xp).mono hb xr; replace yhx := (IsRef y).mono hb yhx; replace yr := (PRep y yb yp).mono hb yr; replace cr := (PRep (unionT x y) cb cp).mono hb cr; have s26 := hb.size
    have gx_0 := gx.c 0 rfl; have gxf0 := gx.f 0; have gx_1 := gx.c 1 rfl; have gxf1 := gx.f 1; have gxl := gx.lt; have gy_0 := gy.c 0 rfl; have gyf0 := gy.f 0; have gy_1 := gy.c 1 rfl; have gyf1 := gy.f 1; have gyl := gy.lt; have gc_0 := gc.c 0 rfl; have gcf0 := gc.f 0; have gc_1 := gc.c 1 rfl; have gcf1 := gc.f 1; have gcl := gc.lt
    go_wp2_with fail
    clear gx_0 gxf0 gx_1 gxf1 gxl gy_0 gyf0 gy_1 gyf1 gyl gc_0 gcf0 gc_1 gcf1 gcl
    refine (rtext_c y hyt _ _ yhx).mono ?_
    rintro _ u9 ⟨_, rfl, rfl, hb⟩
    replace hx := Ext.trans hx hb; replace gx := gx.ext hb; replace gy := gy.ext hb; replace gc := gc.ext hb; replace xhx := (IsRef x).mono hb xhx; replace xr := (PRep x xb xp).mono hb xr; replace yhx := (IsRef y).mono hb yhx; replace yr := (PRep y yb yp).mono hb yr; replace cr := (PRep (unionT x y) cb cp).mono hb cr; have s27 := hb.size
    have hse := str_eq (a := x) (b := y)
    have gx_0 := gx.c 0 rfl; have gxf0 := gx.f 0; have gx_1 := gx.c 1 rfl; have gxf1 := gx.f 1; have gxl := gx.lt; have gy_0 := gy.c 0 rfl; have gyf0 := gy.f 0; have gy_1 := gy.c 1 rfl; have gyf1 := gy.f 1; have gyl := gy.lt; have gc_0 := gc.c 0 rfl; have gcf0 := gc.f 0; have gc_1 := gc.c 1 rfl; have gcf1 := gc.f 1; have gcl := gc.lt
    go_wp2_with fail
    clear gx_0 gxf0 gx_1 gxf1 gxl gy_0 gyf0 gy_1 gyf1 gyl gc_0 gcf0 gc_1 gcf1 gcl
    clear hse
    have hD2 : disjT y x = true := by rw [disj_comm yw xw]; exact hD
    have hs := sum_t (PRep.is yr) (PRep.is xr) (by omega) (by omega) hD2
    rw [union_comm yw xw] at hs
    refine (hs).mono ?_
    rintro _ u10 ⟨ev, rfl, e, hb⟩
    replace hx := Ext.trans hx hb; replace gx := gx.ext hb; replace gy := gy.ext hb; replace gc := gc.ext hb; replace xhx := (IsRef x).mono hb xhx; replace xr := (PRep x xb xp).mono hb xr; replace yhx := (IsRef y).mono hb yhx; replace yr := (PRep y yb yp).mono hb yr; replace cr := (PRep (unionT x y) cb cp).mono hb cr; have s28 := hb.size
    obtain ⟨ev, _, rfl, eh, rfl⟩ := e
    clear hs hD2
    obtain ⟨eb, ep, rfl, er⟩ := eh
    have gx_0 := gx.c 0 rfl; have gxf0 := gx.f 0; have gx_1 := gx.c 1 rfl; have gxf1 := gx.f 1; have gxl := gx.lt; have gy_0 := gy.c 0 rfl; have gyf0 := gy.f 0; have gy_1 := gy.c 1 rfl; have gyf1 := gy.f 1; have gyl := gy.lt; have gc_0 := gc.c 0 rfl; have gcf0 := gc.f 0; have gc_1 := gc.c 1 rfl; have gcf1 := gc.f 1; have gcl := gc.lt
    go_wp2_with fail
    clear gx_0 gxf0 gx_1 gxf1 gxl gy_0 gyf0 gy_1 gyf1 gyl gc_0 gcf0 gc_1 gcf1 gcl
    have gxlt29 := gx.lt
    have gylt29 := gy.lt
    have gclt29 := gc.lt
    obtain ⟨u11, hW, hb, z29, ge⟩ := box1 u10 [.bool eb, .pointer ep] 26
    rw [hW]; clear hW
    replace hx := Ext.trans hx hb; replace gx := gx.ext hb; replace gy := gy.ext hb; replace gc := gc.ext hb; replace xhx := (IsRef x).mono hb xhx; replace xr := (PRep x xb xp).mono hb xr; replace yhx := (IsRef y).mono hb yhx; replace yr := (PRep y yb yp).mono hb yr; replace cr := (PRep (unionT x y) cb cp).mono hb cr; replace er := (PRep (unionT x y) eb ep).mono hb er; have s30 := hb.size
    obtain ⟨u1', u2'⟩ := union_covers xw yw
    have U1 := Lib.hid u1'; have U2 := Lib.hid u2'; clear u1' u2'
    have hud := union_depth x y
    have hu16 : (unionT x y).depth ≤ 16 := by omega
    have HUW := Lib.hid (union_wf xw yw)
    clear hud hD hxt hyt
    have gxlt31 := gx.lt
    have gylt31 := gy.lt
    have gclt31 := gc.lt
    have gelt31 := ge.lt
    refine wp_facts 24 [] [PP.eq (.agg #[.bool cb, .pointer cp]), PP.eq (.pointer xxp), PP.eq (.pointer yxp), (IsRef (unionT x y)).toPP, PP.eq (.bool true), PP.eq (.bool true), PP.eq (.int .i64 0), PP.eq (.bool true), PP.eq (.bool true), PP.eq (.bool true), PP.eq (.agg #[.bool cb, .pointer cp]), PP.eq (.agg #[.bool eb, .pointer ep]), PP.eq (.bool true), PP.eq (.bool true), PP.eq (.bool true), PP.eq (.agg #[.bool cb, .pointer cp]), PP.eq (.agg #[.bool xb, .pointer xp]), PP.eq (.bool true), PP.eq (.bool true), PP.eq (.bool true), PP.eq (.agg #[.bool cb, .pointer cp]), PP.eq (.agg #[.bool yb, .pointer yp]), PP.eq (.bool true), PP.eq (.bool true)] (by kernel_rfl) (by kernel_rfl) ⟨?o0, ?o1, ?o2, ?o3, ?o4, ?o5, ?o6, ?o7, ?o8, ?o9, ?o10, ?o11, ?o12, ?o13, ?o14, ?o15, ?o16, ?o17, ?o18, ?o19, ?o20, ?o21, ?o22, ?o23, trivial⟩ ?rest
    case o0 =>
      intro x0 x1 x2 x3 x4 x5 x6 x7 x8 x9 x10 x11 x12 x13 x14 x15 x16 x17 x18 x19 x20 x21 x22 x23 w' hE
      rintro R hR
      have qgc0 := (gc.ext hE).c 0 rfl
      have qgc1 := (gc.ext hE).c 1 rfl
      simp only [putAll, List.take, List.drop, List.map, Act.put, List.setIfInBounds_toArray, List.set_cons_zero, List.set_cons_succ]
      go_simp
      exact hR _ _ (Ext.refl _) (rfl) trivial
    case o1 =>
      intro x0 x1 x2 x3 x4 x5 x6 x7 x8 x9 x10 x11 x12 x13 x14 x15 x16 x17 x18 x19 x20 x21 x22 x23 w' hE
      rintro R hR
      simp only [putAll, List.take, List.drop, List.map, Act.put, List.setIfInBounds_toArray, List.set_cons_zero, List.set_cons_succ]
      go_simp
      exact hR _ _ (Ext.refl _) (rfl) trivial
    case o2 =>
      intro x0 x1 x2 x3 x4 x5 x6 x7 x8 x9 x10 x11 x12 x13 x14 x15 x16 x17 x18 x19 x20 x21 x22 x23 w' hE
      rintro R hR
      simp only [putAll, List.take, List.drop, List.map, Act.put, List.setIfInBounds_toArray, List.set_cons_zero, List.set_cons_succ]
      go_simp
      exact hR _ _ (Ext.refl _) (rfl) trivial
    case o3 =>
      intro x0 x1 x2 x3 x4 x5 x6 x7 x8 x9 x10 x11 x12 x13 x14 x15 x16 x17 x18 x19 x20 x21 x22 x23 w' hE
      rintro rfl rfl R hR
      simp only [putAll, List.take, List.drop, List.map, Act.put, List.setIfInBounds_toArray, List.set_cons_zero, List.set_cons_succ]
      go_simp
      refine (rsum_c ((IsRef x).mono hE xhx) ((IsRef y).mono hE yhx) xw yw (by omega) (by omega)).mono ?_
      rintro _ w'' ⟨v, rfl, hv, hb⟩
      exact hR _ _ hb hv trivial
    case o4 =>
      intro x0 x1 x2 x3 x4 x5 x6 x7 x8 x9 x10 x11 x12 x13 x14 x15 x16 x17 x18 x19 x20 x21 x22 x23 w' hE
      rintro rfl d3 _ R hR
      simp only [putAll, List.take, List.drop, List.map, Act.put, List.setIfInBounds_toArray, List.set_cons_zero, List.set_cons_succ]
      go_simp
      refine (like_c (unionT x y) (by omega) (text_le (by omega)) _ _ _ ⟨cb, cp, rfl, cr.ext hE⟩ d3).mono ?_
      rintro _ w'' ⟨v, rfl, hv, hb⟩
      exact hR _ _ hb hv trivial
    case o5 =>
      intro x0 x1 x2 x3 x4 x5 x6 x7 x8 x9 x10 x11 x12 x13 x14 x15 x16 x17 x18 x19 x20 x21 x22 x23 w' hE
      rintro rfl _ R hR
      simp only [putAll, List.take, List.drop, List.map, Act.put, List.setIfInBounds_toArray, List.set_cons_zero, List.set_cons_succ]
      go_simp
      exact hR _ _ (Ext.refl _) (rfl) trivial
    case o6 =>
      intro x0 x1 x2 x3 x4 x5 x6 x7 x8 x9 x10 x11 x12 x13 x14 x15 x16 x17 x18 x19 x20 x21 x22 x23 w' hE
      rintro rfl R hR
      simp only [putAll, List.take, List.drop, List.map, Act.put, List.setIfInBounds_toArray, List.set_cons_zero, List.set_cons_succ]
      go_simp
      exact hR _ _ (Ext.refl _) (rfl) trivial
    case o7 =>
      intro x0 x1 x2 x3 x4 x5 x6 x7 x8 x9 x10 x11 x12 x13 x14 x15 x16 x17 x18 x19 x20 x21 x22 x23 w' hE
      rintro rfl rfl R hR
      simp only [putAll, List.take, List.drop, List.map, Act.put, List.setIfInBounds_toArray, List.set_cons_zero, List.set_cons_succ]
      go_simp
      exact hR _ _ (Ext.refl _) (rfl) trivial
    case o8 =>
      intro x0 x1 x2 x3 x4 x5 x6 x7 x8 x9 x10 x11 x12 x13 x14 x15 x16 x17 x18 x19 x20 x21 x22 x23 w' hE
      rintro rfl rfl R hR
      simp only [putAll, List.take, List.drop, List.map, Act.put, List.setIfInBounds_toArray, List.set_cons_zero, List.set_cons_succ]
      go_simp
      exact hR _ _ (Ext.refl _) (rfl) trivial
    case o9 =>
      intro x0 x1 x2 x3 x4 x5 x6 x7 x8 x9 x10 x11 x12 x13 x14 x15 x16 x17 x18 x19 x20 x21 x22 x23 w' hE
      rintro rfl rfl R hR
      simp only [putAll, List.take, List.drop, List.map, Act.put, List.setIfInBounds_toArray, List.set_cons_zero, List.set_cons_succ]
      go_simp
      exact hR _ _ (Ext.refl _) (rfl) trivial
    case o10 =>
      intro x0 x1 x2 x3 x4 x5 x6 x7 x8 x9 x10 x11 x12 x13 x14 x15 x16 x17 x18 x19 x20 x21 x22 x23 w' hE
      rintro rfl R hR
      have qgc0 := (gc.ext hE).c 0 rfl
      have qgc1 := (gc.ext hE).c 1 rfl
      simp only [putAll, List.take, List.drop, List.map, Act.put, List.setIfInBounds_toArray, List.set_cons_zero, List.set_cons_succ]
      go_simp
      exact hR _ _ (Ext.refl _) (rfl) trivial
    case o11 =>
      intro x0 x1 x2 x3 x4 x5 x6 x7 x8 x9 x10 x11 x12 x13 x14 x15 x16 x17 x18 x19 x20 x21 x22 x23 w' hE
      rintro rfl R hR
      have qge0 := (ge.ext hE).c 0 rfl
      have qge1 := (ge.ext hE).c 1 rfl
      simp only [putAll, List.take, List.drop, List.map, Act.put, List.setIfInBounds_toArray, List.set_cons_zero, List.set_cons_succ]
      go_simp
      exact hR _ _ (Ext.refl _) (rfl) trivial
    case o12 =>
      intro x0 x1 x2 x3 x4 x5 x6 x7 x8 x9 x10 x11 x12 x13 x14 x15 x16 x17 x18 x19 x20 x21 x22 x23 w' hE
      rintro rfl rfl rfl _ R hR
      simp only [putAll, List.take, List.drop, List.map, Act.put, List.setIfInBounds_toArray, List.set_cons_zero, List.set_cons_succ]
      go_simp
      refine (same_w HUW.out ⟨cb, cp, rfl, cr.ext hE⟩ ⟨eb, ep, rfl, er.ext hE⟩).mono ?_
      rintro _ w'' ⟨v, rfl, hv, hb⟩
      exact hR _ _ hb hv trivial
    case o13 =>
      intro x0 x1 x2 x3 x4 x5 x6 x7 x8 x9 x10 x11 x12 x13 x14 x15 x16 x17 x18 x19 x20 x21 x22 x23 w' hE
      rintro rfl rfl R hR
      simp only [putAll, List.take, List.drop, List.map, Act.put, List.setIfInBounds_toArray, List.set_cons_zero, List.set_cons_succ]
      go_simp
      exact hR _ _ (Ext.refl _) (rfl) trivial
    case o14 =>
      intro x0 x1 x2 x3 x4 x5 x6 x7 x8 x9 x10 x11 x12 x13 x14 x15 x16 x17 x18 x19 x20 x21 x22 x23 w' hE
      rintro rfl rfl R hR
      simp only [putAll, List.take, List.drop, List.map, Act.put, List.setIfInBounds_toArray, List.set_cons_zero, List.set_cons_succ]
      go_simp
      exact hR _ _ (Ext.refl _) (rfl) trivial
    case o15 =>
      intro x0 x1 x2 x3 x4 x5 x6 x7 x8 x9 x10 x11 x12 x13 x14 x15 x16 x17 x18 x19 x20 x21 x22 x23 w' hE
      rintro rfl R hR
      have qgc0 := (gc.ext hE).c 0 rfl
      have qgc1 := (gc.ext hE).c 1 rfl
      simp only [putAll, List.take, List.drop, List.map, Act.put, List.setIfInBounds_toArray, List.set_cons_zero, List.set_cons_succ]
      go_simp
      exact hR _ _ (Ext.refl _) (rfl) trivial
    case o16 =>
      intro x0 x1 x2 x3 x4 x5 x6 x7 x8 x9 x10 x11 x12 x13 x14 x15 x16 x17 x18 x19 x20 x21 x22 x23 w' hE
      rintro rfl R hR
      have qgx0 := (gx.ext hE).c 0 rfl
      have qgx1 := (gx.ext hE).c 1 rfl
      simp only [putAll, List.take, List.drop, List.map, Act.put, List.setIfInBounds_toArray, List.set_cons_zero, List.set_cons_succ]
      go_simp
      exact hR _ _ (Ext.refl _) (rfl) trivial
    case o17 =>
      intro x0 x1 x2 x3 x4 x5 x6 x7 x8 x9 x10 x11 x12 x13 x14 x15 x16 x17 x18 x19 x20 x21 x22 x23 w' hE
      rintro rfl rfl rfl _ R hR
      simp only [putAll, List.take, List.drop, List.map, Act.put, List.setIfInBounds_toArray, List.set_cons_zero, List.set_cons_succ]
      go_simp
      refine (cov_v U1.out ⟨cb, cp, rfl, cr.ext hE⟩ ⟨xb, xp, rfl, xr.ext hE⟩).mono ?_
      rintro _ w'' ⟨v, rfl, hv, hb⟩
      exact hR _ _ hb hv trivial
    case o18 =>
      intro x0 x1 x2 x3 x4 x5 x6 x7 x8 x9 x10 x11 x12 x13 x14 x15 x16 x17 x18 x19 x20 x21 x22 x23 w' hE
      rintro rfl rfl R hR
      simp only [putAll, List.take, List.drop, List.map, Act.put, List.setIfInBounds_toArray, List.set_cons_zero, List.set_cons_succ]
      go_simp
      exact hR _ _ (Ext.refl _) (rfl) trivial
    case o19 =>
      intro x0 x1 x2 x3 x4 x5 x6 x7 x8 x9 x10 x11 x12 x13 x14 x15 x16 x17 x18 x19 x20 x21 x22 x23 w' hE
      rintro rfl rfl R hR
      simp only [putAll, List.take, List.drop, List.map, Act.put, List.setIfInBounds_toArray, List.set_cons_zero, List.set_cons_succ]
      go_simp
      exact hR _ _ (Ext.refl _) (rfl) trivial
    case o20 =>
      intro x0 x1 x2 x3 x4 x5 x6 x7 x8 x9 x10 x11 x12 x13 x14 x15 x16 x17 x18 x19 x20 x21 x22 x23 w' hE
      rintro rfl R hR
      have qgc0 := (gc.ext hE).c 0 rfl
      have qgc1 := (gc.ext hE).c 1 rfl
      simp only [putAll, List.take, List.drop, List.map, Act.put, List.setIfInBounds_toArray, List.set_cons_zero, List.set_cons_succ]
      go_simp
      exact hR _ _ (Ext.refl _) (rfl) trivial
    case o21 =>
      intro x0 x1 x2 x3 x4 x5 x6 x7 x8 x9 x10 x11 x12 x13 x14 x15 x16 x17 x18 x19 x20 x21 x22 x23 w' hE
      rintro rfl R hR
      have qgy0 := (gy.ext hE).c 0 rfl
      have qgy1 := (gy.ext hE).c 1 rfl
      simp only [putAll, List.take, List.drop, List.map, Act.put, List.setIfInBounds_toArray, List.set_cons_zero, List.set_cons_succ]
      go_simp
      exact hR _ _ (Ext.refl _) (rfl) trivial
    case o22 =>
      intro x0 x1 x2 x3 x4 x5 x6 x7 x8 x9 x10 x11 x12 x13 x14 x15 x16 x17 x18 x19 x20 x21 x22 x23 w' hE
      rintro rfl rfl rfl _ R hR
      simp only [putAll, List.take, List.drop, List.map, Act.put, List.setIfInBounds_toArray, List.set_cons_zero, List.set_cons_succ]
      go_simp
      refine (cov_v U2.out ⟨cb, cp, rfl, cr.ext hE⟩ ⟨yb, yp, rfl, yr.ext hE⟩).mono ?_
      rintro _ w'' ⟨v, rfl, hv, hb⟩
      exact hR _ _ hb hv trivial
    case o23 =>
      intro x0 x1 x2 x3 x4 x5 x6 x7 x8 x9 x10 x11 x12 x13 x14 x15 x16 x17 x18 x19 x20 x21 x22 x23 w' hE
      rintro rfl rfl R hR
      simp only [putAll, List.take, List.drop, List.map, Act.put, List.setIfInBounds_toArray, List.set_cons_zero, List.set_cons_succ]
      go_simp
      exact hR _ _ (Ext.refl _) (rfl) trivial
    case rest =>
      intro x0 x1 x2 x3 x4 x5 x6 x7 x8 x9 x10 x11 x12 x13 x14 x15 x16 x17 x18 x19 x20 x21 x22 x23 u12 hb
      rintro rfl rfl rfl _ rfl rfl rfl rfl rfl rfl rfl rfl rfl rfl rfl rfl rfl rfl rfl rfl rfl rfl rfl rfl hap
      replace hx := Ext.trans hx hb; replace gx := gx.ext hb; replace gy := gy.ext hb; replace gc := gc.ext hb; replace ge := ge.ext hb; replace xhx := (IsRef x).mono hb xhx; replace xr := (PRep x xb xp).mono hb xr; replace yhx := (IsRef y).mono hb yhx; replace yr := (PRep y yb yp).mono hb yr; replace cr := (PRep (unionT x y) cb cp).mono hb cr; replace er := (PRep (unionT x y) eb ep).mono hb er; have s32 := hb.size
      clear hap
      simp only [putAll, List.take, List.drop, List.map, Act.put, List.setIfInBounds_toArray, List.set_cons_zero, List.set_cons_succ]
      have gx_0 := gx.c 0 rfl; have gxf0 := gx.f 0; have gx_1 := gx.c 1 rfl; have gxf1 := gx.f 1; have gxl := gx.lt; have gy_0 := gy.c 0 rfl; have gyf0 := gy.f 0; have gy_1 := gy.c 1 rfl; have gyf1 := gy.f 1; have gyl := gy.lt; have gc_0 := gc.c 0 rfl; have gcf0 := gc.f 0; have gc_1 := gc.c 1 rfl; have gcf1 := gc.f 1; have gcl := gc.lt; have ge_0 := ge.c 0 rfl; have gef0 := ge.f 0; have ge_1 := ge.c 1 rfl; have gef1 := ge.f 1; have gel := ge.lt
      go_wp2_with fail
      clear gx_0 gxf0 gx_1 gxf1 gxl gy_0 gyf0 gy_1 gyf1 gyl gc_0 gcf0 gc_1 gcf1 gcl ge_0 gef0 ge_1 gef1 gel
      go_ret
      exact ⟨_, rfl, rfl, hx⟩

end Go.Proofs.Ytkfncjaomgcdgaa

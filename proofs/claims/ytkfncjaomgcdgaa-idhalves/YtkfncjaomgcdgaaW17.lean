/- IdHalves. -/
import Derived.Test.YtkfncjaomgcdgaaW15
import Derived.Test.YtkfncjaomgcdgaaSem
set_option linter.all false
namespace Go.Proofs.Ytkfncjaomgcdgaa
open Go.RowKit Go.Facts

theorem disj_e {a b : T} {c : Bool} {va vb : Value} {w : World} (h : disjT a b = c) (ha : (IsId a).p va w) (hb : (IsId b).p vb w) : Calls Try.prog 21 #[va, vb] w (Ret w (PP.eq (.bool c)).p) := h ▸ disj_c a b va vb w ha hb
theorem cov_e {a b : T} {c : Bool} {va vb : Value} {w : World} (h : coverT a b = c) (ha : (IsId a).p va w) (hb : (IsId b).p vb w) : Calls Try.prog 24 #[va, vb] w (Ret w (PP.eq (.bool c)).p) := h ▸ cov_c a b va vb w ha hb

set_option maxRecDepth 100000 in
set_option maxHeartbeats 8000000 in
theorem idHalves_c {l q : List UInt8} {v u : Value} {w : World} (h : Bsl l v w) (k : Bsl q u w) :
    Calls Try.prog 9 #[v, u] w (Ret w (PP.eq (.bool true)).p) := by
  obtain ⟨a0, cap0, rfl, hh⟩ := id h
  clear hh
  obtain ⟨a1, cap1, rfl, hh⟩ := id k
  clear hh
  go_enter Try.func9, Try.ntmps9
  go_wp2_with fail
  refine (awake_c).mono ?_
  rintro _ a1 ⟨_, rfl, rfl, hb⟩
  have hx := hb; have s0 := hb.size
  go_wp2_with fail
  refine (made_c ((BslP _).mono hx h)).mono ?_
  rintro _ mx ⟨_, rfl, ⟨x, xi, xx, rfl, xw, xd, xhi, xhx⟩, hb⟩
  replace hx := Ext.trans hx hb; have s1 := hb.size
  obtain ⟨xb, xp, rfl, xr⟩ := xhi
  obtain ⟨xxp, rfl, xxr⟩ := id xhx
  go_wp2_with fail
  obtain ⟨Bx, hW, hb, z2, gx⟩ := box1 mx [.bool xb, .pointer xp] 26
  rw [hW]; clear hW
  replace hx := Ext.trans hx hb; replace xhx := (IsRef x).mono hb xhx; replace xr := (PRep x xb xp).mono hb xr; have s3 := hb.size
  refine (made_c ((BslP _).mono hx k)).mono ?_
  rintro _ my ⟨_, rfl, ⟨y, yi, yx, rfl, yw, yd, yhi, yhx⟩, hb⟩
  replace hx := Ext.trans hx hb; replace gx := gx.ext hb; replace xhx := (IsRef x).mono hb xhx; replace xr := (PRep x xb xp).mono hb xr; have s4 := hb.size
  obtain ⟨yb, yp, rfl, yr⟩ := yhi
  obtain ⟨yxp, rfl, yxr⟩ := id yhx
  have gx_0 := gx.c 0 rfl; have gxf0 := gx.f 0; have gx_1 := gx.c 1 rfl; have gxf1 := gx.f 1; have gxl := gx.lt
  go_wp2_with fail
  clear gx_0 gxf0 gx_1 gxf1 gxl
  have gxlt5 := gx.lt
  obtain ⟨By, hW, hb, z5, gy⟩ := box1 my [.bool yb, .pointer yp] 26
  rw [hW]; clear hW
  replace hx := Ext.trans hx hb; replace gx := gx.ext hb; replace xhx := (IsRef x).mono hb xhx; replace xr := (PRep x xb xp).mono hb xr; replace yhx := (IsRef y).mono hb yhx; replace yr := (PRep y yb yp).mono hb yr; have s6 := hb.size
  have HD := Lib.hid (disj_half xw yw)
  have HC := Lib.hid (cover_half xw yw)
  have HS := Lib.hid (disj_comm xw yw)
  cases hc : disjT x.left y.left
  ·
    have hDf : disjT x y = false := by rw [HD.out, hc]; rfl
    have HDf := Lib.hid hDf; clear hDf
    have Hc := Lib.hid hc; clear hc
    have gxlt7 := gx.lt
    have gylt7 := gy.lt
    refine wp_facts 12 [] [PP.eq (.agg #[.bool xb, .pointer xp]), (IsId x.left).toPP, PP.eq (.agg #[.bool yb, .pointer yp]), (IsId y.left).toPP, PP.eq (.bool false), PP.eq (.bool false), PP.eq (undef), PP.eq (undef), PP.eq (undef), PP.eq (undef), PP.eq (undef), PP.eq (.bool false)] (by kernel_rfl) (by kernel_rfl) ⟨?o0, ?o1, ?o2, ?o3, ?o4, ?o5, ?o6, ?o7, ?o8, ?o9, ?o10, ?o11, trivial⟩ ?rest
    case o0 =>
      intro x0 x1 x2 x3 x4 x5 x6 x7 x8 x9 x10 x11 w' hE
      rintro R hR
      have qgx0 := (gx.ext hE).c 0 rfl
      have qgx1 := (gx.ext hE).c 1 rfl
      simp only [putAll, List.take, List.drop, List.map, Act.put, List.setIfInBounds_toArray, List.set_cons_zero, List.set_cons_succ]
      go_simp
      exact hR _ _ (Ext.refl _) (rfl) trivial
    case o1 =>
      intro x0 x1 x2 x3 x4 x5 x6 x7 x8 x9 x10 x11 w' hE
      rintro rfl R hR
      simp only [putAll, List.take, List.drop, List.map, Act.put, List.setIfInBounds_toArray, List.set_cons_zero, List.set_cons_succ]
      go_simp
      refine (left_c ⟨xb, xp, rfl, xr.ext hE⟩).mono ?_
      rintro _ w'' ⟨v, rfl, hv, hb⟩
      exact hR _ _ hb hv trivial
    case o2 =>
      intro x0 x1 x2 x3 x4 x5 x6 x7 x8 x9 x10 x11 w' hE
      rintro R hR
      have qgy0 := (gy.ext hE).c 0 rfl
      have qgy1 := (gy.ext hE).c 1 rfl
      simp only [putAll, List.take, List.drop, List.map, Act.put, List.setIfInBounds_toArray, List.set_cons_zero, List.set_cons_succ]
      go_simp
      exact hR _ _ (Ext.refl _) (rfl) trivial
    case o3 =>
      intro x0 x1 x2 x3 x4 x5 x6 x7 x8 x9 x10 x11 w' hE
      rintro rfl d1 R hR
      simp only [putAll, List.take, List.drop, List.map, Act.put, List.setIfInBounds_toArray, List.set_cons_zero, List.set_cons_succ]
      go_simp
      refine (left_c ⟨yb, yp, rfl, yr.ext hE⟩).mono ?_
      rintro _ w'' ⟨v, rfl, hv, hb⟩
      exact hR _ _ hb hv trivial
    case o4 =>
      intro x0 x1 x2 x3 x4 x5 x6 x7 x8 x9 x10 x11 w' hE
      rintro d1 d3 _ R hR
      simp only [putAll, List.take, List.drop, List.map, Act.put, List.setIfInBounds_toArray, List.set_cons_zero, List.set_cons_succ]
      go_simp
      refine (disj_e Hc.out d1 d3).mono ?_
      rintro _ w'' ⟨v, rfl, hv, hb⟩
      exact hR _ _ hb hv trivial
    case o5 =>
      intro x0 x1 x2 x3 x4 x5 x6 x7 x8 x9 x10 x11 w' hE
      rintro rfl _ R hR
      simp only [putAll, List.take, List.drop, List.map, Act.put, List.setIfInBounds_toArray, List.set_cons_zero, List.set_cons_succ]
      go_simp
      exact hR _ _ (Ext.refl _) (rfl) trivial
    case o6 =>
      intro x0 x1 x2 x3 x4 x5 x6 x7 x8 x9 x10 x11 w' hE
      rintro rfl R hR
      simp only [putAll, List.take, List.drop, List.map, Act.put, List.setIfInBounds_toArray, List.set_cons_zero, List.set_cons_succ]
      go_simp
      exact hR _ _ (Ext.refl _) (rfl) trivial
    case o7 =>
      intro x0 x1 x2 x3 x4 x5 x6 x7 x8 x9 x10 x11 w' hE
      rintro rfl rfl _ R hR
      simp only [putAll, List.take, List.drop, List.map, Act.put, List.setIfInBounds_toArray, List.set_cons_zero, List.set_cons_succ]
      go_simp
      exact hR _ _ (Ext.refl _) (rfl) trivial
    case o8 =>
      intro x0 x1 x2 x3 x4 x5 x6 x7 x8 x9 x10 x11 w' hE
      rintro rfl R hR
      simp only [putAll, List.take, List.drop, List.map, Act.put, List.setIfInBounds_toArray, List.set_cons_zero, List.set_cons_succ]
      go_simp
      exact hR _ _ (Ext.refl _) (rfl) trivial
    case o9 =>
      intro x0 x1 x2 x3 x4 x5 x6 x7 x8 x9 x10 x11 w' hE
      rintro rfl rfl rfl R hR
      simp only [putAll, List.take, List.drop, List.map, Act.put, List.setIfInBounds_toArray, List.set_cons_zero, List.set_cons_succ]
      go_simp
      exact hR _ _ (Ext.refl _) (rfl) trivial
    case o10 =>
      intro x0 x1 x2 x3 x4 x5 x6 x7 x8 x9 x10 x11 w' hE
      rintro rfl rfl _ rfl R hR
      simp only [putAll, List.take, List.drop, List.map, Act.put, List.setIfInBounds_toArray, List.set_cons_zero, List.set_cons_succ]
      go_simp
      exact hR _ _ (Ext.refl _) (rfl) trivial
    case o11 =>
      intro x0 x1 x2 x3 x4 x5 x6 x7 x8 x9 x10 x11 w' hE
      rintro rfl rfl R hR
      simp only [putAll, List.take, List.drop, List.map, Act.put, List.setIfInBounds_toArray, List.set_cons_zero, List.set_cons_succ]
      go_simp
      exact hR _ _ (Ext.refl _) (rfl) trivial
    case rest =>
      intro x0 x1 x2 x3 x4 x5 x6 x7 x8 x9 x10 x11 w5 hb
      rintro rfl _ rfl _ rfl rfl rfl rfl rfl rfl rfl rfl hap
      replace hx := Ext.trans hx hb; replace gx := gx.ext hb; replace gy := gy.ext hb; replace xhx := (IsRef x).mono hb xhx; replace xr := (PRep x xb xp).mono hb xr; replace yhx := (IsRef y).mono hb yhx; replace yr := (PRep y yb yp).mono hb yr; have s8 := hb.size
      clear hap
      simp only [putAll, List.take, List.drop, List.map, Act.put, List.setIfInBounds_toArray, List.set_cons_zero, List.set_cons_succ]
      have gx_0 := gx.c 0 rfl; have gxf0 := gx.f 0; have gx_1 := gx.c 1 rfl; have gxf1 := gx.f 1; have gxl := gx.lt; have gy_0 := gy.c 0 rfl; have gyf0 := gy.f 0; have gy_1 := gy.c 1 rfl; have gyf1 := gy.f 1; have gyl := gy.lt
      go_wp2_with fail
      clear gx_0 gxf0 gx_1 gxf1 gxl gy_0 gyf0 gy_1 gyf1 gyl
      cases hk : coverT x.left y.left
      ·
        have hKf : coverT x y = false := by rw [HC.out, hk]; rfl
        have HKf := Lib.hid hKf; clear hKf
        have Hk := Lib.hid hk; clear hk
        have gxlt9 := gx.lt
        have gylt9 := gy.lt
        refine wp_facts 32 [] [PP.eq (.agg #[.bool xb, .pointer xp]), PP.eq (.agg #[.bool yb, .pointer yp]), PP.eq (.bool false), PP.eq (.bool false), PP.eq (.bool false), PP.eq (.bool false), PP.eq (.agg #[.bool xb, .pointer xp]), PP.eq (.agg #[.bool yb, .pointer yp]), PP.eq (.bool false), PP.eq (.agg #[.bool xb, .pointer xp]), (IsId x.left).toPP, PP.eq (.agg #[.bool yb, .pointer yp]), (IsId y.left).toPP, PP.eq (.bool false), PP.eq (.bool false), PP.eq (undef), PP.eq (undef), PP.eq (undef), PP.eq (undef), PP.eq (undef), PP.eq (.bool false), PP.eq (.bool false), PP.eq (.bool false), PP.eq (.bool false), PP.eq (.agg #[.bool xb, .pointer xp]), PP.eq (.agg #[.bool yb, .pointer yp]), PP.eq (.bool false), PP.eq (.agg #[.bool yb, .pointer yp]), PP.eq (.agg #[.bool xb, .pointer xp]), PP.eq (.bool false), PP.eq (.bool false), PP.eq (.bool false)] (by kernel_rfl) (by kernel_rfl) ⟨?o0, ?o1, ?o2, ?o3, ?o4, ?o5, ?o6, ?o7, ?o8, ?o9, ?o10, ?o11, ?o12, ?o13, ?o14, ?o15, ?o16, ?o17, ?o18, ?o19, ?o20, ?o21, ?o22, ?o23, ?o24, ?o25, ?o26, ?o27, ?o28, ?o29, ?o30, ?o31, trivial⟩ ?rest
        case o0 =>
          intro x0 x1 x2 x3 x4 x5 x6 x7 x8 x9 x10 x11 x12 x13 x14 x15 x16 x17 x18 x19 x20 x21 x22 x23 x24 x25 x26 x27 x28 x29 x30 x31 w' hE
          rintro R hR
          have qgx0 := (gx.ext hE).c 0 rfl
          have qgx1 := (gx.ext hE).c 1 rfl
          simp only [putAll, List.take, List.drop, List.map, Act.put, List.setIfInBounds_toArray, List.set_cons_zero, List.set_cons_succ]
          go_simp
          exact hR _ _ (Ext.refl _) (rfl) trivial
        case o1 =>
          intro x0 x1 x2 x3 x4 x5 x6 x7 x8 x9 x10 x11 x12 x13 x14 x15 x16 x17 x18 x19 x20 x21 x22 x23 x24 x25 x26 x27 x28 x29 x30 x31 w' hE
          rintro R hR
          have qgy0 := (gy.ext hE).c 0 rfl
          have qgy1 := (gy.ext hE).c 1 rfl
          simp only [putAll, List.take, List.drop, List.map, Act.put, List.setIfInBounds_toArray, List.set_cons_zero, List.set_cons_succ]
          go_simp
          exact hR _ _ (Ext.refl _) (rfl) trivial
        case o2 =>
          intro x0 x1 x2 x3 x4 x5 x6 x7 x8 x9 x10 x11 x12 x13 x14 x15 x16 x17 x18 x19 x20 x21 x22 x23 x24 x25 x26 x27 x28 x29 x30 x31 w' hE
          rintro rfl rfl R hR
          simp only [putAll, List.take, List.drop, List.map, Act.put, List.setIfInBounds_toArray, List.set_cons_zero, List.set_cons_succ]
          go_simp
          refine (disj_e HDf.out ⟨xb, xp, rfl, xr.ext hE⟩ ⟨yb, yp, rfl, yr.ext hE⟩).mono ?_
          rintro _ w'' ⟨v, rfl, hv, hb⟩
          exact hR _ _ hb hv trivial
        case o3 =>
          intro x0 x1 x2 x3 x4 x5 x6 x7 x8 x9 x10 x11 x12 x13 x14 x15 x16 x17 x18 x19 x20 x21 x22 x23 x24 x25 x26 x27 x28 x29 x30 x31 w' hE
          rintro R hR
          simp only [putAll, List.take, List.drop, List.map, Act.put, List.setIfInBounds_toArray, List.set_cons_zero, List.set_cons_succ]
          go_simp
          exact hR _ _ (Ext.refl _) (rfl) trivial
        case o4 =>
          intro x0 x1 x2 x3 x4 x5 x6 x7 x8 x9 x10 x11 x12 x13 x14 x15 x16 x17 x18 x19 x20 x21 x22 x23 x24 x25 x26 x27 x28 x29 x30 x31 w' hE
          rintro rfl rfl R hR
          simp only [putAll, List.take, List.drop, List.map, Act.put, List.setIfInBounds_toArray, List.set_cons_zero, List.set_cons_succ]
          go_simp
          exact hR _ _ (Ext.refl _) (rfl) trivial
        case o5 =>
          intro x0 x1 x2 x3 x4 x5 x6 x7 x8 x9 x10 x11 x12 x13 x14 x15 x16 x17 x18 x19 x20 x21 x22 x23 x24 x25 x26 x27 x28 x29 x30 x31 w' hE
          rintro rfl rfl R hR
          simp only [putAll, List.take, List.drop, List.map, Act.put, List.setIfInBounds_toArray, List.set_cons_zero, List.set_cons_succ]
          go_simp
          exact hR _ _ (Ext.refl _) (rfl) trivial
        case o6 =>
          intro x0 x1 x2 x3 x4 x5 x6 x7 x8 x9 x10 x11 x12 x13 x14 x15 x16 x17 x18 x19 x20 x21 x22 x23 x24 x25 x26 x27 x28 x29 x30 x31 w' hE
          rintro rfl R hR
          have qgx0 := (gx.ext hE).c 0 rfl
          have qgx1 := (gx.ext hE).c 1 rfl
          simp only [putAll, List.take, List.drop, List.map, Act.put, List.setIfInBounds_toArray, List.set_cons_zero, List.set_cons_succ]
          go_simp
          exact hR _ _ (Ext.refl _) (rfl) trivial
        case o7 =>
          intro x0 x1 x2 x3 x4 x5 x6 x7 x8 x9 x10 x11 x12 x13 x14 x15 x16 x17 x18 x19 x20 x21 x22 x23 x24 x25 x26 x27 x28 x29 x30 x31 w' hE
          rintro rfl R hR
          have qgy0 := (gy.ext hE).c 0 rfl
          have qgy1 := (gy.ext hE).c 1 rfl
          simp only [putAll, List.take, List.drop, List.map, Act.put, List.setIfInBounds_toArray, List.set_cons_zero, List.set_cons_succ]
          go_simp
          exact hR _ _ (Ext.refl _) (rfl) trivial
        case o8 =>
          intro x0 x1 x2 x3 x4 x5 x6 x7 x8 x9 x10 x11 x12 x13 x14 x15 x16 x17 x18 x19 x20 x21 x22 x23 x24 x25 x26 x27 x28 x29 x30 x31 w' hE
          rintro rfl rfl rfl _ R hR
          simp only [putAll, List.take, List.drop, List.map, Act.put, List.setIfInBounds_toArray, List.set_cons_zero, List.set_cons_succ]
          go_simp
          refine (cov_e HKf.out ⟨xb, xp, rfl, xr.ext hE⟩ ⟨yb, yp, rfl, yr.ext hE⟩).mono ?_
          rintro _ w'' ⟨v, rfl, hv, hb⟩
          exact hR _ _ hb hv trivial
        case o9 =>
          intro x0 x1 x2 x3 x4 x5 x6 x7 x8 x9 x10 x11 x12 x13 x14 x15 x16 x17 x18 x19 x20 x21 x22 x23 x24 x25 x26 x27 x28 x29 x30 x31 w' hE
          rintro rfl R hR
          have qgx0 := (gx.ext hE).c 0 rfl
          have qgx1 := (gx.ext hE).c 1 rfl
          simp only [putAll, List.take, List.drop, List.map, Act.put, List.setIfInBounds_toArray, List.set_cons_zero, List.set_cons_succ]
          go_simp
          exact hR _ _ (Ext.refl _) (rfl) trivial
        case o10 =>
          intro x0 x1 x2 x3 x4 x5 x6 x7 x8 x9 x10 x11 x12 x13 x14 x15 x16 x17 x18 x19 x20 x21 x22 x23 x24 x25 x26 x27 x28 x29 x30 x31 w' hE
          rintro rfl rfl rfl R hR
          simp only [putAll, List.take, List.drop, List.map, Act.put, List.setIfInBounds_toArray, List.set_cons_zero, List.set_cons_succ]
          go_simp
          refine (left_c ⟨xb, xp, rfl, xr.ext hE⟩).mono ?_
          rintro _ w'' ⟨v, rfl, hv, hb⟩
          exact hR _ _ hb hv trivial
        case o11 =>
          intro x0 x1 x2 x3 x4 x5 x6 x7 x8 x9 x10 x11 x12 x13 x14 x15 x16 x17 x18 x19 x20 x21 x22 x23 x24 x25 x26 x27 x28 x29 x30 x31 w' hE
          rintro rfl R hR
          have qgy0 := (gy.ext hE).c 0 rfl
          have qgy1 := (gy.ext hE).c 1 rfl
          simp only [putAll, List.take, List.drop, List.map, Act.put, List.setIfInBounds_toArray, List.set_cons_zero, List.set_cons_succ]
          go_simp
          exact hR _ _ (Ext.refl _) (rfl) trivial
        case o12 =>
          intro x0 x1 x2 x3 x4 x5 x6 x7 x8 x9 x10 x11 x12 x13 x14 x15 x16 x17 x18 x19 x20 x21 x22 x23 x24 x25 x26 x27 x28 x29 x30 x31 w' hE
          rintro rfl d10 rfl R hR
          simp only [putAll, List.take, List.drop, List.map, Act.put, List.setIfInBounds_toArray, List.set_cons_zero, List.set_cons_succ]
          go_simp
          refine (left_c ⟨yb, yp, rfl, yr.ext hE⟩).mono ?_
          rintro _ w'' ⟨v, rfl, hv, hb⟩
          exact hR _ _ hb hv trivial
        case o13 =>
          intro x0 x1 x2 x3 x4 x5 x6 x7 x8 x9 x10 x11 x12 x13 x14 x15 x16 x17 x18 x19 x20 x21 x22 x23 x24 x25 x26 x27 x28 x29 x30 x31 w' hE
          rintro d10 d12 _ rfl R hR
          simp only [putAll, List.take, List.drop, List.map, Act.put, List.setIfInBounds_toArray, List.set_cons_zero, List.set_cons_succ]
          go_simp
          refine (cov_e Hk.out d10 d12).mono ?_
          rintro _ w'' ⟨v, rfl, hv, hb⟩
          exact hR _ _ hb hv trivial
        case o14 =>
          intro x0 x1 x2 x3 x4 x5 x6 x7 x8 x9 x10 x11 x12 x13 x14 x15 x16 x17 x18 x19 x20 x21 x22 x23 x24 x25 x26 x27 x28 x29 x30 x31 w' hE
          rintro rfl _ rfl R hR
          simp only [putAll, List.take, List.drop, List.map, Act.put, List.setIfInBounds_toArray, List.set_cons_zero, List.set_cons_succ]
          go_simp
          exact hR _ _ (Ext.refl _) (rfl) trivial
        case o15 =>
          intro x0 x1 x2 x3 x4 x5 x6 x7 x8 x9 x10 x11 x12 x13 x14 x15 x16 x17 x18 x19 x20 x21 x22 x23 x24 x25 x26 x27 x28 x29 x30 x31 w' hE
          rintro rfl R hR
          simp only [putAll, List.take, List.drop, List.map, Act.put, List.setIfInBounds_toArray, List.set_cons_zero, List.set_cons_succ]
          go_simp
          exact hR _ _ (Ext.refl _) (rfl) trivial
        case o16 =>
          intro x0 x1 x2 x3 x4 x5 x6 x7 x8 x9 x10 x11 x12 x13 x14 x15 x16 x17 x18 x19 x20 x21 x22 x23 x24 x25 x26 x27 x28 x29 x30 x31 w' hE
          rintro rfl rfl _ R hR
          simp only [putAll, List.take, List.drop, List.map, Act.put, List.setIfInBounds_toArray, List.set_cons_zero, List.set_cons_succ]
          go_simp
          exact hR _ _ (Ext.refl _) (rfl) trivial
        case o17 =>
          intro x0 x1 x2 x3 x4 x5 x6 x7 x8 x9 x10 x11 x12 x13 x14 x15 x16 x17 x18 x19 x20 x21 x22 x23 x24 x25 x26 x27 x28 x29 x30 x31 w' hE
          rintro rfl R hR
          simp only [putAll, List.take, List.drop, List.map, Act.put, List.setIfInBounds_toArray, List.set_cons_zero, List.set_cons_succ]
          go_simp
          exact hR _ _ (Ext.refl _) (rfl) trivial
        case o18 =>
          intro x0 x1 x2 x3 x4 x5 x6 x7 x8 x9 x10 x11 x12 x13 x14 x15 x16 x17 x18 x19 x20 x21 x22 x23 x24 x25 x26 x27 x28 x29 x30 x31 w' hE
          rintro rfl rfl rfl R hR
          simp only [putAll, List.take, List.drop, List.map, Act.put, List.setIfInBounds_toArray, List.set_cons_zero, List.set_cons_succ]
          go_simp
          exact hR _ _ (Ext.refl _) (rfl) trivial
        case o19 =>
          intro x0 x1 x2 x3 x4 x5 x6 x7 x8 x9 x10 x11 x12 x13 x14 x15 x16 x17 x18 x19 x20 x21 x22 x23 x24 x25 x26 x27 x28 x29 x30 x31 w' hE
          rintro rfl rfl _ rfl R hR
          simp only [putAll, List.take, List.drop, List.map, Act.put, List.setIfInBounds_toArray, List.set_cons_zero, List.set_cons_succ]
          go_simp
          exact hR _ _ (Ext.refl _) (rfl) trivial
        case o20 =>
          intro x0 x1 x2 x3 x4 x5 x6 x7 x8 x9 x10 x11 x12 x13 x14 x15 x16 x17 x18 x19 x20 x21 x22 x23 x24 x25 x26 x27 x28 x29 x30 x31 w' hE
          rintro rfl rfl rfl R hR
          simp only [putAll, List.take, List.drop, List.map, Act.put, List.setIfInBounds_toArray, List.set_cons_zero, List.set_cons_succ]
          go_simp
          exact hR _ _ (Ext.refl _) (rfl) trivial
        case o21 =>
          intro x0 x1 x2 x3 x4 x5 x6 x7 x8 x9 x10 x11 x12 x13 x14 x15 x16 x17 x18 x19 x20 x21 x22 x23 x24 x25 x26 x27 x28 x29 x30 x31 w' hE
          rintro rfl rfl rfl R hR
          simp only [putAll, List.take, List.drop, List.map, Act.put, List.setIfInBounds_toArray, List.set_cons_zero, List.set_cons_succ]
          go_simp
          exact hR _ _ (Ext.refl _) (rfl) trivial
        case o22 =>
          intro x0 x1 x2 x3 x4 x5 x6 x7 x8 x9 x10 x11 x12 x13 x14 x15 x16 x17 x18 x19 x20 x21 x22 x23 x24 x25 x26 x27 x28 x29 x30 x31 w' hE
          rintro rfl rfl R hR
          simp only [putAll, List.take, List.drop, List.map, Act.put, List.setIfInBounds_toArray, List.set_cons_zero, List.set_cons_succ]
          go_simp
          exact hR _ _ (Ext.refl _) (rfl) trivial
        case o23 =>
          intro x0 x1 x2 x3 x4 x5 x6 x7 x8 x9 x10 x11 x12 x13 x14 x15 x16 x17 x18 x19 x20 x21 x22 x23 x24 x25 x26 x27 x28 x29 x30 x31 w' hE
          rintro rfl rfl R hR
          simp only [putAll, List.take, List.drop, List.map, Act.put, List.setIfInBounds_toArray, List.set_cons_zero, List.set_cons_succ]
          go_simp
          exact hR _ _ (Ext.refl _) (rfl) trivial
        case o24 =>
          intro x0 x1 x2 x3 x4 x5 x6 x7 x8 x9 x10 x11 x12 x13 x14 x15 x16 x17 x18 x19 x20 x21 x22 x23 x24 x25 x26 x27 x28 x29 x30 x31 w' hE
          rintro rfl R hR
          have qgx0 := (gx.ext hE).c 0 rfl
          have qgx1 := (gx.ext hE).c 1 rfl
          simp only [putAll, List.take, List.drop, List.map, Act.put, List.setIfInBounds_toArray, List.set_cons_zero, List.set_cons_succ]
          go_simp
          exact hR _ _ (Ext.refl _) (rfl) trivial
        case o25 =>
          intro x0 x1 x2 x3 x4 x5 x6 x7 x8 x9 x10 x11 x12 x13 x14 x15 x16 x17 x18 x19 x20 x21 x22 x23 x24 x25 x26 x27 x28 x29 x30 x31 w' hE
          rintro rfl R hR
          have qgy0 := (gy.ext hE).c 0 rfl
          have qgy1 := (gy.ext hE).c 1 rfl
          simp only [putAll, List.take, List.drop, List.map, Act.put, List.setIfInBounds_toArray, List.set_cons_zero, List.set_cons_succ]
          go_simp
          exact hR _ _ (Ext.refl _) (rfl) trivial
        case o26 =>
          intro x0 x1 x2 x3 x4 x5 x6 x7 x8 x9 x10 x11 x12 x13 x14 x15 x16 x17 x18 x19 x20 x21 x22 x23 x24 x25 x26 x27 x28 x29 x30 x31 w' hE
          rintro rfl rfl rfl _ R hR
          simp only [putAll, List.take, List.drop, List.map, Act.put, List.setIfInBounds_toArray, List.set_cons_zero, List.set_cons_succ]
          go_simp
          refine (disj_e HDf.out ⟨xb, xp, rfl, xr.ext hE⟩ ⟨yb, yp, rfl, yr.ext hE⟩).mono ?_
          rintro _ w'' ⟨v, rfl, hv, hb⟩
          exact hR _ _ hb hv trivial
        case o27 =>
          intro x0 x1 x2 x3 x4 x5 x6 x7 x8 x9 x10 x11 x12 x13 x14 x15 x16 x17 x18 x19 x20 x21 x22 x23 x24 x25 x26 x27 x28 x29 x30 x31 w' hE
          rintro rfl R hR
          have qgy0 := (gy.ext hE).c 0 rfl
          have qgy1 := (gy.ext hE).c 1 rfl
          simp only [putAll, List.take, List.drop, List.map, Act.put, List.setIfInBounds_toArray, List.set_cons_zero, List.set_cons_succ]
          go_simp
          exact hR _ _ (Ext.refl _) (rfl) trivial
        case o28 =>
          intro x0 x1 x2 x3 x4 x5 x6 x7 x8 x9 x10 x11 x12 x13 x14 x15 x16 x17 x18 x19 x20 x21 x22 x23 x24 x25 x26 x27 x28 x29 x30 x31 w' hE
          rintro rfl R hR
          have qgx0 := (gx.ext hE).c 0 rfl
          have qgx1 := (gx.ext hE).c 1 rfl
          simp only [putAll, List.take, List.drop, List.map, Act.put, List.setIfInBounds_toArray, List.set_cons_zero, List.set_cons_succ]
          go_simp
          exact hR _ _ (Ext.refl _) (rfl) trivial
        case o29 =>
          intro x0 x1 x2 x3 x4 x5 x6 x7 x8 x9 x10 x11 x12 x13 x14 x15 x16 x17 x18 x19 x20 x21 x22 x23 x24 x25 x26 x27 x28 x29 x30 x31 w' hE
          rintro rfl rfl rfl rfl R hR
          simp only [putAll, List.take, List.drop, List.map, Act.put, List.setIfInBounds_toArray, List.set_cons_zero, List.set_cons_succ]
          go_simp
          refine (disj_e (HS.out.symm.trans HDf.out) ⟨yb, yp, rfl, yr.ext hE⟩ ⟨xb, xp, rfl, xr.ext hE⟩).mono ?_
          rintro _ w'' ⟨v, rfl, hv, hb⟩
          exact hR _ _ hb hv trivial
        case o30 =>
          intro x0 x1 x2 x3 x4 x5 x6 x7 x8 x9 x10 x11 x12 x13 x14 x15 x16 x17 x18 x19 x20 x21 x22 x23 x24 x25 x26 x27 x28 x29 x30 x31 w' hE
          rintro rfl rfl rfl R hR
          simp only [putAll, List.take, List.drop, List.map, Act.put, List.setIfInBounds_toArray, List.set_cons_zero, List.set_cons_succ]
          go_simp
          exact hR _ _ (Ext.refl _) (rfl) trivial
        case o31 =>
          intro x0 x1 x2 x3 x4 x5 x6 x7 x8 x9 x10 x11 x12 x13 x14 x15 x16 x17 x18 x19 x20 x21 x22 x23 x24 x25 x26 x27 x28 x29 x30 x31 w' hE
          rintro rfl rfl R hR
          simp only [putAll, List.take, List.drop, List.map, Act.put, List.setIfInBounds_toArray, List.set_cons_zero, List.set_cons_succ]
          go_simp
          exact hR _ _ (Ext.refl _) (rfl) trivial
        case rest =>
          intro x0 x1 x2 x3 x4 x5 x6 x7 x8 x9 x10 x11 x12 x13 x14 x15 x16 x17 x18 x19 x20 x21 x22 x23 x24 x25 x26 x27 x28 x29 x30 x31 w6 hb
          rintro rfl rfl rfl rfl rfl rfl rfl rfl rfl rfl _ rfl _ rfl rfl rfl rfl rfl rfl rfl rfl rfl rfl rfl rfl rfl rfl rfl rfl rfl rfl rfl hap
          replace hx := Ext.trans hx hb; replace gx := gx.ext hb; replace gy := gy.ext hb; replace xhx := (IsRef x).mono hb xhx; replace xr := (PRep x xb xp).mono hb xr; replace yhx := (IsRef y).mono hb yhx; replace yr := (PRep y yb yp).mono hb yr; have s10 := hb.size
          clear hap
          simp only [putAll, List.take, List.drop, List.map, Act.put, List.setIfInBounds_toArray, List.set_cons_zero, List.set_cons_succ]
          have gx_0 := gx.c 0 rfl; have gxf0 := gx.f 0; have gx_1 := gx.c 1 rfl; have gxf1 := gx.f 1; have gxl := gx.lt; have gy_0 := gy.c 0 rfl; have gyf0 := gy.f 0; have gy_1 := gy.c 1 rfl; have gyf1 := gy.f 1; have gyl := gy.lt
          go_wp2_with fail
          clear gx_0 gxf0 gx_1 gxf1 gxl gy_0 gyf0 gy_1 gyf1 gyl
          clear Hk
          have hD := HDf.out
          ·
            have hs := sum_f (PRep.is xr) (PRep.is yr) (by omega) (by omega) hD
            refine (hs).mono ?_
            rintro _ w7 ⟨cv, rfl, c, hb⟩
            replace hx := Ext.trans hx hb; replace gx := gx.ext hb; replace gy := gy.ext hb; replace xhx := (IsRef x).mono hb xhx; replace xr := (PRep x xb xp).mono hb xr; replace yhx := (IsRef y).mono hb yhx; replace yr := (PRep y yb yp).mono hb yr; have s11 := hb.size
            obtain ⟨cv, _, rfl, ch, rfl⟩ := c
            clear hs
            obtain ⟨cb, cp, rfl, cr⟩ := ch
            have gx_0 := gx.c 0 rfl; have gxf0 := gx.f 0; have gx_1 := gx.c 1 rfl; have gxf1 := gx.f 1; have gxl := gx.lt; have gy_0 := gy.c 0 rfl; have gyf0 := gy.f 0; have gy_1 := gy.c 1 rfl; have gyf1 := gy.f 1; have gyl := gy.lt
            go_wp2_with fail
            clear gx_0 gxf0 gx_1 gxf1 gxl gy_0 gyf0 gy_1 gyf1 gyl
            have gxlt12 := gx.lt
            have gylt12 := gy.lt
            obtain ⟨w8, hW, hb, z12, gc⟩ := box1 w7 [.bool cb, .pointer cp] 26
            rw [hW]; clear hW
            replace hx := Ext.trans hx hb; replace gx := gx.ext hb; replace gy := gy.ext hb; replace xhx := (IsRef x).mono hb xhx; replace xr := (PRep x xb xp).mono hb xr; replace yhx := (IsRef y).mono hb yhx; replace yr := (PRep y yb yp).mono hb yr; replace cr := (PRep .zero cb cp).mono hb cr; have s13 := hb.size
            go_ret
            exact ⟨_, rfl, rfl, hx⟩
      ·
        have hR2 : coverT x.right y.right = coverT x y := by rw [HC.out, hk]; rfl
        have HR2 := Lib.hid hR2; clear hR2
        have Hk := Lib.hid hk; clear hk
        have gxlt14 := gx.lt
        have gylt14 := gy.lt
        refine wp_facts 32 [] [PP.eq (.agg #[.bool xb, .pointer xp]), PP.eq (.agg #[.bool yb, .pointer yp]), PP.eq (.bool false), PP.eq (.bool false), PP.eq (.bool false), PP.eq (.bool false), PP.eq (.agg #[.bool xb, .pointer xp]), PP.eq (.agg #[.bool yb, .pointer yp]), PP.eq (.bool (coverT x y)), PP.eq (.agg #[.bool xb, .pointer xp]), (IsId x.left).toPP, PP.eq (.agg #[.bool yb, .pointer yp]), (IsId y.left).toPP, PP.eq (.bool true), PP.eq (.bool true), PP.eq (.agg #[.bool xb, .pointer xp]), (IsId x.right).toPP, PP.eq (.agg #[.bool yb, .pointer yp]), (IsId y.right).toPP, PP.eq (.bool (coverT x y)), PP.eq (.bool (coverT x y)), PP.eq (.bool false), PP.eq (.bool false), PP.eq (.bool false), PP.eq (.agg #[.bool xb, .pointer xp]), PP.eq (.agg #[.bool yb, .pointer yp]), PP.eq (.bool false), PP.eq (.agg #[.bool yb, .pointer yp]), PP.eq (.agg #[.bool xb, .pointer xp]), PP.eq (.bool false), PP.eq (.bool false), PP.eq (.bool false)] (by kernel_rfl) (by kernel_rfl) ⟨?o0, ?o1, ?o2, ?o3, ?o4, ?o5, ?o6, ?o7, ?o8, ?o9, ?o10, ?o11, ?o12, ?o13, ?o14, ?o15, ?o16, ?o17, ?o18, ?o19, ?o20, ?o21, ?o22, ?o23, ?o24, ?o25, ?o26, ?o27, ?o28, ?o29, ?o30, ?o31, trivial⟩ ?rest
        case o0 =>
          intro x0 x1 x2 x3 x4 x5 x6 x7 x8 x9 x10 x11 x12 x13 x14 x15 x16 x17 x18 x19 x20 x21 x22 x23 x24 x25 x26 x27 x28 x29 x30 x31 w' hE
          rintro R hR
          have qgx0 := (gx.ext hE).c 0 rfl
          have qgx1 := (gx.ext hE).c 1 rfl
          simp only [putAll, List.take, List.drop, List.map, Act.put, List.setIfInBounds_toArray, List.set_cons_zero, List.set_cons_succ]
          go_simp
          exact hR _ _ (Ext.refl _) (rfl) trivial
        case o1 =>
          intro x0 x1 x2 x3 x4 x5 x6 x7 x8 x9 x10 x11 x12 x13 x14 x15 x16 x17 x18 x19 x20 x21 x22 x23 x24 x25 x26 x27 x28 x29 x30 x31 w' hE
          rintro R hR
          have qgy0 := (gy.ext hE).c 0 rfl
          have qgy1 := (gy.ext hE).c 1 rfl
          simp only [putAll, List.take, List.drop, List.map, Act.put, List.setIfInBounds_toArray, List.set_cons_zero, List.set_cons_succ]
          go_simp
          exact hR _ _ (Ext.refl _) (rfl) trivial
        case o2 =>
          intro x0 x1 x2 x3 x4 x5 x6 x7 x8 x9 x10 x11 x12 x13 x14 x15 x16 x17 x18 x19 x20 x21 x22 x23 x24 x25 x26 x27 x28 x29 x30 x31 w' hE
          rintro rfl rfl R hR
          simp only [putAll, List.take, List.drop, List.map, Act.put, List.setIfInBounds_toArray, List.set_cons_zero, List.set_cons_succ]
          go_simp
          refine (disj_e HDf.out ⟨xb, xp, rfl, xr.ext hE⟩ ⟨yb, yp, rfl, yr.ext hE⟩).mono ?_
          rintro _ w'' ⟨v, rfl, hv, hb⟩
          exact hR _ _ hb hv trivial
        case o3 =>
          intro x0 x1 x2 x3 x4 x5 x6 x7 x8 x9 x10 x11 x12 x13 x14 x15 x16 x17 x18 x19 x20 x21 x22 x23 x24 x25 x26 x27 x28 x29 x30 x31 w' hE
          rintro R hR
          simp only [putAll, List.take, List.drop, List.map, Act.put, List.setIfInBounds_toArray, List.set_cons_zero, List.set_cons_succ]
          go_simp
          exact hR _ _ (Ext.refl _) (rfl) trivial
        case o4 =>
          intro x0 x1 x2 x3 x4 x5 x6 x7 x8 x9 x10 x11 x12 x13 x14 x15 x16 x17 x18 x19 x20 x21 x22 x23 x24 x25 x26 x27 x28 x29 x30 x31 w' hE
          rintro rfl rfl R hR
          simp only [putAll, List.take, List.drop, List.map, Act.put, List.setIfInBounds_toArray, List.set_cons_zero, List.set_cons_succ]
          go_simp
          exact hR _ _ (Ext.refl _) (rfl) trivial
        case o5 =>
          intro x0 x1 x2 x3 x4 x5 x6 x7 x8 x9 x10 x11 x12 x13 x14 x15 x16 x17 x18 x19 x20 x21 x22 x23 x24 x25 x26 x27 x28 x29 x30 x31 w' hE
          rintro rfl rfl R hR
          simp only [putAll, List.take, List.drop, List.map, Act.put, List.setIfInBounds_toArray, List.set_cons_zero, List.set_cons_succ]
          go_simp
          exact hR _ _ (Ext.refl _) (rfl) trivial
        case o6 =>
          intro x0 x1 x2 x3 x4 x5 x6 x7 x8 x9 x10 x11 x12 x13 x14 x15 x16 x17 x18 x19 x20 x21 x22 x23 x24 x25 x26 x27 x28 x29 x30 x31 w' hE
          rintro rfl R hR
          have qgx0 := (gx.ext hE).c 0 rfl
          have qgx1 := (gx.ext hE).c 1 rfl
          simp only [putAll, List.take, List.drop, List.map, Act.put, List.setIfInBounds_toArray, List.set_cons_zero, List.set_cons_succ]
          go_simp
          exact hR _ _ (Ext.refl _) (rfl) trivial
        case o7 =>
          intro x0 x1 x2 x3 x4 x5 x6 x7 x8 x9 x10 x11 x12 x13 x14 x15 x16 x17 x18 x19 x20 x21 x22 x23 x24 x25 x26 x27 x28 x29 x30 x31 w' hE
          rintro rfl R hR
          have qgy0 := (gy.ext hE).c 0 rfl
          have qgy1 := (gy.ext hE).c 1 rfl
          simp only [putAll, List.take, List.drop, List.map, Act.put, List.setIfInBounds_toArray, List.set_cons_zero, List.set_cons_succ]
          go_simp
          exact hR _ _ (Ext.refl _) (rfl) trivial
        case o8 =>
          intro x0 x1 x2 x3 x4 x5 x6 x7 x8 x9 x10 x11 x12 x13 x14 x15 x16 x17 x18 x19 x20 x21 x22 x23 x24 x25 x26 x27 x28 x29 x30 x31 w' hE
          rintro rfl rfl rfl _ R hR
          simp only [putAll, List.take, List.drop, List.map, Act.put, List.setIfInBounds_toArray, List.set_cons_zero, List.set_cons_succ]
          go_simp
          refine (cov_c x y _ _ _ ⟨xb, xp, rfl, xr.ext hE⟩ ⟨yb, yp, rfl, yr.ext hE⟩).mono ?_
          rintro _ w'' ⟨v, rfl, hv, hb⟩
          exact hR _ _ hb hv trivial
        case o9 =>
          intro x0 x1 x2 x3 x4 x5 x6 x7 x8 x9 x10 x11 x12 x13 x14 x15 x16 x17 x18 x19 x20 x21 x22 x23 x24 x25 x26 x27 x28 x29 x30 x31 w' hE
          rintro rfl R hR
          have qgx0 := (gx.ext hE).c 0 rfl
          have qgx1 := (gx.ext hE).c 1 rfl
          simp only [putAll, List.take, List.drop, List.map, Act.put, List.setIfInBounds_toArray, List.set_cons_zero, List.set_cons_succ]
          go_simp
          exact hR _ _ (Ext.refl _) (rfl) trivial
        case o10 =>
          intro x0 x1 x2 x3 x4 x5 x6 x7 x8 x9 x10 x11 x12 x13 x14 x15 x16 x17 x18 x19 x20 x21 x22 x23 x24 x25 x26 x27 x28 x29 x30 x31 w' hE
          rintro rfl rfl rfl R hR
          simp only [putAll, List.take, List.drop, List.map, Act.put, List.setIfInBounds_toArray, List.set_cons_zero, List.set_cons_succ]
          go_simp
          refine (left_c ⟨xb, xp, rfl, xr.ext hE⟩).mono ?_
          rintro _ w'' ⟨v, rfl, hv, hb⟩
          exact hR _ _ hb hv trivial
        case o11 =>
          intro x0 x1 x2 x3 x4 x5 x6 x7 x8 x9 x10 x11 x12 x13 x14 x15 x16 x17 x18 x19 x20 x21 x22 x23 x24 x25 x26 x27 x28 x29 x30 x31 w' hE
          rintro rfl R hR
          have qgy0 := (gy.ext hE).c 0 rfl
          have qgy1 := (gy.ext hE).c 1 rfl
          simp only [putAll, List.take, List.drop, List.map, Act.put, List.setIfInBounds_toArray, List.set_cons_zero, List.set_cons_succ]
          go_simp
          exact hR _ _ (Ext.refl _) (rfl) trivial
        case o12 =>
          intro x0 x1 x2 x3 x4 x5 x6 x7 x8 x9 x10 x11 x12 x13 x14 x15 x16 x17 x18 x19 x20 x21 x22 x23 x24 x25 x26 x27 x28 x29 x30 x31 w' hE
          rintro rfl d10 rfl R hR
          simp only [putAll, List.take, List.drop, List.map, Act.put, List.setIfInBounds_toArray, List.set_cons_zero, List.set_cons_succ]
          go_simp
          refine (left_c ⟨yb, yp, rfl, yr.ext hE⟩).mono ?_
          rintro _ w'' ⟨v, rfl, hv, hb⟩
          exact hR _ _ hb hv trivial
        case o13 =>
          intro x0 x1 x2 x3 x4 x5 x6 x7 x8 x9 x10 x11 x12 x13 x14 x15 x16 x17 x18 x19 x20 x21 x22 x23 x24 x25 x26 x27 x28 x29 x30 x31 w' hE
          rintro d10 d12 _ rfl R hR
          simp only [putAll, List.take, List.drop, List.map, Act.put, List.setIfInBounds_toArray, List.set_cons_zero, List.set_cons_succ]
          go_simp
          refine (cov_e Hk.out d10 d12).mono ?_
          rintro _ w'' ⟨v, rfl, hv, hb⟩
          exact hR _ _ hb hv trivial
        case o14 =>
          intro x0 x1 x2 x3 x4 x5 x6 x7 x8 x9 x10 x11 x12 x13 x14 x15 x16 x17 x18 x19 x20 x21 x22 x23 x24 x25 x26 x27 x28 x29 x30 x31 w' hE
          rintro rfl _ rfl R hR
          simp only [putAll, List.take, List.drop, List.map, Act.put, List.setIfInBounds_toArray, List.set_cons_zero, List.set_cons_succ]
          go_simp
          exact hR _ _ (Ext.refl _) (rfl) trivial
        case o15 =>
          intro x0 x1 x2 x3 x4 x5 x6 x7 x8 x9 x10 x11 x12 x13 x14 x15 x16 x17 x18 x19 x20 x21 x22 x23 x24 x25 x26 x27 x28 x29 x30 x31 w' hE
          rintro rfl R hR
          have qgx0 := (gx.ext hE).c 0 rfl
          have qgx1 := (gx.ext hE).c 1 rfl
          simp only [putAll, List.take, List.drop, List.map, Act.put, List.setIfInBounds_toArray, List.set_cons_zero, List.set_cons_succ]
          go_simp
          exact hR _ _ (Ext.refl _) (rfl) trivial
        case o16 =>
          intro x0 x1 x2 x3 x4 x5 x6 x7 x8 x9 x10 x11 x12 x13 x14 x15 x16 x17 x18 x19 x20 x21 x22 x23 x24 x25 x26 x27 x28 x29 x30 x31 w' hE
          rintro rfl rfl _ R hR
          simp only [putAll, List.take, List.drop, List.map, Act.put, List.setIfInBounds_toArray, List.set_cons_zero, List.set_cons_succ]
          go_simp
          refine (right_c ⟨xb, xp, rfl, xr.ext hE⟩).mono ?_
          rintro _ w'' ⟨v, rfl, hv, hb⟩
          exact hR _ _ hb hv trivial
        case o17 =>
          intro x0 x1 x2 x3 x4 x5 x6 x7 x8 x9 x10 x11 x12 x13 x14 x15 x16 x17 x18 x19 x20 x21 x22 x23 x24 x25 x26 x27 x28 x29 x30 x31 w' hE
          rintro rfl R hR
          have qgy0 := (gy.ext hE).c 0 rfl
          have qgy1 := (gy.ext hE).c 1 rfl
          simp only [putAll, List.take, List.drop, List.map, Act.put, List.setIfInBounds_toArray, List.set_cons_zero, List.set_cons_succ]
          go_simp
          exact hR _ _ (Ext.refl _) (rfl) trivial
        case o18 =>
          intro x0 x1 x2 x3 x4 x5 x6 x7 x8 x9 x10 x11 x12 x13 x14 x15 x16 x17 x18 x19 x20 x21 x22 x23 x24 x25 x26 x27 x28 x29 x30 x31 w' hE
          rintro rfl d16 rfl R hR
          simp only [putAll, List.take, List.drop, List.map, Act.put, List.setIfInBounds_toArray, List.set_cons_zero, List.set_cons_succ]
          go_simp
          refine (right_c ⟨yb, yp, rfl, yr.ext hE⟩).mono ?_
          rintro _ w'' ⟨v, rfl, hv, hb⟩
          exact hR _ _ hb hv trivial
        case o19 =>
          intro x0 x1 x2 x3 x4 x5 x6 x7 x8 x9 x10 x11 x12 x13 x14 x15 x16 x17 x18 x19 x20 x21 x22 x23 x24 x25 x26 x27 x28 x29 x30 x31 w' hE
          rintro d16 d18 _ rfl R hR
          simp only [putAll, List.take, List.drop, List.map, Act.put, List.setIfInBounds_toArray, List.set_cons_zero, List.set_cons_succ]
          go_simp
          refine (cov_e HR2.out d16 d18).mono ?_
          rintro _ w'' ⟨v, rfl, hv, hb⟩
          exact hR _ _ hb hv trivial
        case o20 =>
          intro x0 x1 x2 x3 x4 x5 x6 x7 x8 x9 x10 x11 x12 x13 x14 x15 x16 x17 x18 x19 x20 x21 x22 x23 x24 x25 x26 x27 x28 x29 x30 x31 w' hE
          rintro rfl rfl rfl R hR
          simp only [putAll, List.take, List.drop, List.map, Act.put, List.setIfInBounds_toArray, List.set_cons_zero, List.set_cons_succ]
          go_simp
          exact hR _ _ (Ext.refl _) (rfl) trivial
        case o21 =>
          intro x0 x1 x2 x3 x4 x5 x6 x7 x8 x9 x10 x11 x12 x13 x14 x15 x16 x17 x18 x19 x20 x21 x22 x23 x24 x25 x26 x27 x28 x29 x30 x31 w' hE
          rintro rfl rfl rfl R hR
          simp only [putAll, List.take, List.drop, List.map, Act.put, List.setIfInBounds_toArray, List.set_cons_zero, List.set_cons_succ]
          go_simp
          exact hR _ _ (Ext.refl _) (rfl) trivial
        case o22 =>
          intro x0 x1 x2 x3 x4 x5 x6 x7 x8 x9 x10 x11 x12 x13 x14 x15 x16 x17 x18 x19 x20 x21 x22 x23 x24 x25 x26 x27 x28 x29 x30 x31 w' hE
          rintro rfl rfl R hR
          simp only [putAll, List.take, List.drop, List.map, Act.put, List.setIfInBounds_toArray, List.set_cons_zero, List.set_cons_succ]
          go_simp
          exact hR _ _ (Ext.refl _) (rfl) trivial
        case o23 =>
          intro x0 x1 x2 x3 x4 x5 x6 x7 x8 x9 x10 x11 x12 x13 x14 x15 x16 x17 x18 x19 x20 x21 x22 x23 x24 x25 x26 x27 x28 x29 x30 x31 w' hE
          rintro rfl rfl R hR
          simp only [putAll, List.take, List.drop, List.map, Act.put, List.setIfInBounds_toArray, List.set_cons_zero, List.set_cons_succ]
          go_simp
          exact hR _ _ (Ext.refl _) (rfl) trivial
        case o24 =>
          intro x0 x1 x2 x3 x4 x5 x6 x7 x8 x9 x10 x11 x12 x13 x14 x15 x16 x17 x18 x19 x20 x21 x22 x23 x24 x25 x26 x27 x28 x29 x30 x31 w' hE
          rintro rfl R hR
          have qgx0 := (gx.ext hE).c 0 rfl
          have qgx1 := (gx.ext hE).c 1 rfl
          simp only [putAll, List.take, List.drop, List.map, Act.put, List.setIfInBounds_toArray, List.set_cons_zero, List.set_cons_succ]
          go_simp
          exact hR _ _ (Ext.refl _) (rfl) trivial
        case o25 =>
          intro x0 x1 x2 x3 x4 x5 x6 x7 x8 x9 x10 x11 x12 x13 x14 x15 x16 x17 x18 x19 x20 x21 x22 x23 x24 x25 x26 x27 x28 x29 x30 x31 w' hE
          rintro rfl R hR
          have qgy0 := (gy.ext hE).c 0 rfl
          have qgy1 := (gy.ext hE).c 1 rfl
          simp only [putAll, List.take, List.drop, List.map, Act.put, List.setIfInBounds_toArray, List.set_cons_zero, List.set_cons_succ]
          go_simp
          exact hR _ _ (Ext.refl _) (rfl) trivial
        case o26 =>
          intro x0 x1 x2 x3 x4 x5 x6 x7 x8 x9 x10 x11 x12 x13 x14 x15 x16 x17 x18 x19 x20 x21 x22 x23 x24 x25 x26 x27 x28 x29 x30 x31 w' hE
          rintro rfl rfl rfl _ R hR
          simp only [putAll, List.take, List.drop, List.map, Act.put, List.setIfInBounds_toArray, List.set_cons_zero, List.set_cons_succ]
          go_simp
          refine (disj_e HDf.out ⟨xb, xp, rfl, xr.ext hE⟩ ⟨yb, yp, rfl, yr.ext hE⟩).mono ?_
          rintro _ w'' ⟨v, rfl, hv, hb⟩
          exact hR _ _ hb hv trivial
        case o27 =>
          intro x0 x1 x2 x3 x4 x5 x6 x7 x8 x9 x10 x11 x12 x13 x14 x15 x16 x17 x18 x19 x20 x21 x22 x23 x24 x25 x26 x27 x28 x29 x30 x31 w' hE
          rintro rfl R hR
          have qgy0 := (gy.ext hE).c 0 rfl
          have qgy1 := (gy.ext hE).c 1 rfl
          simp only [putAll, List.take, List.drop, List.map, Act.put, List.setIfInBounds_toArray, List.set_cons_zero, List.set_cons_succ]
          go_simp
          exact hR _ _ (Ext.refl _) (rfl) trivial
        case o28 =>
          intro x0 x1 x2 x3 x4 x5 x6 x7 x8 x9 x10 x11 x12 x13 x14 x15 x16 x17 x18 x19 x20 x21 x22 x23 x24 x25 x26 x27 x28 x29 x30 x31 w' hE
          rintro rfl R hR
          have qgx0 := (gx.ext hE).c 0 rfl
          have qgx1 := (gx.ext hE).c 1 rfl
          simp only [putAll, List.take, List.drop, List.map, Act.put, List.setIfInBounds_toArray, List.set_cons_zero, List.set_cons_succ]
          go_simp
          exact hR _ _ (Ext.refl _) (rfl) trivial
        case o29 =>
          intro x0 x1 x2 x3 x4 x5 x6 x7 x8 x9 x10 x11 x12 x13 x14 x15 x16 x17 x18 x19 x20 x21 x22 x23 x24 x25 x26 x27 x28 x29 x30 x31 w' hE
          rintro rfl rfl rfl rfl R hR
          simp only [putAll, List.take, List.drop, List.map, Act.put, List.setIfInBounds_toArray, List.set_cons_zero, List.set_cons_succ]
          go_simp
          refine (disj_e (HS.out.symm.trans HDf.out) ⟨yb, yp, rfl, yr.ext hE⟩ ⟨xb, xp, rfl, xr.ext hE⟩).mono ?_
          rintro _ w'' ⟨v, rfl, hv, hb⟩
          exact hR _ _ hb hv trivial
        case o30 =>
          intro x0 x1 x2 x3 x4 x5 x6 x7 x8 x9 x10 x11 x12 x13 x14 x15 x16 x17 x18 x19 x20 x21 x22 x23 x24 x25 x26 x27 x28 x29 x30 x31 w' hE
          rintro rfl rfl rfl R hR
          simp only [putAll, List.take, List.drop, List.map, Act.put, List.setIfInBounds_toArray, List.set_cons_zero, List.set_cons_succ]
          go_simp
          exact hR _ _ (Ext.refl _) (rfl) trivial
        case o31 =>
          intro x0 x1 x2 x3 x4 x5 x6 x7 x8 x9 x10 x11 x12 x13 x14 x15 x16 x17 x18 x19 x20 x21 x22 x23 x24 x25 x26 x27 x28 x29 x30 x31 w' hE
          rintro rfl rfl R hR
          simp only [putAll, List.take, List.drop, List.map, Act.put, List.setIfInBounds_toArray, List.set_cons_zero, List.set_cons_succ]
          go_simp
          exact hR _ _ (Ext.refl _) (rfl) trivial
        case rest =>
          intro x0 x1 x2 x3 x4 x5 x6 x7 x8 x9 x10 x11 x12 x13 x14 x15 x16 x17 x18 x19 x20 x21 x22 x23 x24 x25 x26 x27 x28 x29 x30 x31 w6 hb
          rintro rfl rfl rfl rfl rfl rfl rfl rfl rfl rfl _ rfl _ rfl rfl rfl _ rfl _ rfl rfl rfl rfl rfl rfl rfl rfl rfl rfl rfl rfl rfl hap
          replace hx := Ext.trans hx hb; replace gx := gx.ext hb; replace gy := gy.ext hb; replace xhx := (IsRef x).mono hb xhx; replace xr := (PRep x xb xp).mono hb xr; replace yhx := (IsRef y).mono hb yhx; replace yr := (PRep y yb yp).mono hb yr; have s15 := hb.size
          clear hap
          simp only [putAll, List.take, List.drop, List.map, Act.put, List.setIfInBounds_toArray, List.set_cons_zero, List.set_cons_succ]
          have gx_0 := gx.c 0 rfl; have gxf0 := gx.f 0; have gx_1 := gx.c 1 rfl; have gxf1 := gx.f 1; have gxl := gx.lt; have gy_0 := gy.c 0 rfl; have gyf0 := gy.f 0; have gy_1 := gy.c 1 rfl; have gyf1 := gy.f 1; have gyl := gy.lt
          go_wp2_with fail
          clear gx_0 gxf0 gx_1 gxf1 gxl gy_0 gyf0 gy_1 gyf1 gyl
          clear Hk
          have hD := HDf.out
          ·
            have hs := sum_f (PRep.is xr) (PRep.is yr) (by omega) (by omega) hD
            refine (hs).mono ?_
            rintro _ w7 ⟨cv, rfl, c, hb⟩
            replace hx := Ext.trans hx hb; replace gx := gx.ext hb; replace gy := gy.ext hb; replace xhx := (IsRef x).mono hb xhx; replace xr := (PRep x xb xp).mono hb xr; replace yhx := (IsRef y).mono hb yhx; replace yr := (PRep y yb yp).mono hb yr; have s16 := hb.size
            obtain ⟨cv, _, rfl, ch, rfl⟩ := c
            clear hs
            obtain ⟨cb, cp, rfl, cr⟩ := ch
            have gx_0 := gx.c 0 rfl; have gxf0 := gx.f 0; have gx_1 := gx.c 1 rfl; have gxf1 := gx.f 1; have gxl := gx.lt; have gy_0 := gy.c 0 rfl; have gyf0 := gy.f 0; have gy_1 := gy.c 1 rfl; have gyf1 := gy.f 1; have gyl := gy.lt
            go_wp2_with fail
            clear gx_0 gxf0 gx_1 gxf1 gxl gy_0 gyf0 gy_1 gyf1 gyl
            have gxlt17 := gx.lt
            have gylt17 := gy.lt
            obtain ⟨w8, hW, hb, z17, gc⟩ := box1 w7 [.bool cb, .pointer cp] 26
            rw [hW]; clear hW
            replace hx := Ext.trans hx hb; replace gx := gx.ext hb; replace gy := gy.ext hb; replace xhx := (IsRef x).mono hb xhx; replace xr := (PRep x xb xp).mono hb xr; replace yhx := (IsRef y).mono hb yhx; replace yr := (PRep y yb yp).mono hb yr; replace cr := (PRep .zero cb cp).mono hb cr; have s18 := hb.size
            go_ret
            exact ⟨_, rfl, rfl, hx⟩
  ·
    have hR : disjT x.right y.right = disjT x y := by rw [HD.out, hc]; rfl
    have HR := Lib.hid hR; clear hR
    have Hc := Lib.hid hc; clear hc
    have gxlt19 := gx.lt
    have gylt19 := gy.lt
    refine wp_facts 12 [] [PP.eq (.agg #[.bool xb, .pointer xp]), (IsId x.left).toPP, PP.eq (.agg #[.bool yb, .pointer yp]), (IsId y.left).toPP, PP.eq (.bool true), PP.eq (.bool true), PP.eq (.agg #[.bool xb, .pointer xp]), (IsId x.right).toPP, PP.eq (.agg #[.bool yb, .pointer yp]), (IsId y.right).toPP, PP.eq (.bool (disjT x y)), PP.eq (.bool (disjT x y))] (by kernel_rfl) (by kernel_rfl) ⟨?o0, ?o1, ?o2, ?o3, ?o4, ?o5, ?o6, ?o7, ?o8, ?o9, ?o10, ?o11, trivial⟩ ?rest
    case o0 =>
      intro x0 x1 x2 x3 x4 x5 x6 x7 x8 x9 x10 x11 w' hE
      rintro R hR
      have qgx0 := (gx.ext hE).c 0 rfl
      have qgx1 := (gx.ext hE).c 1 rfl
      simp only [putAll, List.take, List.drop, List.map, Act.put, List.setIfInBounds_toArray, List.set_cons_zero, List.set_cons_succ]
      go_simp
      exact hR _ _ (Ext.refl _) (rfl) trivial
    case o1 =>
      intro x0 x1 x2 x3 x4 x5 x6 x7 x8 x9 x10 x11 w' hE
      rintro rfl R hR
      simp only [putAll, List.take, List.drop, List.map, Act.put, List.setIfInBounds_toArray, List.set_cons_zero, List.set_cons_succ]
      go_simp
      refine (left_c ⟨xb, xp, rfl, xr.ext hE⟩).mono ?_
      rintro _ w'' ⟨v, rfl, hv, hb⟩
      exact hR _ _ hb hv trivial
    case o2 =>
      intro x0 x1 x2 x3 x4 x5 x6 x7 x8 x9 x10 x11 w' hE
      rintro R hR
      have qgy0 := (gy.ext hE).c 0 rfl
      have qgy1 := (gy.ext hE).c 1 rfl
      simp only [putAll, List.take, List.drop, List.map, Act.put, List.setIfInBounds_toArray, List.set_cons_zero, List.set_cons_succ]
      go_simp
      exact hR _ _ (Ext.refl _) (rfl) trivial
    case o3 =>
      intro x0 x1 x2 x3 x4 x5 x6 x7 x8 x9 x10 x11 w' hE
      rintro rfl d1 R hR
      simp only [putAll, List.take, List.drop, List.map, Act.put, List.setIfInBounds_toArray, List.set_cons_zero, List.set_cons_succ]
      go_simp
      refine (left_c ⟨yb, yp, rfl, yr.ext hE⟩).mono ?_
      rintro _ w'' ⟨v, rfl, hv, hb⟩
      exact hR _ _ hb hv trivial
    case o4 =>
      intro x0 x1 x2 x3 x4 x5 x6 x7 x8 x9 x10 x11 w' hE
      rintro d1 d3 _ R hR
      simp only [putAll, List.take, List.drop, List.map, Act.put, List.setIfInBounds_toArray, List.set_cons_zero, List.set_cons_succ]
      go_simp
      refine (disj_e Hc.out d1 d3).mono ?_
      rintro _ w'' ⟨v, rfl, hv, hb⟩
      exact hR _ _ hb hv trivial
    case o5 =>
      intro x0 x1 x2 x3 x4 x5 x6 x7 x8 x9 x10 x11 w' hE
      rintro rfl _ R hR
      simp only [putAll, List.take, List.drop, List.map, Act.put, List.setIfInBounds_toArray, List.set_cons_zero, List.set_cons_succ]
      go_simp
      exact hR _ _ (Ext.refl _) (rfl) trivial
    case o6 =>
      intro x0 x1 x2 x3 x4 x5 x6 x7 x8 x9 x10 x11 w' hE
      rintro rfl R hR
      have qgx0 := (gx.ext hE).c 0 rfl
      have qgx1 := (gx.ext hE).c 1 rfl
      simp only [putAll, List.take, List.drop, List.map, Act.put, List.setIfInBounds_toArray, List.set_cons_zero, List.set_cons_succ]
      go_simp
      exact hR _ _ (Ext.refl _) (rfl) trivial
    case o7 =>
      intro x0 x1 x2 x3 x4 x5 x6 x7 x8 x9 x10 x11 w' hE
      rintro rfl rfl _ R hR
      simp only [putAll, List.take, List.drop, List.map, Act.put, List.setIfInBounds_toArray, List.set_cons_zero, List.set_cons_succ]
      go_simp
      refine (right_c ⟨xb, xp, rfl, xr.ext hE⟩).mono ?_
      rintro _ w'' ⟨v, rfl, hv, hb⟩
      exact hR _ _ hb hv trivial
    case o8 =>
      intro x0 x1 x2 x3 x4 x5 x6 x7 x8 x9 x10 x11 w' hE
      rintro rfl R hR
      have qgy0 := (gy.ext hE).c 0 rfl
      have qgy1 := (gy.ext hE).c 1 rfl
      simp only [putAll, List.take, List.drop, List.map, Act.put, List.setIfInBounds_toArray, List.set_cons_zero, List.set_cons_succ]
      go_simp
      exact hR _ _ (Ext.refl _) (rfl) trivial
    case o9 =>
      intro x0 x1 x2 x3 x4 x5 x6 x7 x8 x9 x10 x11 w' hE
      rintro rfl d7 rfl R hR
      simp only [putAll, List.take, List.drop, List.map, Act.put, List.setIfInBounds_toArray, List.set_cons_zero, List.set_cons_succ]
      go_simp
      refine (right_c ⟨yb, yp, rfl, yr.ext hE⟩).mono ?_
      rintro _ w'' ⟨v, rfl, hv, hb⟩
      exact hR _ _ hb hv trivial
    case o10 =>
      intro x0 x1 x2 x3 x4 x5 x6 x7 x8 x9 x10 x11 w' hE
      rintro d7 d9 _ rfl R hR
      simp only [putAll, List.take, List.drop, List.map, Act.put, List.setIfInBounds_toArray, List.set_cons_zero, List.set_cons_succ]
      go_simp
      refine (disj_e HR.out d7 d9).mono ?_
      rintro _ w'' ⟨v, rfl, hv, hb⟩
      exact hR _ _ hb hv trivial
    case o11 =>
      intro x0 x1 x2 x3 x4 x5 x6 x7 x8 x9 x10 x11 w' hE
      rintro rfl rfl R hR
      simp only [putAll, List.take, List.drop, List.map, Act.put, List.setIfInBounds_toArray, List.set_cons_zero, List.set_cons_succ]
      go_simp
      exact hR _ _ (Ext.refl _) (rfl) trivial
    case rest =>
      intro x0 x1 x2 x3 x4 x5 x6 x7 x8 x9 x10 x11 w5 hb
      rintro rfl _ rfl _ rfl rfl rfl _ rfl _ rfl rfl hap
      replace hx := Ext.trans hx hb; replace gx := gx.ext hb; replace gy := gy.ext hb; replace xhx := (IsRef x).mono hb xhx; replace xr := (PRep x xb xp).mono hb xr; replace yhx := (IsRef y).mono hb yhx; replace yr := (PRep y yb yp).mono hb yr; have s20 := hb.size
      clear hap
      simp only [putAll, List.take, List.drop, List.map, Act.put, List.setIfInBounds_toArray, List.set_cons_zero, List.set_cons_succ]
      have gx_0 := gx.c 0 rfl; have gxf0 := gx.f 0; have gx_1 := gx.c 1 rfl; have gxf1 := gx.f 1; have gxl := gx.lt; have gy_0 := gy.c 0 rfl; have gyf0 := gy.f 0; have gy_1 := gy.c 1 rfl; have gyf1 := gy.f 1; have gyl := gy.lt
      go_wp2_with fail
      clear gx_0 gxf0 gx_1 gxf1 gxl gy_0 gyf0 gy_1 gyf1 gyl
      cases hk : coverT x.left y.left
      ·
        have hKf : coverT x y = false := by rw [HC.out, hk]; rfl
        have HKf := Lib.hid hKf; clear hKf
        have Hk := Lib.hid hk; clear hk
        have gxlt21 := gx.lt
        have gylt21 := gy.lt
        refine wp_facts 32 [] [PP.eq (.agg #[.bool xb, .pointer xp]), PP.eq (.agg #[.bool yb, .pointer yp]), PP.eq (.bool (disjT x y)), PP.eq (.bool (disjT x y)), PP.eq (.bool false), PP.eq (.bool false), PP.eq (.agg #[.bool xb, .pointer xp]), PP.eq (.agg #[.bool yb, .pointer yp]), PP.eq (.bool false), PP.eq (.agg #[.bool xb, .pointer xp]), (IsId x.left).toPP, PP.eq (.agg #[.bool yb, .pointer yp]), (IsId y.left).toPP, PP.eq (.bool false), PP.eq (.bool false), PP.eq (undef), PP.eq (undef), PP.eq (undef), PP.eq (undef), PP.eq (undef), PP.eq (.bool false), PP.eq (.bool false), PP.eq (.bool false), PP.eq (.bool false), PP.eq (.agg #[.bool xb, .pointer xp]), PP.eq (.agg #[.bool yb, .pointer yp]), PP.eq (.bool (disjT x y)), PP.eq (.agg #[.bool yb, .pointer yp]), PP.eq (.agg #[.bool xb, .pointer xp]), PP.eq (.bool (disjT x y)), PP.eq (.bool false), PP.eq (.bool false)] (by kernel_rfl) (by kernel_rfl) ⟨?o0, ?o1, ?o2, ?o3, ?o4, ?o5, ?o6, ?o7, ?o8, ?o9, ?o10, ?o11, ?o12, ?o13, ?o14, ?o15, ?o16, ?o17, ?o18, ?o19, ?o20, ?o21, ?o22, ?o23, ?o24, ?o25, ?o26, ?o27, ?o28, ?o29, ?o30, ?o31, trivial⟩ ?rest
        case o0 =>
          intro x0 x1 x2 x3 x4 x5 x6 x7 x8 x9 x10 x11 x12 x13 x14 x15 x16 x17 x18 x19 x20 x21 x22 x23 x24 x25 x26 x27 x28 x29 x30 x31 w' hE
          rintro R hR
          have qgx0 := (gx.ext hE).c 0 rfl
          have qgx1 := (gx.ext hE).c 1 rfl
          simp only [putAll, List.take, List.drop, List.map, Act.put, List.setIfInBounds_toArray, List.set_cons_zero, List.set_cons_succ]
          go_simp
          exact hR _ _ (Ext.refl _) (rfl) trivial
        case o1 =>
          intro x0 x1 x2 x3 x4 x5 x6 x7 x8 x9 x10 x11 x12 x13 x14 x15 x16 x17 x18 x19 x20 x21 x22 x23 x24 x25 x26 x27 x28 x29 x30 x31 w' hE
          rintro R hR
          have qgy0 := (gy.ext hE).c 0 rfl
          have qgy1 := (gy.ext hE).c 1 rfl
          simp only [putAll, List.take, List.drop, List.map, Act.put, List.setIfInBounds_toArray, List.set_cons_zero, List.set_cons_succ]
          go_simp
          exact hR _ _ (Ext.refl _) (rfl) trivial
        case o2 =>
          intro x0 x1 x2 x3 x4 x5 x6 x7 x8 x9 x10 x11 x12 x13 x14 x15 x16 x17 x18 x19 x20 x21 x22 x23 x24 x25 x26 x27 x28 x29 x30 x31 w' hE
          rintro rfl rfl R hR
          simp only [putAll, List.take, List.drop, List.map, Act.put, List.setIfInBounds_toArray, List.set_cons_zero, List.set_cons_succ]
          go_simp
          refine (disj_c x y _ _ _ ⟨xb, xp, rfl, xr.ext hE⟩ ⟨yb, yp, rfl, yr.ext hE⟩).mono ?_
          rintro _ w'' ⟨v, rfl, hv, hb⟩
          exact hR _ _ hb hv trivial
        case o3 =>
          intro x0 x1 x2 x3 x4 x5 x6 x7 x8 x9 x10 x11 x12 x13 x14 x15 x16 x17 x18 x19 x20 x21 x22 x23 x24 x25 x26 x27 x28 x29 x30 x31 w' hE
          rintro R hR
          simp only [putAll, List.take, List.drop, List.map, Act.put, List.setIfInBounds_toArray, List.set_cons_zero, List.set_cons_succ]
          go_simp
          exact hR _ _ (Ext.refl _) (rfl) trivial
        case o4 =>
          intro x0 x1 x2 x3 x4 x5 x6 x7 x8 x9 x10 x11 x12 x13 x14 x15 x16 x17 x18 x19 x20 x21 x22 x23 x24 x25 x26 x27 x28 x29 x30 x31 w' hE
          rintro rfl rfl R hR
          simp only [putAll, List.take, List.drop, List.map, Act.put, List.setIfInBounds_toArray, List.set_cons_zero, List.set_cons_succ]
          go_simp
          exact hR _ _ (Ext.refl _) (rfl) trivial
        case o5 =>
          intro x0 x1 x2 x3 x4 x5 x6 x7 x8 x9 x10 x11 x12 x13 x14 x15 x16 x17 x18 x19 x20 x21 x22 x23 x24 x25 x26 x27 x28 x29 x30 x31 w' hE
          rintro rfl rfl R hR
          simp only [putAll, List.take, List.drop, List.map, Act.put, List.setIfInBounds_toArray, List.set_cons_zero, List.set_cons_succ]
          go_simp
          exact hR _ _ (Ext.refl _) (rfl) trivial
        case o6 =>
          intro x0 x1 x2 x3 x4 x5 x6 x7 x8 x9 x10 x11 x12 x13 x14 x15 x16 x17 x18 x19 x20 x21 x22 x23 x24 x25 x26 x27 x28 x29 x30 x31 w' hE
          rintro rfl R hR
          have qgx0 := (gx.ext hE).c 0 rfl
          have qgx1 := (gx.ext hE).c 1 rfl
          simp only [putAll, List.take, List.drop, List.map, Act.put, List.setIfInBounds_toArray, List.set_cons_zero, List.set_cons_succ]
          go_simp
          exact hR _ _ (Ext.refl _) (rfl) trivial
        case o7 =>
          intro x0 x1 x2 x3 x4 x5 x6 x7 x8 x9 x10 x11 x12 x13 x14 x15 x16 x17 x18 x19 x20 x21 x22 x23 x24 x25 x26 x27 x28 x29 x30 x31 w' hE
          rintro rfl R hR
          have qgy0 := (gy.ext hE).c 0 rfl
          have qgy1 := (gy.ext hE).c 1 rfl
          simp only [putAll, List.take, List.drop, List.map, Act.put, List.setIfInBounds_toArray, List.set_cons_zero, List.set_cons_succ]
          go_simp
          exact hR _ _ (Ext.refl _) (rfl) trivial
        case o8 =>
          intro x0 x1 x2 x3 x4 x5 x6 x7 x8 x9 x10 x11 x12 x13 x14 x15 x16 x17 x18 x19 x20 x21 x22 x23 x24 x25 x26 x27 x28 x29 x30 x31 w' hE
          rintro rfl rfl rfl _ R hR
          simp only [putAll, List.take, List.drop, List.map, Act.put, List.setIfInBounds_toArray, List.set_cons_zero, List.set_cons_succ]
          go_simp
          refine (cov_e HKf.out ⟨xb, xp, rfl, xr.ext hE⟩ ⟨yb, yp, rfl, yr.ext hE⟩).mono ?_
          rintro _ w'' ⟨v, rfl, hv, hb⟩
          exact hR _ _ hb hv trivial
        case o9 =>
          intro x0 x1 x2 x3 x4 x5 x6 x7 x8 x9 x10 x11 x12 x13 x14 x15 x16 x17 x18 x19 x20 x21 x22 x23 x24 x25 x26 x27 x28 x29 x30 x31 w' hE
          rintro rfl R hR
          have qgx0 := (gx.ext hE).c 0 rfl
          have qgx1 := (gx.ext hE).c 1 rfl
          simp only [putAll, List.take, List.drop, List.map, Act.put, List.setIfInBounds_toArray, List.set_cons_zero, List.set_cons_succ]
          go_simp
          exact hR _ _ (Ext.refl _) (rfl) trivial
        case o10 =>
          intro x0 x1 x2 x3 x4 x5 x6 x7 x8 x9 x10 x11 x12 x13 x14 x15 x16 x17 x18 x19 x20 x21 x22 x23 x24 x25 x26 x27 x28 x29 x30 x31 w' hE
          rintro rfl rfl rfl R hR
          simp only [putAll, List.take, List.drop, List.map, Act.put, List.setIfInBounds_toArray, List.set_cons_zero, List.set_cons_succ]
          go_simp
          refine (left_c ⟨xb, xp, rfl, xr.ext hE⟩).mono ?_
          rintro _ w'' ⟨v, rfl, hv, hb⟩
          exact hR _ _ hb hv trivial
        case o11 =>
          intro x0 x1 x2 x3 x4 x5 x6 x7 x8 x9 x10 x11 x12 x13 x14 x15 x16 x17 x18 x19 x20 x21 x22 x23 x24 x25 x26 x27 x28 x29 x30 x31 w' hE
          rintro rfl R hR
          have qgy0 := (gy.ext hE).c 0 rfl
          have qgy1 := (gy.ext hE).c 1 rfl
          simp only [putAll, List.take, List.drop, List.map, Act.put, List.setIfInBounds_toArray, List.set_cons_zero, List.set_cons_succ]
          go_simp
          exact hR _ _ (Ext.refl _) (rfl) trivial
        case o12 =>
          intro x0 x1 x2 x3 x4 x5 x6 x7 x8 x9 x10 x11 x12 x13 x14 x15 x16 x17 x18 x19 x20 x21 x22 x23 x24 x25 x26 x27 x28 x29 x30 x31 w' hE
          rintro rfl d10 rfl R hR
          simp only [putAll, List.take, List.drop, List.map, Act.put, List.setIfInBounds_toArray, List.set_cons_zero, List.set_cons_succ]
          go_simp
          refine (left_c ⟨yb, yp, rfl, yr.ext hE⟩).mono ?_
          rintro _ w'' ⟨v, rfl, hv, hb⟩
          exact hR _ _ hb hv trivial
        case o13 =>
          intro x0 x1 x2 x3 x4 x5 x6 x7 x8 x9 x10 x11 x12 x13 x14 x15 x16 x17 x18 x19 x20 x21 x22 x23 x24 x25 x26 x27 x28 x29 x30 x31 w' hE
          rintro d10 d12 _ rfl R hR
          simp only [putAll, List.take, List.drop, List.map, Act.put, List.setIfInBounds_toArray, List.set_cons_zero, List.set_cons_succ]
          go_simp
          refine (cov_e Hk.out d10 d12).mono ?_
          rintro _ w'' ⟨v, rfl, hv, hb⟩
          exact hR _ _ hb hv trivial
        case o14 =>
          intro x0 x1 x2 x3 x4 x5 x6 x7 x8 x9 x10 x11 x12 x13 x14 x15 x16 x17 x18 x19 x20 x21 x22 x23 x24 x25 x26 x27 x28 x29 x30 x31 w' hE
          rintro rfl _ rfl R hR
          simp only [putAll, List.take, List.drop, List.map, Act.put, List.setIfInBounds_toArray, List.set_cons_zero, List.set_cons_succ]
          go_simp
          exact hR _ _ (Ext.refl _) (rfl) trivial
        case o15 =>
          intro x0 x1 x2 x3 x4 x5 x6 x7 x8 x9 x10 x11 x12 x13 x14 x15 x16 x17 x18 x19 x20 x21 x22 x23 x24 x25 x26 x27 x28 x29 x30 x31 w' hE
          rintro rfl R hR
          simp only [putAll, List.take, List.drop, List.map, Act.put, List.setIfInBounds_toArray, List.set_cons_zero, List.set_cons_succ]
          go_simp
          exact hR _ _ (Ext.refl _) (rfl) trivial
        case o16 =>
          intro x0 x1 x2 x3 x4 x5 x6 x7 x8 x9 x10 x11 x12 x13 x14 x15 x16 x17 x18 x19 x20 x21 x22 x23 x24 x25 x26 x27 x28 x29 x30 x31 w' hE
          rintro rfl rfl _ R hR
          simp only [putAll, List.take, List.drop, List.map, Act.put, List.setIfInBounds_toArray, List.set_cons_zero, List.set_cons_succ]
          go_simp
          exact hR _ _ (Ext.refl _) (rfl) trivial
        case o17 =>
          intro x0 x1 x2 x3 x4 x5 x6 x7 x8 x9 x10 x11 x12 x13 x14 x15 x16 x17 x18 x19 x20 x21 x22 x23 x24 x25 x26 x27 x28 x29 x30 x31 w' hE
          rintro rfl R hR
          simp only [putAll, List.take, List.drop, List.map, Act.put, List.setIfInBounds_toArray, List.set_cons_zero, List.set_cons_succ]
          go_simp
          exact hR _ _ (Ext.refl _) (rfl) trivial
        case o18 =>
          intro x0 x1 x2 x3 x4 x5 x6 x7 x8 x9 x10 x11 x12 x13 x14 x15 x16 x17 x18 x19 x20 x21 x22 x23 x24 x25 x26 x27 x28 x29 x30 x31 w' hE
          rintro rfl rfl rfl R hR
          simp only [putAll, List.take, List.drop, List.map, Act.put, List.setIfInBounds_toArray, List.set_cons_zero, List.set_cons_succ]
          go_simp
          exact hR _ _ (Ext.refl _) (rfl) trivial
        case o19 =>
          intro x0 x1 x2 x3 x4 x5 x6 x7 x8 x9 x10 x11 x12 x13 x14 x15 x16 x17 x18 x19 x20 x21 x22 x23 x24 x25 x26 x27 x28 x29 x30 x31 w' hE
          rintro rfl rfl _ rfl R hR
          simp only [putAll, List.take, List.drop, List.map, Act.put, List.setIfInBounds_toArray, List.set_cons_zero, List.set_cons_succ]
          go_simp
          exact hR _ _ (Ext.refl _) (rfl) trivial
        case o20 =>
          intro x0 x1 x2 x3 x4 x5 x6 x7 x8 x9 x10 x11 x12 x13 x14 x15 x16 x17 x18 x19 x20 x21 x22 x23 x24 x25 x26 x27 x28 x29 x30 x31 w' hE
          rintro rfl rfl rfl R hR
          simp only [putAll, List.take, List.drop, List.map, Act.put, List.setIfInBounds_toArray, List.set_cons_zero, List.set_cons_succ]
          go_simp
          exact hR _ _ (Ext.refl _) (rfl) trivial
        case o21 =>
          intro x0 x1 x2 x3 x4 x5 x6 x7 x8 x9 x10 x11 x12 x13 x14 x15 x16 x17 x18 x19 x20 x21 x22 x23 x24 x25 x26 x27 x28 x29 x30 x31 w' hE
          rintro rfl rfl rfl R hR
          simp only [putAll, List.take, List.drop, List.map, Act.put, List.setIfInBounds_toArray, List.set_cons_zero, List.set_cons_succ]
          go_simp
          exact hR _ _ (Ext.refl _) (rfl) trivial
        case o22 =>
          intro x0 x1 x2 x3 x4 x5 x6 x7 x8 x9 x10 x11 x12 x13 x14 x15 x16 x17 x18 x19 x20 x21 x22 x23 x24 x25 x26 x27 x28 x29 x30 x31 w' hE
          rintro rfl rfl R hR
          simp only [putAll, List.take, List.drop, List.map, Act.put, List.setIfInBounds_toArray, List.set_cons_zero, List.set_cons_succ]
          go_simp
          exact hR _ _ (Ext.refl _) (rfl) trivial
        case o23 =>
          intro x0 x1 x2 x3 x4 x5 x6 x7 x8 x9 x10 x11 x12 x13 x14 x15 x16 x17 x18 x19 x20 x21 x22 x23 x24 x25 x26 x27 x28 x29 x30 x31 w' hE
          rintro rfl rfl R hR
          simp only [putAll, List.take, List.drop, List.map, Act.put, List.setIfInBounds_toArray, List.set_cons_zero, List.set_cons_succ]
          go_simp
          exact hR _ _ (Ext.refl _) (rfl) trivial
        case o24 =>
          intro x0 x1 x2 x3 x4 x5 x6 x7 x8 x9 x10 x11 x12 x13 x14 x15 x16 x17 x18 x19 x20 x21 x22 x23 x24 x25 x26 x27 x28 x29 x30 x31 w' hE
          rintro rfl R hR
          have qgx0 := (gx.ext hE).c 0 rfl
          have qgx1 := (gx.ext hE).c 1 rfl
          simp only [putAll, List.take, List.drop, List.map, Act.put, List.setIfInBounds_toArray, List.set_cons_zero, List.set_cons_succ]
          go_simp
          exact hR _ _ (Ext.refl _) (rfl) trivial
        case o25 =>
          intro x0 x1 x2 x3 x4 x5 x6 x7 x8 x9 x10 x11 x12 x13 x14 x15 x16 x17 x18 x19 x20 x21 x22 x23 x24 x25 x26 x27 x28 x29 x30 x31 w' hE
          rintro rfl R hR
          have qgy0 := (gy.ext hE).c 0 rfl
          have qgy1 := (gy.ext hE).c 1 rfl
          simp only [putAll, List.take, List.drop, List.map, Act.put, List.setIfInBounds_toArray, List.set_cons_zero, List.set_cons_succ]
          go_simp
          exact hR _ _ (Ext.refl _) (rfl) trivial
        case o26 =>
          intro x0 x1 x2 x3 x4 x5 x6 x7 x8 x9 x10 x11 x12 x13 x14 x15 x16 x17 x18 x19 x20 x21 x22 x23 x24 x25 x26 x27 x28 x29 x30 x31 w' hE
          rintro rfl rfl rfl _ R hR
          simp only [putAll, List.take, List.drop, List.map, Act.put, List.setIfInBounds_toArray, List.set_cons_zero, List.set_cons_succ]
          go_simp
          refine (disj_c x y _ _ _ ⟨xb, xp, rfl, xr.ext hE⟩ ⟨yb, yp, rfl, yr.ext hE⟩).mono ?_
          rintro _ w'' ⟨v, rfl, hv, hb⟩
          exact hR _ _ hb hv trivial
        case o27 =>
          intro x0 x1 x2 x3 x4 x5 x6 x7 x8 x9 x10 x11 x12 x13 x14 x15 x16 x17 x18 x19 x20 x21 x22 x23 x24 x25 x26 x27 x28 x29 x30 x31 w' hE
          rintro rfl R hR
          have qgy0 := (gy.ext hE).c 0 rfl
          have qgy1 := (gy.ext hE).c 1 rfl
          simp only [putAll, List.take, List.drop, List.map, Act.put, List.setIfInBounds_toArray, List.set_cons_zero, List.set_cons_succ]
          go_simp
          exact hR _ _ (Ext.refl _) (rfl) trivial
        case o28 =>
          intro x0 x1 x2 x3 x4 x5 x6 x7 x8 x9 x10 x11 x12 x13 x14 x15 x16 x17 x18 x19 x20 x21 x22 x23 x24 x25 x26 x27 x28 x29 x30 x31 w' hE
          rintro rfl R hR
          have qgx0 := (gx.ext hE).c 0 rfl
          have qgx1 := (gx.ext hE).c 1 rfl
          simp only [putAll, List.take, List.drop, List.map, Act.put, List.setIfInBounds_toArray, List.set_cons_zero, List.set_cons_succ]
          go_simp
          exact hR _ _ (Ext.refl _) (rfl) trivial
        case o29 =>
          intro x0 x1 x2 x3 x4 x5 x6 x7 x8 x9 x10 x11 x12 x13 x14 x15 x16 x17 x18 x19 x20 x21 x22 x23 x24 x25 x26 x27 x28 x29 x30 x31 w' hE
          rintro rfl rfl rfl rfl R hR
          simp only [putAll, List.take, List.drop, List.map, Act.put, List.setIfInBounds_toArray, List.set_cons_zero, List.set_cons_succ]
          go_simp
          refine (disj_e HS.out.symm ⟨yb, yp, rfl, yr.ext hE⟩ ⟨xb, xp, rfl, xr.ext hE⟩).mono ?_
          rintro _ w'' ⟨v, rfl, hv, hb⟩
          exact hR _ _ hb hv trivial
        case o30 =>
          intro x0 x1 x2 x3 x4 x5 x6 x7 x8 x9 x10 x11 x12 x13 x14 x15 x16 x17 x18 x19 x20 x21 x22 x23 x24 x25 x26 x27 x28 x29 x30 x31 w' hE
          rintro rfl rfl rfl R hR
          simp only [putAll, List.take, List.drop, List.map, Act.put, List.setIfInBounds_toArray, List.set_cons_zero, List.set_cons_succ]
          go_simp
          exact hR _ _ (Ext.refl _) (rfl) trivial
        case o31 =>
          intro x0 x1 x2 x3 x4 x5 x6 x7 x8 x9 x10 x11 x12 x13 x14 x15 x16 x17 x18 x19 x20 x21 x22 x23 x24 x25 x26 x27 x28 x29 x30 x31 w' hE
          rintro rfl rfl R hR
          simp only [putAll, List.take, List.drop, List.map, Act.put, List.setIfInBounds_toArray, List.set_cons_zero, List.set_cons_succ]
          go_simp
          exact hR _ _ (Ext.refl _) (rfl) trivial
        case rest =>
          intro x0 x1 x2 x3 x4 x5 x6 x7 x8 x9 x10 x11 x12 x13 x14 x15 x16 x17 x18 x19 x20 x21 x22 x23 x24 x25 x26 x27 x28 x29 x30 x31 w6 hb
          rintro rfl rfl rfl rfl rfl rfl rfl rfl rfl rfl _ rfl _ rfl rfl rfl rfl rfl rfl rfl rfl rfl rfl rfl rfl rfl rfl rfl rfl rfl rfl rfl hap
          replace hx := Ext.trans hx hb; replace gx := gx.ext hb; replace gy := gy.ext hb; replace xhx := (IsRef x).mono hb xhx; replace xr := (PRep x xb xp).mono hb xr; replace yhx := (IsRef y).mono hb yhx; replace yr := (PRep y yb yp).mono hb yr; have s22 := hb.size
          clear hap
          simp only [putAll, List.take, List.drop, List.map, Act.put, List.setIfInBounds_toArray, List.set_cons_zero, List.set_cons_succ]
          have gx_0 := gx.c 0 rfl; have gxf0 := gx.f 0; have gx_1 := gx.c 1 rfl; have gxf1 := gx.f 1; have gxl := gx.lt; have gy_0 := gy.c 0 rfl; have gyf0 := gy.f 0; have gy_1 := gy.c 1 rfl; have gyf1 := gy.f 1; have gyl := gy.lt
          go_wp2_with fail
          clear gx_0 gxf0 gx_1 gxf1 gxl gy_0 gyf0 gy_1 gyf1 gyl
          clear Hk
          cases hD : disjT x y
          ·
            have hs := sum_f (PRep.is xr) (PRep.is yr) (by omega) (by omega) hD
            refine (hs).mono ?_
            rintro _ w7 ⟨cv, rfl, c, hb⟩
            replace hx := Ext.trans hx hb; replace gx := gx.ext hb; replace gy := gy.ext hb; replace xhx := (IsRef x).mono hb xhx; replace xr := (PRep x xb xp).mono hb xr; replace yhx := (IsRef y).mono hb yhx; replace yr := (PRep y yb yp).mono hb yr; have s23 := hb.size
            obtain ⟨cv, _, rfl, ch, rfl⟩ := c
            clear hs
            obtain ⟨cb, cp, rfl, cr⟩ := ch
            have gx_0 := gx.c 0 rfl; have gxf0 := gx.f 0; have gx_1 := gx.c 1 rfl; have gxf1 := gx.f 1; have gxl := gx.lt; have gy_0 := gy.c 0 rfl; have gyf0 := gy.f 0; have gy_1 := gy.c 1 rfl; have gyf1 := gy.f 1; have gyl := gy.lt
            go_wp2_with fail
            clear gx_0 gxf0 gx_1 gxf1 gxl gy_0 gyf0 gy_1 gyf1 gyl
            have gxlt24 := gx.lt
            have gylt24 := gy.lt
            obtain ⟨w8, hW, hb, z24, gc⟩ := box1 w7 [.bool cb, .pointer cp] 26
            rw [hW]; clear hW
            replace hx := Ext.trans hx hb; replace gx := gx.ext hb; replace gy := gy.ext hb; replace xhx := (IsRef x).mono hb xhx; replace xr := (PRep x xb xp).mono hb xr; replace yhx := (IsRef y).mono hb yhx; replace yr := (PRep y yb yp).mono hb yr; replace cr := (PRep .zero cb cp).mono hb cr; have s25 := hb.size
            go_ret
            exact ⟨_, rfl, rfl, hx⟩
          ·
            have hs := sum_t (PRep.is xr) (PRep.is yr) (by omega) (by omega) hD
            refine (hs).mono ?_
            rintro _ w7 ⟨cv, rfl, c, hb⟩
            replace hx := Ext.trans hx hb; replace gx := gx.ext hb; replace gy := gy.ext hb; replace xhx := (IsRef x).mono hb xhx; replace xr := (PRep x xb xp).mono hb xr; replace yhx := (IsRef y).mono hb yhx; replace yr := (PRep y yb yp).mono hb yr; have s26 := hb.size
            obtain ⟨cv, _, rfl, ch, rfl⟩ := c
            clear hs
            obtain ⟨cb, cp, rfl, cr⟩ := ch
            have gx_0 := gx.c 0 rfl; have gxf0 := gx.f 0; have gx_1 := gx.c 1 rfl; have gxf1 := gx.f 1; have gxl := gx.lt; have gy_0 := gy.c 0 rfl; have gyf0 := gy.f 0; have gy_1 := gy.c 1 rfl; have gyf1 := gy.f 1; have gyl := gy.lt
            go_wp2_with fail
            clear gx_0 gxf0 gx_1 gxf1 gxl gy_0 gyf0 gy_1 gyf1 gyl
            have gxlt27 := gx.lt
            have gylt27 := gy.lt
            obtain ⟨w8, hW, hb, z27, gc⟩ := box1 w7 [.bool cb, .pointer cp] 26
            rw [hW]; clear hW
            replace hx := Ext.trans hx hb; replace gx := gx.ext hb; replace gy := gy.ext hb; replace xhx := (IsRef x).mono hb xhx; replace xr := (PRep x xb xp).mono hb xr; replace yhx := (IsRef y).mono hb yhx; replace yr := (PRep y yb yp).mono hb yr; replace cr := (PRep (unionT x y) cb cp).mono hb cr; have s28 := hb.size
            obtain ⟨u1, u2⟩ := union_covers xw yw
            have U1 := Lib.hid u1; have U2 := Lib.hid u2; clear u1 u2
            refine (cov_e U1.out (PRep.is cr) (PRep.is xr)).mono ?_
            rintro _ w9 ⟨_, rfl, rfl, hb⟩
            replace hx := Ext.trans hx hb; replace gx := gx.ext hb; replace gy := gy.ext hb; replace gc := gc.ext hb; replace xhx := (IsRef x).mono hb xhx; replace xr := (PRep x xb xp).mono hb xr; replace yhx := (IsRef y).mono hb yhx; replace yr := (PRep y yb yp).mono hb yr; replace cr := (PRep (unionT x y) cb cp).mono hb cr; have s29 := hb.size
            have gx_0 := gx.c 0 rfl; have gxf0 := gx.f 0; have gx_1 := gx.c 1 rfl; have gxf1 := gx.f 1; have gxl := gx.lt; have gy_0 := gy.c 0 rfl; have gyf0 := gy.f 0; have gy_1 := gy.c 1 rfl; have gyf1 := gy.f 1; have gyl := gy.lt; have gc_0 := gc.c 0 rfl; have gcf0 := gc.f 0; have gc_1 := gc.c 1 rfl; have gcf1 := gc.f 1; have gcl := gc.lt
            go_wp2_with fail
            clear gx_0 gxf0 gx_1 gxf1 gxl gy_0 gyf0 gy_1 gyf1 gyl gc_0 gcf0 gc_1 gcf1 gcl
            refine (cov_e U2.out (PRep.is cr) (PRep.is yr)).mono ?_
            rintro _ w10 ⟨_, rfl, rfl, hb⟩
            replace hx := Ext.trans hx hb; replace gx := gx.ext hb; replace gy := gy.ext hb; replace gc := gc.ext hb; replace xhx := (IsRef x).mono hb xhx; replace xr := (PRep x xb xp).mono hb xr; replace yhx := (IsRef y).mono hb yhx; replace yr := (PRep y yb yp).mono hb yr; replace cr := (PRep (unionT x y) cb cp).mono hb cr; have s30 := hb.size
            have gx_0 := gx.c 0 rfl; have gxf0 := gx.f 0; have gx_1 := gx.c 1 rfl; have gxf1 := gx.f 1; have gxl := gx.lt; have gy_0 := gy.c 0 rfl; have gyf0 := gy.f 0; have gy_1 := gy.c 1 rfl; have gyf1 := gy.f 1; have gyl := gy.lt; have gc_0 := gc.c 0 rfl; have gcf0 := gc.f 0; have gc_1 := gc.c 1 rfl; have gcf1 := gc.f 1; have gcl := gc.lt
            go_wp2_with fail
            clear gx_0 gxf0 gx_1 gxf1 gxl gy_0 gyf0 gy_1 gyf1 gyl gc_0 gcf0 gc_1 gcf1 gcl
            refine (cov_e HKf.out (PRep.is xr) (PRep.is yr)).mono ?_
            rintro _ w11 ⟨_, rfl, rfl, hb⟩
            replace hx := Ext.trans hx hb; replace gx := gx.ext hb; replace gy := gy.ext hb; replace gc := gc.ext hb; replace xhx := (IsRef x).mono hb xhx; replace xr := (PRep x xb xp).mono hb xr; replace yhx := (IsRef y).mono hb yhx; replace yr := (PRep y yb yp).mono hb yr; replace cr := (PRep (unionT x y) cb cp).mono hb cr; have s31 := hb.size
            have gx_0 := gx.c 0 rfl; have gxf0 := gx.f 0; have gx_1 := gx.c 1 rfl; have gxf1 := gx.f 1; have gxl := gx.lt; have gy_0 := gy.c 0 rfl; have gyf0 := gy.f 0; have gy_1 := gy.c 1 rfl; have gyf1 := gy.f 1; have gyl := gy.lt; have gc_0 := gc.c 0 rfl; have gcf0 := gc.f 0; have gc_1 := gc.c 1 rfl; have gcf1 := gc.f 1; have gcl := gc.lt
            go_wp2_with fail
            clear gx_0 gxf0 gx_1 gxf1 gxl gy_0 gyf0 gy_1 gyf1 gyl gc_0 gcf0 gc_1 gcf1 gcl
            go_ret
            exact ⟨_, rfl, rfl, hx⟩
      ·
        have hR2 : coverT x.right y.right = coverT x y := by rw [HC.out, hk]; rfl
        have HR2 := Lib.hid hR2; clear hR2
        have Hk := Lib.hid hk; clear hk
        have gxlt32 := gx.lt
        have gylt32 := gy.lt
        refine wp_facts 32 [] [PP.eq (.agg #[.bool xb, .pointer xp]), PP.eq (.agg #[.bool yb, .pointer yp]), PP.eq (.bool (disjT x y)), PP.eq (.bool (disjT x y)), PP.eq (.bool false), PP.eq (.bool false), PP.eq (.agg #[.bool xb, .pointer xp]), PP.eq (.agg #[.bool yb, .pointer yp]), PP.eq (.bool (coverT x y)), PP.eq (.agg #[.bool xb, .pointer xp]), (IsId x.left).toPP, PP.eq (.agg #[.bool yb, .pointer yp]), (IsId y.left).toPP, PP.eq (.bool true), PP.eq (.bool true), PP.eq (.agg #[.bool xb, .pointer xp]), (IsId x.right).toPP, PP.eq (.agg #[.bool yb, .pointer yp]), (IsId y.right).toPP, PP.eq (.bool (coverT x y)), PP.eq (.bool (coverT x y)), PP.eq (.bool false), PP.eq (.bool false), PP.eq (.bool false), PP.eq (.agg #[.bool xb, .pointer xp]), PP.eq (.agg #[.bool yb, .pointer yp]), PP.eq (.bool (disjT x y)), PP.eq (.agg #[.bool yb, .pointer yp]), PP.eq (.agg #[.bool xb, .pointer xp]), PP.eq (.bool (disjT x y)), PP.eq (.bool false), PP.eq (.bool false)] (by kernel_rfl) (by kernel_rfl) ⟨?o0, ?o1, ?o2, ?o3, ?o4, ?o5, ?o6, ?o7, ?o8, ?o9, ?o10, ?o11, ?o12, ?o13, ?o14, ?o15, ?o16, ?o17, ?o18, ?o19, ?o20, ?o21, ?o22, ?o23, ?o24, ?o25, ?o26, ?o27, ?o28, ?o29, ?o30, ?o31, trivial⟩ ?rest
        case o0 =>
          intro x0 x1 x2 x3 x4 x5 x6 x7 x8 x9 x10 x11 x12 x13 x14 x15 x16 x17 x18 x19 x20 x21 x22 x23 x24 x25 x26 x27 x28 x29 x30 x31 w' hE
          rintro R hR
          have qgx0 := (gx.ext hE).c 0 rfl
          have qgx1 := (gx.ext hE).c 1 rfl
          simp only [putAll, List.take, List.drop, List.map, Act.put, List.setIfInBounds_toArray, List.set_cons_zero, List.set_cons_succ]
          go_simp
          exact hR _ _ (Ext.refl _) (rfl) trivial
        case o1 =>
          intro x0 x1 x2 x3 x4 x5 x6 x7 x8 x9 x10 x11 x12 x13 x14 x15 x16 x17 x18 x19 x20 x21 x22 x23 x24 x25 x26 x27 x28 x29 x30 x31 w' hE
          rintro R hR
          have qgy0 := (gy.ext hE).c 0 rfl
          have qgy1 := (gy.ext hE).c 1 rfl
          simp only [putAll, List.take, List.drop, List.map, Act.put, List.setIfInBounds_toArray, List.set_cons_zero, List.set_cons_succ]
          go_simp
          exact hR _ _ (Ext.refl _) (rfl) trivial
        case o2 =>
          intro x0 x1 x2 x3 x4 x5 x6 x7 x8 x9 x10 x11 x12 x13 x14 x15 x16 x17 x18 x19 x20 x21 x22 x23 x24 x25 x26 x27 x28 x29 x30 x31 w' hE
          rintro rfl rfl R hR
          simp only [putAll, List.take, List.drop, List.map, Act.put, List.setIfInBounds_toArray, List.set_cons_zero, List.set_cons_succ]
          go_simp
          refine (disj_c x y _ _ _ ⟨xb, xp, rfl, xr.ext hE⟩ ⟨yb, yp, rfl, yr.ext hE⟩).mono ?_
          rintro _ w'' ⟨v, rfl, hv, hb⟩
          exact hR _ _ hb hv trivial
        case o3 =>
          intro x0 x1 x2 x3 x4 x5 x6 x7 x8 x9 x10 x11 x12 x13 x14 x15 x16 x17 x18 x19 x20 x21 x22 x23 x24 x25 x26 x27 x28 x29 x30 x31 w' hE
          rintro R hR
          simp only [putAll, List.take, List.drop, List.map, Act.put, List.setIfInBounds_toArray, List.set_cons_zero, List.set_cons_succ]
          go_simp
          exact hR _ _ (Ext.refl _) (rfl) trivial
        case o4 =>
          intro x0 x1 x2 x3 x4 x5 x6 x7 x8 x9 x10 x11 x12 x13 x14 x15 x16 x17 x18 x19 x20 x21 x22 x23 x24 x25 x26 x27 x28 x29 x30 x31 w' hE
          rintro rfl rfl R hR
          simp only [putAll, List.take, List.drop, List.map, Act.put, List.setIfInBounds_toArray, List.set_cons_zero, List.set_cons_succ]
          go_simp
          exact hR _ _ (Ext.refl _) (rfl) trivial
        case o5 =>
          intro x0 x1 x2 x3 x4 x5 x6 x7 x8 x9 x10 x11 x12 x13 x14 x15 x16 x17 x18 x19 x20 x21 x22 x23 x24 x25 x26 x27 x28 x29 x30 x31 w' hE
          rintro rfl rfl R hR
          simp only [putAll, List.take, List.drop, List.map, Act.put, List.setIfInBounds_toArray, List.set_cons_zero, List.set_cons_succ]
          go_simp
          exact hR _ _ (Ext.refl _) (rfl) trivial
        case o6 =>
          intro x0 x1 x2 x3 x4 x5 x6 x7 x8 x9 x10 x11 x12 x13 x14 x15 x16 x17 x18 x19 x20 x21 x22 x23 x24 x25 x26 x27 x28 x29 x30 x31 w' hE
          rintro rfl R hR
          have qgx0 := (gx.ext hE).c 0 rfl
          have qgx1 := (gx.ext hE).c 1 rfl
          simp only [putAll, List.take, List.drop, List.map, Act.put, List.setIfInBounds_toArray, List.set_cons_zero, List.set_cons_succ]
          go_simp
          exact hR _ _ (Ext.refl _) (rfl) trivial
        case o7 =>
          intro x0 x1 x2 x3 x4 x5 x6 x7 x8 x9 x10 x11 x12 x13 x14 x15 x16 x17 x18 x19 x20 x21 x22 x23 x24 x25 x26 x27 x28 x29 x30 x31 w' hE
          rintro rfl R hR
          have qgy0 := (gy.ext hE).c 0 rfl
          have qgy1 := (gy.ext hE).c 1 rfl
          simp only [putAll, List.take, List.drop, List.map, Act.put, List.setIfInBounds_toArray, List.set_cons_zero, List.set_cons_succ]
          go_simp
          exact hR _ _ (Ext.refl _) (rfl) trivial
        case o8 =>
          intro x0 x1 x2 x3 x4 x5 x6 x7 x8 x9 x10 x11 x12 x13 x14 x15 x16 x17 x18 x19 x20 x21 x22 x23 x24 x25 x26 x27 x28 x29 x30 x31 w' hE
          rintro rfl rfl rfl _ R hR
          simp only [putAll, List.take, List.drop, List.map, Act.put, List.setIfInBounds_toArray, List.set_cons_zero, List.set_cons_succ]
          go_simp
          refine (cov_c x y _ _ _ ⟨xb, xp, rfl, xr.ext hE⟩ ⟨yb, yp, rfl, yr.ext hE⟩).mono ?_
          rintro _ w'' ⟨v, rfl, hv, hb⟩
          exact hR _ _ hb hv trivial
        case o9 =>
          intro x0 x1 x2 x3 x4 x5 x6 x7 x8 x9 x10 x11 x12 x13 x14 x15 x16 x17 x18 x19 x20 x21 x22 x23 x24 x25 x26 x27 x28 x29 x30 x31 w' hE
          rintro rfl R hR
          have qgx0 := (gx.ext hE).c 0 rfl
          have qgx1 := (gx.ext hE).c 1 rfl
          simp only [putAll, List.take, List.drop, List.map, Act.put, List.setIfInBounds_toArray, List.set_cons_zero, List.set_cons_succ]
          go_simp
          exact hR _ _ (Ext.refl _) (rfl) trivial
        case o10 =>
          intro x0 x1 x2 x3 x4 x5 x6 x7 x8 x9 x10 x11 x12 x13 x14 x15 x16 x17 x18 x19 x20 x21 x22 x23 x24 x25 x26 x27 x28 x29 x30 x31 w' hE
          rintro rfl rfl rfl R hR
          simp only [putAll, List.take, List.drop, List.map, Act.put, List.setIfInBounds_toArray, List.set_cons_zero, List.set_cons_succ]
          go_simp
          refine (left_c ⟨xb, xp, rfl, xr.ext hE⟩).mono ?_
          rintro _ w'' ⟨v, rfl, hv, hb⟩
          exact hR _ _ hb hv trivial
        case o11 =>
          intro x0 x1 x2 x3 x4 x5 x6 x7 x8 x9 x10 x11 x12 x13 x14 x15 x16 x17 x18 x19 x20 x21 x22 x23 x24 x25 x26 x27 x28 x29 x30 x31 w' hE
          rintro rfl R hR
          have qgy0 := (gy.ext hE).c 0 rfl
          have qgy1 := (gy.ext hE).c 1 rfl
          simp only [putAll, List.take, List.drop, List.map, Act.put, List.setIfInBounds_toArray, List.set_cons_zero, List.set_cons_succ]
          go_simp
          exact hR _ _ (Ext.refl _) (rfl) trivial
        case o12 =>
          intro x0 x1 x2 x3 x4 x5 x6 x7 x8 x9 x10 x11 x12 x13 x14 x15 x16 x17 x18 x19 x20 x21 x22 x23 x24 x25 x26 x27 x28 x29 x30 x31 w' hE
          rintro rfl d10 rfl R hR
          simp only [putAll, List.take, List.drop, List.map, Act.put, List.setIfInBounds_toArray, List.set_cons_zero, List.set_cons_succ]
          go_simp
          refine (left_c ⟨yb, yp, rfl, yr.ext hE⟩).mono ?_
          rintro _ w'' ⟨v, rfl, hv, hb⟩
          exact hR _ _ hb hv trivial
        case o13 =>
          intro x0 x1 x2 x3 x4 x5 x6 x7 x8 x9 x10 x11 x12 x13 x14 x15 x16 x17 x18 x19 x20 x21 x22 x23 x24 x25 x26 x27 x28 x29 x30 x31 w' hE
          rintro d10 d12 _ rfl R hR
          simp only [putAll, List.take, List.drop, List.map, Act.put, List.setIfInBounds_toArray, List.set_cons_zero, List.set_cons_succ]
          go_simp
          refine (cov_e Hk.out d10 d12).mono ?_
          rintro _ w'' ⟨v, rfl, hv, hb⟩
          exact hR _ _ hb hv trivial
        case o14 =>
          intro x0 x1 x2 x3 x4 x5 x6 x7 x8 x9 x10 x11 x12 x13 x14 x15 x16 x17 x18 x19 x20 x21 x22 x23 x24 x25 x26 x27 x28 x29 x30 x31 w' hE
          rintro rfl _ rfl R hR
          simp only [putAll, List.take, List.drop, List.map, Act.put, List.setIfInBounds_toArray, List.set_cons_zero, List.set_cons_succ]
          go_simp
          exact hR _ _ (Ext.refl _) (rfl) trivial
        case o15 =>
          intro x0 x1 x2 x3 x4 x5 x6 x7 x8 x9 x10 x11 x12 x13 x14 x15 x16 x17 x18 x19 x20 x21 x22 x23 x24 x25 x26 x27 x28 x29 x30 x31 w' hE
          rintro rfl R hR
          have qgx0 := (gx.ext hE).c 0 rfl
          have qgx1 := (gx.ext hE).c 1 rfl
          simp only [putAll, List.take, List.drop, List.map, Act.put, List.setIfInBounds_toArray, List.set_cons_zero, List.set_cons_succ]
          go_simp
          exact hR _ _ (Ext.refl _) (rfl) trivial
        case o16 =>
          intro x0 x1 x2 x3 x4 x5 x6 x7 x8 x9 x10 x11 x12 x13 x14 x15 x16 x17 x18 x19 x20 x21 x22 x23 x24 x25 x26 x27 x28 x29 x30 x31 w' hE
          rintro rfl rfl _ R hR
          simp only [putAll, List.take, List.drop, List.map, Act.put, List.setIfInBounds_toArray, List.set_cons_zero, List.set_cons_succ]
          go_simp
          refine (right_c ⟨xb, xp, rfl, xr.ext hE⟩).mono ?_
          rintro _ w'' ⟨v, rfl, hv, hb⟩
          exact hR _ _ hb hv trivial
        case o17 =>
          intro x0 x1 x2 x3 x4 x5 x6 x7 x8 x9 x10 x11 x12 x13 x14 x15 x16 x17 x18 x19 x20 x21 x22 x23 x24 x25 x26 x27 x28 x29 x30 x31 w' hE
          rintro rfl R hR
          have qgy0 := (gy.ext hE).c 0 rfl
          have qgy1 := (gy.ext hE).c 1 rfl
          simp only [putAll, List.take, List.drop, List.map, Act.put, List.setIfInBounds_toArray, List.set_cons_zero, List.set_cons_succ]
          go_simp
          exact hR _ _ (Ext.refl _) (rfl) trivial
        case o18 =>
          intro x0 x1 x2 x3 x4 x5 x6 x7 x8 x9 x10 x11 x12 x13 x14 x15 x16 x17 x18 x19 x20 x21 x22 x23 x24 x25 x26 x27 x28 x29 x30 x31 w' hE
          rintro rfl d16 rfl R hR
          simp only [putAll, List.take, List.drop, List.map, Act.put, List.setIfInBounds_toArray, List.set_cons_zero, List.set_cons_succ]
          go_simp
          refine (right_c ⟨yb, yp, rfl, yr.ext hE⟩).mono ?_
          rintro _ w'' ⟨v, rfl, hv, hb⟩
          exact hR _ _ hb hv trivial
        case o19 =>
          intro x0 x1 x2 x3 x4 x5 x6 x7 x8 x9 x10 x11 x12 x13 x14 x15 x16 x17 x18 x19 x20 x21 x22 x23 x24 x25 x26 x27 x28 x29 x30 x31 w' hE
          rintro d16 d18 _ rfl R hR
          simp only [putAll, List.take, List.drop, List.map, Act.put, List.setIfInBounds_toArray, List.set_cons_zero, List.set_cons_succ]
          go_simp
          refine (cov_e HR2.out d16 d18).mono ?_
          rintro _ w'' ⟨v, rfl, hv, hb⟩
          exact hR _ _ hb hv trivial
        case o20 =>
          intro x0 x1 x2 x3 x4 x5 x6 x7 x8 x9 x10 x11 x12 x13 x14 x15 x16 x17 x18 x19 x20 x21 x22 x23 x24 x25 x26 x27 x28 x29 x30 x31 w' hE
          rintro rfl rfl rfl R hR
          simp only [putAll, List.take, List.drop, List.map, Act.put, List.setIfInBounds_toArray, List.set_cons_zero, List.set_cons_succ]
          go_simp
          exact hR _ _ (Ext.refl _) (rfl) trivial
        case o21 =>
          intro x0 x1 x2 x3 x4 x5 x6 x7 x8 x9 x10 x11 x12 x13 x14 x15 x16 x17 x18 x19 x20 x21 x22 x23 x24 x25 x26 x27 x28 x29 x30 x31 w' hE
          rintro rfl rfl rfl R hR
          simp only [putAll, List.take, List.drop, List.map, Act.put, List.setIfInBounds_toArray, List.set_cons_zero, List.set_cons_succ]
          go_simp
          exact hR _ _ (Ext.refl _) (rfl) trivial
        case o22 =>
          intro x0 x1 x2 x3 x4 x5 x6 x7 x8 x9 x10 x11 x12 x13 x14 x15 x16 x17 x18 x19 x20 x21 x22 x23 x24 x25 x26 x27 x28 x29 x30 x31 w' hE
          rintro rfl rfl R hR
          simp only [putAll, List.take, List.drop, List.map, Act.put, List.setIfInBounds_toArray, List.set_cons_zero, List.set_cons_succ]
          go_simp
          exact hR _ _ (Ext.refl _) (rfl) trivial
        case o23 =>
          intro x0 x1 x2 x3 x4 x5 x6 x7 x8 x9 x10 x11 x12 x13 x14 x15 x16 x17 x18 x19 x20 x21 x22 x23 x24 x25 x26 x27 x28 x29 x30 x31 w' hE
          rintro rfl rfl R hR
          simp only [putAll, List.take, List.drop, List.map, Act.put, List.setIfInBounds_toArray, List.set_cons_zero, List.set_cons_succ]
          go_simp
          exact hR _ _ (Ext.refl _) (rfl) trivial
        case o24 =>
          intro x0 x1 x2 x3 x4 x5 x6 x7 x8 x9 x10 x11 x12 x13 x14 x15 x16 x17 x18 x19 x20 x21 x22 x23 x24 x25 x26 x27 x28 x29 x30 x31 w' hE
          rintro rfl R hR
          have qgx0 := (gx.ext hE).c 0 rfl
          have qgx1 := (gx.ext hE).c 1 rfl
          simp only [putAll, List.take, List.drop, List.map, Act.put, List.setIfInBounds_toArray, List.set_cons_zero, List.set_cons_succ]
          go_simp
          exact hR _ _ (Ext.refl _) (rfl) trivial
        case o25 =>
          intro x0 x1 x2 x3 x4 x5 x6 x7 x8 x9 x10 x11 x12 x13 x14 x15 x16 x17 x18 x19 x20 x21 x22 x23 x24 x25 x26 x27 x28 x29 x30 x31 w' hE
          rintro rfl R hR
          have qgy0 := (gy.ext hE).c 0 rfl
          have qgy1 := (gy.ext hE).c 1 rfl
          simp only [putAll, List.take, List.drop, List.map, Act.put, List.setIfInBounds_toArray, List.set_cons_zero, List.set_cons_succ]
          go_simp
          exact hR _ _ (Ext.refl _) (rfl) trivial
        case o26 =>
          intro x0 x1 x2 x3 x4 x5 x6 x7 x8 x9 x10 x11 x12 x13 x14 x15 x16 x17 x18 x19 x20 x21 x22 x23 x24 x25 x26 x27 x28 x29 x30 x31 w' hE
          rintro rfl rfl rfl _ R hR
          simp only [putAll, List.take, List.drop, List.map, Act.put, List.setIfInBounds_toArray, List.set_cons_zero, List.set_cons_succ]
          go_simp
          refine (disj_c x y _ _ _ ⟨xb, xp, rfl, xr.ext hE⟩ ⟨yb, yp, rfl, yr.ext hE⟩).mono ?_
          rintro _ w'' ⟨v, rfl, hv, hb⟩
          exact hR _ _ hb hv trivial
        case o27 =>
          intro x0 x1 x2 x3 x4 x5 x6 x7 x8 x9 x10 x11 x12 x13 x14 x15 x16 x17 x18 x19 x20 x21 x22 x23 x24 x25 x26 x27 x28 x29 x30 x31 w' hE
          rintro rfl R hR
          have qgy0 := (gy.ext hE).c 0 rfl
          have qgy1 := (gy.ext hE).c 1 rfl
          simp only [putAll, List.take, List.drop, List.map, Act.put, List.setIfInBounds_toArray, List.set_cons_zero, List.set_cons_succ]
          go_simp
          exact hR _ _ (Ext.refl _) (rfl) trivial
        case o28 =>
          intro x0 x1 x2 x3 x4 x5 x6 x7 x8 x9 x10 x11 x12 x13 x14 x15 x16 x17 x18 x19 x20 x21 x22 x23 x24 x25 x26 x27 x28 x29 x30 x31 w' hE
          rintro rfl R hR
          have qgx0 := (gx.ext hE).c 0 rfl
          have qgx1 := (gx.ext hE).c 1 rfl
          simp only [putAll, List.take, List.drop, List.map, Act.put, List.setIfInBounds_toArray, List.set_cons_zero, List.set_cons_succ]
          go_simp
          exact hR _ _ (Ext.refl _) (rfl) trivial
        case o29 =>
          intro x0 x1 x2 x3 x4 x5 x6 x7 x8 x9 x10 x11 x12 x13 x14 x15 x16 x17 x18 x19 x20 x21 x22 x23 x24 x25 x26 x27 x28 x29 x30 x31 w' hE
          rintro rfl rfl rfl rfl R hR
          simp only [putAll, List.take, List.drop, List.map, Act.put, List.setIfInBounds_toArray, List.set_cons_zero, List.set_cons_succ]
          go_simp
          refine (disj_e HS.out.symm ⟨yb, yp, rfl, yr.ext hE⟩ ⟨xb, xp, rfl, xr.ext hE⟩).mono ?_
          rintro _ w'' ⟨v, rfl, hv, hb⟩
          exact hR _ _ hb hv trivial
        case o30 =>
          intro x0 x1 x2 x3 x4 x5 x6 x7 x8 x9 x10 x11 x12 x13 x14 x15 x16 x17 x18 x19 x20 x21 x22 x23 x24 x25 x26 x27 x28 x29 x30 x31 w' hE
          rintro rfl rfl rfl R hR
          simp only [putAll, List.take, List.drop, List.map, Act.put, List.setIfInBounds_toArray, List.set_cons_zero, List.set_cons_succ]
          go_simp
          exact hR _ _ (Ext.refl _) (rfl) trivial
        case o31 =>
          intro x0 x1 x2 x3 x4 x5 x6 x7 x8 x9 x10 x11 x12 x13 x14 x15 x16 x17 x18 x19 x20 x21 x22 x23 x24 x25 x26 x27 x28 x29 x30 x31 w' hE
          rintro rfl rfl R hR
          simp only [putAll, List.take, List.drop, List.map, Act.put, List.setIfInBounds_toArray, List.set_cons_zero, List.set_cons_succ]
          go_simp
          exact hR _ _ (Ext.refl _) (rfl) trivial
        case rest =>
          intro x0 x1 x2 x3 x4 x5 x6 x7 x8 x9 x10 x11 x12 x13 x14 x15 x16 x17 x18 x19 x20 x21 x22 x23 x24 x25 x26 x27 x28 x29 x30 x31 w6 hb
          rintro rfl rfl rfl rfl rfl rfl rfl rfl rfl rfl _ rfl _ rfl rfl rfl _ rfl _ rfl rfl rfl rfl rfl rfl rfl rfl rfl rfl rfl rfl rfl hap
          replace hx := Ext.trans hx hb; replace gx := gx.ext hb; replace gy := gy.ext hb; replace xhx := (IsRef x).mono hb xhx; replace xr := (PRep x xb xp).mono hb xr; replace yhx := (IsRef y).mono hb yhx; replace yr := (PRep y yb yp).mono hb yr; have s33 := hb.size
          clear hap
          simp only [putAll, List.take, List.drop, List.map, Act.put, List.setIfInBounds_toArray, List.set_cons_zero, List.set_cons_succ]
          have gx_0 := gx.c 0 rfl; have gxf0 := gx.f 0; have gx_1 := gx.c 1 rfl; have gxf1 := gx.f 1; have gxl := gx.lt; have gy_0 := gy.c 0 rfl; have gyf0 := gy.f 0; have gy_1 := gy.c 1 rfl; have gyf1 := gy.f 1; have gyl := gy.lt
          go_wp2_with fail
          clear gx_0 gxf0 gx_1 gxf1 gxl gy_0 gyf0 gy_1 gyf1 gyl
          clear Hk
          cases hD : disjT x y
          ·
            have hs := sum_f (PRep.is xr) (PRep.is yr) (by omega) (by omega) hD
            refine (hs).mono ?_
            rintro _ w7 ⟨cv, rfl, c, hb⟩
            replace hx := Ext.trans hx hb; replace gx := gx.ext hb; replace gy := gy.ext hb; replace xhx := (IsRef x).mono hb xhx; replace xr := (PRep x xb xp).mono hb xr; replace yhx := (IsRef y).mono hb yhx; replace yr := (PRep y yb yp).mono hb yr; have s34 := hb.size
            obtain ⟨cv, _, rfl, ch, rfl⟩ := c
            clear hs
            obtain ⟨cb, cp, rfl, cr⟩ := ch
            have gx_0 := gx.c 0 rfl; have gxf0 := gx.f 0; have gx_1 := gx.c 1 rfl; have gxf1 := gx.f 1; have gxl := gx.lt; have gy_0 := gy.c 0 rfl; have gyf0 := gy.f 0; have gy_1 := gy.c 1 rfl; have gyf1 := gy.f 1; have gyl := gy.lt
            go_wp2_with fail
            clear gx_0 gxf0 gx_1 gxf1 gxl gy_0 gyf0 gy_1 gyf1 gyl
            have gxlt35 := gx.lt
            have gylt35 := gy.lt
            obtain ⟨w8, hW, hb, z35, gc⟩ := box1 w7 [.bool cb, .pointer cp] 26
            rw [hW]; clear hW
            replace hx := Ext.trans hx hb; replace gx := gx.ext hb; replace gy := gy.ext hb; replace xhx := (IsRef x).mono hb xhx; replace xr := (PRep x xb xp).mono hb xr; replace yhx := (IsRef y).mono hb yhx; replace yr := (PRep y yb yp).mono hb yr; replace cr := (PRep .zero cb cp).mono hb cr; have s36 := hb.size
            go_ret
            exact ⟨_, rfl, rfl, hx⟩
          ·
            have hs := sum_t (PRep.is xr) (PRep.is yr) (by omega) (by omega) hD
            refine (hs).mono ?_
            rintro _ w7 ⟨cv, rfl, c, hb⟩
            replace hx := Ext.trans hx hb; replace gx := gx.ext hb; replace gy := gy.ext hb; replace xhx := (IsRef x).mono hb xhx; replace xr := (PRep x xb xp).mono hb xr; replace yhx := (IsRef y).mono hb yhx; replace yr := (PRep y yb yp).mono hb yr; have s37 := hb.size
            obtain ⟨cv, _, rfl, ch, rfl⟩ := c
            clear hs
            obtain ⟨cb, cp, rfl, cr⟩ := ch
            have gx_0 := gx.c 0 rfl; have gxf0 := gx.f 0; have gx_1 := gx.c 1 rfl; have gxf1 := gx.f 1; have gxl := gx.lt; have gy_0 := gy.c 0 rfl; have gyf0 := gy.f 0; have gy_1 := gy.c 1 rfl; have gyf1 := gy.f 1; have gyl := gy.lt
            go_wp2_with fail
            clear gx_0 gxf0 gx_1 gxf1 gxl gy_0 gyf0 gy_1 gyf1 gyl
            have gxlt38 := gx.lt
            have gylt38 := gy.lt
            obtain ⟨w8, hW, hb, z38, gc⟩ := box1 w7 [.bool cb, .pointer cp] 26
            rw [hW]; clear hW
            replace hx := Ext.trans hx hb; replace gx := gx.ext hb; replace gy := gy.ext hb; replace xhx := (IsRef x).mono hb xhx; replace xr := (PRep x xb xp).mono hb xr; replace yhx := (IsRef y).mono hb yhx; replace yr := (PRep y yb yp).mono hb yr; replace cr := (PRep (unionT x y) cb cp).mono hb cr; have s39 := hb.size
            obtain ⟨u1, u2⟩ := union_covers xw yw
            have U1 := Lib.hid u1; have U2 := Lib.hid u2; clear u1 u2
            refine (cov_e U1.out (PRep.is cr) (PRep.is xr)).mono ?_
            rintro _ w9 ⟨_, rfl, rfl, hb⟩
            replace hx := Ext.trans hx hb; replace gx := gx.ext hb; replace gy := gy.ext hb; replace gc := gc.ext hb; replace xhx := (IsRef x).mono hb xhx; replace xr := (PRep x xb xp).mono hb xr; replace yhx := (IsRef y).mono hb yhx; replace yr := (PRep y yb yp).mono hb yr; replace cr := (PRep (unionT x y) cb cp).mono hb cr; have s40 := hb.size
            have gx_0 := gx.c 0 rfl; have gxf0 := gx.f 0; have gx_1 := gx.c 1 rfl; have gxf1 := gx.f 1; have gxl := gx.lt; have gy_0 := gy.c 0 rfl; have gyf0 := gy.f 0; have gy_1 := gy.c 1 rfl; have gyf1 := gy.f 1; have gyl := gy.lt; have gc_0 := gc.c 0 rfl; have gcf0 := gc.f 0; have gc_1 := gc.c 1 rfl; have gcf1 := gc.f 1; have gcl := gc.lt
            go_wp2_with fail
            clear gx_0 gxf0 gx_1 gxf1 gxl gy_0 gyf0 gy_1 gyf1 gyl gc_0 gcf0 gc_1 gcf1 gcl
            refine (cov_e U2.out (PRep.is cr) (PRep.is yr)).mono ?_
            rintro _ w10 ⟨_, rfl, rfl, hb⟩
            replace hx := Ext.trans hx hb; replace gx := gx.ext hb; replace gy := gy.ext hb; replace gc := gc.ext hb; replace xhx := (IsRef x).mono hb xhx; replace xr := (PRep x xb xp).mono hb xr; replace yhx := (IsRef y).mono hb yhx; replace yr := (PRep y yb yp).mono hb yr; replace cr := (PRep (unionT x y) cb cp).mono hb cr; have s41 := hb.size
            have gx_0 := gx.c 0 rfl; have gxf0 := gx.f 0; have gx_1 := gx.c 1 rfl; have gxf1 := gx.f 1; have gxl := gx.lt; have gy_0 := gy.c 0 rfl; have gyf0 := gy.f 0; have gy_1 := gy.c 1 rfl; have gyf1 := gy.f 1; have gyl := gy.lt; have gc_0 := gc.c 0 rfl; have gcf0 := gc.f 0; have gc_1 := gc.c 1 rfl; have gcf1 := gc.f 1; have gcl := gc.lt
            go_wp2_with fail
            clear gx_0 gxf0 gx_1 gxf1 gxl gy_0 gyf0 gy_1 gyf1 gyl gc_0 gcf0 gc_1 gcf1 gcl
            have HCD := Lib.hid (fun hC => cover_disj xw yw hC hD)
            cases hC : coverT x y
            ·
              refine (cov_e hC (PRep.is xr) (PRep.is yr)).mono ?_
              rintro _ w11 ⟨_, rfl, rfl, hb⟩
              replace hx := Ext.trans hx hb; replace gx := gx.ext hb; replace gy := gy.ext hb; replace gc := gc.ext hb; replace xhx := (IsRef x).mono hb xhx; replace xr := (PRep x xb xp).mono hb xr; replace yhx := (IsRef y).mono hb yhx; replace yr := (PRep y yb yp).mono hb yr; replace cr := (PRep (unionT x y) cb cp).mono hb cr; have s42 := hb.size
              have gx_0 := gx.c 0 rfl; have gxf0 := gx.f 0; have gx_1 := gx.c 1 rfl; have gxf1 := gx.f 1; have gxl := gx.lt; have gy_0 := gy.c 0 rfl; have gyf0 := gy.f 0; have gy_1 := gy.c 1 rfl; have gyf1 := gy.f 1; have gyl := gy.lt; have gc_0 := gc.c 0 rfl; have gcf0 := gc.f 0; have gc_1 := gc.c 1 rfl; have gcf1 := gc.f 1; have gcl := gc.lt
              go_wp2_with fail
              clear gx_0 gxf0 gx_1 gxf1 gxl gy_0 gyf0 gy_1 gyf1 gyl gc_0 gcf0 gc_1 gcf1 gcl
              go_ret
              exact ⟨_, rfl, rfl, hx⟩
            ·
              refine (cov_e hC (PRep.is xr) (PRep.is yr)).mono ?_
              rintro _ w11 ⟨_, rfl, rfl, hb⟩
              replace hx := Ext.trans hx hb; replace gx := gx.ext hb; replace gy := gy.ext hb; replace gc := gc.ext hb; replace xhx := (IsRef x).mono hb xhx; replace xr := (PRep x xb xp).mono hb xr; replace yhx := (IsRef y).mono hb yhx; replace yr := (PRep y yb yp).mono hb yr; replace cr := (PRep (unionT x y) cb cp).mono hb cr; have s43 := hb.size
              have gx_0 := gx.c 0 rfl; have gxf0 := gx.f 0; have gx_1 := gx.c 1 rfl; have gxf1 := gx.f 1; have gxl := gx.lt; have gy_0 := gy.c 0 rfl; have gyf0 := gy.f 0; have gy_1 := gy.c 1 rfl; have gyf1 := gy.f 1; have gyl := gy.lt; have gc_0 := gc.c 0 rfl; have gcf0 := gc.f 0; have gc_1 := gc.c 1 rfl; have gcf1 := gc.f 1; have gcl := gc.lt
              go_wp2_with fail
              clear gx_0 gxf0 gx_1 gxf1 gxl gy_0 gyf0 gy_1 gyf1 gyl gc_0 gcf0 gc_1 gcf1 gcl
              have hyz := HCD.out hC
              refine (isZero_c (PRep.is yr)).mono ?_
              rintro _ w12 ⟨_, rfl, rfl, hb⟩
              replace hx := Ext.trans hx hb; replace gx := gx.ext hb; replace gy := gy.ext hb; replace gc := gc.ext hb; replace xhx := (IsRef x).mono hb xhx; replace xr := (PRep x xb xp).mono hb xr; replace yhx := (IsRef y).mono hb yhx; replace yr := (PRep y yb yp).mono hb yr; replace cr := (PRep (unionT x y) cb cp).mono hb cr; have s44 := hb.size
              have gx_0 := gx.c 0 rfl; have gxf0 := gx.f 0; have gx_1 := gx.c 1 rfl; have gxf1 := gx.f 1; have gxl := gx.lt; have gy_0 := gy.c 0 rfl; have gyf0 := gy.f 0; have gy_1 := gy.c 1 rfl; have gyf1 := gy.f 1; have gyl := gy.lt; have gc_0 := gc.c 0 rfl; have gcf0 := gc.f 0; have gc_1 := gc.c 1 rfl; have gcf1 := gc.f 1; have gcl := gc.lt
              go_wp2_with fail
              clear gx_0 gxf0 gx_1 gxf1 gxl gy_0 gyf0 gy_1 gyf1 gyl gc_0 gcf0 gc_1 gcf1 gcl
              go_ret
              exact ⟨_, rfl, rfl, hx⟩

end Go.Proofs.Ytkfncjaomgcdgaa

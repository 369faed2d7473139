/- like, own. -/
import Derived.Test.YtkfncjaomgcdgaaW13
set_option linter.all false
namespace Go.Proofs.Ytkfncjaomgcdgaa
open Go.RowKit Go.Facts

set_option maxRecDepth 100000 in
set_option maxHeartbeats 2000000 in
theorem like_z {i x : Value} {w : World} (hi : (IsId T.zero).p i w) (hx0 : (IsRef T.zero).p x w) (hd : (T.zero).depth ≤ 1000) (hn : (textT T.zero).length ≤ 1000000000) :
    Calls Try.prog 15 #[i, x] w (Ret w (PP.eq (.bool true)).p) := by
  obtain ⟨ib, ip, rfl, hi⟩ := hi
  obtain ⟨p, rfl, hx0⟩ := hx0
  obtain ⟨k, rfl, gx⟩ := id hx0
  go_enter Try.func15, Try.ntmps15
  have gx_0 := gx.c 0 rfl; have gxf0 := gx.f 0; have gx_1 := gx.c 1 rfl; have gxf1 := gx.f 1; have gx_2 := gx.c 2 rfl; have gxf2 := gx.f 2; have gxl := gx.lt
  go_wp2_with fail
  clear gx_0 gxf0 gx_1 gxf1 gx_2 gxf2 gxl
  have gxlt0 := gx.lt
  obtain ⟨W, hW, hb, z0, gi⟩ := box1 w [.bool ib, .pointer ip] 26
  rw [hW]; clear hW
  have hx := hb; replace gx := gx.ext hb; replace hi := (PRep T.zero ib ip).mono hb hi; have s1 := hb.size
  have hne : ∀ d : Nat, Hid (((d : Int) != (d : Int)) = false) := fun d => by unfold Hid; simp
  have gxlt2 := gx.lt
  have gilt2 := gi.lt
  refine wp_facts 32 [] [PP.eq (.agg #[.bool ib, .pointer ip]), PP.eq (.bool true), PP.eq (.pointer (some ⟨k, 0, none⟩)), PP.eq (.pointer (some ⟨k, 0, none⟩)), PP.eq (.pointer (some ⟨k, 0, none⟩)), PP.eq (.int .i64 0), PP.eq (.bool true), PP.eq (.bool false), PP.eq (.bool false), PP.eq (.agg #[.bool ib, .pointer ip]), PP.eq (.bool false), PP.eq (.pointer (some ⟨k, 0, none⟩)), PP.eq (.pointer (some ⟨k, 0, none⟩)), PP.eq (.pointer (some ⟨k, 0, none⟩)), PP.eq (.int .i64 0), PP.eq (.bool false), PP.eq (.bool false), PP.eq (.bool false), PP.eq (.bool false), PP.eq (.agg #[.bool ib, .pointer ip]), PP.eq (.int .i64 ((T.zero).depth : Nat)), PP.eq (.pointer (some ⟨k, 0, none⟩)), PP.eq (.int .i64 ((T.zero).depth : Nat)), PP.eq (.bool false), PP.eq (.bool false), PP.eq (.bool false), PP.eq (.agg #[.bool ib, .pointer ip]), PP.eq (sv (textT (T.zero))), PP.eq (.pointer (some ⟨k, 0, none⟩)), PP.eq (sv (textT (T.zero))), PP.eq (.bool false), PP.eq (.bool false)] (by kernel_rfl) (by kernel_rfl) ⟨?o0, ?o1, ?o2, ?o3, ?o4, ?o5, ?o6, ?o7, ?o8, ?o9, ?o10, ?o11, ?o12, ?o13, ?o14, ?o15, ?o16, ?o17, ?o18, ?o19, ?o20, ?o21, ?o22, ?o23, ?o24, ?o25, ?o26, ?o27, ?o28, ?o29, ?o30, ?o31, trivial⟩ ?rest
  case o0 =>
    intro x0 x1 x2 x3 x4 x5 x6 x7 x8 x9 x10 x11 x12 x13 x14 x15 x16 x17 x18 x19 x20 x21 x22 x23 x24 x25 x26 x27 x28 x29 x30 x31 w' hE
    rintro R hR
    have qgi0 := (gi.ext hE).c 0 rfl
    have qgi1 := (gi.ext hE).c 1 rfl
    simp only [putAll, List.take, List.drop, List.map, Act.put, List.setIfInBounds_toArray, List.set_cons_zero, List.set_cons_succ]
    go_simp
    exact hR _ _ (Ext.refl _) (rfl) trivial
  case o1 =>
    intro x0 x1 x2 x3 x4 x5 x6 x7 x8 x9 x10 x11 x12 x13 x14 x15 x16 x17 x18 x19 x20 x21 x22 x23 x24 x25 x26 x27 x28 x29 x30 x31 w' hE
    rintro rfl R hR
    simp only [putAll, List.take, List.drop, List.map, Act.put, List.setIfInBounds_toArray, List.set_cons_zero, List.set_cons_succ]
    go_simp
    refine (isZero_c ⟨ib, ip, rfl, hi.ext hE⟩).mono ?_
    rintro _ w'' ⟨v, rfl, hv, hb⟩
    exact hR _ _ hb hv trivial
  case o2 =>
    intro x0 x1 x2 x3 x4 x5 x6 x7 x8 x9 x10 x11 x12 x13 x14 x15 x16 x17 x18 x19 x20 x21 x22 x23 x24 x25 x26 x27 x28 x29 x30 x31 w' hE
    rintro R hR
    simp only [putAll, List.take, List.drop, List.map, Act.put, List.setIfInBounds_toArray, List.set_cons_zero, List.set_cons_succ]
    go_simp
    exact hR _ _ (Ext.refl _) (rfl) trivial
  case o3 =>
    intro x0 x1 x2 x3 x4 x5 x6 x7 x8 x9 x10 x11 x12 x13 x14 x15 x16 x17 x18 x19 x20 x21 x22 x23 x24 x25 x26 x27 x28 x29 x30 x31 w' hE
    rintro rfl R hR
    simp only [putAll, List.take, List.drop, List.map, Act.put, List.setIfInBounds_toArray, List.set_cons_zero, List.set_cons_succ]
    go_simp
    exact hR _ _ (Ext.refl _) (rfl) trivial
  case o4 =>
    intro x0 x1 x2 x3 x4 x5 x6 x7 x8 x9 x10 x11 x12 x13 x14 x15 x16 x17 x18 x19 x20 x21 x22 x23 x24 x25 x26 x27 x28 x29 x30 x31 w' hE
    rintro rfl R hR
    simp only [putAll, List.take, List.drop, List.map, Act.put, List.setIfInBounds_toArray, List.set_cons_zero, List.set_cons_succ]
    go_simp
    exact hR _ _ (Ext.refl _) (rfl) trivial
  case o5 =>
    intro x0 x1 x2 x3 x4 x5 x6 x7 x8 x9 x10 x11 x12 x13 x14 x15 x16 x17 x18 x19 x20 x21 x22 x23 x24 x25 x26 x27 x28 x29 x30 x31 w' hE
    rintro rfl R hR
    have qgx0 := (gx.ext hE).c 0 rfl
    have qgx1 := (gx.ext hE).c 1 rfl
    have qgx2 := (gx.ext hE).c 2 rfl
    simp only [putAll, List.take, List.drop, List.map, Act.put, List.setIfInBounds_toArray, List.set_cons_zero, List.set_cons_succ]
    go_simp
    exact hR _ _ (Ext.refl _) (rfl) trivial
  case o6 =>
    intro x0 x1 x2 x3 x4 x5 x6 x7 x8 x9 x10 x11 x12 x13 x14 x15 x16 x17 x18 x19 x20 x21 x22 x23 x24 x25 x26 x27 x28 x29 x30 x31 w' hE
    rintro rfl R hR
    simp only [putAll, List.take, List.drop, List.map, Act.put, List.setIfInBounds_toArray, List.set_cons_zero, List.set_cons_succ]
    go_simp
    exact hR _ _ (Ext.refl _) (rfl) trivial
  case o7 =>
    intro x0 x1 x2 x3 x4 x5 x6 x7 x8 x9 x10 x11 x12 x13 x14 x15 x16 x17 x18 x19 x20 x21 x22 x23 x24 x25 x26 x27 x28 x29 x30 x31 w' hE
    rintro rfl rfl R hR
    simp only [putAll, List.take, List.drop, List.map, Act.put, List.setIfInBounds_toArray, List.set_cons_zero, List.set_cons_succ]
    go_simp
    exact hR _ _ (Ext.refl _) (rfl) trivial
  case o8 =>
    intro x0 x1 x2 x3 x4 x5 x6 x7 x8 x9 x10 x11 x12 x13 x14 x15 x16 x17 x18 x19 x20 x21 x22 x23 x24 x25 x26 x27 x28 x29 x30 x31 w' hE
    rintro rfl rfl R hR
    simp only [putAll, List.take, List.drop, List.map, Act.put, List.setIfInBounds_toArray, List.set_cons_zero, List.set_cons_succ]
    go_simp
    exact hR _ _ (Ext.refl _) (rfl) trivial
  case o9 =>
    intro x0 x1 x2 x3 x4 x5 x6 x7 x8 x9 x10 x11 x12 x13 x14 x15 x16 x17 x18 x19 x20 x21 x22 x23 x24 x25 x26 x27 x28 x29 x30 x31 w' hE
    rintro rfl R hR
    have qgi0 := (gi.ext hE).c 0 rfl
    have qgi1 := (gi.ext hE).c 1 rfl
    simp only [putAll, List.take, List.drop, List.map, Act.put, List.setIfInBounds_toArray, List.set_cons_zero, List.set_cons_succ]
    go_simp
    exact hR _ _ (Ext.refl _) (rfl) trivial
  case o10 =>
    intro x0 x1 x2 x3 x4 x5 x6 x7 x8 x9 x10 x11 x12 x13 x14 x15 x16 x17 x18 x19 x20 x21 x22 x23 x24 x25 x26 x27 x28 x29 x30 x31 w' hE
    rintro rfl rfl _ R hR
    simp only [putAll, List.take, List.drop, List.map, Act.put, List.setIfInBounds_toArray, List.set_cons_zero, List.set_cons_succ]
    go_simp
    refine (isOne_c ⟨ib, ip, rfl, hi.ext hE⟩).mono ?_
    rintro _ w'' ⟨v, rfl, hv, hb⟩
    exact hR _ _ hb hv trivial
  case o11 =>
    intro x0 x1 x2 x3 x4 x5 x6 x7 x8 x9 x10 x11 x12 x13 x14 x15 x16 x17 x18 x19 x20 x21 x22 x23 x24 x25 x26 x27 x28 x29 x30 x31 w' hE
    rintro rfl R hR
    simp only [putAll, List.take, List.drop, List.map, Act.put, List.setIfInBounds_toArray, List.set_cons_zero, List.set_cons_succ]
    go_simp
    exact hR _ _ (Ext.refl _) (rfl) trivial
  case o12 =>
    intro x0 x1 x2 x3 x4 x5 x6 x7 x8 x9 x10 x11 x12 x13 x14 x15 x16 x17 x18 x19 x20 x21 x22 x23 x24 x25 x26 x27 x28 x29 x30 x31 w' hE
    rintro rfl rfl R hR
    simp only [putAll, List.take, List.drop, List.map, Act.put, List.setIfInBounds_toArray, List.set_cons_zero, List.set_cons_succ]
    go_simp
    exact hR _ _ (Ext.refl _) (rfl) trivial
  case o13 =>
    intro x0 x1 x2 x3 x4 x5 x6 x7 x8 x9 x10 x11 x12 x13 x14 x15 x16 x17 x18 x19 x20 x21 x22 x23 x24 x25 x26 x27 x28 x29 x30 x31 w' hE
    rintro rfl rfl R hR
    simp only [putAll, List.take, List.drop, List.map, Act.put, List.setIfInBounds_toArray, List.set_cons_zero, List.set_cons_succ]
    go_simp
    exact hR _ _ (Ext.refl _) (rfl) trivial
  case o14 =>
    intro x0 x1 x2 x3 x4 x5 x6 x7 x8 x9 x10 x11 x12 x13 x14 x15 x16 x17 x18 x19 x20 x21 x22 x23 x24 x25 x26 x27 x28 x29 x30 x31 w' hE
    rintro rfl rfl R hR
    have qgx0 := (gx.ext hE).c 0 rfl
    have qgx1 := (gx.ext hE).c 1 rfl
    have qgx2 := (gx.ext hE).c 2 rfl
    simp only [putAll, List.take, List.drop, List.map, Act.put, List.setIfInBounds_toArray, List.set_cons_zero, List.set_cons_succ]
    go_simp
    exact hR _ _ (Ext.refl _) (rfl) trivial
  case o15 =>
    intro x0 x1 x2 x3 x4 x5 x6 x7 x8 x9 x10 x11 x12 x13 x14 x15 x16 x17 x18 x19 x20 x21 x22 x23 x24 x25 x26 x27 x28 x29 x30 x31 w' hE
    rintro rfl rfl R hR
    simp only [putAll, List.take, List.drop, List.map, Act.put, List.setIfInBounds_toArray, List.set_cons_zero, List.set_cons_succ]
    go_simp
    exact hR _ _ (Ext.refl _) (rfl) trivial
  case o16 =>
    intro x0 x1 x2 x3 x4 x5 x6 x7 x8 x9 x10 x11 x12 x13 x14 x15 x16 x17 x18 x19 x20 x21 x22 x23 x24 x25 x26 x27 x28 x29 x30 x31 w' hE
    rintro rfl rfl rfl R hR
    simp only [putAll, List.take, List.drop, List.map, Act.put, List.setIfInBounds_toArray, List.set_cons_zero, List.set_cons_succ]
    go_simp
    exact hR _ _ (Ext.refl _) (rfl) trivial
  case o17 =>
    intro x0 x1 x2 x3 x4 x5 x6 x7 x8 x9 x10 x11 x12 x13 x14 x15 x16 x17 x18 x19 x20 x21 x22 x23 x24 x25 x26 x27 x28 x29 x30 x31 w' hE
    rintro rfl rfl R hR
    simp only [putAll, List.take, List.drop, List.map, Act.put, List.setIfInBounds_toArray, List.set_cons_zero, List.set_cons_succ]
    go_simp
    exact hR _ _ (Ext.refl _) (rfl) trivial
  case o18 =>
    intro x0 x1 x2 x3 x4 x5 x6 x7 x8 x9 x10 x11 x12 x13 x14 x15 x16 x17 x18 x19 x20 x21 x22 x23 x24 x25 x26 x27 x28 x29 x30 x31 w' hE
    rintro rfl rfl R hR
    simp only [putAll, List.take, List.drop, List.map, Act.put, List.setIfInBounds_toArray, List.set_cons_zero, List.set_cons_succ]
    go_simp
    exact hR _ _ (Ext.refl _) (rfl) trivial
  case o19 =>
    intro x0 x1 x2 x3 x4 x5 x6 x7 x8 x9 x10 x11 x12 x13 x14 x15 x16 x17 x18 x19 x20 x21 x22 x23 x24 x25 x26 x27 x28 x29 x30 x31 w' hE
    rintro rfl R hR
    have qgi0 := (gi.ext hE).c 0 rfl
    have qgi1 := (gi.ext hE).c 1 rfl
    simp only [putAll, List.take, List.drop, List.map, Act.put, List.setIfInBounds_toArray, List.set_cons_zero, List.set_cons_succ]
    go_simp
    exact hR _ _ (Ext.refl _) (rfl) trivial
  case o20 =>
    intro x0 x1 x2 x3 x4 x5 x6 x7 x8 x9 x10 x11 x12 x13 x14 x15 x16 x17 x18 x19 x20 x21 x22 x23 x24 x25 x26 x27 x28 x29 x30 x31 w' hE
    rintro rfl rfl _ R hR
    simp only [putAll, List.take, List.drop, List.map, Act.put, List.setIfInBounds_toArray, List.set_cons_zero, List.set_cons_succ]
    go_simp
    refine (depth_c ⟨ib, ip, rfl, hi.ext hE⟩).mono ?_
    rintro _ w'' ⟨v, rfl, hv, hb⟩
    exact hR _ _ hb hv trivial
  case o21 =>
    intro x0 x1 x2 x3 x4 x5 x6 x7 x8 x9 x10 x11 x12 x13 x14 x15 x16 x17 x18 x19 x20 x21 x22 x23 x24 x25 x26 x27 x28 x29 x30 x31 w' hE
    rintro rfl R hR
    simp only [putAll, List.take, List.drop, List.map, Act.put, List.setIfInBounds_toArray, List.set_cons_zero, List.set_cons_succ]
    go_simp
    exact hR _ _ (Ext.refl _) (rfl) trivial
  case o22 =>
    intro x0 x1 x2 x3 x4 x5 x6 x7 x8 x9 x10 x11 x12 x13 x14 x15 x16 x17 x18 x19 x20 x21 x22 x23 x24 x25 x26 x27 x28 x29 x30 x31 w' hE
    rintro rfl rfl rfl R hR
    simp only [putAll, List.take, List.drop, List.map, Act.put, List.setIfInBounds_toArray, List.set_cons_zero, List.set_cons_succ]
    go_simp
    refine (rdepth_c _ hd _ _ ⟨_, rfl, hx0.ext (hx.trans hE)⟩).mono ?_
    rintro _ w'' ⟨v, rfl, hv, hb⟩
    exact hR _ _ hb hv trivial
  case o23 =>
    intro x0 x1 x2 x3 x4 x5 x6 x7 x8 x9 x10 x11 x12 x13 x14 x15 x16 x17 x18 x19 x20 x21 x22 x23 x24 x25 x26 x27 x28 x29 x30 x31 w' hE
    rintro rfl rfl rfl R hR
    simp only [putAll, List.take, List.drop, List.map, Act.put, List.setIfInBounds_toArray, List.set_cons_zero, List.set_cons_succ]
    go_simp
    exact hR _ _ (Ext.refl _) (rfl) trivial
  case o24 =>
    intro x0 x1 x2 x3 x4 x5 x6 x7 x8 x9 x10 x11 x12 x13 x14 x15 x16 x17 x18 x19 x20 x21 x22 x23 x24 x25 x26 x27 x28 x29 x30 x31 w' hE
    rintro rfl rfl R hR
    simp only [putAll, List.take, List.drop, List.map, Act.put, List.setIfInBounds_toArray, List.set_cons_zero, List.set_cons_succ]
    go_simp
    exact hR _ _ (Ext.refl _) (rfl) trivial
  case o25 =>
    intro x0 x1 x2 x3 x4 x5 x6 x7 x8 x9 x10 x11 x12 x13 x14 x15 x16 x17 x18 x19 x20 x21 x22 x23 x24 x25 x26 x27 x28 x29 x30 x31 w' hE
    rintro rfl rfl R hR
    simp only [putAll, List.take, List.drop, List.map, Act.put, List.setIfInBounds_toArray, List.set_cons_zero, List.set_cons_succ]
    go_simp
    exact hR _ _ (Ext.refl _) (rfl) trivial
  case o26 =>
    intro x0 x1 x2 x3 x4 x5 x6 x7 x8 x9 x10 x11 x12 x13 x14 x15 x16 x17 x18 x19 x20 x21 x22 x23 x24 x25 x26 x27 x28 x29 x30 x31 w' hE
    rintro rfl R hR
    have qgi0 := (gi.ext hE).c 0 rfl
    have qgi1 := (gi.ext hE).c 1 rfl
    simp only [putAll, List.take, List.drop, List.map, Act.put, List.setIfInBounds_toArray, List.set_cons_zero, List.set_cons_succ]
    go_simp
    exact hR _ _ (Ext.refl _) (rfl) trivial
  case o27 =>
    intro x0 x1 x2 x3 x4 x5 x6 x7 x8 x9 x10 x11 x12 x13 x14 x15 x16 x17 x18 x19 x20 x21 x22 x23 x24 x25 x26 x27 x28 x29 x30 x31 w' hE
    rintro rfl rfl _ R hR
    simp only [putAll, List.take, List.drop, List.map, Act.put, List.setIfInBounds_toArray, List.set_cons_zero, List.set_cons_succ]
    go_simp
    refine (text_c ⟨ib, ip, rfl, hi.ext hE⟩ (by omega)).mono ?_
    rintro _ w'' ⟨v, rfl, hv, hb⟩
    exact hR _ _ hb hv trivial
  case o28 =>
    intro x0 x1 x2 x3 x4 x5 x6 x7 x8 x9 x10 x11 x12 x13 x14 x15 x16 x17 x18 x19 x20 x21 x22 x23 x24 x25 x26 x27 x28 x29 x30 x31 w' hE
    rintro rfl R hR
    simp only [putAll, List.take, List.drop, List.map, Act.put, List.setIfInBounds_toArray, List.set_cons_zero, List.set_cons_succ]
    go_simp
    exact hR _ _ (Ext.refl _) (rfl) trivial
  case o29 =>
    intro x0 x1 x2 x3 x4 x5 x6 x7 x8 x9 x10 x11 x12 x13 x14 x15 x16 x17 x18 x19 x20 x21 x22 x23 x24 x25 x26 x27 x28 x29 x30 x31 w' hE
    rintro rfl rfl rfl R hR
    simp only [putAll, List.take, List.drop, List.map, Act.put, List.setIfInBounds_toArray, List.set_cons_zero, List.set_cons_succ]
    go_simp
    refine (rtext_c _ hn _ _ ⟨_, rfl, hx0.ext (hx.trans hE)⟩).mono ?_
    rintro _ w'' ⟨v, rfl, hv, hb⟩
    exact hR _ _ hb hv trivial
  case o30 =>
    intro x0 x1 x2 x3 x4 x5 x6 x7 x8 x9 x10 x11 x12 x13 x14 x15 x16 x17 x18 x19 x20 x21 x22 x23 x24 x25 x26 x27 x28 x29 x30 x31 w' hE
    rintro rfl rfl rfl R hR
    simp only [putAll, List.take, List.drop, List.map, Act.put, List.setIfInBounds_toArray, List.set_cons_zero, List.set_cons_succ]
    go_simp
    exact hR _ _ (Ext.refl _) (rfl) trivial
  case o31 =>
    intro x0 x1 x2 x3 x4 x5 x6 x7 x8 x9 x10 x11 x12 x13 x14 x15 x16 x17 x18 x19 x20 x21 x22 x23 x24 x25 x26 x27 x28 x29 x30 x31 w' hE
    rintro rfl rfl R hR
    simp only [putAll, List.take, List.drop, List.map, Act.put, List.setIfInBounds_toArray, List.set_cons_zero, List.set_cons_succ]
    go_simp
    exact hR _ _ (Ext.refl _) (rfl) trivial
  case rest =>
    intro x0 x1 x2 x3 x4 x5 x6 x7 x8 x9 x10 x11 x12 x13 x14 x15 x16 x17 x18 x19 x20 x21 x22 x23 x24 x25 x26 x27 x28 x29 x30 x31 w1 hb
    rintro rfl rfl rfl rfl rfl rfl rfl rfl rfl rfl rfl rfl rfl rfl rfl rfl rfl rfl rfl rfl rfl rfl rfl rfl rfl rfl rfl rfl rfl rfl rfl rfl hap
    replace hx := Ext.trans hx hb; replace gx := gx.ext hb; replace gi := gi.ext hb; replace hi := (PRep T.zero ib ip).mono hb hi; have s3 := hb.size
    clear hap
    simp only [putAll, List.take, List.drop, List.map, Act.put, List.setIfInBounds_toArray, List.set_cons_zero, List.set_cons_succ]
    have gx_0 := gx.c 0 rfl; have gxf0 := gx.f 0; have gx_1 := gx.c 1 rfl; have gxf1 := gx.f 1; have gx_2 := gx.c 2 rfl; have gxf2 := gx.f 2; have gxl := gx.lt; have gi_0 := gi.c 0 rfl; have gif0 := gi.f 0; have gi_1 := gi.c 1 rfl; have gif1 := gi.f 1; have gil := gi.lt
    go_wp2_with fail
    clear gx_0 gxf0 gx_1 gxf1 gx_2 gxf2 gxl gi_0 gif0 gi_1 gif1 gil
    have gxlt4 := gx.lt
    have gilt4 := gi.lt
    refine wp_facts 42 [] [PP.eq (.pointer (some ⟨k, 0, none⟩)), PP.eq (.pointer (some ⟨k, 0, none⟩)), PP.eq (.pointer (some ⟨k, 0, none⟩)), PP.eq (.int .i64 0), PP.eq (.bool true), PP.eq (.bool true), PP.eq (.agg #[.bool ib, .pointer ip]), (IsId T.zero).toPP, PP.eq (.agg #[.bool ib, .pointer ip]), PP.eq (.bool true), PP.eq (.bool true), PP.eq (.bool true), PP.eq (.agg #[.bool ib, .pointer ip]), (IsId T.zero).toPP, PP.eq (.agg #[.bool ib, .pointer ip]), PP.eq (.bool true), PP.eq (.bool true), PP.eq (.bool true), PP.eq (undef), PP.eq (undef), PP.eq (undef), PP.eq (undef), PP.eq (undef), PP.eq (undef), PP.eq (undef), PP.eq (undef), PP.eq (undef), PP.eq (undef), PP.eq (undef), PP.eq (undef), PP.eq (undef), PP.eq (undef), PP.eq (undef), PP.eq (undef), PP.eq (undef), PP.eq (undef), PP.eq (undef), PP.eq (undef), PP.eq (undef), PP.eq (undef), PP.eq (undef), PP.eq (.bool true)] (by kernel_rfl) (by kernel_rfl) ⟨?o0, ?o1, ?o2, ?o3, ?o4, ?o5, ?o6, ?o7, ?o8, ?o9, ?o10, ?o11, ?o12, ?o13, ?o14, ?o15, ?o16, ?o17, ?o18, ?o19, ?o20, ?o21, ?o22, ?o23, ?o24, ?o25, ?o26, ?o27, ?o28, ?o29, ?o30, ?o31, ?o32, ?o33, ?o34, ?o35, ?o36, ?o37, ?o38, ?o39, ?o40, ?o41, trivial⟩ ?rest
    case o0 =>
      intro x0 x1 x2 x3 x4 x5 x6 x7 x8 x9 x10 x11 x12 x13 x14 x15 x16 x17 x18 x19 x20 x21 x22 x23 x24 x25 x26 x27 x28 x29 x30 x31 x32 x33 x34 x35 x36 x37 x38 x39 x40 x41 w' hE
      rintro R hR
      simp only [putAll, List.take, List.drop, List.map, Act.put, List.setIfInBounds_toArray, List.set_cons_zero, List.set_cons_succ]
      go_simp
      exact hR _ _ (Ext.refl _) (rfl) trivial
    case o1 =>
      intro x0 x1 x2 x3 x4 x5 x6 x7 x8 x9 x10 x11 x12 x13 x14 x15 x16 x17 x18 x19 x20 x21 x22 x23 x24 x25 x26 x27 x28 x29 x30 x31 x32 x33 x34 x35 x36 x37 x38 x39 x40 x41 w' hE
      rintro rfl R hR
      simp only [putAll, List.take, List.drop, List.map, Act.put, List.setIfInBounds_toArray, List.set_cons_zero, List.set_cons_succ]
      go_simp
      exact hR _ _ (Ext.refl _) (rfl) trivial
    case o2 =>
      intro x0 x1 x2 x3 x4 x5 x6 x7 x8 x9 x10 x11 x12 x13 x14 x15 x16 x17 x18 x19 x20 x21 x22 x23 x24 x25 x26 x27 x28 x29 x30 x31 x32 x33 x34 x35 x36 x37 x38 x39 x40 x41 w' hE
      rintro rfl R hR
      simp only [putAll, List.take, List.drop, List.map, Act.put, List.setIfInBounds_toArray, List.set_cons_zero, List.set_cons_succ]
      go_simp
      exact hR _ _ (Ext.refl _) (rfl) trivial
    case o3 =>
      intro x0 x1 x2 x3 x4 x5 x6 x7 x8 x9 x10 x11 x12 x13 x14 x15 x16 x17 x18 x19 x20 x21 x22 x23 x24 x25 x26 x27 x28 x29 x30 x31 x32 x33 x34 x35 x36 x37 x38 x39 x40 x41 w' hE
      rintro rfl R hR
      have qgx0 := (gx.ext hE).c 0 rfl
      have qgx1 := (gx.ext hE).c 1 rfl
      have qgx2 := (gx.ext hE).c 2 rfl
      simp only [putAll, List.take, List.drop, List.map, Act.put, List.setIfInBounds_toArray, List.set_cons_zero, List.set_cons_succ]
      go_simp
      exact hR _ _ (Ext.refl _) (rfl) trivial
    case o4 =>
      intro x0 x1 x2 x3 x4 x5 x6 x7 x8 x9 x10 x11 x12 x13 x14 x15 x16 x17 x18 x19 x20 x21 x22 x23 x24 x25 x26 x27 x28 x29 x30 x31 x32 x33 x34 x35 x36 x37 x38 x39 x40 x41 w' hE
      rintro rfl R hR
      simp only [putAll, List.take, List.drop, List.map, Act.put, List.setIfInBounds_toArray, List.set_cons_zero, List.set_cons_succ]
      go_simp
      exact hR _ _ (Ext.refl _) (rfl) trivial
    case o5 =>
      intro x0 x1 x2 x3 x4 x5 x6 x7 x8 x9 x10 x11 x12 x13 x14 x15 x16 x17 x18 x19 x20 x21 x22 x23 x24 x25 x26 x27 x28 x29 x30 x31 x32 x33 x34 x35 x36 x37 x38 x39 x40 x41 w' hE
      rintro rfl R hR
      simp only [putAll, List.take, List.drop, List.map, Act.put, List.setIfInBounds_toArray, List.set_cons_zero, List.set_cons_succ]
      go_simp
      exact hR _ _ (Ext.refl _) (rfl) trivial
    case o6 =>
      intro x0 x1 x2 x3 x4 x5 x6 x7 x8 x9 x10 x11 x12 x13 x14 x15 x16 x17 x18 x19 x20 x21 x22 x23 x24 x25 x26 x27 x28 x29 x30 x31 x32 x33 x34 x35 x36 x37 x38 x39 x40 x41 w' hE
      rintro rfl R hR
      have qgi0 := (gi.ext hE).c 0 rfl
      have qgi1 := (gi.ext hE).c 1 rfl
      simp only [putAll, List.take, List.drop, List.map, Act.put, List.setIfInBounds_toArray, List.set_cons_zero, List.set_cons_succ]
      go_simp
      exact hR _ _ (Ext.refl _) (rfl) trivial
    case o7 =>
      intro x0 x1 x2 x3 x4 x5 x6 x7 x8 x9 x10 x11 x12 x13 x14 x15 x16 x17 x18 x19 x20 x21 x22 x23 x24 x25 x26 x27 x28 x29 x30 x31 x32 x33 x34 x35 x36 x37 x38 x39 x40 x41 w' hE
      rintro rfl rfl _ R hR
      simp only [putAll, List.take, List.drop, List.map, Act.put, List.setIfInBounds_toArray, List.set_cons_zero, List.set_cons_succ]
      go_simp
      refine (left_c ⟨ib, ip, rfl, hi.ext hE⟩).mono ?_
      rintro _ w'' ⟨v, rfl, hv, hb⟩
      exact hR _ _ hb hv trivial
    case o8 =>
      intro x0 x1 x2 x3 x4 x5 x6 x7 x8 x9 x10 x11 x12 x13 x14 x15 x16 x17 x18 x19 x20 x21 x22 x23 x24 x25 x26 x27 x28 x29 x30 x31 x32 x33 x34 x35 x36 x37 x38 x39 x40 x41 w' hE
      rintro rfl R hR
      have qgi0 := (gi.ext hE).c 0 rfl
      have qgi1 := (gi.ext hE).c 1 rfl
      simp only [putAll, List.take, List.drop, List.map, Act.put, List.setIfInBounds_toArray, List.set_cons_zero, List.set_cons_succ]
      go_simp
      exact hR _ _ (Ext.refl _) (rfl) trivial
    case o9 =>
      intro x0 x1 x2 x3 x4 x5 x6 x7 x8 x9 x10 x11 x12 x13 x14 x15 x16 x17 x18 x19 x20 x21 x22 x23 x24 x25 x26 x27 x28 x29 x30 x31 x32 x33 x34 x35 x36 x37 x38 x39 x40 x41 w' hE
      rintro d7 rfl _ rfl R hR
      simp only [putAll, List.take, List.drop, List.map, Act.put, List.setIfInBounds_toArray, List.set_cons_zero, List.set_cons_succ]
      go_simp
      refine (same_c d7 ⟨ib, ip, rfl, hi.ext hE⟩).mono ?_
      rintro _ w'' ⟨v, rfl, hv, hb⟩
      exact hR _ _ hb hv trivial
    case o10 =>
      intro x0 x1 x2 x3 x4 x5 x6 x7 x8 x9 x10 x11 x12 x13 x14 x15 x16 x17 x18 x19 x20 x21 x22 x23 x24 x25 x26 x27 x28 x29 x30 x31 x32 x33 x34 x35 x36 x37 x38 x39 x40 x41 w' hE
      rintro rfl rfl R hR
      simp only [putAll, List.take, List.drop, List.map, Act.put, List.setIfInBounds_toArray, List.set_cons_zero, List.set_cons_succ]
      go_simp
      exact hR _ _ (Ext.refl _) (rfl) trivial
    case o11 =>
      intro x0 x1 x2 x3 x4 x5 x6 x7 x8 x9 x10 x11 x12 x13 x14 x15 x16 x17 x18 x19 x20 x21 x22 x23 x24 x25 x26 x27 x28 x29 x30 x31 x32 x33 x34 x35 x36 x37 x38 x39 x40 x41 w' hE
      rintro rfl rfl R hR
      simp only [putAll, List.take, List.drop, List.map, Act.put, List.setIfInBounds_toArray, List.set_cons_zero, List.set_cons_succ]
      go_simp
      exact hR _ _ (Ext.refl _) (rfl) trivial
    case o12 =>
      intro x0 x1 x2 x3 x4 x5 x6 x7 x8 x9 x10 x11 x12 x13 x14 x15 x16 x17 x18 x19 x20 x21 x22 x23 x24 x25 x26 x27 x28 x29 x30 x31 x32 x33 x34 x35 x36 x37 x38 x39 x40 x41 w' hE
      rintro rfl R hR
      have qgi0 := (gi.ext hE).c 0 rfl
      have qgi1 := (gi.ext hE).c 1 rfl
      simp only [putAll, List.take, List.drop, List.map, Act.put, List.setIfInBounds_toArray, List.set_cons_zero, List.set_cons_succ]
      go_simp
      exact hR _ _ (Ext.refl _) (rfl) trivial
    case o13 =>
      intro x0 x1 x2 x3 x4 x5 x6 x7 x8 x9 x10 x11 x12 x13 x14 x15 x16 x17 x18 x19 x20 x21 x22 x23 x24 x25 x26 x27 x28 x29 x30 x31 x32 x33 x34 x35 x36 x37 x38 x39 x40 x41 w' hE
      rintro rfl rfl _ R hR
      simp only [putAll, List.take, List.drop, List.map, Act.put, List.setIfInBounds_toArray, List.set_cons_zero, List.set_cons_succ]
      go_simp
      refine (right_c ⟨ib, ip, rfl, hi.ext hE⟩).mono ?_
      rintro _ w'' ⟨v, rfl, hv, hb⟩
      exact hR _ _ hb hv trivial
    case o14 =>
      intro x0 x1 x2 x3 x4 x5 x6 x7 x8 x9 x10 x11 x12 x13 x14 x15 x16 x17 x18 x19 x20 x21 x22 x23 x24 x25 x26 x27 x28 x29 x30 x31 x32 x33 x34 x35 x36 x37 x38 x39 x40 x41 w' hE
      rintro rfl R hR
      have qgi0 := (gi.ext hE).c 0 rfl
      have qgi1 := (gi.ext hE).c 1 rfl
      simp only [putAll, List.take, List.drop, List.map, Act.put, List.setIfInBounds_toArray, List.set_cons_zero, List.set_cons_succ]
      go_simp
      exact hR _ _ (Ext.refl _) (rfl) trivial
    case o15 =>
      intro x0 x1 x2 x3 x4 x5 x6 x7 x8 x9 x10 x11 x12 x13 x14 x15 x16 x17 x18 x19 x20 x21 x22 x23 x24 x25 x26 x27 x28 x29 x30 x31 x32 x33 x34 x35 x36 x37 x38 x39 x40 x41 w' hE
      rintro d13 rfl _ rfl R hR
      simp only [putAll, List.take, List.drop, List.map, Act.put, List.setIfInBounds_toArray, List.set_cons_zero, List.set_cons_succ]
      go_simp
      refine (same_c d13 ⟨ib, ip, rfl, hi.ext hE⟩).mono ?_
      rintro _ w'' ⟨v, rfl, hv, hb⟩
      exact hR _ _ hb hv trivial
    case o16 =>
      intro x0 x1 x2 x3 x4 x5 x6 x7 x8 x9 x10 x11 x12 x13 x14 x15 x16 x17 x18 x19 x20 x21 x22 x23 x24 x25 x26 x27 x28 x29 x30 x31 x32 x33 x34 x35 x36 x37 x38 x39 x40 x41 w' hE
      rintro rfl rfl R hR
      simp only [putAll, List.take, List.drop, List.map, Act.put, List.setIfInBounds_toArray, List.set_cons_zero, List.set_cons_succ]
      go_simp
      exact hR _ _ (Ext.refl _) (rfl) trivial
    case o17 =>
      intro x0 x1 x2 x3 x4 x5 x6 x7 x8 x9 x10 x11 x12 x13 x14 x15 x16 x17 x18 x19 x20 x21 x22 x23 x24 x25 x26 x27 x28 x29 x30 x31 x32 x33 x34 x35 x36 x37 x38 x39 x40 x41 w' hE
      rintro rfl rfl R hR
      simp only [putAll, List.take, List.drop, List.map, Act.put, List.setIfInBounds_toArray, List.set_cons_zero, List.set_cons_succ]
      go_simp
      exact hR _ _ (Ext.refl _) (rfl) trivial
    case o18 =>
      intro x0 x1 x2 x3 x4 x5 x6 x7 x8 x9 x10 x11 x12 x13 x14 x15 x16 x17 x18 x19 x20 x21 x22 x23 x24 x25 x26 x27 x28 x29 x30 x31 x32 x33 x34 x35 x36 x37 x38 x39 x40 x41 w' hE
      rintro rfl R hR
      simp only [putAll, List.take, List.drop, List.map, Act.put, List.setIfInBounds_toArray, List.set_cons_zero, List.set_cons_succ]
      go_simp
      exact hR _ _ (Ext.refl _) (rfl) trivial
    case o19 =>
      intro x0 x1 x2 x3 x4 x5 x6 x7 x8 x9 x10 x11 x12 x13 x14 x15 x16 x17 x18 x19 x20 x21 x22 x23 x24 x25 x26 x27 x28 x29 x30 x31 x32 x33 x34 x35 x36 x37 x38 x39 x40 x41 w' hE
      rintro rfl rfl R hR
      simp only [putAll, List.take, List.drop, List.map, Act.put, List.setIfInBounds_toArray, List.set_cons_zero, List.set_cons_succ]
      go_simp
      exact hR _ _ (Ext.refl _) (rfl) trivial
    case o20 =>
      intro x0 x1 x2 x3 x4 x5 x6 x7 x8 x9 x10 x11 x12 x13 x14 x15 x16 x17 x18 x19 x20 x21 x22 x23 x24 x25 x26 x27 x28 x29 x30 x31 x32 x33 x34 x35 x36 x37 x38 x39 x40 x41 w' hE
      rintro rfl rfl R hR
      simp only [putAll, List.take, List.drop, List.map, Act.put, List.setIfInBounds_toArray, List.set_cons_zero, List.set_cons_succ]
      go_simp
      exact hR _ _ (Ext.refl _) (rfl) trivial
    case o21 =>
      intro x0 x1 x2 x3 x4 x5 x6 x7 x8 x9 x10 x11 x12 x13 x14 x15 x16 x17 x18 x19 x20 x21 x22 x23 x24 x25 x26 x27 x28 x29 x30 x31 x32 x33 x34 x35 x36 x37 x38 x39 x40 x41 w' hE
      rintro rfl rfl R hR
      simp only [putAll, List.take, List.drop, List.map, Act.put, List.setIfInBounds_toArray, List.set_cons_zero, List.set_cons_succ]
      go_simp
      exact hR _ _ (Ext.refl _) (rfl) trivial
    case o22 =>
      intro x0 x1 x2 x3 x4 x5 x6 x7 x8 x9 x10 x11 x12 x13 x14 x15 x16 x17 x18 x19 x20 x21 x22 x23 x24 x25 x26 x27 x28 x29 x30 x31 x32 x33 x34 x35 x36 x37 x38 x39 x40 x41 w' hE
      rintro rfl rfl R hR
      simp only [putAll, List.take, List.drop, List.map, Act.put, List.setIfInBounds_toArray, List.set_cons_zero, List.set_cons_succ]
      go_simp
      exact hR _ _ (Ext.refl _) (rfl) trivial
    case o23 =>
      intro x0 x1 x2 x3 x4 x5 x6 x7 x8 x9 x10 x11 x12 x13 x14 x15 x16 x17 x18 x19 x20 x21 x22 x23 x24 x25 x26 x27 x28 x29 x30 x31 x32 x33 x34 x35 x36 x37 x38 x39 x40 x41 w' hE
      rintro rfl rfl _ R hR
      simp only [putAll, List.take, List.drop, List.map, Act.put, List.setIfInBounds_toArray, List.set_cons_zero, List.set_cons_succ]
      go_simp
      exact hR _ _ (Ext.refl _) (rfl) trivial
    case o24 =>
      intro x0 x1 x2 x3 x4 x5 x6 x7 x8 x9 x10 x11 x12 x13 x14 x15 x16 x17 x18 x19 x20 x21 x22 x23 x24 x25 x26 x27 x28 x29 x30 x31 x32 x33 x34 x35 x36 x37 x38 x39 x40 x41 w' hE
      rintro rfl R hR
      simp only [putAll, List.take, List.drop, List.map, Act.put, List.setIfInBounds_toArray, List.set_cons_zero, List.set_cons_succ]
      go_simp
      exact hR _ _ (Ext.refl _) (rfl) trivial
    case o25 =>
      intro x0 x1 x2 x3 x4 x5 x6 x7 x8 x9 x10 x11 x12 x13 x14 x15 x16 x17 x18 x19 x20 x21 x22 x23 x24 x25 x26 x27 x28 x29 x30 x31 x32 x33 x34 x35 x36 x37 x38 x39 x40 x41 w' hE
      rintro rfl rfl _ R hR
      simp only [putAll, List.take, List.drop, List.map, Act.put, List.setIfInBounds_toArray, List.set_cons_zero, List.set_cons_succ]
      go_simp
      exact hR _ _ (Ext.refl _) (rfl) trivial
    case o26 =>
      intro x0 x1 x2 x3 x4 x5 x6 x7 x8 x9 x10 x11 x12 x13 x14 x15 x16 x17 x18 x19 x20 x21 x22 x23 x24 x25 x26 x27 x28 x29 x30 x31 x32 x33 x34 x35 x36 x37 x38 x39 x40 x41 w' hE
      rintro rfl R hR
      simp only [putAll, List.take, List.drop, List.map, Act.put, List.setIfInBounds_toArray, List.set_cons_zero, List.set_cons_succ]
      go_simp
      exact hR _ _ (Ext.refl _) (rfl) trivial
    case o27 =>
      intro x0 x1 x2 x3 x4 x5 x6 x7 x8 x9 x10 x11 x12 x13 x14 x15 x16 x17 x18 x19 x20 x21 x22 x23 x24 x25 x26 x27 x28 x29 x30 x31 x32 x33 x34 x35 x36 x37 x38 x39 x40 x41 w' hE
      rintro rfl rfl R hR
      simp only [putAll, List.take, List.drop, List.map, Act.put, List.setIfInBounds_toArray, List.set_cons_zero, List.set_cons_succ]
      go_simp
      exact hR _ _ (Ext.refl _) (rfl) trivial
    case o28 =>
      intro x0 x1 x2 x3 x4 x5 x6 x7 x8 x9 x10 x11 x12 x13 x14 x15 x16 x17 x18 x19 x20 x21 x22 x23 x24 x25 x26 x27 x28 x29 x30 x31 x32 x33 x34 x35 x36 x37 x38 x39 x40 x41 w' hE
      rintro rfl rfl R hR
      simp only [putAll, List.take, List.drop, List.map, Act.put, List.setIfInBounds_toArray, List.set_cons_zero, List.set_cons_succ]
      go_simp
      exact hR _ _ (Ext.refl _) (rfl) trivial
    case o29 =>
      intro x0 x1 x2 x3 x4 x5 x6 x7 x8 x9 x10 x11 x12 x13 x14 x15 x16 x17 x18 x19 x20 x21 x22 x23 x24 x25 x26 x27 x28 x29 x30 x31 x32 x33 x34 x35 x36 x37 x38 x39 x40 x41 w' hE
      rintro rfl rfl R hR
      simp only [putAll, List.take, List.drop, List.map, Act.put, List.setIfInBounds_toArray, List.set_cons_zero, List.set_cons_succ]
      go_simp
      exact hR _ _ (Ext.refl _) (rfl) trivial
    case o30 =>
      intro x0 x1 x2 x3 x4 x5 x6 x7 x8 x9 x10 x11 x12 x13 x14 x15 x16 x17 x18 x19 x20 x21 x22 x23 x24 x25 x26 x27 x28 x29 x30 x31 x32 x33 x34 x35 x36 x37 x38 x39 x40 x41 w' hE
      rintro rfl rfl _ rfl R hR
      simp only [putAll, List.take, List.drop, List.map, Act.put, List.setIfInBounds_toArray, List.set_cons_zero, List.set_cons_succ]
      go_simp
      exact hR _ _ (Ext.refl _) (rfl) trivial
    case o31 =>
      intro x0 x1 x2 x3 x4 x5 x6 x7 x8 x9 x10 x11 x12 x13 x14 x15 x16 x17 x18 x19 x20 x21 x22 x23 x24 x25 x26 x27 x28 x29 x30 x31 x32 x33 x34 x35 x36 x37 x38 x39 x40 x41 w' hE
      rintro rfl rfl rfl R hR
      simp only [putAll, List.take, List.drop, List.map, Act.put, List.setIfInBounds_toArray, List.set_cons_zero, List.set_cons_succ]
      go_simp
      exact hR _ _ (Ext.refl _) (rfl) trivial
    case o32 =>
      intro x0 x1 x2 x3 x4 x5 x6 x7 x8 x9 x10 x11 x12 x13 x14 x15 x16 x17 x18 x19 x20 x21 x22 x23 x24 x25 x26 x27 x28 x29 x30 x31 x32 x33 x34 x35 x36 x37 x38 x39 x40 x41 w' hE
      rintro rfl rfl rfl R hR
      simp only [putAll, List.take, List.drop, List.map, Act.put, List.setIfInBounds_toArray, List.set_cons_zero, List.set_cons_succ]
      go_simp
      exact hR _ _ (Ext.refl _) (rfl) trivial
    case o33 =>
      intro x0 x1 x2 x3 x4 x5 x6 x7 x8 x9 x10 x11 x12 x13 x14 x15 x16 x17 x18 x19 x20 x21 x22 x23 x24 x25 x26 x27 x28 x29 x30 x31 x32 x33 x34 x35 x36 x37 x38 x39 x40 x41 w' hE
      rintro rfl R hR
      simp only [putAll, List.take, List.drop, List.map, Act.put, List.setIfInBounds_toArray, List.set_cons_zero, List.set_cons_succ]
      go_simp
      exact hR _ _ (Ext.refl _) (rfl) trivial
    case o34 =>
      intro x0 x1 x2 x3 x4 x5 x6 x7 x8 x9 x10 x11 x12 x13 x14 x15 x16 x17 x18 x19 x20 x21 x22 x23 x24 x25 x26 x27 x28 x29 x30 x31 x32 x33 x34 x35 x36 x37 x38 x39 x40 x41 w' hE
      rintro rfl rfl _ R hR
      simp only [putAll, List.take, List.drop, List.map, Act.put, List.setIfInBounds_toArray, List.set_cons_zero, List.set_cons_succ]
      go_simp
      exact hR _ _ (Ext.refl _) (rfl) trivial
    case o35 =>
      intro x0 x1 x2 x3 x4 x5 x6 x7 x8 x9 x10 x11 x12 x13 x14 x15 x16 x17 x18 x19 x20 x21 x22 x23 x24 x25 x26 x27 x28 x29 x30 x31 x32 x33 x34 x35 x36 x37 x38 x39 x40 x41 w' hE
      rintro rfl R hR
      simp only [putAll, List.take, List.drop, List.map, Act.put, List.setIfInBounds_toArray, List.set_cons_zero, List.set_cons_succ]
      go_simp
      exact hR _ _ (Ext.refl _) (rfl) trivial
    case o36 =>
      intro x0 x1 x2 x3 x4 x5 x6 x7 x8 x9 x10 x11 x12 x13 x14 x15 x16 x17 x18 x19 x20 x21 x22 x23 x24 x25 x26 x27 x28 x29 x30 x31 x32 x33 x34 x35 x36 x37 x38 x39 x40 x41 w' hE
      rintro rfl rfl R hR
      simp only [putAll, List.take, List.drop, List.map, Act.put, List.setIfInBounds_toArray, List.set_cons_zero, List.set_cons_succ]
      go_simp
      exact hR _ _ (Ext.refl _) (rfl) trivial
    case o37 =>
      intro x0 x1 x2 x3 x4 x5 x6 x7 x8 x9 x10 x11 x12 x13 x14 x15 x16 x17 x18 x19 x20 x21 x22 x23 x24 x25 x26 x27 x28 x29 x30 x31 x32 x33 x34 x35 x36 x37 x38 x39 x40 x41 w' hE
      rintro rfl rfl R hR
      simp only [putAll, List.take, List.drop, List.map, Act.put, List.setIfInBounds_toArray, List.set_cons_zero, List.set_cons_succ]
      go_simp
      exact hR _ _ (Ext.refl _) (rfl) trivial
    case o38 =>
      intro x0 x1 x2 x3 x4 x5 x6 x7 x8 x9 x10 x11 x12 x13 x14 x15 x16 x17 x18 x19 x20 x21 x22 x23 x24 x25 x26 x27 x28 x29 x30 x31 x32 x33 x34 x35 x36 x37 x38 x39 x40 x41 w' hE
      rintro rfl rfl R hR
      simp only [putAll, List.take, List.drop, List.map, Act.put, List.setIfInBounds_toArray, List.set_cons_zero, List.set_cons_succ]
      go_simp
      exact hR _ _ (Ext.refl _) (rfl) trivial
    case o39 =>
      intro x0 x1 x2 x3 x4 x5 x6 x7 x8 x9 x10 x11 x12 x13 x14 x15 x16 x17 x18 x19 x20 x21 x22 x23 x24 x25 x26 x27 x28 x29 x30 x31 x32 x33 x34 x35 x36 x37 x38 x39 x40 x41 w' hE
      rintro rfl rfl _ rfl R hR
      simp only [putAll, List.take, List.drop, List.map, Act.put, List.setIfInBounds_toArray, List.set_cons_zero, List.set_cons_succ]
      go_simp
      exact hR _ _ (Ext.refl _) (rfl) trivial
    case o40 =>
      intro x0 x1 x2 x3 x4 x5 x6 x7 x8 x9 x10 x11 x12 x13 x14 x15 x16 x17 x18 x19 x20 x21 x22 x23 x24 x25 x26 x27 x28 x29 x30 x31 x32 x33 x34 x35 x36 x37 x38 x39 x40 x41 w' hE
      rintro rfl rfl rfl R hR
      simp only [putAll, List.take, List.drop, List.map, Act.put, List.setIfInBounds_toArray, List.set_cons_zero, List.set_cons_succ]
      go_simp
      exact hR _ _ (Ext.refl _) (rfl) trivial
    case o41 =>
      intro x0 x1 x2 x3 x4 x5 x6 x7 x8 x9 x10 x11 x12 x13 x14 x15 x16 x17 x18 x19 x20 x21 x22 x23 x24 x25 x26 x27 x28 x29 x30 x31 x32 x33 x34 x35 x36 x37 x38 x39 x40 x41 w' hE
      rintro rfl rfl R hR
      simp only [putAll, List.take, List.drop, List.map, Act.put, List.setIfInBounds_toArray, List.set_cons_zero, List.set_cons_succ]
      go_simp
      exact hR _ _ (Ext.refl _) (rfl) trivial
    case rest =>
      intro x0 x1 x2 x3 x4 x5 x6 x7 x8 x9 x10 x11 x12 x13 x14 x15 x16 x17 x18 x19 x20 x21 x22 x23 x24 x25 x26 x27 x28 x29 x30 x31 x32 x33 x34 x35 x36 x37 x38 x39 x40 x41 w2 hb
      rintro rfl rfl rfl rfl rfl rfl rfl _ rfl rfl rfl rfl rfl _ rfl rfl rfl rfl rfl rfl rfl rfl rfl rfl rfl rfl rfl rfl rfl rfl rfl rfl rfl rfl rfl rfl rfl rfl rfl rfl rfl rfl hap
      replace hx := Ext.trans hx hb; replace gx := gx.ext hb; replace gi := gi.ext hb; replace hi := (PRep T.zero ib ip).mono hb hi; have s5 := hb.size
      clear hap
      simp only [putAll, List.take, List.drop, List.map, Act.put, List.setIfInBounds_toArray, List.set_cons_zero, List.set_cons_succ]
      have gx_0 := gx.c 0 rfl; have gxf0 := gx.f 0; have gx_1 := gx.c 1 rfl; have gxf1 := gx.f 1; have gx_2 := gx.c 2 rfl; have gxf2 := gx.f 2; have gxl := gx.lt; have gi_0 := gi.c 0 rfl; have gif0 := gi.f 0; have gi_1 := gi.c 1 rfl; have gif1 := gi.f 1; have gil := gi.lt
      go_wp2_with fail
      clear gx_0 gxf0 gx_1 gxf1 gx_2 gxf2 gxl gi_0 gif0 gi_1 gif1 gil
      go_ret
      exact ⟨_, rfl, rfl, hx⟩

set_option maxRecDepth 100000 in
set_option maxHeartbeats 2000000 in
theorem like_o {i x : Value} {w : World} (hi : (IsId T.one).p i w) (hx0 : (IsRef T.one).p x w) (hd : (T.one).depth ≤ 1000) (hn : (textT T.one).length ≤ 1000000000) :
    Calls Try.prog 15 #[i, x] w (Ret w (PP.eq (.bool true)).p) := by
  obtain ⟨ib, ip, rfl, hi⟩ := hi
  obtain ⟨p, rfl, hx0⟩ := hx0
  obtain ⟨k, rfl, gx⟩ := id hx0
  go_enter Try.func15, Try.ntmps15
  have gx_0 := gx.c 0 rfl; have gxf0 := gx.f 0; have gx_1 := gx.c 1 rfl; have gxf1 := gx.f 1; have gx_2 := gx.c 2 rfl; have gxf2 := gx.f 2; have gxl := gx.lt
  go_wp2_with fail
  clear gx_0 gxf0 gx_1 gxf1 gx_2 gxf2 gxl
  have gxlt0 := gx.lt
  obtain ⟨W, hW, hb, z0, gi⟩ := box1 w [.bool ib, .pointer ip] 26
  rw [hW]; clear hW
  have hx := hb; replace gx := gx.ext hb; replace hi := (PRep T.one ib ip).mono hb hi; have s1 := hb.size
  have hne : ∀ d : Nat, Hid (((d : Int) != (d : Int)) = false) := fun d => by unfold Hid; simp
  have gxlt2 := gx.lt
  have gilt2 := gi.lt
  refine wp_facts 32 [] [PP.eq (.agg #[.bool ib, .pointer ip]), PP.eq (.bool false), PP.eq (.pointer (some ⟨k, 0, none⟩)), PP.eq (.pointer (some ⟨k, 0, none⟩)), PP.eq (.pointer (some ⟨k, 0, none⟩)), PP.eq (.int .i64 1), PP.eq (.bool false), PP.eq (.bool false), PP.eq (.bool false), PP.eq (.agg #[.bool ib, .pointer ip]), PP.eq (.bool true), PP.eq (.pointer (some ⟨k, 0, none⟩)), PP.eq (.pointer (some ⟨k, 0, none⟩)), PP.eq (.pointer (some ⟨k, 0, none⟩)), PP.eq (.int .i64 1), PP.eq (.bool true), PP.eq (.bool false), PP.eq (.bool false), PP.eq (.bool false), PP.eq (.agg #[.bool ib, .pointer ip]), PP.eq (.int .i64 ((T.one).depth : Nat)), PP.eq (.pointer (some ⟨k, 0, none⟩)), PP.eq (.int .i64 ((T.one).depth : Nat)), PP.eq (.bool false), PP.eq (.bool false), PP.eq (.bool false), PP.eq (.agg #[.bool ib, .pointer ip]), PP.eq (sv (textT (T.one))), PP.eq (.pointer (some ⟨k, 0, none⟩)), PP.eq (sv (textT (T.one))), PP.eq (.bool false), PP.eq (.bool false)] (by kernel_rfl) (by kernel_rfl) ⟨?o0, ?o1, ?o2, ?o3, ?o4, ?o5, ?o6, ?o7, ?o8, ?o9, ?o10, ?o11, ?o12, ?o13, ?o14, ?o15, ?o16, ?o17, ?o18, ?o19, ?o20, ?o21, ?o22, ?o23, ?o24, ?o25, ?o26, ?o27, ?o28, ?o29, ?o30, ?o31, trivial⟩ ?rest
  case o0 =>
    intro x0 x1 x2 x3 x4 x5 x6 x7 x8 x9 x10 x11 x12 x13 x14 x15 x16 x17 x18 x19 x20 x21 x22 x23 x24 x25 x26 x27 x28 x29 x30 x31 w' hE
    rintro R hR
    have qgi0 := (gi.ext hE).c 0 rfl
    have qgi1 := (gi.ext hE).c 1 rfl
    simp only [putAll, List.take, List.drop, List.map, Act.put, List.setIfInBounds_toArray, List.set_cons_zero, List.set_cons_succ]
    go_simp
    exact hR _ _ (Ext.refl _) (rfl) trivial
  case o1 =>
    intro x0 x1 x2 x3 x4 x5 x6 x7 x8 x9 x10 x11 x12 x13 x14 x15 x16 x17 x18 x19 x20 x21 x22 x23 x24 x25 x26 x27 x28 x29 x30 x31 w' hE
    rintro rfl R hR
    simp only [putAll, List.take, List.drop, List.map, Act.put, List.setIfInBounds_toArray, List.set_cons_zero, List.set_cons_succ]
    go_simp
    refine (isZero_c ⟨ib, ip, rfl, hi.ext hE⟩).mono ?_
    rintro _ w'' ⟨v, rfl, hv, hb⟩
    exact hR _ _ hb hv trivial
  case o2 =>
    intro x0 x1 x2 x3 x4 x5 x6 x7 x8 x9 x10 x11 x12 x13 x14 x15 x16 x17 x18 x19 x20 x21 x22 x23 x24 x25 x26 x27 x28 x29 x30 x31 w' hE
    rintro R hR
    simp only [putAll, List.take, List.drop, List.map, Act.put, List.setIfInBounds_toArray, List.set_cons_zero, List.set_cons_succ]
    go_simp
    exact hR _ _ (Ext.refl _) (rfl) trivial
  case o3 =>
    intro x0 x1 x2 x3 x4 x5 x6 x7 x8 x9 x10 x11 x12 x13 x14 x15 x16 x17 x18 x19 x20 x21 x22 x23 x24 x25 x26 x27 x28 x29 x30 x31 w' hE
    rintro rfl R hR
    simp only [putAll, List.take, List.drop, List.map, Act.put, List.setIfInBounds_toArray, List.set_cons_zero, List.set_cons_succ]
    go_simp
    exact hR _ _ (Ext.refl _) (rfl) trivial
  case o4 =>
    intro x0 x1 x2 x3 x4 x5 x6 x7 x8 x9 x10 x11 x12 x13 x14 x15 x16 x17 x18 x19 x20 x21 x22 x23 x24 x25 x26 x27 x28 x29 x30 x31 w' hE
    rintro rfl R hR
    simp only [putAll, List.take, List.drop, List.map, Act.put, List.setIfInBounds_toArray, List.set_cons_zero, List.set_cons_succ]
    go_simp
    exact hR _ _ (Ext.refl _) (rfl) trivial
  case o5 =>
    intro x0 x1 x2 x3 x4 x5 x6 x7 x8 x9 x10 x11 x12 x13 x14 x15 x16 x17 x18 x19 x20 x21 x22 x23 x24 x25 x26 x27 x28 x29 x30 x31 w' hE
    rintro rfl R hR
    have qgx0 := (gx.ext hE).c 0 rfl
    have qgx1 := (gx.ext hE).c 1 rfl
    have qgx2 := (gx.ext hE).c 2 rfl
    simp only [putAll, List.take, List.drop, List.map, Act.put, List.setIfInBounds_toArray, List.set_cons_zero, List.set_cons_succ]
    go_simp
    exact hR _ _ (Ext.refl _) (rfl) trivial
  case o6 =>
    intro x0 x1 x2 x3 x4 x5 x6 x7 x8 x9 x10 x11 x12 x13 x14 x15 x16 x17 x18 x19 x20 x21 x22 x23 x24 x25 x26 x27 x28 x29 x30 x31 w' hE
    rintro rfl R hR
    simp only [putAll, List.take, List.drop, List.map, Act.put, List.setIfInBounds_toArray, List.set_cons_zero, List.set_cons_succ]
    go_simp
    exact hR _ _ (Ext.refl _) (rfl) trivial
  case o7 =>
    intro x0 x1 x2 x3 x4 x5 x6 x7 x8 x9 x10 x11 x12 x13 x14 x15 x16 x17 x18 x19 x20 x21 x22 x23 x24 x25 x26 x27 x28 x29 x30 x31 w' hE
    rintro rfl rfl R hR
    simp only [putAll, List.take, List.drop, List.map, Act.put, List.setIfInBounds_toArray, List.set_cons_zero, List.set_cons_succ]
    go_simp
    exact hR _ _ (Ext.refl _) (rfl) trivial
  case o8 =>
    intro x0 x1 x2 x3 x4 x5 x6 x7 x8 x9 x10 x11 x12 x13 x14 x15 x16 x17 x18 x19 x20 x21 x22 x23 x24 x25 x26 x27 x28 x29 x30 x31 w' hE
    rintro rfl rfl R hR
    simp only [putAll, List.take, List.drop, List.map, Act.put, List.setIfInBounds_toArray, List.set_cons_zero, List.set_cons_succ]
    go_simp
    exact hR _ _ (Ext.refl _) (rfl) trivial
  case o9 =>
    intro x0 x1 x2 x3 x4 x5 x6 x7 x8 x9 x10 x11 x12 x13 x14 x15 x16 x17 x18 x19 x20 x21 x22 x23 x24 x25 x26 x27 x28 x29 x30 x31 w' hE
    rintro rfl R hR
    have qgi0 := (gi.ext hE).c 0 rfl
    have qgi1 := (gi.ext hE).c 1 rfl
    simp only [putAll, List.take, List.drop, List.map, Act.put, List.setIfInBounds_toArray, List.set_cons_zero, List.set_cons_succ]
    go_simp
    exact hR _ _ (Ext.refl _) (rfl) trivial
  case o10 =>
    intro x0 x1 x2 x3 x4 x5 x6 x7 x8 x9 x10 x11 x12 x13 x14 x15 x16 x17 x18 x19 x20 x21 x22 x23 x24 x25 x26 x27 x28 x29 x30 x31 w' hE
    rintro rfl rfl _ R hR
    simp only [putAll, List.take, List.drop, List.map, Act.put, List.setIfInBounds_toArray, List.set_cons_zero, List.set_cons_succ]
    go_simp
    refine (isOne_c ⟨ib, ip, rfl, hi.ext hE⟩).mono ?_
    rintro _ w'' ⟨v, rfl, hv, hb⟩
    exact hR _ _ hb hv trivial
  case o11 =>
    intro x0 x1 x2 x3 x4 x5 x6 x7 x8 x9 x10 x11 x12 x13 x14 x15 x16 x17 x18 x19 x20 x21 x22 x23 x24 x25 x26 x27 x28 x29 x30 x31 w' hE
    rintro rfl R hR
    simp only [putAll, List.take, List.drop, List.map, Act.put, List.setIfInBounds_toArray, List.set_cons_zero, List.set_cons_succ]
    go_simp
    exact hR _ _ (Ext.refl _) (rfl) trivial
  case o12 =>
    intro x0 x1 x2 x3 x4 x5 x6 x7 x8 x9 x10 x11 x12 x13 x14 x15 x16 x17 x18 x19 x20 x21 x22 x23 x24 x25 x26 x27 x28 x29 x30 x31 w' hE
    rintro rfl rfl R hR
    simp only [putAll, List.take, List.drop, List.map, Act.put, List.setIfInBounds_toArray, List.set_cons_zero, List.set_cons_succ]
    go_simp
    exact hR _ _ (Ext.refl _) (rfl) trivial
  case o13 =>
    intro x0 x1 x2 x3 x4 x5 x6 x7 x8 x9 x10 x11 x12 x13 x14 x15 x16 x17 x18 x19 x20 x21 x22 x23 x24 x25 x26 x27 x28 x29 x30 x31 w' hE
    rintro rfl rfl R hR
    simp only [putAll, List.take, List.drop, List.map, Act.put, List.setIfInBounds_toArray, List.set_cons_zero, List.set_cons_succ]
    go_simp
    exact hR _ _ (Ext.refl _) (rfl) trivial
  case o14 =>
    intro x0 x1 x2 x3 x4 x5 x6 x7 x8 x9 x10 x11 x12 x13 x14 x15 x16 x17 x18 x19 x20 x21 x22 x23 x24 x25 x26 x27 x28 x29 x30 x31 w' hE
    rintro rfl rfl R hR
    have qgx0 := (gx.ext hE).c 0 rfl
    have qgx1 := (gx.ext hE).c 1 rfl
    have qgx2 := (gx.ext hE).c 2 rfl
    simp only [putAll, List.take, List.drop, List.map, Act.put, List.setIfInBounds_toArray, List.set_cons_zero, List.set_cons_succ]
    go_simp
    exact hR _ _ (Ext.refl _) (rfl) trivial
  case o15 =>
    intro x0 x1 x2 x3 x4 x5 x6 x7 x8 x9 x10 x11 x12 x13 x14 x15 x16 x17 x18 x19 x20 x21 x22 x23 x24 x25 x26 x27 x28 x29 x30 x31 w' hE
    rintro rfl rfl R hR
    simp only [putAll, List.take, List.drop, List.map, Act.put, List.setIfInBounds_toArray, List.set_cons_zero, List.set_cons_succ]
    go_simp
    exact hR _ _ (Ext.refl _) (rfl) trivial
  case o16 =>
    intro x0 x1 x2 x3 x4 x5 x6 x7 x8 x9 x10 x11 x12 x13 x14 x15 x16 x17 x18 x19 x20 x21 x22 x23 x24 x25 x26 x27 x28 x29 x30 x31 w' hE
    rintro rfl rfl rfl R hR
    simp only [putAll, List.take, List.drop, List.map, Act.put, List.setIfInBounds_toArray, List.set_cons_zero, List.set_cons_succ]
    go_simp
    exact hR _ _ (Ext.refl _) (rfl) trivial
  case o17 =>
    intro x0 x1 x2 x3 x4 x5 x6 x7 x8 x9 x10 x11 x12 x13 x14 x15 x16 x17 x18 x19 x20 x21 x22 x23 x24 x25 x26 x27 x28 x29 x30 x31 w' hE
    rintro rfl rfl R hR
    simp only [putAll, List.take, List.drop, List.map, Act.put, List.setIfInBounds_toArray, List.set_cons_zero, List.set_cons_succ]
    go_simp
    exact hR _ _ (Ext.refl _) (rfl) trivial
  case o18 =>
    intro x0 x1 x2 x3 x4 x5 x6 x7 x8 x9 x10 x11 x12 x13 x14 x15 x16 x17 x18 x19 x20 x21 x22 x23 x24 x25 x26 x27 x28 x29 x30 x31 w' hE
    rintro rfl rfl R hR
    simp only [putAll, List.take, List.drop, List.map, Act.put, List.setIfInBounds_toArray, List.set_cons_zero, List.set_cons_succ]
    go_simp
    exact hR _ _ (Ext.refl _) (rfl) trivial
  case o19 =>
    intro x0 x1 x2 x3 x4 x5 x6 x7 x8 x9 x10 x11 x12 x13 x14 x15 x16 x17 x18 x19 x20 x21 x22 x23 x24 x25 x26 x27 x28 x29 x30 x31 w' hE
    rintro rfl R hR
    have qgi0 := (gi.ext hE).c 0 rfl
    have qgi1 := (gi.ext hE).c 1 rfl
    simp only [putAll, List.take, List.drop, List.map, Act.put, List.setIfInBounds_toArray, List.set_cons_zero, List.set_cons_succ]
    go_simp
    exact hR _ _ (Ext.refl _) (rfl) trivial
  case o20 =>
    intro x0 x1 x2 x3 x4 x5 x6 x7 x8 x9 x10 x11 x12 x13 x14 x15 x16 x17 x18 x19 x20 x21 x22 x23 x24 x25 x26 x27 x28 x29 x30 x31 w' hE
    rintro rfl rfl _ R hR
    simp only [putAll, List.take, List.drop, List.map, Act.put, List.setIfInBounds_toArray, List.set_cons_zero, List.set_cons_succ]
    go_simp
    refine (depth_c ⟨ib, ip, rfl, hi.ext hE⟩).mono ?_
    rintro _ w'' ⟨v, rfl, hv, hb⟩
    exact hR _ _ hb hv trivial
  case o21 =>
    intro x0 x1 x2 x3 x4 x5 x6 x7 x8 x9 x10 x11 x12 x13 x14 x15 x16 x17 x18 x19 x20 x21 x22 x23 x24 x25 x26 x27 x28 x29 x30 x31 w' hE
    rintro rfl R hR
    simp only [putAll, List.take, List.drop, List.map, Act.put, List.setIfInBounds_toArray, List.set_cons_zero, List.set_cons_succ]
    go_simp
    exact hR _ _ (Ext.refl _) (rfl) trivial
  case o22 =>
    intro x0 x1 x2 x3 x4 x5 x6 x7 x8 x9 x10 x11 x12 x13 x14 x15 x16 x17 x18 x19 x20 x21 x22 x23 x24 x25 x26 x27 x28 x29 x30 x31 w' hE
    rintro rfl rfl rfl R hR
    simp only [putAll, List.take, List.drop, List.map, Act.put, List.setIfInBounds_toArray, List.set_cons_zero, List.set_cons_succ]
    go_simp
    refine (rdepth_c _ hd _ _ ⟨_, rfl, hx0.ext (hx.trans hE)⟩).mono ?_
    rintro _ w'' ⟨v, rfl, hv, hb⟩
    exact hR _ _ hb hv trivial
  case o23 =>
    intro x0 x1 x2 x3 x4 x5 x6 x7 x8 x9 x10 x11 x12 x13 x14 x15 x16 x17 x18 x19 x20 x21 x22 x23 x24 x25 x26 x27 x28 x29 x30 x31 w' hE
    rintro rfl rfl rfl R hR
    simp only [putAll, List.take, List.drop, List.map, Act.put, List.setIfInBounds_toArray, List.set_cons_zero, List.set_cons_succ]
    go_simp
    exact hR _ _ (Ext.refl _) (rfl) trivial
  case o24 =>
    intro x0 x1 x2 x3 x4 x5 x6 x7 x8 x9 x10 x11 x12 x13 x14 x15 x16 x17 x18 x19 x20 x21 x22 x23 x24 x25 x26 x27 x28 x29 x30 x31 w' hE
    rintro rfl rfl R hR
    simp only [putAll, List.take, List.drop, List.map, Act.put, List.setIfInBounds_toArray, List.set_cons_zero, List.set_cons_succ]
    go_simp
    exact hR _ _ (Ext.refl _) (rfl) trivial
  case o25 =>
    intro x0 x1 x2 x3 x4 x5 x6 x7 x8 x9 x10 x11 x12 x13 x14 x15 x16 x17 x18 x19 x20 x21 x22 x23 x24 x25 x26 x27 x28 x29 x30 x31 w' hE
    rintro rfl rfl R hR
    simp only [putAll, List.take, List.drop, List.map, Act.put, List.setIfInBounds_toArray, List.set_cons_zero, List.set_cons_succ]
    go_simp
    exact hR _ _ (Ext.refl _) (rfl) trivial
  case o26 =>
    intro x0 x1 x2 x3 x4 x5 x6 x7 x8 x9 x10 x11 x12 x13 x14 x15 x16 x17 x18 x19 x20 x21 x22 x23 x24 x25 x26 x27 x28 x29 x30 x31 w' hE
    rintro rfl R hR
    have qgi0 := (gi.ext hE).c 0 rfl
    have qgi1 := (gi.ext hE).c 1 rfl
    simp only [putAll, List.take, List.drop, List.map, Act.put, List.setIfInBounds_toArray, List.set_cons_zero, List.set_cons_succ]
    go_simp
    exact hR _ _ (Ext.refl _) (rfl) trivial
  case o27 =>
    intro x0 x1 x2 x3 x4 x5 x6 x7 x8 x9 x10 x11 x12 x13 x14 x15 x16 x17 x18 x19 x20 x21 x22 x23 x24 x25 x26 x27 x28 x29 x30 x31 w' hE
    rintro rfl rfl _ R hR
    simp only [putAll, List.take, List.drop, List.map, Act.put, List.setIfInBounds_toArray, List.set_cons_zero, List.set_cons_succ]
    go_simp
    refine (text_c ⟨ib, ip, rfl, hi.ext hE⟩ (by omega)).mono ?_
    rintro _ w'' ⟨v, rfl, hv, hb⟩
    exact hR _ _ hb hv trivial
  case o28 =>
    intro x0 x1 x2 x3 x4 x5 x6 x7 x8 x9 x10 x11 x12 x13 x14 x15 x16 x17 x18 x19 x20 x21 x22 x23 x24 x25 x26 x27 x28 x29 x30 x31 w' hE
    rintro rfl R hR
    simp only [putAll, List.take, List.drop, List.map, Act.put, List.setIfInBounds_toArray, List.set_cons_zero, List.set_cons_succ]
    go_simp
    exact hR _ _ (Ext.refl _) (rfl) trivial
  case o29 =>
    intro x0 x1 x2 x3 x4 x5 x6 x7 x8 x9 x10 x11 x12 x13 x14 x15 x16 x17 x18 x19 x20 x21 x22 x23 x24 x25 x26 x27 x28 x29 x30 x31 w' hE
    rintro rfl rfl rfl R hR
    simp only [putAll, List.take, List.drop, List.map, Act.put, List.setIfInBounds_toArray, List.set_cons_zero, List.set_cons_succ]
    go_simp
    refine (rtext_c _ hn _ _ ⟨_, rfl, hx0.ext (hx.trans hE)⟩).mono ?_
    rintro _ w'' ⟨v, rfl, hv, hb⟩
    exact hR _ _ hb hv trivial
  case o30 =>
    intro x0 x1 x2 x3 x4 x5 x6 x7 x8 x9 x10 x11 x12 x13 x14 x15 x16 x17 x18 x19 x20 x21 x22 x23 x24 x25 x26 x27 x28 x29 x30 x31 w' hE
    rintro rfl rfl rfl R hR
    simp only [putAll, List.take, List.drop, List.map, Act.put, List.setIfInBounds_toArray, List.set_cons_zero, List.set_cons_succ]
    go_simp
    exact hR _ _ (Ext.refl _) (rfl) trivial
  case o31 =>
    intro x0 x1 x2 x3 x4 x5 x6 x7 x8 x9 x10 x11 x12 x13 x14 x15 x16 x17 x18 x19 x20 x21 x22 x23 x24 x25 x26 x27 x28 x29 x30 x31 w' hE
    rintro rfl rfl R hR
    simp only [putAll, List.take, List.drop, List.map, Act.put, List.setIfInBounds_toArray, List.set_cons_zero, List.set_cons_succ]
    go_simp
    exact hR _ _ (Ext.refl _) (rfl) trivial
  case rest =>
    intro x0 x1 x2 x3 x4 x5 x6 x7 x8 x9 x10 x11 x12 x13 x14 x15 x16 x17 x18 x19 x20 x21 x22 x23 x24 x25 x26 x27 x28 x29 x30 x31 w1 hb
    rintro rfl rfl rfl rfl rfl rfl rfl rfl rfl rfl rfl rfl rfl rfl rfl rfl rfl rfl rfl rfl rfl rfl rfl rfl rfl rfl rfl rfl rfl rfl rfl rfl hap
    replace hx := Ext.trans hx hb; replace gx := gx.ext hb; replace gi := gi.ext hb; replace hi := (PRep T.one ib ip).mono hb hi; have s3 := hb.size
    clear hap
    simp only [putAll, List.take, List.drop, List.map, Act.put, List.setIfInBounds_toArray, List.set_cons_zero, List.set_cons_succ]
    have gx_0 := gx.c 0 rfl; have gxf0 := gx.f 0; have gx_1 := gx.c 1 rfl; have gxf1 := gx.f 1; have gx_2 := gx.c 2 rfl; have gxf2 := gx.f 2; have gxl := gx.lt; have gi_0 := gi.c 0 rfl; have gif0 := gi.f 0; have gi_1 := gi.c 1 rfl; have gif1 := gi.f 1; have gil := gi.lt
    go_wp2_with fail
    clear gx_0 gxf0 gx_1 gxf1 gx_2 gxf2 gxl gi_0 gif0 gi_1 gif1 gil
    have gxlt4 := gx.lt
    have gilt4 := gi.lt
    refine wp_facts 42 [] [PP.eq (.pointer (some ⟨k, 0, none⟩)), PP.eq (.pointer (some ⟨k, 0, none⟩)), PP.eq (.pointer (some ⟨k, 0, none⟩)), PP.eq (.int .i64 1), PP.eq (.bool true), PP.eq (.bool true), PP.eq (.agg #[.bool ib, .pointer ip]), (IsId T.one).toPP, PP.eq (.agg #[.bool ib, .pointer ip]), PP.eq (.bool true), PP.eq (.bool true), PP.eq (.bool true), PP.eq (.agg #[.bool ib, .pointer ip]), (IsId T.one).toPP, PP.eq (.agg #[.bool ib, .pointer ip]), PP.eq (.bool true), PP.eq (.bool true), PP.eq (.bool true), PP.eq (undef), PP.eq (undef), PP.eq (undef), PP.eq (undef), PP.eq (undef), PP.eq (undef), PP.eq (undef), PP.eq (undef), PP.eq (undef), PP.eq (undef), PP.eq (undef), PP.eq (undef), PP.eq (undef), PP.eq (undef), PP.eq (undef), PP.eq (undef), PP.eq (undef), PP.eq (undef), PP.eq (undef), PP.eq (undef), PP.eq (undef), PP.eq (undef), PP.eq (undef), PP.eq (.bool true)] (by kernel_rfl) (by kernel_rfl) ⟨?o0, ?o1, ?o2, ?o3, ?o4, ?o5, ?o6, ?o7, ?o8, ?o9, ?o10, ?o11, ?o12, ?o13, ?o14, ?o15, ?o16, ?o17, ?o18, ?o19, ?o20, ?o21, ?o22, ?o23, ?o24, ?o25, ?o26, ?o27, ?o28, ?o29, ?o30, ?o31, ?o32, ?o33, ?o34, ?o35, ?o36, ?o37, ?o38, ?o39, ?o40, ?o41, trivial⟩ ?rest
    case o0 =>
      intro x0 x1 x2 x3 x4 x5 x6 x7 x8 x9 x10 x11 x12 x13 x14 x15 x16 x17 x18 x19 x20 x21 x22 x23 x24 x25 x26 x27 x28 x29 x30 x31 x32 x33 x34 x35 x36 x37 x38 x39 x40 x41 w' hE
      rintro R hR
      simp only [putAll, List.take, List.drop, List.map, Act.put, List.setIfInBounds_toArray, List.set_cons_zero, List.set_cons_succ]
      go_simp
      exact hR _ _ (Ext.refl _) (rfl) trivial
    case o1 =>
      intro x0 x1 x2 x3 x4 x5 x6 x7 x8 x9 x10 x11 x12 x13 x14 x15 x16 x17 x18 x19 x20 x21 x22 x23 x24 x25 x26 x27 x28 x29 x30 x31 x32 x33 x34 x35 x36 x37 x38 x39 x40 x41 w' hE
      rintro rfl R hR
      simp only [putAll, List.take, List.drop, List.map, Act.put, List.setIfInBounds_toArray, List.set_cons_zero, List.set_cons_succ]
      go_simp
      exact hR _ _ (Ext.refl _) (rfl) trivial
    case o2 =>
      intro x0 x1 x2 x3 x4 x5 x6 x7 x8 x9 x10 x11 x12 x13 x14 x15 x16 x17 x18 x19 x20 x21 x22 x23 x24 x25 x26 x27 x28 x29 x30 x31 x32 x33 x34 x35 x36 x37 x38 x39 x40 x41 w' hE
      rintro rfl R hR
      simp only [putAll, List.take, List.drop, List.map, Act.put, List.setIfInBounds_toArray, List.set_cons_zero, List.set_cons_succ]
      go_simp
      exact hR _ _ (Ext.refl _) (rfl) trivial
    case o3 =>
      intro x0 x1 x2 x3 x4 x5 x6 x7 x8 x9 x10 x11 x12 x13 x14 x15 x16 x17 x18 x19 x20 x21 x22 x23 x24 x25 x26 x27 x28 x29 x30 x31 x32 x33 x34 x35 x36 x37 x38 x39 x40 x41 w' hE
      rintro rfl R hR
      have qgx0 := (gx.ext hE).c 0 rfl
      have qgx1 := (gx.ext hE).c 1 rfl
      have qgx2 := (gx.ext hE).c 2 rfl
      simp only [putAll, List.take, List.drop, List.map, Act.put, List.setIfInBounds_toArray, List.set_cons_zero, List.set_cons_succ]
      go_simp
      exact hR _ _ (Ext.refl _) (rfl) trivial
    case o4 =>
      intro x0 x1 x2 x3 x4 x5 x6 x7 x8 x9 x10 x11 x12 x13 x14 x15 x16 x17 x18 x19 x20 x21 x22 x23 x24 x25 x26 x27 x28 x29 x30 x31 x32 x33 x34 x35 x36 x37 x38 x39 x40 x41 w' hE
      rintro rfl R hR
      simp only [putAll, List.take, List.drop, List.map, Act.put, List.setIfInBounds_toArray, List.set_cons_zero, List.set_cons_succ]
      go_simp
      exact hR _ _ (Ext.refl _) (rfl) trivial
    case o5 =>
      intro x0 x1 x2 x3 x4 x5 x6 x7 x8 x9 x10 x11 x12 x13 x14 x15 x16 x17 x18 x19 x20 x21 x22 x23 x24 x25 x26 x27 x28 x29 x30 x31 x32 x33 x34 x35 x36 x37 x38 x39 x40 x41 w' hE
      rintro rfl R hR
      simp only [putAll, List.take, List.drop, List.map, Act.put, List.setIfInBounds_toArray, List.set_cons_zero, List.set_cons_succ]
      go_simp
      exact hR _ _ (Ext.refl _) (rfl) trivial
    case o6 =>
      intro x0 x1 x2 x3 x4 x5 x6 x7 x8 x9 x10 x11 x12 x13 x14 x15 x16 x17 x18 x19 x20 x21 x22 x23 x24 x25 x26 x27 x28 x29 x30 x31 x32 x33 x34 x35 x36 x37 x38 x39 x40 x41 w' hE
      rintro rfl R hR
      have qgi0 := (gi.ext hE).c 0 rfl
      have qgi1 := (gi.ext hE).c 1 rfl
      simp only [putAll, List.take, List.drop, List.map, Act.put, List.setIfInBounds_toArray, List.set_cons_zero, List.set_cons_succ]
      go_simp
      exact hR _ _ (Ext.refl _) (rfl) trivial
    case o7 =>
      intro x0 x1 x2 x3 x4 x5 x6 x7 x8 x9 x10 x11 x12 x13 x14 x15 x16 x17 x18 x19 x20 x21 x22 x23 x24 x25 x26 x27 x28 x29 x30 x31 x32 x33 x34 x35 x36 x37 x38 x39 x40 x41 w' hE
      rintro rfl rfl _ R hR
      simp only [putAll, List.take, List.drop, List.map, Act.put, List.setIfInBounds_toArray, List.set_cons_zero, List.set_cons_succ]
      go_simp
      refine (left_c ⟨ib, ip, rfl, hi.ext hE⟩).mono ?_
      rintro _ w'' ⟨v, rfl, hv, hb⟩
      exact hR _ _ hb hv trivial
    case o8 =>
      intro x0 x1 x2 x3 x4 x5 x6 x7 x8 x9 x10 x11 x12 x13 x14 x15 x16 x17 x18 x19 x20 x21 x22 x23 x24 x25 x26 x27 x28 x29 x30 x31 x32 x33 x34 x35 x36 x37 x38 x39 x40 x41 w' hE
      rintro rfl R hR
      have qgi0 := (gi.ext hE).c 0 rfl
      have qgi1 := (gi.ext hE).c 1 rfl
      simp only [putAll, List.take, List.drop, List.map, Act.put, List.setIfInBounds_toArray, List.set_cons_zero, List.set_cons_succ]
      go_simp
      exact hR _ _ (Ext.refl _) (rfl) trivial
    case o9 =>
      intro x0 x1 x2 x3 x4 x5 x6 x7 x8 x9 x10 x11 x12 x13 x14 x15 x16 x17 x18 x19 x20 x21 x22 x23 x24 x25 x26 x27 x28 x29 x30 x31 x32 x33 x34 x35 x36 x37 x38 x39 x40 x41 w' hE
      rintro d7 rfl _ rfl R hR
      simp only [putAll, List.take, List.drop, List.map, Act.put, List.setIfInBounds_toArray, List.set_cons_zero, List.set_cons_succ]
      go_simp
      refine (same_c d7 ⟨ib, ip, rfl, hi.ext hE⟩).mono ?_
      rintro _ w'' ⟨v, rfl, hv, hb⟩
      exact hR _ _ hb hv trivial
    case o10 =>
      intro x0 x1 x2 x3 x4 x5 x6 x7 x8 x9 x10 x11 x12 x13 x14 x15 x16 x17 x18 x19 x20 x21 x22 x23 x24 x25 x26 x27 x28 x29 x30 x31 x32 x33 x34 x35 x36 x37 x38 x39 x40 x41 w' hE
      rintro rfl rfl R hR
      simp only [putAll, List.take, List.drop, List.map, Act.put, List.setIfInBounds_toArray, List.set_cons_zero, List.set_cons_succ]
      go_simp
      exact hR _ _ (Ext.refl _) (rfl) trivial
    case o11 =>
      intro x0 x1 x2 x3 x4 x5 x6 x7 x8 x9 x10 x11 x12 x13 x14 x15 x16 x17 x18 x19 x20 x21 x22 x23 x24 x25 x26 x27 x28 x29 x30 x31 x32 x33 x34 x35 x36 x37 x38 x39 x40 x41 w' hE
      rintro rfl rfl R hR
      simp only [putAll, List.take, List.drop, List.map, Act.put, List.setIfInBounds_toArray, List.set_cons_zero, List.set_cons_succ]
      go_simp
      exact hR _ _ (Ext.refl _) (rfl) trivial
    case o12 =>
      intro x0 x1 x2 x3 x4 x5 x6 x7 x8 x9 x10 x11 x12 x13 x14 x15 x16 x17 x18 x19 x20 x21 x22 x23 x24 x25 x26 x27 x28 x29 x30 x31 x32 x33 x34 x35 x36 x37 x38 x39 x40 x41 w' hE
      rintro rfl R hR
      have qgi0 := (gi.ext hE).c 0 rfl
      have qgi1 := (gi.ext hE).c 1 rfl
      simp only [putAll, List.take, List.drop, List.map, Act.put, List.setIfInBounds_toArray, List.set_cons_zero, List.set_cons_succ]
      go_simp
      exact hR _ _ (Ext.refl _) (rfl) trivial
    case o13 =>
      intro x0 x1 x2 x3 x4 x5 x6 x7 x8 x9 x10 x11 x12 x13 x14 x15 x16 x17 x18 x19 x20 x21 x22 x23 x24 x25 x26 x27 x28 x29 x30 x31 x32 x33 x34 x35 x36 x37 x38 x39 x40 x41 w' hE
      rintro rfl rfl _ R hR
      simp only [putAll, List.take, List.drop, List.map, Act.put, List.setIfInBounds_toArray, List.set_cons_zero, List.set_cons_succ]
      go_simp
      refine (right_c ⟨ib, ip, rfl, hi.ext hE⟩).mono ?_
      rintro _ w'' ⟨v, rfl, hv, hb⟩
      exact hR _ _ hb hv trivial
    case o14 =>
      intro x0 x1 x2 x3 x4 x5 x6 x7 x8 x9 x10 x11 x12 x13 x14 x15 x16 x17 x18 x19 x20 x21 x22 x23 x24 x25 x26 x27 x28 x29 x30 x31 x32 x33 x34 x35 x36 x37 x38 x39 x40 x41 w' hE
      rintro rfl R hR
      have qgi0 := (gi.ext hE).c 0 rfl
      have qgi1 := (gi.ext hE).c 1 rfl
      simp only [putAll, List.take, List.drop, List.map, Act.put, List.setIfInBounds_toArray, List.set_cons_zero, List.set_cons_succ]
      go_simp
      exact hR _ _ (Ext.refl _) (rfl) trivial
    case o15 =>
      intro x0 x1 x2 x3 x4 x5 x6 x7 x8 x9 x10 x11 x12 x13 x14 x15 x16 x17 x18 x19 x20 x21 x22 x23 x24 x25 x26 x27 x28 x29 x30 x31 x32 x33 x34 x35 x36 x37 x38 x39 x40 x41 w' hE
      rintro d13 rfl _ rfl R hR
      simp only [putAll, List.take, List.drop, List.map, Act.put, List.setIfInBounds_toArray, List.set_cons_zero, List.set_cons_succ]
      go_simp
      refine (same_c d13 ⟨ib, ip, rfl, hi.ext hE⟩).mono ?_
      rintro _ w'' ⟨v, rfl, hv, hb⟩
      exact hR _ _ hb hv trivial
    case o16 =>
      intro x0 x1 x2 x3 x4 x5 x6 x7 x8 x9 x10 x11 x12 x13 x14 x15 x16 x17 x18 x19 x20 x21 x22 x23 x24 x25 x26 x27 x28 x29 x30 x31 x32 x33 x34 x35 x36 x37 x38 x39 x40 x41 w' hE
      rintro rfl rfl R hR
      simp only [putAll, List.take, List.drop, List.map, Act.put, List.setIfInBounds_toArray, List.set_cons_zero, List.set_cons_succ]
      go_simp
      exact hR _ _ (Ext.refl _) (rfl) trivial
    case o17 =>
      intro x0 x1 x2 x3 x4 x5 x6 x7 x8 x9 x10 x11 x12 x13 x14 x15 x16 x17 x18 x19 x20 x21 x22 x23 x24 x25 x26 x27 x28 x29 x30 x31 x32 x33 x34 x35 x36 x37 x38 x39 x40 x41 w' hE
      rintro rfl rfl R hR
      simp only [putAll, List.take, List.drop, List.map, Act.put, List.setIfInBounds_toArray, List.set_cons_zero, List.set_cons_succ]
      go_simp
      exact hR _ _ (Ext.refl _) (rfl) trivial
    case o18 =>
      intro x0 x1 x2 x3 x4 x5 x6 x7 x8 x9 x10 x11 x12 x13 x14 x15 x16 x17 x18 x19 x20 x21 x22 x23 x24 x25 x26 x27 x28 x29 x30 x31 x32 x33 x34 x35 x36 x37 x38 x39 x40 x41 w' hE
      rintro rfl R hR
      simp only [putAll, List.take, List.drop, List.map, Act.put, List.setIfInBounds_toArray, List.set_cons_zero, List.set_cons_succ]
      go_simp
      exact hR _ _ (Ext.refl _) (rfl) trivial
    case o19 =>
      intro x0 x1 x2 x3 x4 x5 x6 x7 x8 x9 x10 x11 x12 x13 x14 x15 x16 x17 x18 x19 x20 x21 x22 x23 x24 x25 x26 x27 x28 x29 x30 x31 x32 x33 x34 x35 x36 x37 x38 x39 x40 x41 w' hE
      rintro rfl rfl R hR
      simp only [putAll, List.take, List.drop, List.map, Act.put, List.setIfInBounds_toArray, List.set_cons_zero, List.set_cons_succ]
      go_simp
      exact hR _ _ (Ext.refl _) (rfl) trivial
    case o20 =>
      intro x0 x1 x2 x3 x4 x5 x6 x7 x8 x9 x10 x11 x12 x13 x14 x15 x16 x17 x18 x19 x20 x21 x22 x23 x24 x25 x26 x27 x28 x29 x30 x31 x32 x33 x34 x35 x36 x37 x38 x39 x40 x41 w' hE
      rintro rfl rfl R hR
      simp only [putAll, List.take, List.drop, List.map, Act.put, List.setIfInBounds_toArray, List.set_cons_zero, List.set_cons_succ]
      go_simp
      exact hR _ _ (Ext.refl _) (rfl) trivial
    case o21 =>
      intro x0 x1 x2 x3 x4 x5 x6 x7 x8 x9 x10 x11 x12 x13 x14 x15 x16 x17 x18 x19 x20 x21 x22 x23 x24 x25 x26 x27 x28 x29 x30 x31 x32 x33 x34 x35 x36 x37 x38 x39 x40 x41 w' hE
      rintro rfl rfl R hR
      simp only [putAll, List.take, List.drop, List.map, Act.put, List.setIfInBounds_toArray, List.set_cons_zero, List.set_cons_succ]
      go_simp
      exact hR _ _ (Ext.refl _) (rfl) trivial
    case o22 =>
      intro x0 x1 x2 x3 x4 x5 x6 x7 x8 x9 x10 x11 x12 x13 x14 x15 x16 x17 x18 x19 x20 x21 x22 x23 x24 x25 x26 x27 x28 x29 x30 x31 x32 x33 x34 x35 x36 x37 x38 x39 x40 x41 w' hE
      rintro rfl rfl R hR
      simp only [putAll, List.take, List.drop, List.map, Act.put, List.setIfInBounds_toArray, List.set_cons_zero, List.set_cons_succ]
      go_simp
      exact hR _ _ (Ext.refl _) (rfl) trivial
    case o23 =>
      intro x0 x1 x2 x3 x4 x5 x6 x7 x8 x9 x10 x11 x12 x13 x14 x15 x16 x17 x18 x19 x20 x21 x22 x23 x24 x25 x26 x27 x28 x29 x30 x31 x32 x33 x34 x35 x36 x37 x38 x39 x40 x41 w' hE
      rintro rfl rfl _ R hR
      simp only [putAll, List.take, List.drop, List.map, Act.put, List.setIfInBounds_toArray, List.set_cons_zero, List.set_cons_succ]
      go_simp
      exact hR _ _ (Ext.refl _) (rfl) trivial
    case o24 =>
      intro x0 x1 x2 x3 x4 x5 x6 x7 x8 x9 x10 x11 x12 x13 x14 x15 x16 x17 x18 x19 x20 x21 x22 x23 x24 x25 x26 x27 x28 x29 x30 x31 x32 x33 x34 x35 x36 x37 x38 x39 x40 x41 w' hE
      rintro rfl R hR
      simp only [putAll, List.take, List.drop, List.map, Act.put, List.setIfInBounds_toArray, List.set_cons_zero, List.set_cons_succ]
      go_simp
      exact hR _ _ (Ext.refl _) (rfl) trivial
    case o25 =>
      intro x0 x1 x2 x3 x4 x5 x6 x7 x8 x9 x10 x11 x12 x13 x14 x15 x16 x17 x18 x19 x20 x21 x22 x23 x24 x25 x26 x27 x28 x29 x30 x31 x32 x33 x34 x35 x36 x37 x38 x39 x40 x41 w' hE
      rintro rfl rfl _ R hR
      simp only [putAll, List.take, List.drop, List.map, Act.put, List.setIfInBounds_toArray, List.set_cons_zero, List.set_cons_succ]
      go_simp
      exact hR _ _ (Ext.refl _) (rfl) trivial
    case o26 =>
      intro x0 x1 x2 x3 x4 x5 x6 x7 x8 x9 x10 x11 x12 x13 x14 x15 x16 x17 x18 x19 x20 x21 x22 x23 x24 x25 x26 x27 x28 x29 x30 x31 x32 x33 x34 x35 x36 x37 x38 x39 x40 x41 w' hE
      rintro rfl R hR
      simp only [putAll, List.take, List.drop, List.map, Act.put, List.setIfInBounds_toArray, List.set_cons_zero, List.set_cons_succ]
      go_simp
      exact hR _ _ (Ext.refl _) (rfl) trivial
    case o27 =>
      intro x0 x1 x2 x3 x4 x5 x6 x7 x8 x9 x10 x11 x12 x13 x14 x15 x16 x17 x18 x19 x20 x21 x22 x23 x24 x25 x26 x27 x28 x29 x30 x31 x32 x33 x34 x35 x36 x37 x38 x39 x40 x41 w' hE
      rintro rfl rfl R hR
      simp only [putAll, List.take, List.drop, List.map, Act.put, List.setIfInBounds_toArray, List.set_cons_zero, List.set_cons_succ]
      go_simp
      exact hR _ _ (Ext.refl _) (rfl) trivial
    case o28 =>
      intro x0 x1 x2 x3 x4 x5 x6 x7 x8 x9 x10 x11 x12 x13 x14 x15 x16 x17 x18 x19 x20 x21 x22 x23 x24 x25 x26 x27 x28 x29 x30 x31 x32 x33 x34 x35 x36 x37 x38 x39 x40 x41 w' hE
      rintro rfl rfl R hR
      simp only [putAll, List.take, List.drop, List.map, Act.put, List.setIfInBounds_toArray, List.set_cons_zero, List.set_cons_succ]
      go_simp
      exact hR _ _ (Ext.refl _) (rfl) trivial
    case o29 =>
      intro x0 x1 x2 x3 x4 x5 x6 x7 x8 x9 x10 x11 x12 x13 x14 x15 x16 x17 x18 x19 x20 x21 x22 x23 x24 x25 x26 x27 x28 x29 x30 x31 x32 x33 x34 x35 x36 x37 x38 x39 x40 x41 w' hE
      rintro rfl rfl R hR
      simp only [putAll, List.take, List.drop, List.map, Act.put, List.setIfInBounds_toArray, List.set_cons_zero, List.set_cons_succ]
      go_simp
      exact hR _ _ (Ext.refl _) (rfl) trivial
    case o30 =>
      intro x0 x1 x2 x3 x4 x5 x6 x7 x8 x9 x10 x11 x12 x13 x14 x15 x16 x17 x18 x19 x20 x21 x22 x23 x24 x25 x26 x27 x28 x29 x30 x31 x32 x33 x34 x35 x36 x37 x38 x39 x40 x41 w' hE
      rintro rfl rfl _ rfl R hR
      simp only [putAll, List.take, List.drop, List.map, Act.put, List.setIfInBounds_toArray, List.set_cons_zero, List.set_cons_succ]
      go_simp
      exact hR _ _ (Ext.refl _) (rfl) trivial
    case o31 =>
      intro x0 x1 x2 x3 x4 x5 x6 x7 x8 x9 x10 x11 x12 x13 x14 x15 x16 x17 x18 x19 x20 x21 x22 x23 x24 x25 x26 x27 x28 x29 x30 x31 x32 x33 x34 x35 x36 x37 x38 x39 x40 x41 w' hE
      rintro rfl rfl rfl R hR
      simp only [putAll, List.take, List.drop, List.map, Act.put, List.setIfInBounds_toArray, List.set_cons_zero, List.set_cons_succ]
      go_simp
      exact hR _ _ (Ext.refl _) (rfl) trivial
    case o32 =>
      intro x0 x1 x2 x3 x4 x5 x6 x7 x8 x9 x10 x11 x12 x13 x14 x15 x16 x17 x18 x19 x20 x21 x22 x23 x24 x25 x26 x27 x28 x29 x30 x31 x32 x33 x34 x35 x36 x37 x38 x39 x40 x41 w' hE
      rintro rfl rfl rfl R hR
      simp only [putAll, List.take, List.drop, List.map, Act.put, List.setIfInBounds_toArray, List.set_cons_zero, List.set_cons_succ]
      go_simp
      exact hR _ _ (Ext.refl _) (rfl) trivial
    case o33 =>
      intro x0 x1 x2 x3 x4 x5 x6 x7 x8 x9 x10 x11 x12 x13 x14 x15 x16 x17 x18 x19 x20 x21 x22 x23 x24 x25 x26 x27 x28 x29 x30 x31 x32 x33 x34 x35 x36 x37 x38 x39 x40 x41 w' hE
      rintro rfl R hR
      simp only [putAll, List.take, List.drop, List.map, Act.put, List.setIfInBounds_toArray, List.set_cons_zero, List.set_cons_succ]
      go_simp
      exact hR _ _ (Ext.refl _) (rfl) trivial
    case o34 =>
      intro x0 x1 x2 x3 x4 x5 x6 x7 x8 x9 x10 x11 x12 x13 x14 x15 x16 x17 x18 x19 x20 x21 x22 x23 x24 x25 x26 x27 x28 x29 x30 x31 x32 x33 x34 x35 x36 x37 x38 x39 x40 x41 w' hE
      rintro rfl rfl _ R hR
      simp only [putAll, List.take, List.drop, List.map, Act.put, List.setIfInBounds_toArray, List.set_cons_zero, List.set_cons_succ]
      go_simp
      exact hR _ _ (Ext.refl _) (rfl) trivial
    case o35 =>
      intro x0 x1 x2 x3 x4 x5 x6 x7 x8 x9 x10 x11 x12 x13 x14 x15 x16 x17 x18 x19 x20 x21 x22 x23 x24 x25 x26 x27 x28 x29 x30 x31 x32 x33 x34 x35 x36 x37 x38 x39 x40 x41 w' hE
      rintro rfl R hR
      simp only [putAll, List.take, List.drop, List.map, Act.put, List.setIfInBounds_toArray, List.set_cons_zero, List.set_cons_succ]
      go_simp
      exact hR _ _ (Ext.refl _) (rfl) trivial
    case o36 =>
      intro x0 x1 x2 x3 x4 x5 x6 x7 x8 x9 x10 x11 x12 x13 x14 x15 x16 x17 x18 x19 x20 x21 x22 x23 x24 x25 x26 x27 x28 x29 x30 x31 x32 x33 x34 x35 x36 x37 x38 x39 x40 x41 w' hE
      rintro rfl rfl R hR
      simp only [putAll, List.take, List.drop, List.map, Act.put, List.setIfInBounds_toArray, List.set_cons_zero, List.set_cons_succ]
      go_simp
      exact hR _ _ (Ext.refl _) (rfl) trivial
    case o37 =>
      intro x0 x1 x2 x3 x4 x5 x6 x7 x8 x9 x10 x11 x12 x13 x14 x15 x16 x17 x18 x19 x20 x21 x22 x23 x24 x25 x26 x27 x28 x29 x30 x31 x32 x33 x34 x35 x36 x37 x38 x39 x40 x41 w' hE
      rintro rfl rfl R hR
      simp only [putAll, List.take, List.drop, List.map, Act.put, List.setIfInBounds_toArray, List.set_cons_zero, List.set_cons_succ]
      go_simp
      exact hR _ _ (Ext.refl _) (rfl) trivial
    case o38 =>
      intro x0 x1 x2 x3 x4 x5 x6 x7 x8 x9 x10 x11 x12 x13 x14 x15 x16 x17 x18 x19 x20 x21 x22 x23 x24 x25 x26 x27 x28 x29 x30 x31 x32 x33 x34 x35 x36 x37 x38 x39 x40 x41 w' hE
      rintro rfl rfl R hR
      simp only [putAll, List.take, List.drop, List.map, Act.put, List.setIfInBounds_toArray, List.set_cons_zero, List.set_cons_succ]
      go_simp
      exact hR _ _ (Ext.refl _) (rfl) trivial
    case o39 =>
      intro x0 x1 x2 x3 x4 x5 x6 x7 x8 x9 x10 x11 x12 x13 x14 x15 x16 x17 x18 x19 x20 x21 x22 x23 x24 x25 x26 x27 x28 x29 x30 x31 x32 x33 x34 x35 x36 x37 x38 x39 x40 x41 w' hE
      rintro rfl rfl _ rfl R hR
      simp only [putAll, List.take, List.drop, List.map, Act.put, List.setIfInBounds_toArray, List.set_cons_zero, List.set_cons_succ]
      go_simp
      exact hR _ _ (Ext.refl _) (rfl) trivial
    case o40 =>
      intro x0 x1 x2 x3 x4 x5 x6 x7 x8 x9 x10 x11 x12 x13 x14 x15 x16 x17 x18 x19 x20 x21 x22 x23 x24 x25 x26 x27 x28 x29 x30 x31 x32 x33 x34 x35 x36 x37 x38 x39 x40 x41 w' hE
      rintro rfl rfl rfl R hR
      simp only [putAll, List.take, List.drop, List.map, Act.put, List.setIfInBounds_toArray, List.set_cons_zero, List.set_cons_succ]
      go_simp
      exact hR _ _ (Ext.refl _) (rfl) trivial
    case o41 =>
      intro x0 x1 x2 x3 x4 x5 x6 x7 x8 x9 x10 x11 x12 x13 x14 x15 x16 x17 x18 x19 x20 x21 x22 x23 x24 x25 x26 x27 x28 x29 x30 x31 x32 x33 x34 x35 x36 x37 x38 x39 x40 x41 w' hE
      rintro rfl rfl R hR
      simp only [putAll, List.take, List.drop, List.map, Act.put, List.setIfInBounds_toArray, List.set_cons_zero, List.set_cons_succ]
      go_simp
      exact hR _ _ (Ext.refl _) (rfl) trivial
    case rest =>
      intro x0 x1 x2 x3 x4 x5 x6 x7 x8 x9 x10 x11 x12 x13 x14 x15 x16 x17 x18 x19 x20 x21 x22 x23 x24 x25 x26 x27 x28 x29 x30 x31 x32 x33 x34 x35 x36 x37 x38 x39 x40 x41 w2 hb
      rintro rfl rfl rfl rfl rfl rfl rfl _ rfl rfl rfl rfl rfl _ rfl rfl rfl rfl rfl rfl rfl rfl rfl rfl rfl rfl rfl rfl rfl rfl rfl rfl rfl rfl rfl rfl rfl rfl rfl rfl rfl rfl hap
      replace hx := Ext.trans hx hb; replace gx := gx.ext hb; replace gi := gi.ext hb; replace hi := (PRep T.one ib ip).mono hb hi; have s5 := hb.size
      clear hap
      simp only [putAll, List.take, List.drop, List.map, Act.put, List.setIfInBounds_toArray, List.set_cons_zero, List.set_cons_succ]
      have gx_0 := gx.c 0 rfl; have gxf0 := gx.f 0; have gx_1 := gx.c 1 rfl; have gxf1 := gx.f 1; have gx_2 := gx.c 2 rfl; have gxf2 := gx.f 2; have gxl := gx.lt; have gi_0 := gi.c 0 rfl; have gif0 := gi.f 0; have gi_1 := gi.c 1 rfl; have gif1 := gi.f 1; have gil := gi.lt
      go_wp2_with fail
      clear gx_0 gxf0 gx_1 gxf1 gx_2 gxf2 gxl gi_0 gif0 gi_1 gif1 gil
      go_ret
      exact ⟨_, rfl, rfl, hx⟩

set_option maxRecDepth 100000 in
set_option maxHeartbeats 2000000 in
theorem like_n {l r : T} {i x : Value} {w : World} (hi : (IsId (T.node l r)).p i w) (hx0 : (IsRef (T.node l r)).p x w) (hd : ((T.node l r)).depth ≤ 1000) (hn : (textT (T.node l r)).length ≤ 1000000000) (ihl : ∀ (i x : Value) (w : World), (IsId l).p i w → (IsRef l).p x w → Calls Try.prog 15 #[i, x] w (Ret w (PP.eq (.bool true)).p)) (ihr : ∀ (i x : Value) (w : World), (IsId r).p i w → (IsRef r).p x w → Calls Try.prog 15 #[i, x] w (Ret w (PP.eq (.bool true)).p)) :
    Calls Try.prog 15 #[i, x] w (Ret w (PP.eq (.bool true)).p) := by
  obtain ⟨ib, ip, rfl, hi⟩ := hi
  obtain ⟨p, rfl, hx0⟩ := hx0
  have IHL := Lib.hid ihl; have IHR := Lib.hid ihr; clear ihl ihr
  obtain ⟨k, pl, pr, rfl, gx, rl, rr⟩ := id hx0
  go_enter Try.func15, Try.ntmps15
  have gx_0 := gx.c 0 rfl; have gxf0 := gx.f 0; have gx_1 := gx.c 1 rfl; have gxf1 := gx.f 1; have gx_2 := gx.c 2 rfl; have gxf2 := gx.f 2; have gxl := gx.lt
  go_wp2_with fail
  clear gx_0 gxf0 gx_1 gxf1 gx_2 gxf2 gxl
  have gxlt0 := gx.lt
  obtain ⟨W, hW, hb, z0, gi⟩ := box1 w [.bool ib, .pointer ip] 26
  rw [hW]; clear hW
  have hx := hb; replace gx := gx.ext hb; replace hi := (PRep (T.node l r) ib ip).mono hb hi; have s1 := hb.size
  have hne : ∀ d : Nat, Hid (((d : Int) != (d : Int)) = false) := fun d => by unfold Hid; simp
  have gxlt2 := gx.lt
  have gilt2 := gi.lt
  refine wp_facts 32 [] [PP.eq (.agg #[.bool ib, .pointer ip]), PP.eq (.bool false), PP.eq (.pointer (some ⟨k, 0, none⟩)), PP.eq (.pointer (some ⟨k, 0, none⟩)), PP.eq (.pointer (some ⟨k, 0, none⟩)), PP.eq (.int .i64 2), PP.eq (.bool false), PP.eq (.bool false), PP.eq (.bool false), PP.eq (.agg #[.bool ib, .pointer ip]), PP.eq (.bool false), PP.eq (.pointer (some ⟨k, 0, none⟩)), PP.eq (.pointer (some ⟨k, 0, none⟩)), PP.eq (.pointer (some ⟨k, 0, none⟩)), PP.eq (.int .i64 2), PP.eq (.bool false), PP.eq (.bool false), PP.eq (.bool false), PP.eq (.bool false), PP.eq (.agg #[.bool ib, .pointer ip]), PP.eq (.int .i64 (((T.node l r)).depth : Nat)), PP.eq (.pointer (some ⟨k, 0, none⟩)), PP.eq (.int .i64 (((T.node l r)).depth : Nat)), PP.eq (.bool false), PP.eq (.bool false), PP.eq (.bool false), PP.eq (.agg #[.bool ib, .pointer ip]), PP.eq (sv (textT ((T.node l r)))), PP.eq (.pointer (some ⟨k, 0, none⟩)), PP.eq (sv (textT ((T.node l r)))), PP.eq (.bool false), PP.eq (.bool false)] (by kernel_rfl) (by kernel_rfl) ⟨?o0, ?o1, ?o2, ?o3, ?o4, ?o5, ?o6, ?o7, ?o8, ?o9, ?o10, ?o11, ?o12, ?o13, ?o14, ?o15, ?o16, ?o17, ?o18, ?o19, ?o20, ?o21, ?o22, ?o23, ?o24, ?o25, ?o26, ?o27, ?o28, ?o29, ?o30, ?o31, trivial⟩ ?rest
  case o0 =>
    intro x0 x1 x2 x3 x4 x5 x6 x7 x8 x9 x10 x11 x12 x13 x14 x15 x16 x17 x18 x19 x20 x21 x22 x23 x24 x25 x26 x27 x28 x29 x30 x31 w' hE
    rintro R hR
    have qgi0 := (gi.ext hE).c 0 rfl
    have qgi1 := (gi.ext hE).c 1 rfl
    simp only [putAll, List.take, List.drop, List.map, Act.put, List.setIfInBounds_toArray, List.set_cons_zero, List.set_cons_succ]
    go_simp
    exact hR _ _ (Ext.refl _) (rfl) trivial
  case o1 =>
    intro x0 x1 x2 x3 x4 x5 x6 x7 x8 x9 x10 x11 x12 x13 x14 x15 x16 x17 x18 x19 x20 x21 x22 x23 x24 x25 x26 x27 x28 x29 x30 x31 w' hE
    rintro rfl R hR
    simp only [putAll, List.take, List.drop, List.map, Act.put, List.setIfInBounds_toArray, List.set_cons_zero, List.set_cons_succ]
    go_simp
    refine (isZero_c ⟨ib, ip, rfl, hi.ext hE⟩).mono ?_
    rintro _ w'' ⟨v, rfl, hv, hb⟩
    exact hR _ _ hb hv trivial
  case o2 =>
    intro x0 x1 x2 x3 x4 x5 x6 x7 x8 x9 x10 x11 x12 x13 x14 x15 x16 x17 x18 x19 x20 x21 x22 x23 x24 x25 x26 x27 x28 x29 x30 x31 w' hE
    rintro R hR
    simp only [putAll, List.take, List.drop, List.map, Act.put, List.setIfInBounds_toArray, List.set_cons_zero, List.set_cons_succ]
    go_simp
    exact hR _ _ (Ext.refl _) (rfl) trivial
  case o3 =>
    intro x0 x1 x2 x3 x4 x5 x6 x7 x8 x9 x10 x11 x12 x13 x14 x15 x16 x17 x18 x19 x20 x21 x22 x23 x24 x25 x26 x27 x28 x29 x30 x31 w' hE
    rintro rfl R hR
    simp only [putAll, List.take, List.drop, List.map, Act.put, List.setIfInBounds_toArray, List.set_cons_zero, List.set_cons_succ]
    go_simp
    exact hR _ _ (Ext.refl _) (rfl) trivial
  case o4 =>
    intro x0 x1 x2 x3 x4 x5 x6 x7 x8 x9 x10 x11 x12 x13 x14 x15 x16 x17 x18 x19 x20 x21 x22 x23 x24 x25 x26 x27 x28 x29 x30 x31 w' hE
    rintro rfl R hR
    simp only [putAll, List.take, List.drop, List.map, Act.put, List.setIfInBounds_toArray, List.set_cons_zero, List.set_cons_succ]
    go_simp
    exact hR _ _ (Ext.refl _) (rfl) trivial
  case o5 =>
    intro x0 x1 x2 x3 x4 x5 x6 x7 x8 x9 x10 x11 x12 x13 x14 x15 x16 x17 x18 x19 x20 x21 x22 x23 x24 x25 x26 x27 x28 x29 x30 x31 w' hE
    rintro rfl R hR
    have qgx0 := (gx.ext hE).c 0 rfl
    have qgx1 := (gx.ext hE).c 1 rfl
    have qgx2 := (gx.ext hE).c 2 rfl
    simp only [putAll, List.take, List.drop, List.map, Act.put, List.setIfInBounds_toArray, List.set_cons_zero, List.set_cons_succ]
    go_simp
    exact hR _ _ (Ext.refl _) (rfl) trivial
  case o6 =>
    intro x0 x1 x2 x3 x4 x5 x6 x7 x8 x9 x10 x11 x12 x13 x14 x15 x16 x17 x18 x19 x20 x21 x22 x23 x24 x25 x26 x27 x28 x29 x30 x31 w' hE
    rintro rfl R hR
    simp only [putAll, List.take, List.drop, List.map, Act.put, List.setIfInBounds_toArray, List.set_cons_zero, List.set_cons_succ]
    go_simp
    exact hR _ _ (Ext.refl _) (rfl) trivial
  case o7 =>
    intro x0 x1 x2 x3 x4 x5 x6 x7 x8 x9 x10 x11 x12 x13 x14 x15 x16 x17 x18 x19 x20 x21 x22 x23 x24 x25 x26 x27 x28 x29 x30 x31 w' hE
    rintro rfl rfl R hR
    simp only [putAll, List.take, List.drop, List.map, Act.put, List.setIfInBounds_toArray, List.set_cons_zero, List.set_cons_succ]
    go_simp
    exact hR _ _ (Ext.refl _) (rfl) trivial
  case o8 =>
    intro x0 x1 x2 x3 x4 x5 x6 x7 x8 x9 x10 x11 x12 x13 x14 x15 x16 x17 x18 x19 x20 x21 x22 x23 x24 x25 x26 x27 x28 x29 x30 x31 w' hE
    rintro rfl rfl R hR
    simp only [putAll, List.take, List.drop, List.map, Act.put, List.setIfInBounds_toArray, List.set_cons_zero, List.set_cons_succ]
    go_simp
    exact hR _ _ (Ext.refl _) (rfl) trivial
  case o9 =>
    intro x0 x1 x2 x3 x4 x5 x6 x7 x8 x9 x10 x11 x12 x13 x14 x15 x16 x17 x18 x19 x20 x21 x22 x23 x24 x25 x26 x27 x28 x29 x30 x31 w' hE
    rintro rfl R hR
    have qgi0 := (gi.ext hE).c 0 rfl
    have qgi1 := (gi.ext hE).c 1 rfl
    simp only [putAll, List.take, List.drop, List.map, Act.put, List.setIfInBounds_toArray, List.set_cons_zero, List.set_cons_succ]
    go_simp
    exact hR _ _ (Ext.refl _) (rfl) trivial
  case o10 =>
    intro x0 x1 x2 x3 x4 x5 x6 x7 x8 x9 x10 x11 x12 x13 x14 x15 x16 x17 x18 x19 x20 x21 x22 x23 x24 x25 x26 x27 x28 x29 x30 x31 w' hE
    rintro rfl rfl _ R hR
    simp only [putAll, List.take, List.drop, List.map, Act.put, List.setIfInBounds_toArray, List.set_cons_zero, List.set_cons_succ]
    go_simp
    refine (isOne_c ⟨ib, ip, rfl, hi.ext hE⟩).mono ?_
    rintro _ w'' ⟨v, rfl, hv, hb⟩
    exact hR _ _ hb hv trivial
  case o11 =>
    intro x0 x1 x2 x3 x4 x5 x6 x7 x8 x9 x10 x11 x12 x13 x14 x15 x16 x17 x18 x19 x20 x21 x22 x23 x24 x25 x26 x27 x28 x29 x30 x31 w' hE
    rintro rfl R hR
    simp only [putAll, List.take, List.drop, List.map, Act.put, List.setIfInBounds_toArray, List.set_cons_zero, List.set_cons_succ]
    go_simp
    exact hR _ _ (Ext.refl _) (rfl) trivial
  case o12 =>
    intro x0 x1 x2 x3 x4 x5 x6 x7 x8 x9 x10 x11 x12 x13 x14 x15 x16 x17 x18 x19 x20 x21 x22 x23 x24 x25 x26 x27 x28 x29 x30 x31 w' hE
    rintro rfl rfl R hR
    simp only [putAll, List.take, List.drop, List.map, Act.put, List.setIfInBounds_toArray, List.set_cons_zero, List.set_cons_succ]
    go_simp
    exact hR _ _ (Ext.refl _) (rfl) trivial
  case o13 =>
    intro x0 x1 x2 x3 x4 x5 x6 x7 x8 x9 x10 x11 x12 x13 x14 x15 x16 x17 x18 x19 x20 x21 x22 x23 x24 x25 x26 x27 x28 x29 x30 x31 w' hE
    rintro rfl rfl R hR
    simp only [putAll, List.take, List.drop, List.map, Act.put, List.setIfInBounds_toArray, List.set_cons_zero, List.set_cons_succ]
    go_simp
    exact hR _ _ (Ext.refl _) (rfl) trivial
  case o14 =>
    intro x0 x1 x2 x3 x4 x5 x6 x7 x8 x9 x10 x11 x12 x13 x14 x15 x16 x17 x18 x19 x20 x21 x22 x23 x24 x25 x26 x27 x28 x29 x30 x31 w' hE
    rintro rfl rfl R hR
    have qgx0 := (gx.ext hE).c 0 rfl
    have qgx1 := (gx.ext hE).c 1 rfl
    have qgx2 := (gx.ext hE).c 2 rfl
    simp only [putAll, List.take, List.drop, List.map, Act.put, List.setIfInBounds_toArray, List.set_cons_zero, List.set_cons_succ]
    go_simp
    exact hR _ _ (Ext.refl _) (rfl) trivial
  case o15 =>
    intro x0 x1 x2 x3 x4 x5 x6 x7 x8 x9 x10 x11 x12 x13 x14 x15 x16 x17 x18 x19 x20 x21 x22 x23 x24 x25 x26 x27 x28 x29 x30 x31 w' hE
    rintro rfl rfl R hR
    simp only [putAll, List.take, List.drop, List.map, Act.put, List.setIfInBounds_toArray, List.set_cons_zero, List.set_cons_succ]
    go_simp
    exact hR _ _ (Ext.refl _) (rfl) trivial
  case o16 =>
    intro x0 x1 x2 x3 x4 x5 x6 x7 x8 x9 x10 x11 x12 x13 x14 x15 x16 x17 x18 x19 x20 x21 x22 x23 x24 x25 x26 x27 x28 x29 x30 x31 w' hE
    rintro rfl rfl rfl R hR
    simp only [putAll, List.take, List.drop, List.map, Act.put, List.setIfInBounds_toArray, List.set_cons_zero, List.set_cons_succ]
    go_simp
    exact hR _ _ (Ext.refl _) (rfl) trivial
  case o17 =>
    intro x0 x1 x2 x3 x4 x5 x6 x7 x8 x9 x10 x11 x12 x13 x14 x15 x16 x17 x18 x19 x20 x21 x22 x23 x24 x25 x26 x27 x28 x29 x30 x31 w' hE
    rintro rfl rfl R hR
    simp only [putAll, List.take, List.drop, List.map, Act.put, List.setIfInBounds_toArray, List.set_cons_zero, List.set_cons_succ]
    go_simp
    exact hR _ _ (Ext.refl _) (rfl) trivial
  case o18 =>
    intro x0 x1 x2 x3 x4 x5 x6 x7 x8 x9 x10 x11 x12 x13 x14 x15 x16 x17 x18 x19 x20 x21 x22 x23 x24 x25 x26 x27 x28 x29 x30 x31 w' hE
    rintro rfl rfl R hR
    simp only [putAll, List.take, List.drop, List.map, Act.put, List.setIfInBounds_toArray, List.set_cons_zero, List.set_cons_succ]
    go_simp
    exact hR _ _ (Ext.refl _) (rfl) trivial
  case o19 =>
    intro x0 x1 x2 x3 x4 x5 x6 x7 x8 x9 x10 x11 x12 x13 x14 x15 x16 x17 x18 x19 x20 x21 x22 x23 x24 x25 x26 x27 x28 x29 x30 x31 w' hE
    rintro rfl R hR
    have qgi0 := (gi.ext hE).c 0 rfl
    have qgi1 := (gi.ext hE).c 1 rfl
    simp only [putAll, List.take, List.drop, List.map, Act.put, List.setIfInBounds_toArray, List.set_cons_zero, List.set_cons_succ]
    go_simp
    exact hR _ _ (Ext.refl _) (rfl) trivial
  case o20 =>
    intro x0 x1 x2 x3 x4 x5 x6 x7 x8 x9 x10 x11 x12 x13 x14 x15 x16 x17 x18 x19 x20 x21 x22 x23 x24 x25 x26 x27 x28 x29 x30 x31 w' hE
    rintro rfl rfl _ R hR
    simp only [putAll, List.take, List.drop, List.map, Act.put, List.setIfInBounds_toArray, List.set_cons_zero, List.set_cons_succ]
    go_simp
    refine (depth_c ⟨ib, ip, rfl, hi.ext hE⟩).mono ?_
    rintro _ w'' ⟨v, rfl, hv, hb⟩
    exact hR _ _ hb hv trivial
  case o21 =>
    intro x0 x1 x2 x3 x4 x5 x6 x7 x8 x9 x10 x11 x12 x13 x14 x15 x16 x17 x18 x19 x20 x21 x22 x23 x24 x25 x26 x27 x28 x29 x30 x31 w' hE
    rintro rfl R hR
    simp only [putAll, List.take, List.drop, List.map, Act.put, List.setIfInBounds_toArray, List.set_cons_zero, List.set_cons_succ]
    go_simp
    exact hR _ _ (Ext.refl _) (rfl) trivial
  case o22 =>
    intro x0 x1 x2 x3 x4 x5 x6 x7 x8 x9 x10 x11 x12 x13 x14 x15 x16 x17 x18 x19 x20 x21 x22 x23 x24 x25 x26 x27 x28 x29 x30 x31 w' hE
    rintro rfl rfl rfl R hR
    simp only [putAll, List.take, List.drop, List.map, Act.put, List.setIfInBounds_toArray, List.set_cons_zero, List.set_cons_succ]
    go_simp
    refine (rdepth_c _ hd _ _ ⟨_, rfl, hx0.ext (hx.trans hE)⟩).mono ?_
    rintro _ w'' ⟨v, rfl, hv, hb⟩
    exact hR _ _ hb hv trivial
  case o23 =>
    intro x0 x1 x2 x3 x4 x5 x6 x7 x8 x9 x10 x11 x12 x13 x14 x15 x16 x17 x18 x19 x20 x21 x22 x23 x24 x25 x26 x27 x28 x29 x30 x31 w' hE
    rintro rfl rfl rfl R hR
    simp only [putAll, List.take, List.drop, List.map, Act.put, List.setIfInBounds_toArray, List.set_cons_zero, List.set_cons_succ]
    go_simp
    exact hR _ _ (Ext.refl _) (rfl) trivial
  case o24 =>
    intro x0 x1 x2 x3 x4 x5 x6 x7 x8 x9 x10 x11 x12 x13 x14 x15 x16 x17 x18 x19 x20 x21 x22 x23 x24 x25 x26 x27 x28 x29 x30 x31 w' hE
    rintro rfl rfl R hR
    simp only [putAll, List.take, List.drop, List.map, Act.put, List.setIfInBounds_toArray, List.set_cons_zero, List.set_cons_succ]
    go_simp
    exact hR _ _ (Ext.refl _) (rfl) trivial
  case o25 =>
    intro x0 x1 x2 x3 x4 x5 x6 x7 x8 x9 x10 x11 x12 x13 x14 x15 x16 x17 x18 x19 x20 x21 x22 x23 x24 x25 x26 x27 x28 x29 x30 x31 w' hE
    rintro rfl rfl R hR
    simp only [putAll, List.take, List.drop, List.map, Act.put, List.setIfInBounds_toArray, List.set_cons_zero, List.set_cons_succ]
    go_simp
    exact hR _ _ (Ext.refl _) (rfl) trivial
  case o26 =>
    intro x0 x1 x2 x3 x4 x5 x6 x7 x8 x9 x10 x11 x12 x13 x14 x15 x16 x17 x18 x19 x20 x21 x22 x23 x24 x25 x26 x27 x28 x29 x30 x31 w' hE
    rintro rfl R hR
    have qgi0 := (gi.ext hE).c 0 rfl
    have qgi1 := (gi.ext hE).c 1 rfl
    simp only [putAll, List.take, List.drop, List.map, Act.put, List.setIfInBounds_toArray, List.set_cons_zero, List.set_cons_succ]
    go_simp
    exact hR _ _ (Ext.refl _) (rfl) trivial
  case o27 =>
    intro x0 x1 x2 x3 x4 x5 x6 x7 x8 x9 x10 x11 x12 x13 x14 x15 x16 x17 x18 x19 x20 x21 x22 x23 x24 x25 x26 x27 x28 x29 x30 x31 w' hE
    rintro rfl rfl _ R hR
    simp only [putAll, List.take, List.drop, List.map, Act.put, List.setIfInBounds_toArray, List.set_cons_zero, List.set_cons_succ]
    go_simp
    refine (text_c ⟨ib, ip, rfl, hi.ext hE⟩ (by omega)).mono ?_
    rintro _ w'' ⟨v, rfl, hv, hb⟩
    exact hR _ _ hb hv trivial
  case o28 =>
    intro x0 x1 x2 x3 x4 x5 x6 x7 x8 x9 x10 x11 x12 x13 x14 x15 x16 x17 x18 x19 x20 x21 x22 x23 x24 x25 x26 x27 x28 x29 x30 x31 w' hE
    rintro rfl R hR
    simp only [putAll, List.take, List.drop, List.map, Act.put, List.setIfInBounds_toArray, List.set_cons_zero, List.set_cons_succ]
    go_simp
    exact hR _ _ (Ext.refl _) (rfl) trivial
  case o29 =>
    intro x0 x1 x2 x3 x4 x5 x6 x7 x8 x9 x10 x11 x12 x13 x14 x15 x16 x17 x18 x19 x20 x21 x22 x23 x24 x25 x26 x27 x28 x29 x30 x31 w' hE
    rintro rfl rfl rfl R hR
    simp only [putAll, List.take, List.drop, List.map, Act.put, List.setIfInBounds_toArray, List.set_cons_zero, List.set_cons_succ]
    go_simp
    refine (rtext_c _ hn _ _ ⟨_, rfl, hx0.ext (hx.trans hE)⟩).mono ?_
    rintro _ w'' ⟨v, rfl, hv, hb⟩
    exact hR _ _ hb hv trivial
  case o30 =>
    intro x0 x1 x2 x3 x4 x5 x6 x7 x8 x9 x10 x11 x12 x13 x14 x15 x16 x17 x18 x19 x20 x21 x22 x23 x24 x25 x26 x27 x28 x29 x30 x31 w' hE
    rintro rfl rfl rfl R hR
    simp only [putAll, List.take, List.drop, List.map, Act.put, List.setIfInBounds_toArray, List.set_cons_zero, List.set_cons_succ]
    go_simp
    exact hR _ _ (Ext.refl _) (rfl) trivial
  case o31 =>
    intro x0 x1 x2 x3 x4 x5 x6 x7 x8 x9 x10 x11 x12 x13 x14 x15 x16 x17 x18 x19 x20 x21 x22 x23 x24 x25 x26 x27 x28 x29 x30 x31 w' hE
    rintro rfl rfl R hR
    simp only [putAll, List.take, List.drop, List.map, Act.put, List.setIfInBounds_toArray, List.set_cons_zero, List.set_cons_succ]
    go_simp
    exact hR _ _ (Ext.refl _) (rfl) trivial
  case rest =>
    intro x0 x1 x2 x3 x4 x5 x6 x7 x8 x9 x10 x11 x12 x13 x14 x15 x16 x17 x18 x19 x20 x21 x22 x23 x24 x25 x26 x27 x28 x29 x30 x31 w1 hb
    rintro rfl rfl rfl rfl rfl rfl rfl rfl rfl rfl rfl rfl rfl rfl rfl rfl rfl rfl rfl rfl rfl rfl rfl rfl rfl rfl rfl rfl rfl rfl rfl rfl hap
    replace hx := Ext.trans hx hb; replace gx := gx.ext hb; replace gi := gi.ext hb; replace hi := (PRep (T.node l r) ib ip).mono hb hi; have s3 := hb.size
    clear hap
    simp only [putAll, List.take, List.drop, List.map, Act.put, List.setIfInBounds_toArray, List.set_cons_zero, List.set_cons_succ]
    have gx_0 := gx.c 0 rfl; have gxf0 := gx.f 0; have gx_1 := gx.c 1 rfl; have gxf1 := gx.f 1; have gx_2 := gx.c 2 rfl; have gxf2 := gx.f 2; have gxl := gx.lt; have gi_0 := gi.c 0 rfl; have gif0 := gi.f 0; have gi_1 := gi.c 1 rfl; have gif1 := gi.f 1; have gil := gi.lt
    go_wp2_with fail
    clear gx_0 gxf0 gx_1 gxf1 gx_2 gxf2 gxl gi_0 gif0 gi_1 gif1 gil
    have gxlt4 := gx.lt
    have gilt4 := gi.lt
    refine wp_facts 42 [] [PP.eq (.pointer (some ⟨k, 0, none⟩)), PP.eq (.pointer (some ⟨k, 0, none⟩)), PP.eq (.pointer (some ⟨k, 0, none⟩)), PP.eq (.int .i64 2), PP.eq (.bool false), PP.eq (.bool false), PP.eq (undef), PP.eq (undef), PP.eq (undef), PP.eq (undef), PP.eq (.bool false), PP.eq (.bool false), PP.eq (undef), PP.eq (undef), PP.eq (undef), PP.eq (undef), PP.eq (.bool false), PP.eq (.bool false), PP.eq (.pointer (some ⟨k, 0, none⟩)), PP.eq (.pointer (some ⟨k, 0, none⟩)), PP.eq (.pointer (some ⟨k, 0, none⟩)), PP.eq (.int .i64 2), PP.eq (.bool true), PP.eq (.bool true), PP.eq (.agg #[.bool ib, .pointer ip]), (IsId l).toPP, PP.eq (.pointer (some ⟨k, 0, none⟩)), PP.eq (.pointer (some ⟨k, 0, none⟩)), PP.eq (.pointer (some ⟨k, 1, none⟩)), PP.eq (.pointer pl), PP.eq (.bool true), PP.eq (.bool true), PP.eq (.bool true), PP.eq (.agg #[.bool ib, .pointer ip]), (IsId r).toPP, PP.eq (.pointer (some ⟨k, 0, none⟩)), PP.eq (.pointer (some ⟨k, 0, none⟩)), PP.eq (.pointer (some ⟨k, 2, none⟩)), PP.eq (.pointer pr), PP.eq (.bool true), PP.eq (.bool true), PP.eq (.bool true)] (by kernel_rfl) (by kernel_rfl) ⟨?o0, ?o1, ?o2, ?o3, ?o4, ?o5, ?o6, ?o7, ?o8, ?o9, ?o10, ?o11, ?o12, ?o13, ?o14, ?o15, ?o16, ?o17, ?o18, ?o19, ?o20, ?o21, ?o22, ?o23, ?o24, ?o25, ?o26, ?o27, ?o28, ?o29, ?o30, ?o31, ?o32, ?o33, ?o34, ?o35, ?o36, ?o37, ?o38, ?o39, ?o40, ?o41, trivial⟩ ?rest
    case o0 =>
      intro x0 x1 x2 x3 x4 x5 x6 x7 x8 x9 x10 x11 x12 x13 x14 x15 x16 x17 x18 x19 x20 x21 x22 x23 x24 x25 x26 x27 x28 x29 x30 x31 x32 x33 x34 x35 x36 x37 x38 x39 x40 x41 w' hE
      rintro R hR
      simp only [putAll, List.take, List.drop, List.map, Act.put, List.setIfInBounds_toArray, List.set_cons_zero, List.set_cons_succ]
      go_simp
      exact hR _ _ (Ext.refl _) (rfl) trivial
    case o1 =>
      intro x0 x1 x2 x3 x4 x5 x6 x7 x8 x9 x10 x11 x12 x13 x14 x15 x16 x17 x18 x19 x20 x21 x22 x23 x24 x25 x26 x27 x28 x29 x30 x31 x32 x33 x34 x35 x36 x37 x38 x39 x40 x41 w' hE
      rintro rfl R hR
      simp only [putAll, List.take, List.drop, List.map, Act.put, List.setIfInBounds_toArray, List.set_cons_zero, List.set_cons_succ]
      go_simp
      exact hR _ _ (Ext.refl _) (rfl) trivial
    case o2 =>
      intro x0 x1 x2 x3 x4 x5 x6 x7 x8 x9 x10 x11 x12 x13 x14 x15 x16 x17 x18 x19 x20 x21 x22 x23 x24 x25 x26 x27 x28 x29 x30 x31 x32 x33 x34 x35 x36 x37 x38 x39 x40 x41 w' hE
      rintro rfl R hR
      simp only [putAll, List.take, List.drop, List.map, Act.put, List.setIfInBounds_toArray, List.set_cons_zero, List.set_cons_succ]
      go_simp
      exact hR _ _ (Ext.refl _) (rfl) trivial
    case o3 =>
      intro x0 x1 x2 x3 x4 x5 x6 x7 x8 x9 x10 x11 x12 x13 x14 x15 x16 x17 x18 x19 x20 x21 x22 x23 x24 x25 x26 x27 x28 x29 x30 x31 x32 x33 x34 x35 x36 x37 x38 x39 x40 x41 w' hE
      rintro rfl R hR
      have qgx0 := (gx.ext hE).c 0 rfl
      have qgx1 := (gx.ext hE).c 1 rfl
      have qgx2 := (gx.ext hE).c 2 rfl
      simp only [putAll, List.take, List.drop, List.map, Act.put, List.setIfInBounds_toArray, List.set_cons_zero, List.set_cons_succ]
      go_simp
      exact hR _ _ (Ext.refl _) (rfl) trivial
    case o4 =>
      intro x0 x1 x2 x3 x4 x5 x6 x7 x8 x9 x10 x11 x12 x13 x14 x15 x16 x17 x18 x19 x20 x21 x22 x23 x24 x25 x26 x27 x28 x29 x30 x31 x32 x33 x34 x35 x36 x37 x38 x39 x40 x41 w' hE
      rintro rfl R hR
      simp only [putAll, List.take, List.drop, List.map, Act.put, List.setIfInBounds_toArray, List.set_cons_zero, List.set_cons_succ]
      go_simp
      exact hR _ _ (Ext.refl _) (rfl) trivial
    case o5 =>
      intro x0 x1 x2 x3 x4 x5 x6 x7 x8 x9 x10 x11 x12 x13 x14 x15 x16 x17 x18 x19 x20 x21 x22 x23 x24 x25 x26 x27 x28 x29 x30 x31 x32 x33 x34 x35 x36 x37 x38 x39 x40 x41 w' hE
      rintro rfl R hR
      simp only [putAll, List.take, List.drop, List.map, Act.put, List.setIfInBounds_toArray, List.set_cons_zero, List.set_cons_succ]
      go_simp
      exact hR _ _ (Ext.refl _) (rfl) trivial
    case o6 =>
      intro x0 x1 x2 x3 x4 x5 x6 x7 x8 x9 x10 x11 x12 x13 x14 x15 x16 x17 x18 x19 x20 x21 x22 x23 x24 x25 x26 x27 x28 x29 x30 x31 x32 x33 x34 x35 x36 x37 x38 x39 x40 x41 w' hE
      rintro rfl R hR
      simp only [putAll, List.take, List.drop, List.map, Act.put, List.setIfInBounds_toArray, List.set_cons_zero, List.set_cons_succ]
      go_simp
      exact hR _ _ (Ext.refl _) (rfl) trivial
    case o7 =>
      intro x0 x1 x2 x3 x4 x5 x6 x7 x8 x9 x10 x11 x12 x13 x14 x15 x16 x17 x18 x19 x20 x21 x22 x23 x24 x25 x26 x27 x28 x29 x30 x31 x32 x33 x34 x35 x36 x37 x38 x39 x40 x41 w' hE
      rintro rfl rfl _ R hR
      simp only [putAll, List.take, List.drop, List.map, Act.put, List.setIfInBounds_toArray, List.set_cons_zero, List.set_cons_succ]
      go_simp
      exact hR _ _ (Ext.refl _) (rfl) trivial
    case o8 =>
      intro x0 x1 x2 x3 x4 x5 x6 x7 x8 x9 x10 x11 x12 x13 x14 x15 x16 x17 x18 x19 x20 x21 x22 x23 x24 x25 x26 x27 x28 x29 x30 x31 x32 x33 x34 x35 x36 x37 x38 x39 x40 x41 w' hE
      rintro rfl R hR
      simp only [putAll, List.take, List.drop, List.map, Act.put, List.setIfInBounds_toArray, List.set_cons_zero, List.set_cons_succ]
      go_simp
      exact hR _ _ (Ext.refl _) (rfl) trivial
    case o9 =>
      intro x0 x1 x2 x3 x4 x5 x6 x7 x8 x9 x10 x11 x12 x13 x14 x15 x16 x17 x18 x19 x20 x21 x22 x23 x24 x25 x26 x27 x28 x29 x30 x31 x32 x33 x34 x35 x36 x37 x38 x39 x40 x41 w' hE
      rintro rfl rfl _ rfl R hR
      simp only [putAll, List.take, List.drop, List.map, Act.put, List.setIfInBounds_toArray, List.set_cons_zero, List.set_cons_succ]
      go_simp
      exact hR _ _ (Ext.refl _) (rfl) trivial
    case o10 =>
      intro x0 x1 x2 x3 x4 x5 x6 x7 x8 x9 x10 x11 x12 x13 x14 x15 x16 x17 x18 x19 x20 x21 x22 x23 x24 x25 x26 x27 x28 x29 x30 x31 x32 x33 x34 x35 x36 x37 x38 x39 x40 x41 w' hE
      rintro rfl rfl R hR
      simp only [putAll, List.take, List.drop, List.map, Act.put, List.setIfInBounds_toArray, List.set_cons_zero, List.set_cons_succ]
      go_simp
      exact hR _ _ (Ext.refl _) (rfl) trivial
    case o11 =>
      intro x0 x1 x2 x3 x4 x5 x6 x7 x8 x9 x10 x11 x12 x13 x14 x15 x16 x17 x18 x19 x20 x21 x22 x23 x24 x25 x26 x27 x28 x29 x30 x31 x32 x33 x34 x35 x36 x37 x38 x39 x40 x41 w' hE
      rintro rfl rfl R hR
      simp only [putAll, List.take, List.drop, List.map, Act.put, List.setIfInBounds_toArray, List.set_cons_zero, List.set_cons_succ]
      go_simp
      exact hR _ _ (Ext.refl _) (rfl) trivial
    case o12 =>
      intro x0 x1 x2 x3 x4 x5 x6 x7 x8 x9 x10 x11 x12 x13 x14 x15 x16 x17 x18 x19 x20 x21 x22 x23 x24 x25 x26 x27 x28 x29 x30 x31 x32 x33 x34 x35 x36 x37 x38 x39 x40 x41 w' hE
      rintro rfl R hR
      simp only [putAll, List.take, List.drop, List.map, Act.put, List.setIfInBounds_toArray, List.set_cons_zero, List.set_cons_succ]
      go_simp
      exact hR _ _ (Ext.refl _) (rfl) trivial
    case o13 =>
      intro x0 x1 x2 x3 x4 x5 x6 x7 x8 x9 x10 x11 x12 x13 x14 x15 x16 x17 x18 x19 x20 x21 x22 x23 x24 x25 x26 x27 x28 x29 x30 x31 x32 x33 x34 x35 x36 x37 x38 x39 x40 x41 w' hE
      rintro rfl rfl _ R hR
      simp only [putAll, List.take, List.drop, List.map, Act.put, List.setIfInBounds_toArray, List.set_cons_zero, List.set_cons_succ]
      go_simp
      exact hR _ _ (Ext.refl _) (rfl) trivial
    case o14 =>
      intro x0 x1 x2 x3 x4 x5 x6 x7 x8 x9 x10 x11 x12 x13 x14 x15 x16 x17 x18 x19 x20 x21 x22 x23 x24 x25 x26 x27 x28 x29 x30 x31 x32 x33 x34 x35 x36 x37 x38 x39 x40 x41 w' hE
      rintro rfl R hR
      simp only [putAll, List.take, List.drop, List.map, Act.put, List.setIfInBounds_toArray, List.set_cons_zero, List.set_cons_succ]
      go_simp
      exact hR _ _ (Ext.refl _) (rfl) trivial
    case o15 =>
      intro x0 x1 x2 x3 x4 x5 x6 x7 x8 x9 x10 x11 x12 x13 x14 x15 x16 x17 x18 x19 x20 x21 x22 x23 x24 x25 x26 x27 x28 x29 x30 x31 x32 x33 x34 x35 x36 x37 x38 x39 x40 x41 w' hE
      rintro rfl rfl _ rfl R hR
      simp only [putAll, List.take, List.drop, List.map, Act.put, List.setIfInBounds_toArray, List.set_cons_zero, List.set_cons_succ]
      go_simp
      exact hR _ _ (Ext.refl _) (rfl) trivial
    case o16 =>
      intro x0 x1 x2 x3 x4 x5 x6 x7 x8 x9 x10 x11 x12 x13 x14 x15 x16 x17 x18 x19 x20 x21 x22 x23 x24 x25 x26 x27 x28 x29 x30 x31 x32 x33 x34 x35 x36 x37 x38 x39 x40 x41 w' hE
      rintro rfl rfl R hR
      simp only [putAll, List.take, List.drop, List.map, Act.put, List.setIfInBounds_toArray, List.set_cons_zero, List.set_cons_succ]
      go_simp
      exact hR _ _ (Ext.refl _) (rfl) trivial
    case o17 =>
      intro x0 x1 x2 x3 x4 x5 x6 x7 x8 x9 x10 x11 x12 x13 x14 x15 x16 x17 x18 x19 x20 x21 x22 x23 x24 x25 x26 x27 x28 x29 x30 x31 x32 x33 x34 x35 x36 x37 x38 x39 x40 x41 w' hE
      rintro rfl rfl R hR
      simp only [putAll, List.take, List.drop, List.map, Act.put, List.setIfInBounds_toArray, List.set_cons_zero, List.set_cons_succ]
      go_simp
      exact hR _ _ (Ext.refl _) (rfl) trivial
    case o18 =>
      intro x0 x1 x2 x3 x4 x5 x6 x7 x8 x9 x10 x11 x12 x13 x14 x15 x16 x17 x18 x19 x20 x21 x22 x23 x24 x25 x26 x27 x28 x29 x30 x31 x32 x33 x34 x35 x36 x37 x38 x39 x40 x41 w' hE
      rintro rfl R hR
      simp only [putAll, List.take, List.drop, List.map, Act.put, List.setIfInBounds_toArray, List.set_cons_zero, List.set_cons_succ]
      go_simp
      exact hR _ _ (Ext.refl _) (rfl) trivial
    case o19 =>
      intro x0 x1 x2 x3 x4 x5 x6 x7 x8 x9 x10 x11 x12 x13 x14 x15 x16 x17 x18 x19 x20 x21 x22 x23 x24 x25 x26 x27 x28 x29 x30 x31 x32 x33 x34 x35 x36 x37 x38 x39 x40 x41 w' hE
      rintro rfl rfl R hR
      simp only [putAll, List.take, List.drop, List.map, Act.put, List.setIfInBounds_toArray, List.set_cons_zero, List.set_cons_succ]
      go_simp
      exact hR _ _ (Ext.refl _) (rfl) trivial
    case o20 =>
      intro x0 x1 x2 x3 x4 x5 x6 x7 x8 x9 x10 x11 x12 x13 x14 x15 x16 x17 x18 x19 x20 x21 x22 x23 x24 x25 x26 x27 x28 x29 x30 x31 x32 x33 x34 x35 x36 x37 x38 x39 x40 x41 w' hE
      rintro rfl rfl R hR
      simp only [putAll, List.take, List.drop, List.map, Act.put, List.setIfInBounds_toArray, List.set_cons_zero, List.set_cons_succ]
      go_simp
      exact hR _ _ (Ext.refl _) (rfl) trivial
    case o21 =>
      intro x0 x1 x2 x3 x4 x5 x6 x7 x8 x9 x10 x11 x12 x13 x14 x15 x16 x17 x18 x19 x20 x21 x22 x23 x24 x25 x26 x27 x28 x29 x30 x31 x32 x33 x34 x35 x36 x37 x38 x39 x40 x41 w' hE
      rintro rfl rfl R hR
      have qgx0 := (gx.ext hE).c 0 rfl
      have qgx1 := (gx.ext hE).c 1 rfl
      have qgx2 := (gx.ext hE).c 2 rfl
      simp only [putAll, List.take, List.drop, List.map, Act.put, List.setIfInBounds_toArray, List.set_cons_zero, List.set_cons_succ]
      go_simp
      exact hR _ _ (Ext.refl _) (rfl) trivial
    case o22 =>
      intro x0 x1 x2 x3 x4 x5 x6 x7 x8 x9 x10 x11 x12 x13 x14 x15 x16 x17 x18 x19 x20 x21 x22 x23 x24 x25 x26 x27 x28 x29 x30 x31 x32 x33 x34 x35 x36 x37 x38 x39 x40 x41 w' hE
      rintro rfl rfl R hR
      simp only [putAll, List.take, List.drop, List.map, Act.put, List.setIfInBounds_toArray, List.set_cons_zero, List.set_cons_succ]
      go_simp
      exact hR _ _ (Ext.refl _) (rfl) trivial
    case o23 =>
      intro x0 x1 x2 x3 x4 x5 x6 x7 x8 x9 x10 x11 x12 x13 x14 x15 x16 x17 x18 x19 x20 x21 x22 x23 x24 x25 x26 x27 x28 x29 x30 x31 x32 x33 x34 x35 x36 x37 x38 x39 x40 x41 w' hE
      rintro rfl rfl _ R hR
      simp only [putAll, List.take, List.drop, List.map, Act.put, List.setIfInBounds_toArray, List.set_cons_zero, List.set_cons_succ]
      go_simp
      exact hR _ _ (Ext.refl _) (rfl) trivial
    case o24 =>
      intro x0 x1 x2 x3 x4 x5 x6 x7 x8 x9 x10 x11 x12 x13 x14 x15 x16 x17 x18 x19 x20 x21 x22 x23 x24 x25 x26 x27 x28 x29 x30 x31 x32 x33 x34 x35 x36 x37 x38 x39 x40 x41 w' hE
      rintro rfl R hR
      have qgi0 := (gi.ext hE).c 0 rfl
      have qgi1 := (gi.ext hE).c 1 rfl
      simp only [putAll, List.take, List.drop, List.map, Act.put, List.setIfInBounds_toArray, List.set_cons_zero, List.set_cons_succ]
      go_simp
      exact hR _ _ (Ext.refl _) (rfl) trivial
    case o25 =>
      intro x0 x1 x2 x3 x4 x5 x6 x7 x8 x9 x10 x11 x12 x13 x14 x15 x16 x17 x18 x19 x20 x21 x22 x23 x24 x25 x26 x27 x28 x29 x30 x31 x32 x33 x34 x35 x36 x37 x38 x39 x40 x41 w' hE
      rintro rfl rfl _ R hR
      simp only [putAll, List.take, List.drop, List.map, Act.put, List.setIfInBounds_toArray, List.set_cons_zero, List.set_cons_succ]
      go_simp
      refine (left_c ⟨ib, ip, rfl, hi.ext hE⟩).mono ?_
      rintro _ w'' ⟨v, rfl, hv, hb⟩
      exact hR _ _ hb hv trivial
    case o26 =>
      intro x0 x1 x2 x3 x4 x5 x6 x7 x8 x9 x10 x11 x12 x13 x14 x15 x16 x17 x18 x19 x20 x21 x22 x23 x24 x25 x26 x27 x28 x29 x30 x31 x32 x33 x34 x35 x36 x37 x38 x39 x40 x41 w' hE
      rintro rfl R hR
      simp only [putAll, List.take, List.drop, List.map, Act.put, List.setIfInBounds_toArray, List.set_cons_zero, List.set_cons_succ]
      go_simp
      exact hR _ _ (Ext.refl _) (rfl) trivial
    case o27 =>
      intro x0 x1 x2 x3 x4 x5 x6 x7 x8 x9 x10 x11 x12 x13 x14 x15 x16 x17 x18 x19 x20 x21 x22 x23 x24 x25 x26 x27 x28 x29 x30 x31 x32 x33 x34 x35 x36 x37 x38 x39 x40 x41 w' hE
      rintro rfl rfl R hR
      simp only [putAll, List.take, List.drop, List.map, Act.put, List.setIfInBounds_toArray, List.set_cons_zero, List.set_cons_succ]
      go_simp
      exact hR _ _ (Ext.refl _) (rfl) trivial
    case o28 =>
      intro x0 x1 x2 x3 x4 x5 x6 x7 x8 x9 x10 x11 x12 x13 x14 x15 x16 x17 x18 x19 x20 x21 x22 x23 x24 x25 x26 x27 x28 x29 x30 x31 x32 x33 x34 x35 x36 x37 x38 x39 x40 x41 w' hE
      rintro rfl rfl R hR
      simp only [putAll, List.take, List.drop, List.map, Act.put, List.setIfInBounds_toArray, List.set_cons_zero, List.set_cons_succ]
      go_simp
      exact hR _ _ (Ext.refl _) (rfl) trivial
    case o29 =>
      intro x0 x1 x2 x3 x4 x5 x6 x7 x8 x9 x10 x11 x12 x13 x14 x15 x16 x17 x18 x19 x20 x21 x22 x23 x24 x25 x26 x27 x28 x29 x30 x31 x32 x33 x34 x35 x36 x37 x38 x39 x40 x41 w' hE
      rintro rfl rfl R hR
      have qgx0 := (gx.ext hE).c 0 rfl
      have qgx1 := (gx.ext hE).c 1 rfl
      have qgx2 := (gx.ext hE).c 2 rfl
      simp only [putAll, List.take, List.drop, List.map, Act.put, List.setIfInBounds_toArray, List.set_cons_zero, List.set_cons_succ]
      go_simp
      exact hR _ _ (Ext.refl _) (rfl) trivial
    case o30 =>
      intro x0 x1 x2 x3 x4 x5 x6 x7 x8 x9 x10 x11 x12 x13 x14 x15 x16 x17 x18 x19 x20 x21 x22 x23 x24 x25 x26 x27 x28 x29 x30 x31 x32 x33 x34 x35 x36 x37 x38 x39 x40 x41 w' hE
      rintro d25 rfl _ rfl R hR
      simp only [putAll, List.take, List.drop, List.map, Act.put, List.setIfInBounds_toArray, List.set_cons_zero, List.set_cons_succ]
      go_simp
      refine (IHL.out _ _ _ d25 ⟨_, rfl, rl.ext (hx.trans hE)⟩).mono ?_
      rintro _ w'' ⟨v, rfl, hv, hb⟩
      exact hR _ _ hb hv trivial
    case o31 =>
      intro x0 x1 x2 x3 x4 x5 x6 x7 x8 x9 x10 x11 x12 x13 x14 x15 x16 x17 x18 x19 x20 x21 x22 x23 x24 x25 x26 x27 x28 x29 x30 x31 x32 x33 x34 x35 x36 x37 x38 x39 x40 x41 w' hE
      rintro rfl rfl rfl R hR
      simp only [putAll, List.take, List.drop, List.map, Act.put, List.setIfInBounds_toArray, List.set_cons_zero, List.set_cons_succ]
      go_simp
      exact hR _ _ (Ext.refl _) (rfl) trivial
    case o32 =>
      intro x0 x1 x2 x3 x4 x5 x6 x7 x8 x9 x10 x11 x12 x13 x14 x15 x16 x17 x18 x19 x20 x21 x22 x23 x24 x25 x26 x27 x28 x29 x30 x31 x32 x33 x34 x35 x36 x37 x38 x39 x40 x41 w' hE
      rintro rfl rfl rfl R hR
      simp only [putAll, List.take, List.drop, List.map, Act.put, List.setIfInBounds_toArray, List.set_cons_zero, List.set_cons_succ]
      go_simp
      exact hR _ _ (Ext.refl _) (rfl) trivial
    case o33 =>
      intro x0 x1 x2 x3 x4 x5 x6 x7 x8 x9 x10 x11 x12 x13 x14 x15 x16 x17 x18 x19 x20 x21 x22 x23 x24 x25 x26 x27 x28 x29 x30 x31 x32 x33 x34 x35 x36 x37 x38 x39 x40 x41 w' hE
      rintro rfl R hR
      have qgi0 := (gi.ext hE).c 0 rfl
      have qgi1 := (gi.ext hE).c 1 rfl
      simp only [putAll, List.take, List.drop, List.map, Act.put, List.setIfInBounds_toArray, List.set_cons_zero, List.set_cons_succ]
      go_simp
      exact hR _ _ (Ext.refl _) (rfl) trivial
    case o34 =>
      intro x0 x1 x2 x3 x4 x5 x6 x7 x8 x9 x10 x11 x12 x13 x14 x15 x16 x17 x18 x19 x20 x21 x22 x23 x24 x25 x26 x27 x28 x29 x30 x31 x32 x33 x34 x35 x36 x37 x38 x39 x40 x41 w' hE
      rintro rfl rfl _ R hR
      simp only [putAll, List.take, List.drop, List.map, Act.put, List.setIfInBounds_toArray, List.set_cons_zero, List.set_cons_succ]
      go_simp
      refine (right_c ⟨ib, ip, rfl, hi.ext hE⟩).mono ?_
      rintro _ w'' ⟨v, rfl, hv, hb⟩
      exact hR _ _ hb hv trivial
    case o35 =>
      intro x0 x1 x2 x3 x4 x5 x6 x7 x8 x9 x10 x11 x12 x13 x14 x15 x16 x17 x18 x19 x20 x21 x22 x23 x24 x25 x26 x27 x28 x29 x30 x31 x32 x33 x34 x35 x36 x37 x38 x39 x40 x41 w' hE
      rintro rfl R hR
      simp only [putAll, List.take, List.drop, List.map, Act.put, List.setIfInBounds_toArray, List.set_cons_zero, List.set_cons_succ]
      go_simp
      exact hR _ _ (Ext.refl _) (rfl) trivial
    case o36 =>
      intro x0 x1 x2 x3 x4 x5 x6 x7 x8 x9 x10 x11 x12 x13 x14 x15 x16 x17 x18 x19 x20 x21 x22 x23 x24 x25 x26 x27 x28 x29 x30 x31 x32 x33 x34 x35 x36 x37 x38 x39 x40 x41 w' hE
      rintro rfl rfl R hR
      simp only [putAll, List.take, List.drop, List.map, Act.put, List.setIfInBounds_toArray, List.set_cons_zero, List.set_cons_succ]
      go_simp
      exact hR _ _ (Ext.refl _) (rfl) trivial
    case o37 =>
      intro x0 x1 x2 x3 x4 x5 x6 x7 x8 x9 x10 x11 x12 x13 x14 x15 x16 x17 x18 x19 x20 x21 x22 x23 x24 x25 x26 x27 x28 x29 x30 x31 x32 x33 x34 x35 x36 x37 x38 x39 x40 x41 w' hE
      rintro rfl rfl R hR
      simp only [putAll, List.take, List.drop, List.map, Act.put, List.setIfInBounds_toArray, List.set_cons_zero, List.set_cons_succ]
      go_simp
      exact hR _ _ (Ext.refl _) (rfl) trivial
    case o38 =>
      intro x0 x1 x2 x3 x4 x5 x6 x7 x8 x9 x10 x11 x12 x13 x14 x15 x16 x17 x18 x19 x20 x21 x22 x23 x24 x25 x26 x27 x28 x29 x30 x31 x32 x33 x34 x35 x36 x37 x38 x39 x40 x41 w' hE
      rintro rfl rfl R hR
      have qgx0 := (gx.ext hE).c 0 rfl
      have qgx1 := (gx.ext hE).c 1 rfl
      have qgx2 := (gx.ext hE).c 2 rfl
      simp only [putAll, List.take, List.drop, List.map, Act.put, List.setIfInBounds_toArray, List.set_cons_zero, List.set_cons_succ]
      go_simp
      exact hR _ _ (Ext.refl _) (rfl) trivial
    case o39 =>
      intro x0 x1 x2 x3 x4 x5 x6 x7 x8 x9 x10 x11 x12 x13 x14 x15 x16 x17 x18 x19 x20 x21 x22 x23 x24 x25 x26 x27 x28 x29 x30 x31 x32 x33 x34 x35 x36 x37 x38 x39 x40 x41 w' hE
      rintro d34 rfl _ rfl R hR
      simp only [putAll, List.take, List.drop, List.map, Act.put, List.setIfInBounds_toArray, List.set_cons_zero, List.set_cons_succ]
      go_simp
      refine (IHR.out _ _ _ d34 ⟨_, rfl, rr.ext (hx.trans hE)⟩).mono ?_
      rintro _ w'' ⟨v, rfl, hv, hb⟩
      exact hR _ _ hb hv trivial
    case o40 =>
      intro x0 x1 x2 x3 x4 x5 x6 x7 x8 x9 x10 x11 x12 x13 x14 x15 x16 x17 x18 x19 x20 x21 x22 x23 x24 x25 x26 x27 x28 x29 x30 x31 x32 x33 x34 x35 x36 x37 x38 x39 x40 x41 w' hE
      rintro rfl rfl rfl R hR
      simp only [putAll, List.take, List.drop, List.map, Act.put, List.setIfInBounds_toArray, List.set_cons_zero, List.set_cons_succ]
      go_simp
      exact hR _ _ (Ext.refl _) (rfl) trivial
    case o41 =>
      intro x0 x1 x2 x3 x4 x5 x6 x7 x8 x9 x10 x11 x12 x13 x14 x15 x16 x17 x18 x19 x20 x21 x22 x23 x24 x25 x26 x27 x28 x29 x30 x31 x32 x33 x34 x35 x36 x37 x38 x39 x40 x41 w' hE
      rintro rfl rfl R hR
      simp only [putAll, List.take, List.drop, List.map, Act.put, List.setIfInBounds_toArray, List.set_cons_zero, List.set_cons_succ]
      go_simp
      exact hR _ _ (Ext.refl _) (rfl) trivial
    case rest =>
      intro x0 x1 x2 x3 x4 x5 x6 x7 x8 x9 x10 x11 x12 x13 x14 x15 x16 x17 x18 x19 x20 x21 x22 x23 x24 x25 x26 x27 x28 x29 x30 x31 x32 x33 x34 x35 x36 x37 x38 x39 x40 x41 w2 hb
      rintro rfl rfl rfl rfl rfl rfl rfl rfl rfl rfl rfl rfl rfl rfl rfl rfl rfl rfl rfl rfl rfl rfl rfl rfl rfl _ rfl rfl rfl rfl rfl rfl rfl rfl _ rfl rfl rfl rfl rfl rfl rfl hap
      replace hx := Ext.trans hx hb; replace gx := gx.ext hb; replace gi := gi.ext hb; replace hi := (PRep (T.node l r) ib ip).mono hb hi; have s5 := hb.size
      clear hap
      simp only [putAll, List.take, List.drop, List.map, Act.put, List.setIfInBounds_toArray, List.set_cons_zero, List.set_cons_succ]
      have gx_0 := gx.c 0 rfl; have gxf0 := gx.f 0; have gx_1 := gx.c 1 rfl; have gxf1 := gx.f 1; have gx_2 := gx.c 2 rfl; have gxf2 := gx.f 2; have gxl := gx.lt; have gi_0 := gi.c 0 rfl; have gif0 := gi.f 0; have gi_1 := gi.c 1 rfl; have gif1 := gi.f 1; have gil := gi.lt
      go_wp2_with fail
      clear gx_0 gxf0 gx_1 gxf1 gx_2 gxf2 gxl gi_0 gif0 gi_1 gif1 gil
      go_ret
      exact ⟨_, rfl, rfl, hx⟩

theorem like_c : ∀ (t : T), t.depth ≤ 1000 → (textT t).length ≤ 1000000000 → ∀ (i x : Value) (w : World), (IsId t).p i w → (IsRef t).p x w → Calls Try.prog 15 #[i, x] w (Ret w (PP.eq (.bool true)).p)
  | .zero, hd, hn, _, _, _, hi, hx => like_z hi hx hd hn
  | .one, hd, hn, _, _, _, hi, hx => like_o hi hx hd hn
  | .node l r, hd, hn, _, _, _, hi, hx => by
    have h1 : l.depth ≤ 1000 ∧ r.depth ≤ 1000 := by simp only [T.depth] at hd; omega
    have h2 : (textT l).length ≤ 1000000000 ∧ (textT r).length ≤ 1000000000 := by simp [textT] at hn; omega
    exact like_n hi hx hd hn (like_c l h1.1 h2.1) (like_c r h1.2 h2.2)

/-- an id in its one form -/
def T.wf : T → Bool
  | .node l r => l.wf && r.wf && mayT l r
  | _ => true
theorem wf_mk {l r : T} (h : (T.node l r).wf = true) : T.mk l r = .node l r := by
  simp only [T.wf, Bool.and_eq_true] at h; exact mk_may h.2
theorem mk_wf {l r : T} (hl : l.wf = true) (hr : r.wf = true) : (T.mk l r).wf = true := by
  cases l <;> cases r <;> first | rfl | (simp only [T.mk, T.wf, Bool.and_eq_true] at *; refine ⟨⟨?_, ?_⟩, rfl⟩ <;> first | trivial | exact hl | exact hr | simp_all)

set_option maxRecDepth 100000 in
set_option maxHeartbeats 400000 in
theorem own_zero {v : Value} {w : World} (h : (IsRef .zero).p v w) :
    Calls Try.prog 36 #[v] w (Ret w (IsId .zero).p) := by
  obtain ⟨p, rfl, k, rfl, g⟩ := h
  go_enter Try.func36, Try.ntmps36
  have g_0 := g.c 0 rfl; have gf0 := g.f 0; have g_1 := g.c 1 rfl; have gf1 := g.f 1; have g_2 := g.c 2 rfl; have gf2 := g.f 2; have gl := g.lt
  go_wp2_with fail
  clear g_0 gf0 g_1 gf1 g_2 gf2 gl
  have glt0 := g.lt
  obtain ⟨W, hW, hb, z0, gz⟩ := box1 w [.bool false, .pointer none] 26
  rw [hW]; clear hW
  have hx := hb; replace g := g.ext hb; have s1 := hb.size
  refine (zero_c).mono ?_
  rintro _ w1 ⟨zv, rfl, z, hb⟩
  replace hx := Ext.trans hx hb; replace g := g.ext hb; replace gz := gz.ext hb; have s2 := hb.size
  obtain ⟨zb, zp, rfl, zr⟩ := z
  have g_0 := g.c 0 rfl; have gf0 := g.f 0; have g_1 := g.c 1 rfl; have gf1 := g.f 1; have g_2 := g.c 2 rfl; have gf2 := g.f 2; have gl := g.lt; have gz_0 := gz.c 0 rfl; have gzf0 := gz.f 0; have gz_1 := gz.c 1 rfl; have gzf1 := gz.f 1; have gzl := gz.lt
  go_wp2_with fail
  clear g_0 gf0 g_1 gf1 g_2 gf2 gl gz_0 gzf0 gz_1 gzf1 gzl
  obtain ⟨y1, hW, st⟩ := ex2 gz (.bool zb) (.pointer zp)
  rw [hW]; clear hW
  replace hx : Ext w y1 := st.below hx (by omega); replace g := st.keep g (by omega); replace gz := st.blk; replace zr := (PRep .zero zb zp).imm (st.imm TS (by decide)) zr; have s3 := st.size
  have e0 := gz.c 0 rfl; have e1 := gz.c 1 rfl
  exact ret_of (idv zb zp) (by simp [results, Try.results36, go_sem, e0, e1]) rfl (PRep.is zr) hx

set_option maxRecDepth 100000 in
set_option maxHeartbeats 400000 in
theorem own_one {v : Value} {w : World} (h : (IsRef .one).p v w) :
    Calls Try.prog 36 #[v] w (Ret w (IsId .one).p) := by
  obtain ⟨p, rfl, k, rfl, g⟩ := h
  go_enter Try.func36, Try.ntmps36
  have g_0 := g.c 0 rfl; have gf0 := g.f 0; have g_1 := g.c 1 rfl; have gf1 := g.f 1; have g_2 := g.c 2 rfl; have gf2 := g.f 2; have gl := g.lt
  go_wp2_with fail
  clear g_0 gf0 g_1 gf1 g_2 gf2 gl
  have glt0 := g.lt
  obtain ⟨W, hW, hb, z0, gz⟩ := box1 w [.bool false, .pointer none] 26
  rw [hW]; clear hW
  have hx := hb; replace g := g.ext hb; have s1 := hb.size
  refine (one_c).mono ?_
  rintro _ w1 ⟨zv, rfl, z, hb⟩
  replace hx := Ext.trans hx hb; replace g := g.ext hb; replace gz := gz.ext hb; have s2 := hb.size
  obtain ⟨zb, zp, rfl, zr⟩ := z
  have g_0 := g.c 0 rfl; have gf0 := g.f 0; have g_1 := g.c 1 rfl; have gf1 := g.f 1; have g_2 := g.c 2 rfl; have gf2 := g.f 2; have gl := g.lt; have gz_0 := gz.c 0 rfl; have gzf0 := gz.f 0; have gz_1 := gz.c 1 rfl; have gzf1 := gz.f 1; have gzl := gz.lt
  go_wp2_with fail
  clear g_0 gf0 g_1 gf1 g_2 gf2 gl gz_0 gzf0 gz_1 gzf1 gzl
  obtain ⟨y1, hW, st⟩ := ex2 gz (.bool zb) (.pointer zp)
  rw [hW]; clear hW
  replace hx : Ext w y1 := st.below hx (by omega); replace g := st.keep g (by omega); replace gz := st.blk; replace zr := (PRep .one zb zp).imm (st.imm TS (by decide)) zr; have s3 := st.size
  have e0 := gz.c 0 rfl; have e1 := gz.c 1 rfl
  exact ret_of (idv zb zp) (by simp [results, Try.results36, go_sem, e0, e1]) rfl (PRep.is zr) hx

set_option maxRecDepth 100000 in
set_option maxHeartbeats 2000000 in
theorem own_node {l r : T} {v : Value} {w : World} (h : (IsRef (.node l r)).p v w) (hmk : T.mk l r = .node l r) (hd : (T.node l r).depth ≤ 16) (ihl : ∀ (v : Value) (w : World), (IsRef l).p v w → Calls Try.prog 36 #[v] w (Ret w (IsId l).p)) (ihr : ∀ (v : Value) (w : World), (IsRef r).p v w → Calls Try.prog 36 #[v] w (Ret w (IsId r).p)) :
    Calls Try.prog 36 #[v] w (Ret w (IsId (.node l r)).p) := by
  have IHL := Lib.hid ihl; have IHR := Lib.hid ihr; clear ihl ihr
  have hdl : l.depth ≤ 1000 ∧ r.depth ≤ 1000 := by simp only [T.depth] at hd; omega
  have HP : Hid (∀ (vl vr : Value) (w : World), (IsId l).p vl w → (IsId r).p vr w → Calls Try.prog 12 #[vl, vr] w (Ret w (Two (IsId (.node l r)).toPP (PP.eq (.int .i64 0))).p)) := fun vl vr w h1 h2 => by rw [← hmk]; exact pair_ok h1 h2 hdl.1 hdl.2 (by rw [hmk]; exact hd)
  clear hmk
  obtain ⟨p, rfl, k, pl, pr, rfl, g, hl, hr⟩ := h
  go_enter Try.func36, Try.ntmps36
  have g_0 := g.c 0 rfl; have gf0 := g.f 0; have g_1 := g.c 1 rfl; have gf1 := g.f 1; have g_2 := g.c 2 rfl; have gf2 := g.f 2; have gl := g.lt
  go_wp2_with fail
  clear g_0 gf0 g_1 gf1 g_2 gf2 gl
  have glt0 := g.lt
  obtain ⟨W, hW, hb, z0, gz⟩ := box1 w [.bool false, .pointer none] 26
  rw [hW]; clear hW
  have hx := hb; replace g := g.ext hb; have s1 := hb.size
  have glt2 := g.lt
  have gzlt2 := gz.lt
  refine wp_late 15 [13] [] [PP.eq (.pointer (some ⟨k, 0, none⟩)), PP.eq (.pointer (some ⟨k, 0, none⟩)), PP.eq (.pointer (some ⟨k, 1, none⟩)), PP.eq (.pointer pl), (IsId l).toPP, PP.eq (.pointer (some ⟨k, 0, none⟩)), PP.eq (.pointer (some ⟨k, 0, none⟩)), PP.eq (.pointer (some ⟨k, 2, none⟩)), PP.eq (.pointer pr), (IsId r).toPP, Two (IsId (.node l r)).toPP (PP.eq (.int .i64 0)), Two (IsId (.node l r)).toPP (PP.eq (.int .i64 0)), (IsId (.node l r)).toPP, PP.eq (.int .i64 0), NewOf W.heap.size [.bool false, .pointer none] 26] (by kernel_rfl) (by kernel_rfl) (fun _ _ d _ _ h => by cases d <;> exact h) ⟨?o0, ?o1, ?o2, ?o3, ?o4, ?o5, ?o6, ?o7, ?o8, ?o9, ?o10, ?o11, ?o12, ?o13, ?o14, trivial⟩ ⟨?l13, trivial⟩ (by decide) ?rest
  case l13 =>
    intro x0 x1 x2 x3 x4 x5 x6 x7 x8 x9 x10 x11 x12 x13 x14 w' hE
    rintro ⟨a11, _, rfl, ha11, rfl⟩
    refine ⟨(.int .i64 0), rfl, fun w'' => ?_⟩
    simp only [putAll, List.take, List.drop, List.map, Act.put, List.setIfInBounds_toArray, List.set_cons_zero, List.set_cons_succ]
    go_simp
  case o0 =>
    intro x0 x1 x2 x3 x4 x5 x6 x7 x8 x9 x10 x11 x12 x13 x14 w' hE
    rintro R hR
    simp only [putAll, List.take, List.drop, List.map, Act.put, List.setIfInBounds_toArray, List.set_cons_zero, List.set_cons_succ]
    go_simp
    exact hR _ _ (Ext.refl _) (rfl) trivial
  case o1 =>
    intro x0 x1 x2 x3 x4 x5 x6 x7 x8 x9 x10 x11 x12 x13 x14 w' hE
    rintro rfl R hR
    simp only [putAll, List.take, List.drop, List.map, Act.put, List.setIfInBounds_toArray, List.set_cons_zero, List.set_cons_succ]
    go_simp
    exact hR _ _ (Ext.refl _) (rfl) trivial
  case o2 =>
    intro x0 x1 x2 x3 x4 x5 x6 x7 x8 x9 x10 x11 x12 x13 x14 w' hE
    rintro rfl R hR
    simp only [putAll, List.take, List.drop, List.map, Act.put, List.setIfInBounds_toArray, List.set_cons_zero, List.set_cons_succ]
    go_simp
    exact hR _ _ (Ext.refl _) (rfl) trivial
  case o3 =>
    intro x0 x1 x2 x3 x4 x5 x6 x7 x8 x9 x10 x11 x12 x13 x14 w' hE
    rintro rfl R hR
    have qg0 := (g.ext hE).c 0 rfl
    have qg1 := (g.ext hE).c 1 rfl
    have qg2 := (g.ext hE).c 2 rfl
    simp only [putAll, List.take, List.drop, List.map, Act.put, List.setIfInBounds_toArray, List.set_cons_zero, List.set_cons_succ]
    go_simp
    exact hR _ _ (Ext.refl _) (rfl) trivial
  case o4 =>
    intro x0 x1 x2 x3 x4 x5 x6 x7 x8 x9 x10 x11 x12 x13 x14 w' hE
    rintro rfl R hR
    simp only [putAll, List.take, List.drop, List.map, Act.put, List.setIfInBounds_toArray, List.set_cons_zero, List.set_cons_succ]
    go_simp
    refine (IHL.out _ _ ⟨_, rfl, hl.ext (hx.trans hE)⟩).mono ?_
    rintro _ w'' ⟨v, rfl, hv, hb⟩
    exact hR _ _ hb hv trivial
  case o5 =>
    intro x0 x1 x2 x3 x4 x5 x6 x7 x8 x9 x10 x11 x12 x13 x14 w' hE
    rintro R hR
    simp only [putAll, List.take, List.drop, List.map, Act.put, List.setIfInBounds_toArray, List.set_cons_zero, List.set_cons_succ]
    go_simp
    exact hR _ _ (Ext.refl _) (rfl) trivial
  case o6 =>
    intro x0 x1 x2 x3 x4 x5 x6 x7 x8 x9 x10 x11 x12 x13 x14 w' hE
    rintro rfl R hR
    simp only [putAll, List.take, List.drop, List.map, Act.put, List.setIfInBounds_toArray, List.set_cons_zero, List.set_cons_succ]
    go_simp
    exact hR _ _ (Ext.refl _) (rfl) trivial
  case o7 =>
    intro x0 x1 x2 x3 x4 x5 x6 x7 x8 x9 x10 x11 x12 x13 x14 w' hE
    rintro rfl R hR
    simp only [putAll, List.take, List.drop, List.map, Act.put, List.setIfInBounds_toArray, List.set_cons_zero, List.set_cons_succ]
    go_simp
    exact hR _ _ (Ext.refl _) (rfl) trivial
  case o8 =>
    intro x0 x1 x2 x3 x4 x5 x6 x7 x8 x9 x10 x11 x12 x13 x14 w' hE
    rintro rfl R hR
    have qg0 := (g.ext hE).c 0 rfl
    have qg1 := (g.ext hE).c 1 rfl
    have qg2 := (g.ext hE).c 2 rfl
    simp only [putAll, List.take, List.drop, List.map, Act.put, List.setIfInBounds_toArray, List.set_cons_zero, List.set_cons_succ]
    go_simp
    exact hR _ _ (Ext.refl _) (rfl) trivial
  case o9 =>
    intro x0 x1 x2 x3 x4 x5 x6 x7 x8 x9 x10 x11 x12 x13 x14 w' hE
    rintro rfl d4 R hR
    simp only [putAll, List.take, List.drop, List.map, Act.put, List.setIfInBounds_toArray, List.set_cons_zero, List.set_cons_succ]
    go_simp
    refine (IHR.out _ _ ⟨_, rfl, hr.ext (hx.trans hE)⟩).mono ?_
    rintro _ w'' ⟨v, rfl, hv, hb⟩
    exact hR _ _ hb hv trivial
  case o10 =>
    intro x0 x1 x2 x3 x4 x5 x6 x7 x8 x9 x10 x11 x12 x13 x14 w' hE
    rintro d4 d9 _ R hR
    simp only [putAll, List.take, List.drop, List.map, Act.put, List.setIfInBounds_toArray, List.set_cons_zero, List.set_cons_succ]
    go_simp
    refine (HP.out _ _ _ d4 d9).mono ?_
    rintro _ w'' ⟨v, rfl, hv, hb⟩
    exact hR _ _ hb hv trivial
  case o11 =>
    intro x0 x1 x2 x3 x4 x5 x6 x7 x8 x9 x10 x11 x12 x13 x14 w' hE
    rintro ⟨a10, _, rfl, ha10, rfl⟩ R hR
    simp only [putAll, List.take, List.drop, List.map, Act.put, List.setIfInBounds_toArray, List.set_cons_zero, List.set_cons_succ]
    go_simp
    exact hR _ _ (Ext.refl _) (⟨_, _, rfl, ha10, rfl⟩) trivial
  case o12 =>
    intro x0 x1 x2 x3 x4 x5 x6 x7 x8 x9 x10 x11 x12 x13 x14 w' hE
    rintro ⟨a11, _, rfl, ha11, rfl⟩ R hR
    simp only [putAll, List.take, List.drop, List.map, Act.put, List.setIfInBounds_toArray, List.set_cons_zero, List.set_cons_succ]
    go_simp
    exact hR _ _ (Ext.refl _) (ha11) trivial
  case o13 =>
    intro x0 x1 x2 x3 x4 x5 x6 x7 x8 x9 x10 x11 x12 x13 x14 w' hE
    rintro ⟨a11, _, rfl, ha11, rfl⟩ R hR
    simp only [putAll, List.take, List.drop, List.map, Act.put, List.setIfInBounds_toArray, List.set_cons_zero, List.set_cons_succ]
    go_simp
    exact hR _ _ (Ext.refl _) (rfl) trivial
  case o14 =>
    intro x0 x1 x2 x3 x4 x5 x6 x7 x8 x9 x10 x11 x12 x13 x14 w' hE
    rintro R hR
    simp only [putAll, List.take, List.drop, List.map, Act.put, List.setIfInBounds_toArray, List.set_cons_zero, List.set_cons_succ]
    go_simp
    exact hR _ _ ((Ext.refl _).alloc _) (newOf_alloc hE.size _ _) trivial
  case rest =>
    intro x0 x1 x2 x3 x4 x5 x6 x7 x8 x9 x10 x11 x12 x13 x14 w1 hb
    rintro rfl rfl rfl rfl _ rfl rfl rfl rfl _ _ _ r12 rfl ⟨k14, rfl, hB14, n14⟩ hap
    replace hx := Ext.trans hx hb; replace g := g.ext hb; replace gz := gz.ext hb; have s3 := hb.size
    clear hap
    simp only [putAll, List.take, List.drop, List.map, Act.put, List.setIfInBounds_toArray, List.set_cons_zero, List.set_cons_succ]
    obtain ⟨mb, mp, rfl, mr⟩ := r12
    have g_0 := g.c 0 rfl; have gf0 := g.f 0; have g_1 := g.c 1 rfl; have gf1 := g.f 1; have g_2 := g.c 2 rfl; have gf2 := g.f 2; have gl := g.lt; have gz_0 := gz.c 0 rfl; have gzf0 := gz.f 0; have gz_1 := gz.c 1 rfl; have gzf1 := gz.f 1; have gzl := gz.lt; have n14_0 := n14.c 0 rfl; have n14f0 := n14.f 0; have n14_1 := n14.c 1 rfl; have n14f1 := n14.f 1; have n14l := n14.lt
    go_wp2_with fail
    clear g_0 gf0 g_1 gf1 g_2 gf2 gl gz_0 gzf0 gz_1 gzf1 gzl n14_0 n14f0 n14_1 n14f1 n14l
    obtain ⟨y0, hW, st⟩ := ex2 n14 (.bool mb) (.pointer mp)
    rw [hW]; clear hW
    replace hx : Ext w y0 := st.below hx (by omega); replace g := st.keep g (by omega); replace gz := st.keep gz (by omega); replace n14 := st.blk; replace mr := (PRep (.node l r) mb mp).imm (st.imm TS (by decide)) mr; have s4 := st.size
    obtain ⟨y1, hW, st⟩ := ex2 gz (.bool mb) (.pointer mp)
    rw [hW]; clear hW
    replace hx : Ext w y1 := st.below hx (by omega); replace g := st.keep g (by omega); replace n14 := st.keep n14 (by omega); replace gz := st.blk; replace mr := (PRep (.node l r) mb mp).imm (st.imm TS (by decide)) mr; have s5 := st.size
    have e0 := gz.c 0 rfl; have e1 := gz.c 1 rfl
    exact ret_of (idv mb mp) (by simp [results, Try.results36, go_sem, e0, e1]) rfl (PRep.is mr) hx

theorem own_c : ∀ (t : T), t.wf = true → t.depth ≤ 16 → ∀ (v : Value) (w : World), (IsRef t).p v w → Calls Try.prog 36 #[v] w (Ret w (IsId t).p)
  | .zero, _, _, _, _, h => own_zero h
  | .one, _, _, _, _, h => own_one h
  | .node l r, hw, hd, _, _, h => by
    have h0 := hw
    simp only [T.wf, Bool.and_eq_true] at h0
    have h1 := hd
    simp only [T.depth] at h1
    exact own_node h (wf_mk hw) hd (own_c l h0.1.1 (by omega)) (own_c r h0.1.2 (by omega))

end Go.Proofs.Ytkfncjaomgcdgaa

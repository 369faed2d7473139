/- merge. -/
import Derived.Test.YtkfncjaomgcdgaaW1
set_option linter.all false
namespace Go.Proofs.Ytkfncjaomgcdgaa
open Go.RowKit Go.Facts

set_option maxRecDepth 100000 in
set_option maxHeartbeats 1000000 in
theorem merge_zz {l r : T} {vl vr : Value} {w : World} (hl : (IsId l).p vl w) (hr : (IsId r).p vr w) (hz : l.isZero = true) (hz2 : r.isZero = true) :
    Calls Try.prog 37 #[vl, vr] w (Ret w (IsId .zero).p) := by
  obtain ⟨bl, pl, rfl, hl⟩ := hl
  obtain ⟨br, pr, rfl, hr⟩ := hr
  go_enter Try.func37, Try.ntmps37
  go_wp2_with fail
  obtain ⟨W, hW, hb, z0, gl, gr, gz⟩ := box3 w [.bool bl, .pointer pl] [.bool br, .pointer pr] [.bool false, .pointer none] 26 26 26
  rw [hW]; clear hW
  have hx := hb; have s1 := hb.size
  refine (isZero_c ⟨bl, pl, rfl, hl.ext hx⟩).mono ?_
  rintro _ w0 ⟨_, rfl, rfl, hb⟩
  replace hx := Ext.trans hx hb; replace gl := gl.ext hb; replace gr := gr.ext hb; replace gz := gz.ext hb; have s2 := hb.size
  have gl_0 := gl.c 0 rfl; have glf0 := gl.f 0; have gl_1 := gl.c 1 rfl; have glf1 := gl.f 1; have gll := gl.lt; have gr_0 := gr.c 0 rfl; have grf0 := gr.f 0; have gr_1 := gr.c 1 rfl; have grf1 := gr.f 1; have grl := gr.lt; have gz_0 := gz.c 0 rfl; have gzf0 := gz.f 0; have gz_1 := gz.c 1 rfl; have gzf1 := gz.f 1; have gzl := gz.lt
  go_wp2_with fail
  clear gl_0 glf0 gl_1 glf1 gll gr_0 grf0 gr_1 grf1 grl gz_0 gzf0 gz_1 gzf1 gzl
  refine (isZero_c ⟨br, pr, rfl, hr.ext hx⟩).mono ?_
  rintro _ w1 ⟨_, rfl, rfl, hb⟩
  replace hx := Ext.trans hx hb; replace gl := gl.ext hb; replace gr := gr.ext hb; replace gz := gz.ext hb; have s3 := hb.size
  have gl_0 := gl.c 0 rfl; have glf0 := gl.f 0; have gl_1 := gl.c 1 rfl; have glf1 := gl.f 1; have gll := gl.lt; have gr_0 := gr.c 0 rfl; have grf0 := gr.f 0; have gr_1 := gr.c 1 rfl; have grf1 := gr.f 1; have grl := gr.lt; have gz_0 := gz.c 0 rfl; have gzf0 := gz.f 0; have gz_1 := gz.c 1 rfl; have gzf1 := gz.f 1; have gzl := gz.lt
  go_wp2_with fail
  clear gl_0 glf0 gl_1 glf1 gll gr_0 grf0 gr_1 grf1 grl gz_0 gzf0 gz_1 gzf1 gzl
  refine (zero_c).mono ?_
  rintro _ w2 ⟨rzv, rfl, rz, hb⟩
  replace hx := Ext.trans hx hb; replace gl := gl.ext hb; replace gr := gr.ext hb; replace gz := gz.ext hb; have s4 := hb.size
  obtain ⟨zb, zp, rfl, rz⟩ := rz
  have gl_0 := gl.c 0 rfl; have glf0 := gl.f 0; have gl_1 := gl.c 1 rfl; have glf1 := gl.f 1; have gll := gl.lt; have gr_0 := gr.c 0 rfl; have grf0 := gr.f 0; have gr_1 := gr.c 1 rfl; have grf1 := gr.f 1; have grl := gr.lt; have gz_0 := gz.c 0 rfl; have gzf0 := gz.f 0; have gz_1 := gz.c 1 rfl; have gzf1 := gz.f 1; have gzl := gz.lt
  go_wp2_with fail
  clear gl_0 glf0 gl_1 glf1 gll gr_0 grf0 gr_1 grf1 grl gz_0 gzf0 gz_1 gzf1 gzl
  obtain ⟨W9, hW, st⟩ := ex2 gz (.bool zb) (.pointer zp)
  rw [hW]; clear hW
  replace hx : Ext w W9 := st.below hx (by omega); replace gl := st.keep gl (by omega); replace gr := st.keep gr (by omega); replace gz := st.blk; have s5 := st.size
  have e0 := gz.c 0 rfl; have e1 := gz.c 1 rfl
  exact ret_of (idv zb zp) (by simp [results, Try.results37, go_sem, e0, e1]) rfl ⟨_, _, rfl, rz.imm (st.imm TS (by decide))⟩ hx

set_option maxRecDepth 100000 in
set_option maxHeartbeats 1000000 in
theorem merge_oo {l r : T} {vl vr : Value} {w : World} (hl : (IsId l).p vl w) (hr : (IsId r).p vr w) (hz : l.isZero = false) (ho : l.isOne = true) (ho2 : r.isOne = true) :
    Calls Try.prog 37 #[vl, vr] w (Ret w (IsId .one).p) := by
  obtain ⟨bl, pl, rfl, hl⟩ := hl
  obtain ⟨br, pr, rfl, hr⟩ := hr
  go_enter Try.func37, Try.ntmps37
  go_wp2_with fail
  obtain ⟨W, hW, hb, z0, gl, gr, gz⟩ := box3 w [.bool bl, .pointer pl] [.bool br, .pointer pr] [.bool false, .pointer none] 26 26 26
  rw [hW]; clear hW
  have hx := hb; have s1 := hb.size
  refine (isZero_c ⟨bl, pl, rfl, hl.ext hx⟩).mono ?_
  rintro _ w0 ⟨_, rfl, rfl, hb⟩
  replace hx := Ext.trans hx hb; replace gl := gl.ext hb; replace gr := gr.ext hb; replace gz := gz.ext hb; have s2 := hb.size
  have gl_0 := gl.c 0 rfl; have glf0 := gl.f 0; have gl_1 := gl.c 1 rfl; have glf1 := gl.f 1; have gll := gl.lt; have gr_0 := gr.c 0 rfl; have grf0 := gr.f 0; have gr_1 := gr.c 1 rfl; have grf1 := gr.f 1; have grl := gr.lt; have gz_0 := gz.c 0 rfl; have gzf0 := gz.f 0; have gz_1 := gz.c 1 rfl; have gzf1 := gz.f 1; have gzl := gz.lt
  go_wp2_with fail
  clear gl_0 glf0 gl_1 glf1 gll gr_0 grf0 gr_1 grf1 grl gz_0 gzf0 gz_1 gzf1 gzl
  refine (isOne_c ⟨bl, pl, rfl, hl.ext hx⟩).mono ?_
  rintro _ w1 ⟨_, rfl, rfl, hb⟩
  replace hx := Ext.trans hx hb; replace gl := gl.ext hb; replace gr := gr.ext hb; replace gz := gz.ext hb; have s3 := hb.size
  have gl_0 := gl.c 0 rfl; have glf0 := gl.f 0; have gl_1 := gl.c 1 rfl; have glf1 := gl.f 1; have gll := gl.lt; have gr_0 := gr.c 0 rfl; have grf0 := gr.f 0; have gr_1 := gr.c 1 rfl; have grf1 := gr.f 1; have grl := gr.lt; have gz_0 := gz.c 0 rfl; have gzf0 := gz.f 0; have gz_1 := gz.c 1 rfl; have gzf1 := gz.f 1; have gzl := gz.lt
  go_wp2_with fail
  clear gl_0 glf0 gl_1 glf1 gll gr_0 grf0 gr_1 grf1 grl gz_0 gzf0 gz_1 gzf1 gzl
  refine (isOne_c ⟨br, pr, rfl, hr.ext hx⟩).mono ?_
  rintro _ w2 ⟨_, rfl, rfl, hb⟩
  replace hx := Ext.trans hx hb; replace gl := gl.ext hb; replace gr := gr.ext hb; replace gz := gz.ext hb; have s4 := hb.size
  have gl_0 := gl.c 0 rfl; have glf0 := gl.f 0; have gl_1 := gl.c 1 rfl; have glf1 := gl.f 1; have gll := gl.lt; have gr_0 := gr.c 0 rfl; have grf0 := gr.f 0; have gr_1 := gr.c 1 rfl; have grf1 := gr.f 1; have grl := gr.lt; have gz_0 := gz.c 0 rfl; have gzf0 := gz.f 0; have gz_1 := gz.c 1 rfl; have gzf1 := gz.f 1; have gzl := gz.lt
  go_wp2_with fail
  clear gl_0 glf0 gl_1 glf1 gll gr_0 grf0 gr_1 grf1 grl gz_0 gzf0 gz_1 gzf1 gzl
  refine (one_c).mono ?_
  rintro _ w3 ⟨rzv, rfl, rz, hb⟩
  replace hx := Ext.trans hx hb; replace gl := gl.ext hb; replace gr := gr.ext hb; replace gz := gz.ext hb; have s5 := hb.size
  obtain ⟨zb, zp, rfl, rz⟩ := rz
  have gl_0 := gl.c 0 rfl; have glf0 := gl.f 0; have gl_1 := gl.c 1 rfl; have glf1 := gl.f 1; have gll := gl.lt; have gr_0 := gr.c 0 rfl; have grf0 := gr.f 0; have gr_1 := gr.c 1 rfl; have grf1 := gr.f 1; have grl := gr.lt; have gz_0 := gz.c 0 rfl; have gzf0 := gz.f 0; have gz_1 := gz.c 1 rfl; have gzf1 := gz.f 1; have gzl := gz.lt
  go_wp2_with fail
  clear gl_0 glf0 gl_1 glf1 gll gr_0 grf0 gr_1 grf1 grl gz_0 gzf0 gz_1 gzf1 gzl
  obtain ⟨W9, hW, st⟩ := ex2 gz (.bool zb) (.pointer zp)
  rw [hW]; clear hW
  replace hx : Ext w W9 := st.below hx (by omega); replace gl := st.keep gl (by omega); replace gr := st.keep gr (by omega); replace gz := st.blk; have s6 := st.size
  have e0 := gz.c 0 rfl; have e1 := gz.c 1 rfl
  exact ret_of (idv zb zp) (by simp [results, Try.results37, go_sem, e0, e1]) rfl ⟨_, _, rfl, rz.imm (st.imm TS (by decide))⟩ hx

set_option maxRecDepth 100000 in
set_option maxHeartbeats 1000000 in
theorem merge_zn {l r : T} {vl vr : Value} {w : World} (hl : (IsId l).p vl w) (hr : (IsId r).p vr w) (hdl : l.depth ≤ 1000) (hdr : r.depth ≤ 1000) (hz : l.isZero = true) (hz2 : r.isZero = false) (ho : l.isOne = false) :
    Calls Try.prog 37 #[vl, vr] w (Ret w (IsId (.node l r)).p) := by
  obtain ⟨bl, pl, rfl, hl⟩ := hl
  obtain ⟨br, pr, rfl, hr⟩ := hr
  go_enter Try.func37, Try.ntmps37
  go_wp2_with fail
  obtain ⟨W, hW, hb, z0, gl, gr, gz⟩ := box3 w [.bool bl, .pointer pl] [.bool br, .pointer pr] [.bool false, .pointer none] 26 26 26
  rw [hW]; clear hW
  have hx := hb; have s1 := hb.size
  refine (isZero_c ⟨bl, pl, rfl, hl.ext hx⟩).mono ?_
  rintro _ w0 ⟨_, rfl, rfl, hb⟩
  replace hx := Ext.trans hx hb; replace gl := gl.ext hb; replace gr := gr.ext hb; replace gz := gz.ext hb; have s2 := hb.size
  have gl_0 := gl.c 0 rfl; have glf0 := gl.f 0; have gl_1 := gl.c 1 rfl; have glf1 := gl.f 1; have gll := gl.lt; have gr_0 := gr.c 0 rfl; have grf0 := gr.f 0; have gr_1 := gr.c 1 rfl; have grf1 := gr.f 1; have grl := gr.lt; have gz_0 := gz.c 0 rfl; have gzf0 := gz.f 0; have gz_1 := gz.c 1 rfl; have gzf1 := gz.f 1; have gzl := gz.lt
  go_wp2_with fail
  clear gl_0 glf0 gl_1 glf1 gll gr_0 grf0 gr_1 grf1 grl gz_0 gzf0 gz_1 gzf1 gzl
  refine (isZero_c ⟨br, pr, rfl, hr.ext hx⟩).mono ?_
  rintro _ w1 ⟨_, rfl, rfl, hb⟩
  replace hx := Ext.trans hx hb; replace gl := gl.ext hb; replace gr := gr.ext hb; replace gz := gz.ext hb; have s3 := hb.size
  have gl_0 := gl.c 0 rfl; have glf0 := gl.f 0; have gl_1 := gl.c 1 rfl; have glf1 := gl.f 1; have gll := gl.lt; have gr_0 := gr.c 0 rfl; have grf0 := gr.f 0; have gr_1 := gr.c 1 rfl; have grf1 := gr.f 1; have grl := gr.lt; have gz_0 := gz.c 0 rfl; have gzf0 := gz.f 0; have gz_1 := gz.c 1 rfl; have gzf1 := gz.f 1; have gzl := gz.lt
  go_wp2_with fail
  clear gl_0 glf0 gl_1 glf1 gll gr_0 grf0 gr_1 grf1 grl gz_0 gzf0 gz_1 gzf1 gzl
  refine (isOne_c ⟨bl, pl, rfl, hl.ext hx⟩).mono ?_
  rintro _ w2 ⟨_, rfl, rfl, hb⟩
  replace hx := Ext.trans hx hb; replace gl := gl.ext hb; replace gr := gr.ext hb; replace gz := gz.ext hb; have s4 := hb.size
  have gl_0 := gl.c 0 rfl; have glf0 := gl.f 0; have gl_1 := gl.c 1 rfl; have glf1 := gl.f 1; have gll := gl.lt; have gr_0 := gr.c 0 rfl; have grf0 := gr.f 0; have gr_1 := gr.c 1 rfl; have grf1 := gr.f 1; have grl := gr.lt; have gz_0 := gz.c 0 rfl; have gzf0 := gz.f 0; have gz_1 := gz.c 1 rfl; have gzf1 := gz.f 1; have gzl := gz.lt
  go_wp2_with fail
  clear gl_0 glf0 gl_1 glf1 gll gr_0 grf0 gr_1 grf1 grl gz_0 gzf0 gz_1 gzf1 gzl
  have hmx : IntKind.i64.wrap (1 + ((max l.depth r.depth : Nat) : Int)) = ((T.node l r).depth : Nat) := by
    rw [IntWalk.i64_in _ (by omega)]; simp only [T.depth]; omega
  have hif : (if l.depth < r.depth then (r.depth : Int) else (l.depth : Int)) = ((max l.depth r.depth : Nat) : Int) := by split <;> omega
  have Hmx := Lib.hid hmx; have Hif := Lib.hid hif; clear hmx hif
  have gllt5 := gl.lt
  have grlt5 := gr.lt
  have gzlt5 := gz.lt
  refine wp_facts 11 [] [PP.eq (idv bl pl), PP.eq (idv br pr), PP.eq (idv bl pl), PP.eq (.int .i64 (l.depth : Nat)), PP.eq (idv br pr), PP.eq (.int .i64 (r.depth : Nat)), PP.eq (.int .i64 (max l.depth r.depth : Nat)), PP.eq (.int .i64 ((T.node l r).depth : Nat)), PP.eq (.agg #[.bool bl, .pointer pl, .bool br, .pointer pr, .int .i64 ((T.node l r).depth : Nat)]), BoxOf [.bool bl, .pointer pl, .bool br, .pointer pr, .int .i64 ((T.node l r).depth : Nat)] 60, (IsId (.node l r)).toPP] (by kernel_rfl) (by kernel_rfl) ⟨?o0, ?o1, ?o2, ?o3, ?o4, ?o5, ?o6, ?o7, ?o8, ?o9, ?o10, trivial⟩ ?rest
  case o0 =>
    intro x0 x1 x2 x3 x4 x5 x6 x7 x8 x9 x10 w' hE
    rintro R hR
    have qgl0 := (gl.ext hE).c 0 rfl
    have qgl1 := (gl.ext hE).c 1 rfl
    simp only [putAll, List.take, List.drop, List.map, Act.put, List.setIfInBounds_toArray, List.set_cons_zero, List.set_cons_succ]
    go_simp
    exact hR _ _ (Ext.refl _) (rfl) trivial
  case o1 =>
    intro x0 x1 x2 x3 x4 x5 x6 x7 x8 x9 x10 w' hE
    rintro R hR
    have qgr0 := (gr.ext hE).c 0 rfl
    have qgr1 := (gr.ext hE).c 1 rfl
    simp only [putAll, List.take, List.drop, List.map, Act.put, List.setIfInBounds_toArray, List.set_cons_zero, List.set_cons_succ]
    go_simp
    exact hR _ _ (Ext.refl _) (rfl) trivial
  case o2 =>
    intro x0 x1 x2 x3 x4 x5 x6 x7 x8 x9 x10 w' hE
    rintro R hR
    have qgl0 := (gl.ext hE).c 0 rfl
    have qgl1 := (gl.ext hE).c 1 rfl
    simp only [putAll, List.take, List.drop, List.map, Act.put, List.setIfInBounds_toArray, List.set_cons_zero, List.set_cons_succ]
    go_simp
    exact hR _ _ (Ext.refl _) (rfl) trivial
  case o3 =>
    intro x0 x1 x2 x3 x4 x5 x6 x7 x8 x9 x10 w' hE
    rintro rfl R hR
    simp only [putAll, List.take, List.drop, List.map, Act.put, List.setIfInBounds_toArray, List.set_cons_zero, List.set_cons_succ]
    go_simp
    refine (depth_c ⟨bl, pl, rfl, hl.ext (hx.trans hE)⟩).mono ?_
    rintro _ w'' ⟨v, rfl, hv, hb⟩
    exact hR _ _ hb hv trivial
  case o4 =>
    intro x0 x1 x2 x3 x4 x5 x6 x7 x8 x9 x10 w' hE
    rintro R hR
    have qgr0 := (gr.ext hE).c 0 rfl
    have qgr1 := (gr.ext hE).c 1 rfl
    simp only [putAll, List.take, List.drop, List.map, Act.put, List.setIfInBounds_toArray, List.set_cons_zero, List.set_cons_succ]
    go_simp
    exact hR _ _ (Ext.refl _) (rfl) trivial
  case o5 =>
    intro x0 x1 x2 x3 x4 x5 x6 x7 x8 x9 x10 w' hE
    rintro rfl rfl R hR
    simp only [putAll, List.take, List.drop, List.map, Act.put, List.setIfInBounds_toArray, List.set_cons_zero, List.set_cons_succ]
    go_simp
    refine (depth_c ⟨br, pr, rfl, hr.ext (hx.trans hE)⟩).mono ?_
    rintro _ w'' ⟨v, rfl, hv, hb⟩
    exact hR _ _ hb hv trivial
  case o6 =>
    intro x0 x1 x2 x3 x4 x5 x6 x7 x8 x9 x10 w' hE
    rintro rfl rfl R hR
    simp only [putAll, List.take, List.drop, List.map, Act.put, List.setIfInBounds_toArray, List.set_cons_zero, List.set_cons_succ]
    go_simp
    rw [Hif.out]
    exact hR _ _ (Ext.refl _) (rfl) trivial
  case o7 =>
    intro x0 x1 x2 x3 x4 x5 x6 x7 x8 x9 x10 w' hE
    rintro rfl R hR
    simp only [putAll, List.take, List.drop, List.map, Act.put, List.setIfInBounds_toArray, List.set_cons_zero, List.set_cons_succ]
    go_simp
    rw [Hmx.out]
    exact hR _ _ (Ext.refl _) (rfl) trivial
  case o8 =>
    intro x0 x1 x2 x3 x4 x5 x6 x7 x8 x9 x10 w' hE
    rintro rfl rfl rfl R hR
    simp only [putAll, List.take, List.drop, List.map, Act.put, List.setIfInBounds_toArray, List.set_cons_zero, List.set_cons_succ]
    go_simp
    exact hR _ _ (Ext.refl _) (rfl) trivial
  case o9 =>
    intro x0 x1 x2 x3 x4 x5 x6 x7 x8 x9 x10 w' hE
    rintro rfl R hR
    simp only [putAll, List.take, List.drop, List.map, Act.put, List.setIfInBounds_toArray, List.set_cons_zero, List.set_cons_succ]
    go_simp
    exact hR _ _ ((Ext.refl _).alloc _) ⟨_, rfl, blk_alloc _ _ _⟩ trivial
  case o10 =>
    intro x0 x1 x2 x3 x4 x5 x6 x7 x8 x9 x10 w' hE
    rintro d9 R hR
    obtain ⟨k, rfl, hk⟩ := d9
    simp only [putAll, List.take, List.drop, List.map, Act.put, List.setIfInBounds_toArray, List.set_cons_zero, List.set_cons_succ]
    go_simp
    exact hR _ _ (Ext.refl _) ⟨_, _, rfl, rfl, k, bl, pl, br, pr, rfl, hk, hl.ext (hx.trans hE), hr.ext (hx.trans hE)⟩ trivial
  case rest =>
    intro x0 x1 x2 x3 x4 x5 x6 x7 x8 x9 x10 w9 hb
    rintro rfl rfl rfl rfl rfl rfl rfl rfl rfl _ r10 hap
    replace hx := Ext.trans hx hb; replace gl := gl.ext hb; replace gr := gr.ext hb; replace gz := gz.ext hb; have s6 := hb.size
    clear hap
    simp only [putAll, List.take, List.drop, List.map, Act.put, List.setIfInBounds_toArray, List.set_cons_zero, List.set_cons_succ]
    obtain ⟨zb, zp, rfl, rz⟩ := r10
    have gl_0 := gl.c 0 rfl; have glf0 := gl.f 0; have gl_1 := gl.c 1 rfl; have glf1 := gl.f 1; have gll := gl.lt; have gr_0 := gr.c 0 rfl; have grf0 := gr.f 0; have gr_1 := gr.c 1 rfl; have grf1 := gr.f 1; have grl := gr.lt; have gz_0 := gz.c 0 rfl; have gzf0 := gz.f 0; have gz_1 := gz.c 1 rfl; have gzf1 := gz.f 1; have gzl := gz.lt
    go_wp2_with fail
    clear gl_0 glf0 gl_1 glf1 gll gr_0 grf0 gr_1 grf1 grl gz_0 gzf0 gz_1 gzf1 gzl
    obtain ⟨W9, hW, st⟩ := ex2 gz (.bool zb) (.pointer zp)
    rw [hW]; clear hW
    replace hx : Ext w W9 := st.below hx (by omega); replace gl := st.keep gl (by omega); replace gr := st.keep gr (by omega); replace gz := st.blk; have s7 := st.size
    have e0 := gz.c 0 rfl; have e1 := gz.c 1 rfl
    exact ret_of (idv zb zp) (by simp [results, Try.results37, go_sem, e0, e1]) rfl ⟨_, _, rfl, rz.imm (st.imm TS (by decide))⟩ hx

set_option maxRecDepth 100000 in
set_option maxHeartbeats 1000000 in
theorem merge_on {l r : T} {vl vr : Value} {w : World} (hl : (IsId l).p vl w) (hr : (IsId r).p vr w) (hdl : l.depth ≤ 1000) (hdr : r.depth ≤ 1000) (hz : l.isZero = false) (ho : l.isOne = true) (ho2 : r.isOne = false) :
    Calls Try.prog 37 #[vl, vr] w (Ret w (IsId (.node l r)).p) := by
  obtain ⟨bl, pl, rfl, hl⟩ := hl
  obtain ⟨br, pr, rfl, hr⟩ := hr
  go_enter Try.func37, Try.ntmps37
  go_wp2_with fail
  obtain ⟨W, hW, hb, z0, gl, gr, gz⟩ := box3 w [.bool bl, .pointer pl] [.bool br, .pointer pr] [.bool false, .pointer none] 26 26 26
  rw [hW]; clear hW
  have hx := hb; have s1 := hb.size
  refine (isZero_c ⟨bl, pl, rfl, hl.ext hx⟩).mono ?_
  rintro _ w0 ⟨_, rfl, rfl, hb⟩
  replace hx := Ext.trans hx hb; replace gl := gl.ext hb; replace gr := gr.ext hb; replace gz := gz.ext hb; have s2 := hb.size
  have gl_0 := gl.c 0 rfl; have glf0 := gl.f 0; have gl_1 := gl.c 1 rfl; have glf1 := gl.f 1; have gll := gl.lt; have gr_0 := gr.c 0 rfl; have grf0 := gr.f 0; have gr_1 := gr.c 1 rfl; have grf1 := gr.f 1; have grl := gr.lt; have gz_0 := gz.c 0 rfl; have gzf0 := gz.f 0; have gz_1 := gz.c 1 rfl; have gzf1 := gz.f 1; have gzl := gz.lt
  go_wp2_with fail
  clear gl_0 glf0 gl_1 glf1 gll gr_0 grf0 gr_1 grf1 grl gz_0 gzf0 gz_1 gzf1 gzl
  refine (isOne_c ⟨bl, pl, rfl, hl.ext hx⟩).mono ?_
  rintro _ w1 ⟨_, rfl, rfl, hb⟩
  replace hx := Ext.trans hx hb; replace gl := gl.ext hb; replace gr := gr.ext hb; replace gz := gz.ext hb; have s3 := hb.size
  have gl_0 := gl.c 0 rfl; have glf0 := gl.f 0; have gl_1 := gl.c 1 rfl; have glf1 := gl.f 1; have gll := gl.lt; have gr_0 := gr.c 0 rfl; have grf0 := gr.f 0; have gr_1 := gr.c 1 rfl; have grf1 := gr.f 1; have grl := gr.lt; have gz_0 := gz.c 0 rfl; have gzf0 := gz.f 0; have gz_1 := gz.c 1 rfl; have gzf1 := gz.f 1; have gzl := gz.lt
  go_wp2_with fail
  clear gl_0 glf0 gl_1 glf1 gll gr_0 grf0 gr_1 grf1 grl gz_0 gzf0 gz_1 gzf1 gzl
  refine (isOne_c ⟨br, pr, rfl, hr.ext hx⟩).mono ?_
  rintro _ w2 ⟨_, rfl, rfl, hb⟩
  replace hx := Ext.trans hx hb; replace gl := gl.ext hb; replace gr := gr.ext hb; replace gz := gz.ext hb; have s4 := hb.size
  have gl_0 := gl.c 0 rfl; have glf0 := gl.f 0; have gl_1 := gl.c 1 rfl; have glf1 := gl.f 1; have gll := gl.lt; have gr_0 := gr.c 0 rfl; have grf0 := gr.f 0; have gr_1 := gr.c 1 rfl; have grf1 := gr.f 1; have grl := gr.lt; have gz_0 := gz.c 0 rfl; have gzf0 := gz.f 0; have gz_1 := gz.c 1 rfl; have gzf1 := gz.f 1; have gzl := gz.lt
  go_wp2_with fail
  clear gl_0 glf0 gl_1 glf1 gll gr_0 grf0 gr_1 grf1 grl gz_0 gzf0 gz_1 gzf1 gzl
  have hmx : IntKind.i64.wrap (1 + ((max l.depth r.depth : Nat) : Int)) = ((T.node l r).depth : Nat) := by
    rw [IntWalk.i64_in _ (by omega)]; simp only [T.depth]; omega
  have hif : (if l.depth < r.depth then (r.depth : Int) else (l.depth : Int)) = ((max l.depth r.depth : Nat) : Int) := by split <;> omega
  have Hmx := Lib.hid hmx; have Hif := Lib.hid hif; clear hmx hif
  have gllt5 := gl.lt
  have grlt5 := gr.lt
  have gzlt5 := gz.lt
  refine wp_facts 11 [] [PP.eq (idv bl pl), PP.eq (idv br pr), PP.eq (idv bl pl), PP.eq (.int .i64 (l.depth : Nat)), PP.eq (idv br pr), PP.eq (.int .i64 (r.depth : Nat)), PP.eq (.int .i64 (max l.depth r.depth : Nat)), PP.eq (.int .i64 ((T.node l r).depth : Nat)), PP.eq (.agg #[.bool bl, .pointer pl, .bool br, .pointer pr, .int .i64 ((T.node l r).depth : Nat)]), BoxOf [.bool bl, .pointer pl, .bool br, .pointer pr, .int .i64 ((T.node l r).depth : Nat)] 60, (IsId (.node l r)).toPP] (by kernel_rfl) (by kernel_rfl) ⟨?o0, ?o1, ?o2, ?o3, ?o4, ?o5, ?o6, ?o7, ?o8, ?o9, ?o10, trivial⟩ ?rest
  case o0 =>
    intro x0 x1 x2 x3 x4 x5 x6 x7 x8 x9 x10 w' hE
    rintro R hR
    have qgl0 := (gl.ext hE).c 0 rfl
    have qgl1 := (gl.ext hE).c 1 rfl
    simp only [putAll, List.take, List.drop, List.map, Act.put, List.setIfInBounds_toArray, List.set_cons_zero, List.set_cons_succ]
    go_simp
    exact hR _ _ (Ext.refl _) (rfl) trivial
  case o1 =>
    intro x0 x1 x2 x3 x4 x5 x6 x7 x8 x9 x10 w' hE
    rintro R hR
    have qgr0 := (gr.ext hE).c 0 rfl
    have qgr1 := (gr.ext hE).c 1 rfl
    simp only [putAll, List.take, List.drop, List.map, Act.put, List.setIfInBounds_toArray, List.set_cons_zero, List.set_cons_succ]
    go_simp
    exact hR _ _ (Ext.refl _) (rfl) trivial
  case o2 =>
    intro x0 x1 x2 x3 x4 x5 x6 x7 x8 x9 x10 w' hE
    rintro R hR
    have qgl0 := (gl.ext hE).c 0 rfl
    have qgl1 := (gl.ext hE).c 1 rfl
    simp only [putAll, List.take, List.drop, List.map, Act.put, List.setIfInBounds_toArray, List.set_cons_zero, List.set_cons_succ]
    go_simp
    exact hR _ _ (Ext.refl _) (rfl) trivial
  case o3 =>
    intro x0 x1 x2 x3 x4 x5 x6 x7 x8 x9 x10 w' hE
    rintro rfl R hR
    simp only [putAll, List.take, List.drop, List.map, Act.put, List.setIfInBounds_toArray, List.set_cons_zero, List.set_cons_succ]
    go_simp
    refine (depth_c ⟨bl, pl, rfl, hl.ext (hx.trans hE)⟩).mono ?_
    rintro _ w'' ⟨v, rfl, hv, hb⟩
    exact hR _ _ hb hv trivial
  case o4 =>
    intro x0 x1 x2 x3 x4 x5 x6 x7 x8 x9 x10 w' hE
    rintro R hR
    have qgr0 := (gr.ext hE).c 0 rfl
    have qgr1 := (gr.ext hE).c 1 rfl
    simp only [putAll, List.take, List.drop, List.map, Act.put, List.setIfInBounds_toArray, List.set_cons_zero, List.set_cons_succ]
    go_simp
    exact hR _ _ (Ext.refl _) (rfl) trivial
  case o5 =>
    intro x0 x1 x2 x3 x4 x5 x6 x7 x8 x9 x10 w' hE
    rintro rfl rfl R hR
    simp only [putAll, List.take, List.drop, List.map, Act.put, List.setIfInBounds_toArray, List.set_cons_zero, List.set_cons_succ]
    go_simp
    refine (depth_c ⟨br, pr, rfl, hr.ext (hx.trans hE)⟩).mono ?_
    rintro _ w'' ⟨v, rfl, hv, hb⟩
    exact hR _ _ hb hv trivial
  case o6 =>
    intro x0 x1 x2 x3 x4 x5 x6 x7 x8 x9 x10 w' hE
    rintro rfl rfl R hR
    simp only [putAll, List.take, List.drop, List.map, Act.put, List.setIfInBounds_toArray, List.set_cons_zero, List.set_cons_succ]
    go_simp
    rw [Hif.out]
    exact hR _ _ (Ext.refl _) (rfl) trivial
  case o7 =>
    intro x0 x1 x2 x3 x4 x5 x6 x7 x8 x9 x10 w' hE
    rintro rfl R hR
    simp only [putAll, List.take, List.drop, List.map, Act.put, List.setIfInBounds_toArray, List.set_cons_zero, List.set_cons_succ]
    go_simp
    rw [Hmx.out]
    exact hR _ _ (Ext.refl _) (rfl) trivial
  case o8 =>
    intro x0 x1 x2 x3 x4 x5 x6 x7 x8 x9 x10 w' hE
    rintro rfl rfl rfl R hR
    simp only [putAll, List.take, List.drop, List.map, Act.put, List.setIfInBounds_toArray, List.set_cons_zero, List.set_cons_succ]
    go_simp
    exact hR _ _ (Ext.refl _) (rfl) trivial
  case o9 =>
    intro x0 x1 x2 x3 x4 x5 x6 x7 x8 x9 x10 w' hE
    rintro rfl R hR
    simp only [putAll, List.take, List.drop, List.map, Act.put, List.setIfInBounds_toArray, List.set_cons_zero, List.set_cons_succ]
    go_simp
    exact hR _ _ ((Ext.refl _).alloc _) ⟨_, rfl, blk_alloc _ _ _⟩ trivial
  case o10 =>
    intro x0 x1 x2 x3 x4 x5 x6 x7 x8 x9 x10 w' hE
    rintro d9 R hR
    obtain ⟨k, rfl, hk⟩ := d9
    simp only [putAll, List.take, List.drop, List.map, Act.put, List.setIfInBounds_toArray, List.set_cons_zero, List.set_cons_succ]
    go_simp
    exact hR _ _ (Ext.refl _) ⟨_, _, rfl, rfl, k, bl, pl, br, pr, rfl, hk, hl.ext (hx.trans hE), hr.ext (hx.trans hE)⟩ trivial
  case rest =>
    intro x0 x1 x2 x3 x4 x5 x6 x7 x8 x9 x10 w9 hb
    rintro rfl rfl rfl rfl rfl rfl rfl rfl rfl _ r10 hap
    replace hx := Ext.trans hx hb; replace gl := gl.ext hb; replace gr := gr.ext hb; replace gz := gz.ext hb; have s6 := hb.size
    clear hap
    simp only [putAll, List.take, List.drop, List.map, Act.put, List.setIfInBounds_toArray, List.set_cons_zero, List.set_cons_succ]
    obtain ⟨zb, zp, rfl, rz⟩ := r10
    have gl_0 := gl.c 0 rfl; have glf0 := gl.f 0; have gl_1 := gl.c 1 rfl; have glf1 := gl.f 1; have gll := gl.lt; have gr_0 := gr.c 0 rfl; have grf0 := gr.f 0; have gr_1 := gr.c 1 rfl; have grf1 := gr.f 1; have grl := gr.lt; have gz_0 := gz.c 0 rfl; have gzf0 := gz.f 0; have gz_1 := gz.c 1 rfl; have gzf1 := gz.f 1; have gzl := gz.lt
    go_wp2_with fail
    clear gl_0 glf0 gl_1 glf1 gll gr_0 grf0 gr_1 grf1 grl gz_0 gzf0 gz_1 gzf1 gzl
    obtain ⟨W9, hW, st⟩ := ex2 gz (.bool zb) (.pointer zp)
    rw [hW]; clear hW
    replace hx : Ext w W9 := st.below hx (by omega); replace gl := st.keep gl (by omega); replace gr := st.keep gr (by omega); replace gz := st.blk; have s7 := st.size
    have e0 := gz.c 0 rfl; have e1 := gz.c 1 rfl
    exact ret_of (idv zb zp) (by simp [results, Try.results37, go_sem, e0, e1]) rfl ⟨_, _, rfl, rz.imm (st.imm TS (by decide))⟩ hx

set_option maxRecDepth 100000 in
set_option maxHeartbeats 1000000 in
theorem merge_nn {l r : T} {vl vr : Value} {w : World} (hl : (IsId l).p vl w) (hr : (IsId r).p vr w) (hdl : l.depth ≤ 1000) (hdr : r.depth ≤ 1000) (hz : l.isZero = false) (ho : l.isOne = false) :
    Calls Try.prog 37 #[vl, vr] w (Ret w (IsId (.node l r)).p) := by
  obtain ⟨bl, pl, rfl, hl⟩ := hl
  obtain ⟨br, pr, rfl, hr⟩ := hr
  go_enter Try.func37, Try.ntmps37
  go_wp2_with fail
  obtain ⟨W, hW, hb, z0, gl, gr, gz⟩ := box3 w [.bool bl, .pointer pl] [.bool br, .pointer pr] [.bool false, .pointer none] 26 26 26
  rw [hW]; clear hW
  have hx := hb; have s1 := hb.size
  refine (isZero_c ⟨bl, pl, rfl, hl.ext hx⟩).mono ?_
  rintro _ w0 ⟨_, rfl, rfl, hb⟩
  replace hx := Ext.trans hx hb; replace gl := gl.ext hb; replace gr := gr.ext hb; replace gz := gz.ext hb; have s2 := hb.size
  have gl_0 := gl.c 0 rfl; have glf0 := gl.f 0; have gl_1 := gl.c 1 rfl; have glf1 := gl.f 1; have gll := gl.lt; have gr_0 := gr.c 0 rfl; have grf0 := gr.f 0; have gr_1 := gr.c 1 rfl; have grf1 := gr.f 1; have grl := gr.lt; have gz_0 := gz.c 0 rfl; have gzf0 := gz.f 0; have gz_1 := gz.c 1 rfl; have gzf1 := gz.f 1; have gzl := gz.lt
  go_wp2_with fail
  clear gl_0 glf0 gl_1 glf1 gll gr_0 grf0 gr_1 grf1 grl gz_0 gzf0 gz_1 gzf1 gzl
  refine (isOne_c ⟨bl, pl, rfl, hl.ext hx⟩).mono ?_
  rintro _ w1 ⟨_, rfl, rfl, hb⟩
  replace hx := Ext.trans hx hb; replace gl := gl.ext hb; replace gr := gr.ext hb; replace gz := gz.ext hb; have s3 := hb.size
  have gl_0 := gl.c 0 rfl; have glf0 := gl.f 0; have gl_1 := gl.c 1 rfl; have glf1 := gl.f 1; have gll := gl.lt; have gr_0 := gr.c 0 rfl; have grf0 := gr.f 0; have gr_1 := gr.c 1 rfl; have grf1 := gr.f 1; have grl := gr.lt; have gz_0 := gz.c 0 rfl; have gzf0 := gz.f 0; have gz_1 := gz.c 1 rfl; have gzf1 := gz.f 1; have gzl := gz.lt
  go_wp2_with fail
  clear gl_0 glf0 gl_1 glf1 gll gr_0 grf0 gr_1 grf1 grl gz_0 gzf0 gz_1 gzf1 gzl
  have hmx : IntKind.i64.wrap (1 + ((max l.depth r.depth : Nat) : Int)) = ((T.node l r).depth : Nat) := by
    rw [IntWalk.i64_in _ (by omega)]; simp only [T.depth]; omega
  have hif : (if l.depth < r.depth then (r.depth : Int) else (l.depth : Int)) = ((max l.depth r.depth : Nat) : Int) := by split <;> omega
  have Hmx := Lib.hid hmx; have Hif := Lib.hid hif; clear hmx hif
  have gllt4 := gl.lt
  have grlt4 := gr.lt
  have gzlt4 := gz.lt
  refine wp_facts 11 [] [PP.eq (idv bl pl), PP.eq (idv br pr), PP.eq (idv bl pl), PP.eq (.int .i64 (l.depth : Nat)), PP.eq (idv br pr), PP.eq (.int .i64 (r.depth : Nat)), PP.eq (.int .i64 (max l.depth r.depth : Nat)), PP.eq (.int .i64 ((T.node l r).depth : Nat)), PP.eq (.agg #[.bool bl, .pointer pl, .bool br, .pointer pr, .int .i64 ((T.node l r).depth : Nat)]), BoxOf [.bool bl, .pointer pl, .bool br, .pointer pr, .int .i64 ((T.node l r).depth : Nat)] 60, (IsId (.node l r)).toPP] (by kernel_rfl) (by kernel_rfl) ⟨?o0, ?o1, ?o2, ?o3, ?o4, ?o5, ?o6, ?o7, ?o8, ?o9, ?o10, trivial⟩ ?rest
  case o0 =>
    intro x0 x1 x2 x3 x4 x5 x6 x7 x8 x9 x10 w' hE
    rintro R hR
    have qgl0 := (gl.ext hE).c 0 rfl
    have qgl1 := (gl.ext hE).c 1 rfl
    simp only [putAll, List.take, List.drop, List.map, Act.put, List.setIfInBounds_toArray, List.set_cons_zero, List.set_cons_succ]
    go_simp
    exact hR _ _ (Ext.refl _) (rfl) trivial
  case o1 =>
    intro x0 x1 x2 x3 x4 x5 x6 x7 x8 x9 x10 w' hE
    rintro R hR
    have qgr0 := (gr.ext hE).c 0 rfl
    have qgr1 := (gr.ext hE).c 1 rfl
    simp only [putAll, List.take, List.drop, List.map, Act.put, List.setIfInBounds_toArray, List.set_cons_zero, List.set_cons_succ]
    go_simp
    exact hR _ _ (Ext.refl _) (rfl) trivial
  case o2 =>
    intro x0 x1 x2 x3 x4 x5 x6 x7 x8 x9 x10 w' hE
    rintro R hR
    have qgl0 := (gl.ext hE).c 0 rfl
    have qgl1 := (gl.ext hE).c 1 rfl
    simp only [putAll, List.take, List.drop, List.map, Act.put, List.setIfInBounds_toArray, List.set_cons_zero, List.set_cons_succ]
    go_simp
    exact hR _ _ (Ext.refl _) (rfl) trivial
  case o3 =>
    intro x0 x1 x2 x3 x4 x5 x6 x7 x8 x9 x10 w' hE
    rintro rfl R hR
    simp only [putAll, List.take, List.drop, List.map, Act.put, List.setIfInBounds_toArray, List.set_cons_zero, List.set_cons_succ]
    go_simp
    refine (depth_c ⟨bl, pl, rfl, hl.ext (hx.trans hE)⟩).mono ?_
    rintro _ w'' ⟨v, rfl, hv, hb⟩
    exact hR _ _ hb hv trivial
  case o4 =>
    intro x0 x1 x2 x3 x4 x5 x6 x7 x8 x9 x10 w' hE
    rintro R hR
    have qgr0 := (gr.ext hE).c 0 rfl
    have qgr1 := (gr.ext hE).c 1 rfl
    simp only [putAll, List.take, List.drop, List.map, Act.put, List.setIfInBounds_toArray, List.set_cons_zero, List.set_cons_succ]
    go_simp
    exact hR _ _ (Ext.refl _) (rfl) trivial
  case o5 =>
    intro x0 x1 x2 x3 x4 x5 x6 x7 x8 x9 x10 w' hE
    rintro rfl rfl R hR
    simp only [putAll, List.take, List.drop, List.map, Act.put, List.setIfInBounds_toArray, List.set_cons_zero, List.set_cons_succ]
    go_simp
    refine (depth_c ⟨br, pr, rfl, hr.ext (hx.trans hE)⟩).mono ?_
    rintro _ w'' ⟨v, rfl, hv, hb⟩
    exact hR _ _ hb hv trivial
  case o6 =>
    intro x0 x1 x2 x3 x4 x5 x6 x7 x8 x9 x10 w' hE
    rintro rfl rfl R hR
    simp only [putAll, List.take, List.drop, List.map, Act.put, List.setIfInBounds_toArray, List.set_cons_zero, List.set_cons_succ]
    go_simp
    rw [Hif.out]
    exact hR _ _ (Ext.refl _) (rfl) trivial
  case o7 =>
    intro x0 x1 x2 x3 x4 x5 x6 x7 x8 x9 x10 w' hE
    rintro rfl R hR
    simp only [putAll, List.take, List.drop, List.map, Act.put, List.setIfInBounds_toArray, List.set_cons_zero, List.set_cons_succ]
    go_simp
    rw [Hmx.out]
    exact hR _ _ (Ext.refl _) (rfl) trivial
  case o8 =>
    intro x0 x1 x2 x3 x4 x5 x6 x7 x8 x9 x10 w' hE
    rintro rfl rfl rfl R hR
    simp only [putAll, List.take, List.drop, List.map, Act.put, List.setIfInBounds_toArray, List.set_cons_zero, List.set_cons_succ]
    go_simp
    exact hR _ _ (Ext.refl _) (rfl) trivial
  case o9 =>
    intro x0 x1 x2 x3 x4 x5 x6 x7 x8 x9 x10 w' hE
    rintro rfl R hR
    simp only [putAll, List.take, List.drop, List.map, Act.put, List.setIfInBounds_toArray, List.set_cons_zero, List.set_cons_succ]
    go_simp
    exact hR _ _ ((Ext.refl _).alloc _) ⟨_, rfl, blk_alloc _ _ _⟩ trivial
  case o10 =>
    intro x0 x1 x2 x3 x4 x5 x6 x7 x8 x9 x10 w' hE
    rintro d9 R hR
    obtain ⟨k, rfl, hk⟩ := d9
    simp only [putAll, List.take, List.drop, List.map, Act.put, List.setIfInBounds_toArray, List.set_cons_zero, List.set_cons_succ]
    go_simp
    exact hR _ _ (Ext.refl _) ⟨_, _, rfl, rfl, k, bl, pl, br, pr, rfl, hk, hl.ext (hx.trans hE), hr.ext (hx.trans hE)⟩ trivial
  case rest =>
    intro x0 x1 x2 x3 x4 x5 x6 x7 x8 x9 x10 w9 hb
    rintro rfl rfl rfl rfl rfl rfl rfl rfl rfl _ r10 hap
    replace hx := Ext.trans hx hb; replace gl := gl.ext hb; replace gr := gr.ext hb; replace gz := gz.ext hb; have s5 := hb.size
    clear hap
    simp only [putAll, List.take, List.drop, List.map, Act.put, List.setIfInBounds_toArray, List.set_cons_zero, List.set_cons_succ]
    obtain ⟨zb, zp, rfl, rz⟩ := r10
    have gl_0 := gl.c 0 rfl; have glf0 := gl.f 0; have gl_1 := gl.c 1 rfl; have glf1 := gl.f 1; have gll := gl.lt; have gr_0 := gr.c 0 rfl; have grf0 := gr.f 0; have gr_1 := gr.c 1 rfl; have grf1 := gr.f 1; have grl := gr.lt; have gz_0 := gz.c 0 rfl; have gzf0 := gz.f 0; have gz_1 := gz.c 1 rfl; have gzf1 := gz.f 1; have gzl := gz.lt
    go_wp2_with fail
    clear gl_0 glf0 gl_1 glf1 gll gr_0 grf0 gr_1 grf1 grl gz_0 gzf0 gz_1 gzf1 gzl
    obtain ⟨W9, hW, st⟩ := ex2 gz (.bool zb) (.pointer zp)
    rw [hW]; clear hW
    replace hx : Ext w W9 := st.below hx (by omega); replace gl := st.keep gl (by omega); replace gr := st.keep gr (by omega); replace gz := st.blk; have s6 := st.size
    have e0 := gz.c 0 rfl; have e1 := gz.c 1 rfl
    exact ret_of (idv zb zp) (by simp [results, Try.results37, go_sem, e0, e1]) rfl ⟨_, _, rfl, rz.imm (st.imm TS (by decide))⟩ hx

theorem merge_c {l r : T} {vl vr : Value} {w : World} (hl : (IsId l).p vl w) (hr : (IsId r).p vr w) (hdl : l.depth ≤ 1000) (hdr : r.depth ≤ 1000) :
    Calls Try.prog 37 #[vl, vr] w (Ret w (IsId (T.mk l r)).p) := by
  cases l with
  | zero =>
    cases r with
    | zero => exact merge_zz hl hr rfl rfl
    | one => exact merge_zn hl hr hdl hdr rfl rfl rfl
    | node a b => exact merge_zn hl hr hdl hdr rfl rfl rfl
  | one =>
    cases r with
    | zero => exact merge_on hl hr hdl hdr rfl rfl rfl
    | one => exact merge_oo hl hr rfl rfl rfl
    | node a b => exact merge_on hl hr hdl hdr rfl rfl rfl
  | node a b => cases r <;> exact merge_nn hl hr hdl hdr rfl rfl

end Go.Proofs.Ytkfncjaomgcdgaa

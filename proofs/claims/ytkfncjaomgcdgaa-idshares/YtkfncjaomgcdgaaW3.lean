/- Pair, cut, Split. -/
import Derived.Test.YtkfncjaomgcdgaaW2
set_option linter.all false
namespace Go.Proofs.Ytkfncjaomgcdgaa
open Go.RowKit Go.Facts

theorem mk_depth (l r : T) : (T.mk l r).depth ≤ 1 + max l.depth r.depth := by
  unfold T.mk; split <;> simp [T.depth]

def cutT : T → T × T
  | .zero => (.zero, .zero)
  | .one => (T.mk .one .zero, T.mk .zero .one)
  | .node .zero r => (T.mk .zero (cutT r).1, T.mk .zero (cutT r).2)
  | .node l .zero => (T.mk (cutT l).1 .zero, T.mk (cutT l).2 .zero)
  | .node l r => (T.mk l .zero, T.mk .zero r)

theorem cut_depth : ∀ t : T, (cutT t).1.depth ≤ t.depth + 1 ∧ (cutT t).2.depth ≤ t.depth + 1
  | .zero => by simp [cutT, T.depth]
  | .one => by simp [cutT, T.mk, T.depth]
  | .node .zero r => by
    have := cut_depth r
    have a := mk_depth .zero (cutT r).1
    have b := mk_depth .zero (cutT r).2
    simp only [cutT, T.depth] at *; omega
  | .node .one .zero => by
    have := cut_depth .one
    have a := mk_depth (cutT .one).1 .zero
    have b := mk_depth (cutT .one).2 .zero
    simp only [cutT, T.depth] at *; omega
  | .node (.node a b) .zero => by
    have := cut_depth (.node a b)
    have a' := mk_depth (cutT (.node a b)).1 .zero
    have b' := mk_depth (cutT (.node a b)).2 .zero
    simp only [cutT, T.depth] at *; omega
  | .node .one .one => by simp [cutT, T.mk, T.depth]
  | .node .one (.node c d) => by
    have a := mk_depth .one .zero
    have b := mk_depth .zero (.node c d)
    simp only [cutT, T.depth] at *; omega
  | .node (.node a b) .one => by
    have a := mk_depth (.node a b) .zero
    have b := mk_depth .zero .one
    simp only [cutT, T.depth] at *; omega
  | .node (.node a b) (.node c d) => by
    have a := mk_depth (.node a b) .zero
    have b := mk_depth .zero (.node c d)
    simp only [cutT, T.depth] at *; omega

set_option maxRecDepth 100000 in
set_option maxHeartbeats 1000000 in
theorem pair_ok {l r : T} {vl vr : Value} {w : World} (hl : (IsId l).p vl w) (hr : (IsId r).p vr w) (hdl : l.depth ≤ 1000) (hdr : r.depth ≤ 1000) (hd : (T.mk l r).depth ≤ 16) :
    Calls Try.prog 12 #[vl, vr] w (Ret w (Two (IsId (T.mk l r)).toPP (PP.eq (.int .i64 0))).p) := by
  obtain ⟨bl, pl, rfl, hl⟩ := hl
  obtain ⟨br, pr, rfl, hr⟩ := hr
  go_enter Try.func12, Try.ntmps12
  go_wp2_with fail
  obtain ⟨W, hW, hb, z0, gl, gr, gz⟩ := box3 w [.bool bl, .pointer pl] [.bool br, .pointer pr] [.bool false, .pointer none] 26 26 26
  rw [hW]; clear hW
  have hx := hb; have s1 := hb.size
  refine (merge_c ⟨bl, pl, rfl, hl.ext hx⟩ ⟨br, pr, rfl, hr.ext hx⟩ hdl hdr).mono ?_
  rintro _ w1 ⟨mv, rfl, m, hb⟩
  replace hx := Ext.trans hx hb; replace gl := gl.ext hb; replace gr := gr.ext hb; replace gz := gz.ext hb; have s2 := hb.size
  obtain ⟨mb, mp, rfl, mr⟩ := m
  have gl_0 := gl.c 0 rfl; have glf0 := gl.f 0; have gl_1 := gl.c 1 rfl; have glf1 := gl.f 1; have gll := gl.lt; have gr_0 := gr.c 0 rfl; have grf0 := gr.f 0; have gr_1 := gr.c 1 rfl; have grf1 := gr.f 1; have grl := gr.lt; have gz_0 := gz.c 0 rfl; have gzf0 := gz.f 0; have gz_1 := gz.c 1 rfl; have gzf1 := gz.f 1; have gzl := gz.lt
  go_wp2_with fail
  clear gl_0 glf0 gl_1 glf1 gll gr_0 grf0 gr_1 grf1 grl gz_0 gzf0 gz_1 gzf1 gzl
  have gllt3 := gl.lt
  have grlt3 := gr.lt
  have gzlt3 := gz.lt
  obtain ⟨w2, hW, hb, z3, gi⟩ := box1 w1 [.bool mb, .pointer mp] 26
  rw [hW]; clear hW
  replace hx := Ext.trans hx hb; replace gl := gl.ext hb; replace gr := gr.ext hb; replace gz := gz.ext hb; replace mr := (PRep (T.mk l r) mb mp).mono hb mr; have s4 := hb.size
  refine (depth_c (PRep.is mr)).mono ?_
  rintro _ w3 ⟨_, rfl, rfl, hb⟩
  replace hx := Ext.trans hx hb; replace gl := gl.ext hb; replace gr := gr.ext hb; replace gz := gz.ext hb; replace gi := gi.ext hb; replace mr := (PRep (T.mk l r) mb mp).mono hb mr; have s5 := hb.size
  have gl_0 := gl.c 0 rfl; have glf0 := gl.f 0; have gl_1 := gl.c 1 rfl; have glf1 := gl.f 1; have gll := gl.lt; have gr_0 := gr.c 0 rfl; have grf0 := gr.f 0; have gr_1 := gr.c 1 rfl; have grf1 := gr.f 1; have grl := gr.lt; have gz_0 := gz.c 0 rfl; have gzf0 := gz.f 0; have gz_1 := gz.c 1 rfl; have gzf1 := gz.f 1; have gzl := gz.lt; have gi_0 := gi.c 0 rfl; have gif0 := gi.f 0; have gi_1 := gi.c 1 rfl; have gif1 := gi.f 1; have gil := gi.lt
  go_wp2_with fail
  clear gl_0 glf0 gl_1 glf1 gll gr_0 grf0 gr_1 grf1 grl gz_0 gzf0 gz_1 gzf1 gzl gi_0 gif0 gi_1 gif1 gil
  obtain ⟨w5, hW, st⟩ := ex2 gz (.bool mb) (.pointer mp)
  rw [hW]; clear hW
  replace hx : Ext w w5 := st.below hx (by omega); replace gl := st.keep gl (by omega); replace gr := st.keep gr (by omega); replace gi := st.keep gi (by omega); replace gz := st.blk; replace mr := (PRep (T.mk l r) mb mp).imm (st.imm TS (by decide)) mr; have s6 := st.size
  have e0 := gz.c 0 rfl; have e1 := gz.c 1 rfl
  exact ret_of (.tuple #[idv mb mp, .int .i64 0]) (by simp [results, Try.results12, go_sem, e0, e1]) rfl ⟨_, _, rfl, PRep.is mr, rfl⟩ hx

set_option maxRecDepth 100000 in
set_option maxHeartbeats 1000000 in
theorem pair_deep {l r : T} {vl vr : Value} {w : World} (hl : (IsId l).p vl w) (hr : (IsId r).p vr w) (hdl : l.depth ≤ 1000) (hdr : r.depth ≤ 1000) (hd : 16 < (T.mk l r).depth) :
    Calls Try.prog 12 #[vl, vr] w (Ret w (Two (IsId .zero).toPP (PP.eq (.int .i64 3))).p) := by
  obtain ⟨bl, pl, rfl, hl⟩ := hl
  obtain ⟨br, pr, rfl, hr⟩ := hr
  go_enter Try.func12, Try.ntmps12
  go_wp2_with fail
  obtain ⟨W, hW, hb, z0, gl, gr, gz⟩ := box3 w [.bool bl, .pointer pl] [.bool br, .pointer pr] [.bool false, .pointer none] 26 26 26
  rw [hW]; clear hW
  have hx := hb; have s1 := hb.size
  refine (merge_c ⟨bl, pl, rfl, hl.ext hx⟩ ⟨br, pr, rfl, hr.ext hx⟩ hdl hdr).mono ?_
  rintro _ w1 ⟨mv, rfl, m, hb⟩
  replace hx := Ext.trans hx hb; replace gl := gl.ext hb; replace gr := gr.ext hb; replace gz := gz.ext hb; have s2 := hb.size
  obtain ⟨mb, mp, rfl, mr⟩ := m
  have gl_0 := gl.c 0 rfl; have glf0 := gl.f 0; have gl_1 := gl.c 1 rfl; have glf1 := gl.f 1; have gll := gl.lt; have gr_0 := gr.c 0 rfl; have grf0 := gr.f 0; have gr_1 := gr.c 1 rfl; have grf1 := gr.f 1; have grl := gr.lt; have gz_0 := gz.c 0 rfl; have gzf0 := gz.f 0; have gz_1 := gz.c 1 rfl; have gzf1 := gz.f 1; have gzl := gz.lt
  go_wp2_with fail
  clear gl_0 glf0 gl_1 glf1 gll gr_0 grf0 gr_1 grf1 grl gz_0 gzf0 gz_1 gzf1 gzl
  have gllt3 := gl.lt
  have grlt3 := gr.lt
  have gzlt3 := gz.lt
  obtain ⟨w2, hW, hb, z3, gi⟩ := box1 w1 [.bool mb, .pointer mp] 26
  rw [hW]; clear hW
  replace hx := Ext.trans hx hb; replace gl := gl.ext hb; replace gr := gr.ext hb; replace gz := gz.ext hb; replace mr := (PRep (T.mk l r) mb mp).mono hb mr; have s4 := hb.size
  refine (depth_c (PRep.is mr)).mono ?_
  rintro _ w3 ⟨_, rfl, rfl, hb⟩
  replace hx := Ext.trans hx hb; replace gl := gl.ext hb; replace gr := gr.ext hb; replace gz := gz.ext hb; replace gi := gi.ext hb; replace mr := (PRep (T.mk l r) mb mp).mono hb mr; have s5 := hb.size
  have gl_0 := gl.c 0 rfl; have glf0 := gl.f 0; have gl_1 := gl.c 1 rfl; have glf1 := gl.f 1; have gll := gl.lt; have gr_0 := gr.c 0 rfl; have grf0 := gr.f 0; have gr_1 := gr.c 1 rfl; have grf1 := gr.f 1; have grl := gr.lt; have gz_0 := gz.c 0 rfl; have gzf0 := gz.f 0; have gz_1 := gz.c 1 rfl; have gzf1 := gz.f 1; have gzl := gz.lt; have gi_0 := gi.c 0 rfl; have gif0 := gi.f 0; have gi_1 := gi.c 1 rfl; have gif1 := gi.f 1; have gil := gi.lt
  go_wp2_with fail
  clear gl_0 glf0 gl_1 glf1 gll gr_0 grf0 gr_1 grf1 grl gz_0 gzf0 gz_1 gzf1 gzl gi_0 gif0 gi_1 gif1 gil
  refine (zero_c).mono ?_
  rintro _ w4 ⟨zv, rfl, z, hb⟩
  replace hx := Ext.trans hx hb; replace gl := gl.ext hb; replace gr := gr.ext hb; replace gz := gz.ext hb; replace gi := gi.ext hb; replace mr := (PRep (T.mk l r) mb mp).mono hb mr; have s6 := hb.size
  obtain ⟨zb, zp, rfl, zr⟩ := z
  have gl_0 := gl.c 0 rfl; have glf0 := gl.f 0; have gl_1 := gl.c 1 rfl; have glf1 := gl.f 1; have gll := gl.lt; have gr_0 := gr.c 0 rfl; have grf0 := gr.f 0; have gr_1 := gr.c 1 rfl; have grf1 := gr.f 1; have grl := gr.lt; have gz_0 := gz.c 0 rfl; have gzf0 := gz.f 0; have gz_1 := gz.c 1 rfl; have gzf1 := gz.f 1; have gzl := gz.lt; have gi_0 := gi.c 0 rfl; have gif0 := gi.f 0; have gi_1 := gi.c 1 rfl; have gif1 := gi.f 1; have gil := gi.lt
  go_wp2_with fail
  clear gl_0 glf0 gl_1 glf1 gll gr_0 grf0 gr_1 grf1 grl gz_0 gzf0 gz_1 gzf1 gzl gi_0 gif0 gi_1 gif1 gil
  obtain ⟨w5, hW, st⟩ := ex2 gz (.bool zb) (.pointer zp)
  rw [hW]; clear hW
  replace hx : Ext w w5 := st.below hx (by omega); replace gl := st.keep gl (by omega); replace gr := st.keep gr (by omega); replace gi := st.keep gi (by omega); replace gz := st.blk; replace mr := (PRep (T.mk l r) mb mp).imm (st.imm TS (by decide)) mr; replace zr := (PRep .zero zb zp).imm (st.imm TS (by decide)) zr; have s7 := st.size
  have e0 := gz.c 0 rfl; have e1 := gz.c 1 rfl
  exact ret_of (.tuple #[idv zb zp, .int .i64 3]) (by simp [results, Try.results12, go_sem, e0, e1]) rfl ⟨_, _, rfl, PRep.is zr, rfl⟩ hx

set_option maxRecDepth 100000 in
set_option maxHeartbeats 2000000 in
theorem cut_z {t : T} {v : Value} {w : World} (h : (IsId t).p v w) (hz : t.isZero = true) :
    Calls Try.prog 39 #[v] w (Ret w (Two (IsId .zero).toPP (IsId .zero).toPP).p) := by
  obtain ⟨b, p, rfl, h⟩ := h
  go_enter Try.func39, Try.ntmps39
  go_wp2_with fail
  obtain ⟨W, hW, hb, z0, gi, g1, g2⟩ := box3 w [.bool b, .pointer p] [.bool false, .pointer none] [.bool false, .pointer none] 26 26 26
  rw [hW]; clear hW
  have hx := hb; replace h := (PRep t b p).mono hb h; have s1 := hb.size
  have gilt2 := gi.lt
  have g1lt2 := g1.lt
  have g2lt2 := g2.lt
  refine wp_facts 6 [false, false, false, false, true, true] [(IsId t).toPP, (IsId t.left).toPP, (IsId t).toPP, (IsId t.right).toPP, NewOf W.heap.size [.bool false, .pointer none] 26, NewOf W.heap.size [.bool false, .pointer none] 26] (by kernel_rfl) (by kernel_rfl) ⟨?o0, ?o1, ?o2, ?o3, ?o4, ?o5, trivial⟩ ?rest
  case o0 =>
    intro x0 x1 x2 x3 x4 x5 w' hE
    rintro R hR
    have qgi0 := (gi.ext hE).c 0 rfl
    have qgi1 := (gi.ext hE).c 1 rfl
    simp only [putAll, List.take, List.drop, List.map, Act.put, List.setIfInBounds_toArray, List.set_cons_zero, List.set_cons_succ]
    go_simp
    exact hR _ _ (Ext.refl _) (⟨_, _, rfl, h.ext hE⟩) trivial
  case o1 =>
    intro x0 x1 x2 x3 x4 x5 w' hE
    rintro d0 R hR
    simp only [putAll, List.take, List.drop, List.map, Act.put, List.setIfInBounds_toArray, List.set_cons_zero, List.set_cons_succ]
    go_simp
    refine (left_c d0).mono ?_
    rintro _ w'' ⟨v, rfl, hv, hb⟩
    exact hR _ _ hb hv trivial
  case o2 =>
    intro x0 x1 x2 x3 x4 x5 w' hE
    rintro R hR
    have qgi0 := (gi.ext hE).c 0 rfl
    have qgi1 := (gi.ext hE).c 1 rfl
    simp only [putAll, List.take, List.drop, List.map, Act.put, List.setIfInBounds_toArray, List.set_cons_zero, List.set_cons_succ]
    go_simp
    exact hR _ _ (Ext.refl _) (⟨_, _, rfl, h.ext hE⟩) trivial
  case o3 =>
    intro x0 x1 x2 x3 x4 x5 w' hE
    rintro d2 d1 R hR
    simp only [putAll, List.take, List.drop, List.map, Act.put, List.setIfInBounds_toArray, List.set_cons_zero, List.set_cons_succ]
    go_simp
    refine (right_c d2).mono ?_
    rintro _ w'' ⟨v, rfl, hv, hb⟩
    exact hR _ _ hb hv trivial
  case o4 =>
    intro x0 x1 x2 x3 x4 x5 w' hE
    rintro R hR
    simp only [putAll, List.take, List.drop, List.map, Act.put, List.setIfInBounds_toArray, List.set_cons_zero, List.set_cons_succ]
    go_simp
    exact hR _ _ ((Ext.refl _).alloc _) (newOf_alloc hE.size _ _) (freshIn_alloc _ _)
  case o5 =>
    intro x0 x1 x2 x3 x4 x5 w' hE
    rintro R hR
    simp only [putAll, List.take, List.drop, List.map, Act.put, List.setIfInBounds_toArray, List.set_cons_zero, List.set_cons_succ]
    go_simp
    exact hR _ _ ((Ext.refl _).alloc _) (newOf_alloc hE.size _ _) (freshIn_alloc _ _)
  case rest =>
    intro x0 x1 x2 x3 x4 x5 w1 hb
    rintro _ r1 _ r3 ⟨k4, rfl, hB4, n4⟩ ⟨k5, rfl, hB5, n5⟩ hap
    replace hx := Ext.trans hx hb; replace gi := gi.ext hb; replace g1 := g1.ext hb; replace g2 := g2.ext hb; replace h := (PRep t b p).mono hb h; have s3 := hb.size
    have ne4_5 := hap 4 5 (by decide) rfl rfl _ _ rfl rfl; dsimp only at ne4_5
    clear hap
    simp only [putAll, List.take, List.drop, List.map, Act.put, List.setIfInBounds_toArray, List.set_cons_zero, List.set_cons_succ]
    obtain ⟨lb, lp, rfl, lr⟩ := r1
    obtain ⟨rb, rp, rfl, rr⟩ := r3
    have gi_0 := gi.c 0 rfl; have gif0 := gi.f 0; have gi_1 := gi.c 1 rfl; have gif1 := gi.f 1; have gil := gi.lt; have g1_0 := g1.c 0 rfl; have g1f0 := g1.f 0; have g1_1 := g1.c 1 rfl; have g1f1 := g1.f 1; have g1l := g1.lt; have g2_0 := g2.c 0 rfl; have g2f0 := g2.f 0; have g2_1 := g2.c 1 rfl; have g2f1 := g2.f 1; have g2l := g2.lt; have n4_0 := n4.c 0 rfl; have n4f0 := n4.f 0; have n4_1 := n4.c 1 rfl; have n4f1 := n4.f 1; have n4l := n4.lt; have n5_0 := n5.c 0 rfl; have n5f0 := n5.f 0; have n5_1 := n5.c 1 rfl; have n5f1 := n5.f 1; have n5l := n5.lt
    go_wp2_with fail
    clear gi_0 gif0 gi_1 gif1 gil g1_0 g1f0 g1_1 g1f1 g1l g2_0 g2f0 g2_1 g2f1 g2l n4_0 n4f0 n4_1 n4f1 n4l n5_0 n5f0 n5_1 n5f1 n5l
    obtain ⟨w2, hW, st⟩ := ex2 n4 (.bool lb) (.pointer lp)
    rw [hW]; clear hW
    replace hx : Ext w w2 := st.below hx (by omega); replace gi := st.keep gi (by omega); replace g1 := st.keep g1 (by omega); replace g2 := st.keep g2 (by omega); replace n5 := st.keep n5 (by omega); replace n4 := st.blk; replace h := (PRep t b p).imm (st.imm TS (by decide)) h; replace lr := (PRep t.left lb lp).imm (st.imm TS (by decide)) lr; replace rr := (PRep t.right rb rp).imm (st.imm TS (by decide)) rr; have s4 := st.size
    obtain ⟨w3, hW, st⟩ := ex2 n5 (.bool rb) (.pointer rp)
    rw [hW]; clear hW
    replace hx : Ext w w3 := st.below hx (by omega); replace gi := st.keep gi (by omega); replace g1 := st.keep g1 (by omega); replace g2 := st.keep g2 (by omega); replace n4 := st.keep n4 (by omega); replace n5 := st.blk; replace h := (PRep t b p).imm (st.imm TS (by decide)) h; replace lr := (PRep t.left lb lp).imm (st.imm TS (by decide)) lr; replace rr := (PRep t.right rb rp).imm (st.imm TS (by decide)) rr; have s5 := st.size
    refine (isZero_c (PRep.is h)).mono ?_
    rintro _ w4 ⟨_, rfl, rfl, hb⟩
    replace hx := Ext.trans hx hb; replace gi := gi.ext hb; replace g1 := g1.ext hb; replace g2 := g2.ext hb; replace n4 := n4.ext hb; replace n5 := n5.ext hb; replace h := (PRep t b p).mono hb h; replace lr := (PRep t.left lb lp).mono hb lr; replace rr := (PRep t.right rb rp).mono hb rr; have s6 := hb.size
    have gi_0 := gi.c 0 rfl; have gif0 := gi.f 0; have gi_1 := gi.c 1 rfl; have gif1 := gi.f 1; have gil := gi.lt; have g1_0 := g1.c 0 rfl; have g1f0 := g1.f 0; have g1_1 := g1.c 1 rfl; have g1f1 := g1.f 1; have g1l := g1.lt; have g2_0 := g2.c 0 rfl; have g2f0 := g2.f 0; have g2_1 := g2.c 1 rfl; have g2f1 := g2.f 1; have g2l := g2.lt; have n4_0 := n4.c 0 rfl; have n4f0 := n4.f 0; have n4_1 := n4.c 1 rfl; have n4f1 := n4.f 1; have n4l := n4.lt; have n5_0 := n5.c 0 rfl; have n5f0 := n5.f 0; have n5_1 := n5.c 1 rfl; have n5f1 := n5.f 1; have n5l := n5.lt
    go_wp2_with fail
    clear gi_0 gif0 gi_1 gif1 gil g1_0 g1f0 g1_1 g1f1 g1l g2_0 g2f0 g2_1 g2f1 g2l n4_0 n4f0 n4_1 n4f1 n4l n5_0 n5f0 n5_1 n5f1 n5l
    refine (zero_c).mono ?_
    rintro _ w5 ⟨zav, rfl, za, hb⟩
    replace hx := Ext.trans hx hb; replace gi := gi.ext hb; replace g1 := g1.ext hb; replace g2 := g2.ext hb; replace n4 := n4.ext hb; replace n5 := n5.ext hb; replace h := (PRep t b p).mono hb h; replace lr := (PRep t.left lb lp).mono hb lr; replace rr := (PRep t.right rb rp).mono hb rr; have s7 := hb.size
    have gi_0 := gi.c 0 rfl; have gif0 := gi.f 0; have gi_1 := gi.c 1 rfl; have gif1 := gi.f 1; have gil := gi.lt; have g1_0 := g1.c 0 rfl; have g1f0 := g1.f 0; have g1_1 := g1.c 1 rfl; have g1f1 := g1.f 1; have g1l := g1.lt; have g2_0 := g2.c 0 rfl; have g2f0 := g2.f 0; have g2_1 := g2.c 1 rfl; have g2f1 := g2.f 1; have g2l := g2.lt; have n4_0 := n4.c 0 rfl; have n4f0 := n4.f 0; have n4_1 := n4.c 1 rfl; have n4f1 := n4.f 1; have n4l := n4.lt; have n5_0 := n5.c 0 rfl; have n5f0 := n5.f 0; have n5_1 := n5.c 1 rfl; have n5f1 := n5.f 1; have n5l := n5.lt
    go_wp2_with fail
    clear gi_0 gif0 gi_1 gif1 gil g1_0 g1f0 g1_1 g1f1 g1l g2_0 g2f0 g2_1 g2f1 g2l n4_0 n4f0 n4_1 n4f1 n4l n5_0 n5f0 n5_1 n5f1 n5l
    refine (zero_c).mono ?_
    rintro _ w6 ⟨zbv, rfl, zb, hb⟩
    replace hx := Ext.trans hx hb; replace gi := gi.ext hb; replace g1 := g1.ext hb; replace g2 := g2.ext hb; replace n4 := n4.ext hb; replace n5 := n5.ext hb; replace h := (PRep t b p).mono hb h; replace lr := (PRep t.left lb lp).mono hb lr; replace rr := (PRep t.right rb rp).mono hb rr; replace za := (IsId .zero).mono hb za; have s8 := hb.size
    obtain ⟨ab, ap, rfl, ar⟩ := za
    obtain ⟨bb, bp, rfl, br⟩ := zb
    have gi_0 := gi.c 0 rfl; have gif0 := gi.f 0; have gi_1 := gi.c 1 rfl; have gif1 := gi.f 1; have gil := gi.lt; have g1_0 := g1.c 0 rfl; have g1f0 := g1.f 0; have g1_1 := g1.c 1 rfl; have g1f1 := g1.f 1; have g1l := g1.lt; have g2_0 := g2.c 0 rfl; have g2f0 := g2.f 0; have g2_1 := g2.c 1 rfl; have g2f1 := g2.f 1; have g2l := g2.lt; have n4_0 := n4.c 0 rfl; have n4f0 := n4.f 0; have n4_1 := n4.c 1 rfl; have n4f1 := n4.f 1; have n4l := n4.lt; have n5_0 := n5.c 0 rfl; have n5f0 := n5.f 0; have n5_1 := n5.c 1 rfl; have n5f1 := n5.f 1; have n5l := n5.lt
    go_wp2_with fail
    clear gi_0 gif0 gi_1 gif1 gil g1_0 g1f0 g1_1 g1f1 g1l g2_0 g2f0 g2_1 g2f1 g2l n4_0 n4f0 n4_1 n4f1 n4l n5_0 n5f0 n5_1 n5f1 n5l
    obtain ⟨y1, hW, st⟩ := ex2 g1 (.bool ab) (.pointer ap)
    rw [hW]; clear hW
    replace hx : Ext w y1 := st.below hx (by omega); replace gi := st.keep gi (by omega); replace g2 := st.keep g2 (by omega); replace n4 := st.keep n4 (by omega); replace n5 := st.keep n5 (by omega); replace g1 := st.blk; replace h := (PRep t b p).imm (st.imm TS (by decide)) h; replace lr := (PRep t.left lb lp).imm (st.imm TS (by decide)) lr; replace rr := (PRep t.right rb rp).imm (st.imm TS (by decide)) rr; replace ar := (PRep .zero ab ap).imm (st.imm TS (by decide)) ar; replace br := (PRep .zero bb bp).imm (st.imm TS (by decide)) br; have s9 := st.size
    obtain ⟨y2, hW, st⟩ := ex2 g2 (.bool bb) (.pointer bp)
    rw [hW]; clear hW
    replace hx : Ext w y2 := st.below hx (by omega); replace gi := st.keep gi (by omega); replace g1 := st.keep g1 (by omega); replace n4 := st.keep n4 (by omega); replace n5 := st.keep n5 (by omega); replace g2 := st.blk; replace h := (PRep t b p).imm (st.imm TS (by decide)) h; replace lr := (PRep t.left lb lp).imm (st.imm TS (by decide)) lr; replace rr := (PRep t.right rb rp).imm (st.imm TS (by decide)) rr; replace ar := (PRep .zero ab ap).imm (st.imm TS (by decide)) ar; replace br := (PRep .zero bb bp).imm (st.imm TS (by decide)) br; have s10 := st.size
    have e0 := g1.c 0 rfl; have e1 := g1.c 1 rfl; have e2 := g2.c 0 rfl; have e3 := g2.c 1 rfl
    exact ret_of (.tuple #[idv ab ap, idv bb bp]) (by simp [results, Try.results39, go_sem, e0, e1, e2, e3]) rfl ⟨_, _, rfl, PRep.is ar, PRep.is br⟩ hx

set_option maxRecDepth 100000 in
set_option maxHeartbeats 2000000 in
theorem cut_l {t : T} {v : Value} {w : World} (h : (IsId t).p v w) (hz : t.isZero = false) (hz2 : t.left.isZero = true) (ih : ∀ (v : Value) (w : World), (IsId t.right).p v w → Calls Try.prog 39 #[v] w (Ret w (Two (IsId (cutT t.right).1).toPP (IsId (cutT t.right).2).toPP).p)) (hd1 : (cutT t.right).1.depth ≤ 1000) (hd2 : (cutT t.right).2.depth ≤ 1000) :
    Calls Try.prog 39 #[v] w (Ret w (Two (IsId (T.mk .zero (cutT t.right).1)).toPP (IsId (T.mk .zero (cutT t.right).2)).toPP).p) := by
  obtain ⟨b, p, rfl, h⟩ := h
  go_enter Try.func39, Try.ntmps39
  go_wp2_with fail
  obtain ⟨W, hW, hb, z0, gi, g1, g2⟩ := box3 w [.bool b, .pointer p] [.bool false, .pointer none] [.bool false, .pointer none] 26 26 26
  rw [hW]; clear hW
  have hx := hb; replace h := (PRep t b p).mono hb h; have s1 := hb.size
  have gilt2 := gi.lt
  have g1lt2 := g1.lt
  have g2lt2 := g2.lt
  refine wp_facts 6 [false, false, false, false, true, true] [(IsId t).toPP, (IsId t.left).toPP, (IsId t).toPP, (IsId t.right).toPP, NewOf W.heap.size [.bool false, .pointer none] 26, NewOf W.heap.size [.bool false, .pointer none] 26] (by kernel_rfl) (by kernel_rfl) ⟨?o0, ?o1, ?o2, ?o3, ?o4, ?o5, trivial⟩ ?rest
  case o0 =>
    intro x0 x1 x2 x3 x4 x5 w' hE
    rintro R hR
    have qgi0 := (gi.ext hE).c 0 rfl
    have qgi1 := (gi.ext hE).c 1 rfl
    simp only [putAll, List.take, List.drop, List.map, Act.put, List.setIfInBounds_toArray, List.set_cons_zero, List.set_cons_succ]
    go_simp
    exact hR _ _ (Ext.refl _) (⟨_, _, rfl, h.ext hE⟩) trivial
  case o1 =>
    intro x0 x1 x2 x3 x4 x5 w' hE
    rintro d0 R hR
    simp only [putAll, List.take, List.drop, List.map, Act.put, List.setIfInBounds_toArray, List.set_cons_zero, List.set_cons_succ]
    go_simp
    refine (left_c d0).mono ?_
    rintro _ w'' ⟨v, rfl, hv, hb⟩
    exact hR _ _ hb hv trivial
  case o2 =>
    intro x0 x1 x2 x3 x4 x5 w' hE
    rintro R hR
    have qgi0 := (gi.ext hE).c 0 rfl
    have qgi1 := (gi.ext hE).c 1 rfl
    simp only [putAll, List.take, List.drop, List.map, Act.put, List.setIfInBounds_toArray, List.set_cons_zero, List.set_cons_succ]
    go_simp
    exact hR _ _ (Ext.refl _) (⟨_, _, rfl, h.ext hE⟩) trivial
  case o3 =>
    intro x0 x1 x2 x3 x4 x5 w' hE
    rintro d2 d1 R hR
    simp only [putAll, List.take, List.drop, List.map, Act.put, List.setIfInBounds_toArray, List.set_cons_zero, List.set_cons_succ]
    go_simp
    refine (right_c d2).mono ?_
    rintro _ w'' ⟨v, rfl, hv, hb⟩
    exact hR _ _ hb hv trivial
  case o4 =>
    intro x0 x1 x2 x3 x4 x5 w' hE
    rintro R hR
    simp only [putAll, List.take, List.drop, List.map, Act.put, List.setIfInBounds_toArray, List.set_cons_zero, List.set_cons_succ]
    go_simp
    exact hR _ _ ((Ext.refl _).alloc _) (newOf_alloc hE.size _ _) (freshIn_alloc _ _)
  case o5 =>
    intro x0 x1 x2 x3 x4 x5 w' hE
    rintro R hR
    simp only [putAll, List.take, List.drop, List.map, Act.put, List.setIfInBounds_toArray, List.set_cons_zero, List.set_cons_succ]
    go_simp
    exact hR _ _ ((Ext.refl _).alloc _) (newOf_alloc hE.size _ _) (freshIn_alloc _ _)
  case rest =>
    intro x0 x1 x2 x3 x4 x5 w1 hb
    rintro _ r1 _ r3 ⟨k4, rfl, hB4, n4⟩ ⟨k5, rfl, hB5, n5⟩ hap
    replace hx := Ext.trans hx hb; replace gi := gi.ext hb; replace g1 := g1.ext hb; replace g2 := g2.ext hb; replace h := (PRep t b p).mono hb h; have s3 := hb.size
    have ne4_5 := hap 4 5 (by decide) rfl rfl _ _ rfl rfl; dsimp only at ne4_5
    clear hap
    simp only [putAll, List.take, List.drop, List.map, Act.put, List.setIfInBounds_toArray, List.set_cons_zero, List.set_cons_succ]
    obtain ⟨lb, lp, rfl, lr⟩ := r1
    obtain ⟨rb, rp, rfl, rr⟩ := r3
    have gi_0 := gi.c 0 rfl; have gif0 := gi.f 0; have gi_1 := gi.c 1 rfl; have gif1 := gi.f 1; have gil := gi.lt; have g1_0 := g1.c 0 rfl; have g1f0 := g1.f 0; have g1_1 := g1.c 1 rfl; have g1f1 := g1.f 1; have g1l := g1.lt; have g2_0 := g2.c 0 rfl; have g2f0 := g2.f 0; have g2_1 := g2.c 1 rfl; have g2f1 := g2.f 1; have g2l := g2.lt; have n4_0 := n4.c 0 rfl; have n4f0 := n4.f 0; have n4_1 := n4.c 1 rfl; have n4f1 := n4.f 1; have n4l := n4.lt; have n5_0 := n5.c 0 rfl; have n5f0 := n5.f 0; have n5_1 := n5.c 1 rfl; have n5f1 := n5.f 1; have n5l := n5.lt
    go_wp2_with fail
    clear gi_0 gif0 gi_1 gif1 gil g1_0 g1f0 g1_1 g1f1 g1l g2_0 g2f0 g2_1 g2f1 g2l n4_0 n4f0 n4_1 n4f1 n4l n5_0 n5f0 n5_1 n5f1 n5l
    obtain ⟨w2, hW, st⟩ := ex2 n4 (.bool lb) (.pointer lp)
    rw [hW]; clear hW
    replace hx : Ext w w2 := st.below hx (by omega); replace gi := st.keep gi (by omega); replace g1 := st.keep g1 (by omega); replace g2 := st.keep g2 (by omega); replace n5 := st.keep n5 (by omega); replace n4 := st.blk; replace h := (PRep t b p).imm (st.imm TS (by decide)) h; replace lr := (PRep t.left lb lp).imm (st.imm TS (by decide)) lr; replace rr := (PRep t.right rb rp).imm (st.imm TS (by decide)) rr; have s4 := st.size
    obtain ⟨w3, hW, st⟩ := ex2 n5 (.bool rb) (.pointer rp)
    rw [hW]; clear hW
    replace hx : Ext w w3 := st.below hx (by omega); replace gi := st.keep gi (by omega); replace g1 := st.keep g1 (by omega); replace g2 := st.keep g2 (by omega); replace n4 := st.keep n4 (by omega); replace n5 := st.blk; replace h := (PRep t b p).imm (st.imm TS (by decide)) h; replace lr := (PRep t.left lb lp).imm (st.imm TS (by decide)) lr; replace rr := (PRep t.right rb rp).imm (st.imm TS (by decide)) rr; have s5 := st.size
    refine (isZero_c (PRep.is h)).mono ?_
    rintro _ w4 ⟨_, rfl, rfl, hb⟩
    replace hx := Ext.trans hx hb; replace gi := gi.ext hb; replace g1 := g1.ext hb; replace g2 := g2.ext hb; replace n4 := n4.ext hb; replace n5 := n5.ext hb; replace h := (PRep t b p).mono hb h; replace lr := (PRep t.left lb lp).mono hb lr; replace rr := (PRep t.right rb rp).mono hb rr; have s6 := hb.size
    have gi_0 := gi.c 0 rfl; have gif0 := gi.f 0; have gi_1 := gi.c 1 rfl; have gif1 := gi.f 1; have gil := gi.lt; have g1_0 := g1.c 0 rfl; have g1f0 := g1.f 0; have g1_1 := g1.c 1 rfl; have g1f1 := g1.f 1; have g1l := g1.lt; have g2_0 := g2.c 0 rfl; have g2f0 := g2.f 0; have g2_1 := g2.c 1 rfl; have g2f1 := g2.f 1; have g2l := g2.lt; have n4_0 := n4.c 0 rfl; have n4f0 := n4.f 0; have n4_1 := n4.c 1 rfl; have n4f1 := n4.f 1; have n4l := n4.lt; have n5_0 := n5.c 0 rfl; have n5f0 := n5.f 0; have n5_1 := n5.c 1 rfl; have n5f1 := n5.f 1; have n5l := n5.lt
    go_wp2_with fail
    clear gi_0 gif0 gi_1 gif1 gil g1_0 g1f0 g1_1 g1f1 g1l g2_0 g2f0 g2_1 g2f1 g2l n4_0 n4f0 n4_1 n4f1 n4l n5_0 n5f0 n5_1 n5f1 n5l
    refine (isZero_c (PRep.is lr)).mono ?_
    rintro _ w5 ⟨_, rfl, rfl, hb⟩
    replace hx := Ext.trans hx hb; replace gi := gi.ext hb; replace g1 := g1.ext hb; replace g2 := g2.ext hb; replace n4 := n4.ext hb; replace n5 := n5.ext hb; replace h := (PRep t b p).mono hb h; replace lr := (PRep t.left lb lp).mono hb lr; replace rr := (PRep t.right rb rp).mono hb rr; have s7 := hb.size
    have gi_0 := gi.c 0 rfl; have gif0 := gi.f 0; have gi_1 := gi.c 1 rfl; have gif1 := gi.f 1; have gil := gi.lt; have g1_0 := g1.c 0 rfl; have g1f0 := g1.f 0; have g1_1 := g1.c 1 rfl; have g1f1 := g1.f 1; have g1l := g1.lt; have g2_0 := g2.c 0 rfl; have g2f0 := g2.f 0; have g2_1 := g2.c 1 rfl; have g2f1 := g2.f 1; have g2l := g2.lt; have n4_0 := n4.c 0 rfl; have n4f0 := n4.f 0; have n4_1 := n4.c 1 rfl; have n4f1 := n4.f 1; have n4l := n4.lt; have n5_0 := n5.c 0 rfl; have n5f0 := n5.f 0; have n5_1 := n5.c 1 rfl; have n5f1 := n5.f 1; have n5l := n5.lt
    go_wp2_with fail
    clear gi_0 gif0 gi_1 gif1 gil g1_0 g1f0 g1_1 g1f1 g1l g2_0 g2f0 g2_1 g2f1 g2l n4_0 n4f0 n4_1 n4f1 n4l n5_0 n5f0 n5_1 n5f1 n5l
    refine (ih _ _ (PRep.is rr)).mono ?_
    rintro _ w6 ⟨cv, rfl, c, hb⟩
    replace hx := Ext.trans hx hb; replace gi := gi.ext hb; replace g1 := g1.ext hb; replace g2 := g2.ext hb; replace n4 := n4.ext hb; replace n5 := n5.ext hb; replace h := (PRep t b p).mono hb h; replace lr := (PRep t.left lb lp).mono hb lr; replace rr := (PRep t.right rb rp).mono hb rr; have s8 := hb.size
    obtain ⟨cav, cbv, rfl, ca, cb⟩ := c
    obtain ⟨xb, xp, rfl, xr⟩ := ca
    obtain ⟨yb, yp, rfl, yr⟩ := cb
    have gi_0 := gi.c 0 rfl; have gif0 := gi.f 0; have gi_1 := gi.c 1 rfl; have gif1 := gi.f 1; have gil := gi.lt; have g1_0 := g1.c 0 rfl; have g1f0 := g1.f 0; have g1_1 := g1.c 1 rfl; have g1f1 := g1.f 1; have g1l := g1.lt; have g2_0 := g2.c 0 rfl; have g2f0 := g2.f 0; have g2_1 := g2.c 1 rfl; have g2f1 := g2.f 1; have g2l := g2.lt; have n4_0 := n4.c 0 rfl; have n4f0 := n4.f 0; have n4_1 := n4.c 1 rfl; have n4f1 := n4.f 1; have n4l := n4.lt; have n5_0 := n5.c 0 rfl; have n5f0 := n5.f 0; have n5_1 := n5.c 1 rfl; have n5f1 := n5.f 1; have n5l := n5.lt
    go_wp2_with fail
    clear gi_0 gif0 gi_1 gif1 gil g1_0 g1f0 g1_1 g1f1 g1l g2_0 g2f0 g2_1 g2f1 g2l n4_0 n4f0 n4_1 n4f1 n4l n5_0 n5f0 n5_1 n5f1 n5l
    have gilt9 := gi.lt
    have g1lt9 := g1.lt
    have g2lt9 := g2.lt
    have n4lt9 := n4.lt
    have n5lt9 := n5.lt
    obtain ⟨w7, hW, hb, z9, gx, gy⟩ := box2 w6 [.bool xb, .pointer xp] [.bool yb, .pointer yp] 26 26
    rw [hW]; clear hW
    replace hx := Ext.trans hx hb; replace gi := gi.ext hb; replace g1 := g1.ext hb; replace g2 := g2.ext hb; replace n4 := n4.ext hb; replace n5 := n5.ext hb; replace h := (PRep t b p).mono hb h; replace lr := (PRep t.left lb lp).mono hb lr; replace rr := (PRep t.right rb rp).mono hb rr; replace xr := (PRep (cutT t.right).1 xb xp).mono hb xr; replace yr := (PRep (cutT t.right).2 yb yp).mono hb yr; have s10 := hb.size
    have gilt11 := gi.lt
    have g1lt11 := g1.lt
    have g2lt11 := g2.lt
    have n4lt11 := n4.lt
    have n5lt11 := n5.lt
    have gxlt11 := gx.lt
    have gylt11 := gy.lt
    refine wp_facts 6 [] [(IsId .zero).toPP, (IsId (cutT t.right).1).toPP, (IsId (T.mk .zero (cutT t.right).1)).toPP, (IsId .zero).toPP, (IsId (cutT t.right).2).toPP, (IsId (T.mk .zero (cutT t.right).2)).toPP] (by kernel_rfl) (by kernel_rfl) ⟨?o0, ?o1, ?o2, ?o3, ?o4, ?o5, trivial⟩ ?rest
    case o0 =>
      intro x0 x1 x2 x3 x4 x5 w' hE
      rintro R hR
      simp only [putAll, List.take, List.drop, List.map, Act.put, List.setIfInBounds_toArray, List.set_cons_zero, List.set_cons_succ]
      go_simp
      refine (zero_c).mono ?_
      rintro _ w'' ⟨v, rfl, hv, hb⟩
      exact hR _ _ hb hv trivial
    case o1 =>
      intro x0 x1 x2 x3 x4 x5 w' hE
      rintro R hR
      have qgx0 := (gx.ext hE).c 0 rfl
      have qgx1 := (gx.ext hE).c 1 rfl
      simp only [putAll, List.take, List.drop, List.map, Act.put, List.setIfInBounds_toArray, List.set_cons_zero, List.set_cons_succ]
      go_simp
      exact hR _ _ (Ext.refl _) (⟨_, _, rfl, xr.ext hE⟩) trivial
    case o2 =>
      intro x0 x1 x2 x3 x4 x5 w' hE
      rintro d0 d1 _ R hR
      simp only [putAll, List.take, List.drop, List.map, Act.put, List.setIfInBounds_toArray, List.set_cons_zero, List.set_cons_succ]
      go_simp
      refine (merge_c d0 d1 (by simp [T.depth]) (by omega)).mono ?_
      rintro _ w'' ⟨v, rfl, hv, hb⟩
      exact hR _ _ hb hv trivial
    case o3 =>
      intro x0 x1 x2 x3 x4 x5 w' hE
      rintro d2 R hR
      simp only [putAll, List.take, List.drop, List.map, Act.put, List.setIfInBounds_toArray, List.set_cons_zero, List.set_cons_succ]
      go_simp
      refine (zero_c).mono ?_
      rintro _ w'' ⟨v, rfl, hv, hb⟩
      exact hR _ _ hb hv trivial
    case o4 =>
      intro x0 x1 x2 x3 x4 x5 w' hE
      rintro R hR
      have qgy0 := (gy.ext hE).c 0 rfl
      have qgy1 := (gy.ext hE).c 1 rfl
      simp only [putAll, List.take, List.drop, List.map, Act.put, List.setIfInBounds_toArray, List.set_cons_zero, List.set_cons_succ]
      go_simp
      exact hR _ _ (Ext.refl _) (⟨_, _, rfl, yr.ext hE⟩) trivial
    case o5 =>
      intro x0 x1 x2 x3 x4 x5 w' hE
      rintro d3 d4 _ R hR
      simp only [putAll, List.take, List.drop, List.map, Act.put, List.setIfInBounds_toArray, List.set_cons_zero, List.set_cons_succ]
      go_simp
      refine (merge_c d3 d4 (by simp [T.depth]) (by omega)).mono ?_
      rintro _ w'' ⟨v, rfl, hv, hb⟩
      exact hR _ _ hb hv trivial
    case rest =>
      intro x0 x1 x2 x3 x4 x5 w8 hb
      rintro _ _ r2 _ _ r5 hap
      replace hx := Ext.trans hx hb; replace gi := gi.ext hb; replace g1 := g1.ext hb; replace g2 := g2.ext hb; replace n4 := n4.ext hb; replace n5 := n5.ext hb; replace gx := gx.ext hb; replace gy := gy.ext hb; replace h := (PRep t b p).mono hb h; replace lr := (PRep t.left lb lp).mono hb lr; replace rr := (PRep t.right rb rp).mono hb rr; replace xr := (PRep (cutT t.right).1 xb xp).mono hb xr; replace yr := (PRep (cutT t.right).2 yb yp).mono hb yr; have s12 := hb.size
      clear hap
      simp only [putAll, List.take, List.drop, List.map, Act.put, List.setIfInBounds_toArray, List.set_cons_zero, List.set_cons_succ]
      obtain ⟨ab, ap, rfl, ar⟩ := r2
      obtain ⟨bb, bp, rfl, br⟩ := r5
      have gi_0 := gi.c 0 rfl; have gif0 := gi.f 0; have gi_1 := gi.c 1 rfl; have gif1 := gi.f 1; have gil := gi.lt; have g1_0 := g1.c 0 rfl; have g1f0 := g1.f 0; have g1_1 := g1.c 1 rfl; have g1f1 := g1.f 1; have g1l := g1.lt; have g2_0 := g2.c 0 rfl; have g2f0 := g2.f 0; have g2_1 := g2.c 1 rfl; have g2f1 := g2.f 1; have g2l := g2.lt; have n4_0 := n4.c 0 rfl; have n4f0 := n4.f 0; have n4_1 := n4.c 1 rfl; have n4f1 := n4.f 1; have n4l := n4.lt; have n5_0 := n5.c 0 rfl; have n5f0 := n5.f 0; have n5_1 := n5.c 1 rfl; have n5f1 := n5.f 1; have n5l := n5.lt; have gx_0 := gx.c 0 rfl; have gxf0 := gx.f 0; have gx_1 := gx.c 1 rfl; have gxf1 := gx.f 1; have gxl := gx.lt; have gy_0 := gy.c 0 rfl; have gyf0 := gy.f 0; have gy_1 := gy.c 1 rfl; have gyf1 := gy.f 1; have gyl := gy.lt
      go_wp2_with fail
      clear gi_0 gif0 gi_1 gif1 gil g1_0 g1f0 g1_1 g1f1 g1l g2_0 g2f0 g2_1 g2f1 g2l n4_0 n4f0 n4_1 n4f1 n4l n5_0 n5f0 n5_1 n5f1 n5l gx_0 gxf0 gx_1 gxf1 gxl gy_0 gyf0 gy_1 gyf1 gyl
      obtain ⟨y1, hW, st⟩ := ex2 g1 (.bool ab) (.pointer ap)
      rw [hW]; clear hW
      replace hx : Ext w y1 := st.below hx (by omega); replace gi := st.keep gi (by omega); replace g2 := st.keep g2 (by omega); replace n4 := st.keep n4 (by omega); replace n5 := st.keep n5 (by omega); replace gx := st.keep gx (by omega); replace gy := st.keep gy (by omega); replace g1 := st.blk; replace h := (PRep t b p).imm (st.imm TS (by decide)) h; replace lr := (PRep t.left lb lp).imm (st.imm TS (by decide)) lr; replace rr := (PRep t.right rb rp).imm (st.imm TS (by decide)) rr; replace xr := (PRep (cutT t.right).1 xb xp).imm (st.imm TS (by decide)) xr; replace yr := (PRep (cutT t.right).2 yb yp).imm (st.imm TS (by decide)) yr; replace ar := (PRep (T.mk .zero (cutT t.right).1) ab ap).imm (st.imm TS (by decide)) ar; replace br := (PRep (T.mk .zero (cutT t.right).2) bb bp).imm (st.imm TS (by decide)) br; have s13 := st.size
      obtain ⟨y2, hW, st⟩ := ex2 g2 (.bool bb) (.pointer bp)
      rw [hW]; clear hW
      replace hx : Ext w y2 := st.below hx (by omega); replace gi := st.keep gi (by omega); replace g1 := st.keep g1 (by omega); replace n4 := st.keep n4 (by omega); replace n5 := st.keep n5 (by omega); replace gx := st.keep gx (by omega); replace gy := st.keep gy (by omega); replace g2 := st.blk; replace h := (PRep t b p).imm (st.imm TS (by decide)) h; replace lr := (PRep t.left lb lp).imm (st.imm TS (by decide)) lr; replace rr := (PRep t.right rb rp).imm (st.imm TS (by decide)) rr; replace xr := (PRep (cutT t.right).1 xb xp).imm (st.imm TS (by decide)) xr; replace yr := (PRep (cutT t.right).2 yb yp).imm (st.imm TS (by decide)) yr; replace ar := (PRep (T.mk .zero (cutT t.right).1) ab ap).imm (st.imm TS (by decide)) ar; replace br := (PRep (T.mk .zero (cutT t.right).2) bb bp).imm (st.imm TS (by decide)) br; have s14 := st.size
      have e0 := g1.c 0 rfl; have e1 := g1.c 1 rfl; have e2 := g2.c 0 rfl; have e3 := g2.c 1 rfl
      exact ret_of (.tuple #[idv ab ap, idv bb bp]) (by simp [results, Try.results39, go_sem, e0, e1, e2, e3]) rfl ⟨_, _, rfl, PRep.is ar, PRep.is br⟩ hx

set_option maxRecDepth 100000 in
set_option maxHeartbeats 2000000 in
theorem cut_r {t : T} {v : Value} {w : World} (h : (IsId t).p v w) (hz : t.isZero = false) (hz2 : t.left.isZero = false) (hz3 : t.right.isZero = true) (ih : ∀ (v : Value) (w : World), (IsId t.left).p v w → Calls Try.prog 39 #[v] w (Ret w (Two (IsId (cutT t.left).1).toPP (IsId (cutT t.left).2).toPP).p)) (hd1 : (cutT t.left).1.depth ≤ 1000) (hd2 : (cutT t.left).2.depth ≤ 1000) :
    Calls Try.prog 39 #[v] w (Ret w (Two (IsId (T.mk (cutT t.left).1 .zero)).toPP (IsId (T.mk (cutT t.left).2 .zero)).toPP).p) := by
  obtain ⟨b, p, rfl, h⟩ := h
  go_enter Try.func39, Try.ntmps39
  go_wp2_with fail
  obtain ⟨W, hW, hb, z0, gi, g1, g2⟩ := box3 w [.bool b, .pointer p] [.bool false, .pointer none] [.bool false, .pointer none] 26 26 26
  rw [hW]; clear hW
  have hx := hb; replace h := (PRep t b p).mono hb h; have s1 := hb.size
  have gilt2 := gi.lt
  have g1lt2 := g1.lt
  have g2lt2 := g2.lt
  refine wp_facts 6 [false, false, false, false, true, true] [(IsId t).toPP, (IsId t.left).toPP, (IsId t).toPP, (IsId t.right).toPP, NewOf W.heap.size [.bool false, .pointer none] 26, NewOf W.heap.size [.bool false, .pointer none] 26] (by kernel_rfl) (by kernel_rfl) ⟨?o0, ?o1, ?o2, ?o3, ?o4, ?o5, trivial⟩ ?rest
  case o0 =>
    intro x0 x1 x2 x3 x4 x5 w' hE
    rintro R hR
    have qgi0 := (gi.ext hE).c 0 rfl
    have qgi1 := (gi.ext hE).c 1 rfl
    simp only [putAll, List.take, List.drop, List.map, Act.put, List.setIfInBounds_toArray, List.set_cons_zero, List.set_cons_succ]
    go_simp
    exact hR _ _ (Ext.refl _) (⟨_, _, rfl, h.ext hE⟩) trivial
  case o1 =>
    intro x0 x1 x2 x3 x4 x5 w' hE
    rintro d0 R hR
    simp only [putAll, List.take, List.drop, List.map, Act.put, List.setIfInBounds_toArray, List.set_cons_zero, List.set_cons_succ]
    go_simp
    refine (left_c d0).mono ?_
    rintro _ w'' ⟨v, rfl, hv, hb⟩
    exact hR _ _ hb hv trivial
  case o2 =>
    intro x0 x1 x2 x3 x4 x5 w' hE
    rintro R hR
    have qgi0 := (gi.ext hE).c 0 rfl
    have qgi1 := (gi.ext hE).c 1 rfl
    simp only [putAll, List.take, List.drop, List.map, Act.put, List.setIfInBounds_toArray, List.set_cons_zero, List.set_cons_succ]
    go_simp
    exact hR _ _ (Ext.refl _) (⟨_, _, rfl, h.ext hE⟩) trivial
  case o3 =>
    intro x0 x1 x2 x3 x4 x5 w' hE
    rintro d2 d1 R hR
    simp only [putAll, List.take, List.drop, List.map, Act.put, List.setIfInBounds_toArray, List.set_cons_zero, List.set_cons_succ]
    go_simp
    refine (right_c d2).mono ?_
    rintro _ w'' ⟨v, rfl, hv, hb⟩
    exact hR _ _ hb hv trivial
  case o4 =>
    intro x0 x1 x2 x3 x4 x5 w' hE
    rintro R hR
    simp only [putAll, List.take, List.drop, List.map, Act.put, List.setIfInBounds_toArray, List.set_cons_zero, List.set_cons_succ]
    go_simp
    exact hR _ _ ((Ext.refl _).alloc _) (newOf_alloc hE.size _ _) (freshIn_alloc _ _)
  case o5 =>
    intro x0 x1 x2 x3 x4 x5 w' hE
    rintro R hR
    simp only [putAll, List.take, List.drop, List.map, Act.put, List.setIfInBounds_toArray, List.set_cons_zero, List.set_cons_succ]
    go_simp
    exact hR _ _ ((Ext.refl _).alloc _) (newOf_alloc hE.size _ _) (freshIn_alloc _ _)
  case rest =>
    intro x0 x1 x2 x3 x4 x5 w1 hb
    rintro _ r1 _ r3 ⟨k4, rfl, hB4, n4⟩ ⟨k5, rfl, hB5, n5⟩ hap
    replace hx := Ext.trans hx hb; replace gi := gi.ext hb; replace g1 := g1.ext hb; replace g2 := g2.ext hb; replace h := (PRep t b p).mono hb h; have s3 := hb.size
    have ne4_5 := hap 4 5 (by decide) rfl rfl _ _ rfl rfl; dsimp only at ne4_5
    clear hap
    simp only [putAll, List.take, List.drop, List.map, Act.put, List.setIfInBounds_toArray, List.set_cons_zero, List.set_cons_succ]
    obtain ⟨lb, lp, rfl, lr⟩ := r1
    obtain ⟨rb, rp, rfl, rr⟩ := r3
    have gi_0 := gi.c 0 rfl; have gif0 := gi.f 0; have gi_1 := gi.c 1 rfl; have gif1 := gi.f 1; have gil := gi.lt; have g1_0 := g1.c 0 rfl; have g1f0 := g1.f 0; have g1_1 := g1.c 1 rfl; have g1f1 := g1.f 1; have g1l := g1.lt; have g2_0 := g2.c 0 rfl; have g2f0 := g2.f 0; have g2_1 := g2.c 1 rfl; have g2f1 := g2.f 1; have g2l := g2.lt; have n4_0 := n4.c 0 rfl; have n4f0 := n4.f 0; have n4_1 := n4.c 1 rfl; have n4f1 := n4.f 1; have n4l := n4.lt; have n5_0 := n5.c 0 rfl; have n5f0 := n5.f 0; have n5_1 := n5.c 1 rfl; have n5f1 := n5.f 1; have n5l := n5.lt
    go_wp2_with fail
    clear gi_0 gif0 gi_1 gif1 gil g1_0 g1f0 g1_1 g1f1 g1l g2_0 g2f0 g2_1 g2f1 g2l n4_0 n4f0 n4_1 n4f1 n4l n5_0 n5f0 n5_1 n5f1 n5l
    obtain ⟨w2, hW, st⟩ := ex2 n4 (.bool lb) (.pointer lp)
    rw [hW]; clear hW
    replace hx : Ext w w2 := st.below hx (by omega); replace gi := st.keep gi (by omega); replace g1 := st.keep g1 (by omega); replace g2 := st.keep g2 (by omega); replace n5 := st.keep n5 (by omega); replace n4 := st.blk; replace h := (PRep t b p).imm (st.imm TS (by decide)) h; replace lr := (PRep t.left lb lp).imm (st.imm TS (by decide)) lr; replace rr := (PRep t.right rb rp).imm (st.imm TS (by decide)) rr; have s4 := st.size
    obtain ⟨w3, hW, st⟩ := ex2 n5 (.bool rb) (.pointer rp)
    rw [hW]; clear hW
    replace hx : Ext w w3 := st.below hx (by omega); replace gi := st.keep gi (by omega); replace g1 := st.keep g1 (by omega); replace g2 := st.keep g2 (by omega); replace n4 := st.keep n4 (by omega); replace n5 := st.blk; replace h := (PRep t b p).imm (st.imm TS (by decide)) h; replace lr := (PRep t.left lb lp).imm (st.imm TS (by decide)) lr; replace rr := (PRep t.right rb rp).imm (st.imm TS (by decide)) rr; have s5 := st.size
    refine (isZero_c (PRep.is h)).mono ?_
    rintro _ w4 ⟨_, rfl, rfl, hb⟩
    replace hx := Ext.trans hx hb; replace gi := gi.ext hb; replace g1 := g1.ext hb; replace g2 := g2.ext hb; replace n4 := n4.ext hb; replace n5 := n5.ext hb; replace h := (PRep t b p).mono hb h; replace lr := (PRep t.left lb lp).mono hb lr; replace rr := (PRep t.right rb rp).mono hb rr; have s6 := hb.size
    have gi_0 := gi.c 0 rfl; have gif0 := gi.f 0; have gi_1 := gi.c 1 rfl; have gif1 := gi.f 1; have gil := gi.lt; have g1_0 := g1.c 0 rfl; have g1f0 := g1.f 0; have g1_1 := g1.c 1 rfl; have g1f1 := g1.f 1; have g1l := g1.lt; have g2_0 := g2.c 0 rfl; have g2f0 := g2.f 0; have g2_1 := g2.c 1 rfl; have g2f1 := g2.f 1; have g2l := g2.lt; have n4_0 := n4.c 0 rfl; have n4f0 := n4.f 0; have n4_1 := n4.c 1 rfl; have n4f1 := n4.f 1; have n4l := n4.lt; have n5_0 := n5.c 0 rfl; have n5f0 := n5.f 0; have n5_1 := n5.c 1 rfl; have n5f1 := n5.f 1; have n5l := n5.lt
    go_wp2_with fail
    clear gi_0 gif0 gi_1 gif1 gil g1_0 g1f0 g1_1 g1f1 g1l g2_0 g2f0 g2_1 g2f1 g2l n4_0 n4f0 n4_1 n4f1 n4l n5_0 n5f0 n5_1 n5f1 n5l
    refine (isZero_c (PRep.is lr)).mono ?_
    rintro _ w5 ⟨_, rfl, rfl, hb⟩
    replace hx := Ext.trans hx hb; replace gi := gi.ext hb; replace g1 := g1.ext hb; replace g2 := g2.ext hb; replace n4 := n4.ext hb; replace n5 := n5.ext hb; replace h := (PRep t b p).mono hb h; replace lr := (PRep t.left lb lp).mono hb lr; replace rr := (PRep t.right rb rp).mono hb rr; have s7 := hb.size
    have gi_0 := gi.c 0 rfl; have gif0 := gi.f 0; have gi_1 := gi.c 1 rfl; have gif1 := gi.f 1; have gil := gi.lt; have g1_0 := g1.c 0 rfl; have g1f0 := g1.f 0; have g1_1 := g1.c 1 rfl; have g1f1 := g1.f 1; have g1l := g1.lt; have g2_0 := g2.c 0 rfl; have g2f0 := g2.f 0; have g2_1 := g2.c 1 rfl; have g2f1 := g2.f 1; have g2l := g2.lt; have n4_0 := n4.c 0 rfl; have n4f0 := n4.f 0; have n4_1 := n4.c 1 rfl; have n4f1 := n4.f 1; have n4l := n4.lt; have n5_0 := n5.c 0 rfl; have n5f0 := n5.f 0; have n5_1 := n5.c 1 rfl; have n5f1 := n5.f 1; have n5l := n5.lt
    go_wp2_with fail
    clear gi_0 gif0 gi_1 gif1 gil g1_0 g1f0 g1_1 g1f1 g1l g2_0 g2f0 g2_1 g2f1 g2l n4_0 n4f0 n4_1 n4f1 n4l n5_0 n5f0 n5_1 n5f1 n5l
    refine (isZero_c (PRep.is rr)).mono ?_
    rintro _ w6 ⟨_, rfl, rfl, hb⟩
    replace hx := Ext.trans hx hb; replace gi := gi.ext hb; replace g1 := g1.ext hb; replace g2 := g2.ext hb; replace n4 := n4.ext hb; replace n5 := n5.ext hb; replace h := (PRep t b p).mono hb h; replace lr := (PRep t.left lb lp).mono hb lr; replace rr := (PRep t.right rb rp).mono hb rr; have s8 := hb.size
    have gi_0 := gi.c 0 rfl; have gif0 := gi.f 0; have gi_1 := gi.c 1 rfl; have gif1 := gi.f 1; have gil := gi.lt; have g1_0 := g1.c 0 rfl; have g1f0 := g1.f 0; have g1_1 := g1.c 1 rfl; have g1f1 := g1.f 1; have g1l := g1.lt; have g2_0 := g2.c 0 rfl; have g2f0 := g2.f 0; have g2_1 := g2.c 1 rfl; have g2f1 := g2.f 1; have g2l := g2.lt; have n4_0 := n4.c 0 rfl; have n4f0 := n4.f 0; have n4_1 := n4.c 1 rfl; have n4f1 := n4.f 1; have n4l := n4.lt; have n5_0 := n5.c 0 rfl; have n5f0 := n5.f 0; have n5_1 := n5.c 1 rfl; have n5f1 := n5.f 1; have n5l := n5.lt
    go_wp2_with fail
    clear gi_0 gif0 gi_1 gif1 gil g1_0 g1f0 g1_1 g1f1 g1l g2_0 g2f0 g2_1 g2f1 g2l n4_0 n4f0 n4_1 n4f1 n4l n5_0 n5f0 n5_1 n5f1 n5l
    refine (ih _ _ (PRep.is lr)).mono ?_
    rintro _ w7 ⟨cv, rfl, c, hb⟩
    replace hx := Ext.trans hx hb; replace gi := gi.ext hb; replace g1 := g1.ext hb; replace g2 := g2.ext hb; replace n4 := n4.ext hb; replace n5 := n5.ext hb; replace h := (PRep t b p).mono hb h; replace lr := (PRep t.left lb lp).mono hb lr; replace rr := (PRep t.right rb rp).mono hb rr; have s9 := hb.size
    obtain ⟨cav, cbv, rfl, ca, cb⟩ := c
    obtain ⟨xb, xp, rfl, xr⟩ := ca
    obtain ⟨yb, yp, rfl, yr⟩ := cb
    have gi_0 := gi.c 0 rfl; have gif0 := gi.f 0; have gi_1 := gi.c 1 rfl; have gif1 := gi.f 1; have gil := gi.lt; have g1_0 := g1.c 0 rfl; have g1f0 := g1.f 0; have g1_1 := g1.c 1 rfl; have g1f1 := g1.f 1; have g1l := g1.lt; have g2_0 := g2.c 0 rfl; have g2f0 := g2.f 0; have g2_1 := g2.c 1 rfl; have g2f1 := g2.f 1; have g2l := g2.lt; have n4_0 := n4.c 0 rfl; have n4f0 := n4.f 0; have n4_1 := n4.c 1 rfl; have n4f1 := n4.f 1; have n4l := n4.lt; have n5_0 := n5.c 0 rfl; have n5f0 := n5.f 0; have n5_1 := n5.c 1 rfl; have n5f1 := n5.f 1; have n5l := n5.lt
    go_wp2_with fail
    clear gi_0 gif0 gi_1 gif1 gil g1_0 g1f0 g1_1 g1f1 g1l g2_0 g2f0 g2_1 g2f1 g2l n4_0 n4f0 n4_1 n4f1 n4l n5_0 n5f0 n5_1 n5f1 n5l
    have gilt10 := gi.lt
    have g1lt10 := g1.lt
    have g2lt10 := g2.lt
    have n4lt10 := n4.lt
    have n5lt10 := n5.lt
    obtain ⟨w8, hW, hb, z10, gx, gy⟩ := box2 w7 [.bool xb, .pointer xp] [.bool yb, .pointer yp] 26 26
    rw [hW]; clear hW
    replace hx := Ext.trans hx hb; replace gi := gi.ext hb; replace g1 := g1.ext hb; replace g2 := g2.ext hb; replace n4 := n4.ext hb; replace n5 := n5.ext hb; replace h := (PRep t b p).mono hb h; replace lr := (PRep t.left lb lp).mono hb lr; replace rr := (PRep t.right rb rp).mono hb rr; replace xr := (PRep (cutT t.left).1 xb xp).mono hb xr; replace yr := (PRep (cutT t.left).2 yb yp).mono hb yr; have s11 := hb.size
    have gilt12 := gi.lt
    have g1lt12 := g1.lt
    have g2lt12 := g2.lt
    have n4lt12 := n4.lt
    have n5lt12 := n5.lt
    have gxlt12 := gx.lt
    have gylt12 := gy.lt
    refine wp_facts 6 [] [(IsId (cutT t.left).1).toPP, (IsId .zero).toPP, (IsId (T.mk (cutT t.left).1 .zero)).toPP, (IsId (cutT t.left).2).toPP, (IsId .zero).toPP, (IsId (T.mk (cutT t.left).2 .zero)).toPP] (by kernel_rfl) (by kernel_rfl) ⟨?o0, ?o1, ?o2, ?o3, ?o4, ?o5, trivial⟩ ?rest
    case o0 =>
      intro x0 x1 x2 x3 x4 x5 w' hE
      rintro R hR
      have qgx0 := (gx.ext hE).c 0 rfl
      have qgx1 := (gx.ext hE).c 1 rfl
      simp only [putAll, List.take, List.drop, List.map, Act.put, List.setIfInBounds_toArray, List.set_cons_zero, List.set_cons_succ]
      go_simp
      exact hR _ _ (Ext.refl _) (⟨_, _, rfl, xr.ext hE⟩) trivial
    case o1 =>
      intro x0 x1 x2 x3 x4 x5 w' hE
      rintro R hR
      simp only [putAll, List.take, List.drop, List.map, Act.put, List.setIfInBounds_toArray, List.set_cons_zero, List.set_cons_succ]
      go_simp
      refine (zero_c).mono ?_
      rintro _ w'' ⟨v, rfl, hv, hb⟩
      exact hR _ _ hb hv trivial
    case o2 =>
      intro x0 x1 x2 x3 x4 x5 w' hE
      rintro d0 d1 _ R hR
      simp only [putAll, List.take, List.drop, List.map, Act.put, List.setIfInBounds_toArray, List.set_cons_zero, List.set_cons_succ]
      go_simp
      refine (merge_c d0 d1 (by omega) (by simp [T.depth])).mono ?_
      rintro _ w'' ⟨v, rfl, hv, hb⟩
      exact hR _ _ hb hv trivial
    case o3 =>
      intro x0 x1 x2 x3 x4 x5 w' hE
      rintro R hR
      have qgy0 := (gy.ext hE).c 0 rfl
      have qgy1 := (gy.ext hE).c 1 rfl
      simp only [putAll, List.take, List.drop, List.map, Act.put, List.setIfInBounds_toArray, List.set_cons_zero, List.set_cons_succ]
      go_simp
      exact hR _ _ (Ext.refl _) (⟨_, _, rfl, yr.ext hE⟩) trivial
    case o4 =>
      intro x0 x1 x2 x3 x4 x5 w' hE
      rintro d2 R hR
      simp only [putAll, List.take, List.drop, List.map, Act.put, List.setIfInBounds_toArray, List.set_cons_zero, List.set_cons_succ]
      go_simp
      refine (zero_c).mono ?_
      rintro _ w'' ⟨v, rfl, hv, hb⟩
      exact hR _ _ hb hv trivial
    case o5 =>
      intro x0 x1 x2 x3 x4 x5 w' hE
      rintro d3 d4 _ R hR
      simp only [putAll, List.take, List.drop, List.map, Act.put, List.setIfInBounds_toArray, List.set_cons_zero, List.set_cons_succ]
      go_simp
      refine (merge_c d3 d4 (by omega) (by simp [T.depth])).mono ?_
      rintro _ w'' ⟨v, rfl, hv, hb⟩
      exact hR _ _ hb hv trivial
    case rest =>
      intro x0 x1 x2 x3 x4 x5 w9 hb
      rintro _ _ r2 _ _ r5 hap
      replace hx := Ext.trans hx hb; replace gi := gi.ext hb; replace g1 := g1.ext hb; replace g2 := g2.ext hb; replace n4 := n4.ext hb; replace n5 := n5.ext hb; replace gx := gx.ext hb; replace gy := gy.ext hb; replace h := (PRep t b p).mono hb h; replace lr := (PRep t.left lb lp).mono hb lr; replace rr := (PRep t.right rb rp).mono hb rr; replace xr := (PRep (cutT t.left).1 xb xp).mono hb xr; replace yr := (PRep (cutT t.left).2 yb yp).mono hb yr; have s13 := hb.size
      clear hap
      simp only [putAll, List.take, List.drop, List.map, Act.put, List.setIfInBounds_toArray, List.set_cons_zero, List.set_cons_succ]
      obtain ⟨ab, ap, rfl, ar⟩ := r2
      obtain ⟨bb, bp, rfl, br⟩ := r5
      have gi_0 := gi.c 0 rfl; have gif0 := gi.f 0; have gi_1 := gi.c 1 rfl; have gif1 := gi.f 1; have gil := gi.lt; have g1_0 := g1.c 0 rfl; have g1f0 := g1.f 0; have g1_1 := g1.c 1 rfl; have g1f1 := g1.f 1; have g1l := g1.lt; have g2_0 := g2.c 0 rfl; have g2f0 := g2.f 0; have g2_1 := g2.c 1 rfl; have g2f1 := g2.f 1; have g2l := g2.lt; have n4_0 := n4.c 0 rfl; have n4f0 := n4.f 0; have n4_1 := n4.c 1 rfl; have n4f1 := n4.f 1; have n4l := n4.lt; have n5_0 := n5.c 0 rfl; have n5f0 := n5.f 0; have n5_1 := n5.c 1 rfl; have n5f1 := n5.f 1; have n5l := n5.lt; have gx_0 := gx.c 0 rfl; have gxf0 := gx.f 0; have gx_1 := gx.c 1 rfl; have gxf1 := gx.f 1; have gxl := gx.lt; have gy_0 := gy.c 0 rfl; have gyf0 := gy.f 0; have gy_1 := gy.c 1 rfl; have gyf1 := gy.f 1; have gyl := gy.lt
      go_wp2_with fail
      clear gi_0 gif0 gi_1 gif1 gil g1_0 g1f0 g1_1 g1f1 g1l g2_0 g2f0 g2_1 g2f1 g2l n4_0 n4f0 n4_1 n4f1 n4l n5_0 n5f0 n5_1 n5f1 n5l gx_0 gxf0 gx_1 gxf1 gxl gy_0 gyf0 gy_1 gyf1 gyl
      obtain ⟨y1, hW, st⟩ := ex2 g1 (.bool ab) (.pointer ap)
      rw [hW]; clear hW
      replace hx : Ext w y1 := st.below hx (by omega); replace gi := st.keep gi (by omega); replace g2 := st.keep g2 (by omega); replace n4 := st.keep n4 (by omega); replace n5 := st.keep n5 (by omega); replace gx := st.keep gx (by omega); replace gy := st.keep gy (by omega); replace g1 := st.blk; replace h := (PRep t b p).imm (st.imm TS (by decide)) h; replace lr := (PRep t.left lb lp).imm (st.imm TS (by decide)) lr; replace rr := (PRep t.right rb rp).imm (st.imm TS (by decide)) rr; replace xr := (PRep (cutT t.left).1 xb xp).imm (st.imm TS (by decide)) xr; replace yr := (PRep (cutT t.left).2 yb yp).imm (st.imm TS (by decide)) yr; replace ar := (PRep (T.mk (cutT t.left).1 .zero) ab ap).imm (st.imm TS (by decide)) ar; replace br := (PRep (T.mk (cutT t.left).2 .zero) bb bp).imm (st.imm TS (by decide)) br; have s14 := st.size
      obtain ⟨y2, hW, st⟩ := ex2 g2 (.bool bb) (.pointer bp)
      rw [hW]; clear hW
      replace hx : Ext w y2 := st.below hx (by omega); replace gi := st.keep gi (by omega); replace g1 := st.keep g1 (by omega); replace n4 := st.keep n4 (by omega); replace n5 := st.keep n5 (by omega); replace gx := st.keep gx (by omega); replace gy := st.keep gy (by omega); replace g2 := st.blk; replace h := (PRep t b p).imm (st.imm TS (by decide)) h; replace lr := (PRep t.left lb lp).imm (st.imm TS (by decide)) lr; replace rr := (PRep t.right rb rp).imm (st.imm TS (by decide)) rr; replace xr := (PRep (cutT t.left).1 xb xp).imm (st.imm TS (by decide)) xr; replace yr := (PRep (cutT t.left).2 yb yp).imm (st.imm TS (by decide)) yr; replace ar := (PRep (T.mk (cutT t.left).1 .zero) ab ap).imm (st.imm TS (by decide)) ar; replace br := (PRep (T.mk (cutT t.left).2 .zero) bb bp).imm (st.imm TS (by decide)) br; have s15 := st.size
      have e0 := g1.c 0 rfl; have e1 := g1.c 1 rfl; have e2 := g2.c 0 rfl; have e3 := g2.c 1 rfl
      exact ret_of (.tuple #[idv ab ap, idv bb bp]) (by simp [results, Try.results39, go_sem, e0, e1, e2, e3]) rfl ⟨_, _, rfl, PRep.is ar, PRep.is br⟩ hx

set_option maxRecDepth 100000 in
set_option maxHeartbeats 2000000 in
theorem cut_n {t : T} {v : Value} {w : World} (h : (IsId t).p v w) (hz : t.isZero = false) (hz2 : t.left.isZero = false) (hz3 : t.right.isZero = false) (hd1 : t.left.depth ≤ 1000) (hd2 : t.right.depth ≤ 1000) :
    Calls Try.prog 39 #[v] w (Ret w (Two (IsId (T.mk t.left .zero)).toPP (IsId (T.mk .zero t.right)).toPP).p) := by
  obtain ⟨b, p, rfl, h⟩ := h
  go_enter Try.func39, Try.ntmps39
  go_wp2_with fail
  obtain ⟨W, hW, hb, z0, gi, g1, g2⟩ := box3 w [.bool b, .pointer p] [.bool false, .pointer none] [.bool false, .pointer none] 26 26 26
  rw [hW]; clear hW
  have hx := hb; replace h := (PRep t b p).mono hb h; have s1 := hb.size
  have gilt2 := gi.lt
  have g1lt2 := g1.lt
  have g2lt2 := g2.lt
  refine wp_facts 6 [false, false, false, false, true, true] [(IsId t).toPP, (IsId t.left).toPP, (IsId t).toPP, (IsId t.right).toPP, NewOf W.heap.size [.bool false, .pointer none] 26, NewOf W.heap.size [.bool false, .pointer none] 26] (by kernel_rfl) (by kernel_rfl) ⟨?o0, ?o1, ?o2, ?o3, ?o4, ?o5, trivial⟩ ?rest
  case o0 =>
    intro x0 x1 x2 x3 x4 x5 w' hE
    rintro R hR
    have qgi0 := (gi.ext hE).c 0 rfl
    have qgi1 := (gi.ext hE).c 1 rfl
    simp only [putAll, List.take, List.drop, List.map, Act.put, List.setIfInBounds_toArray, List.set_cons_zero, List.set_cons_succ]
    go_simp
    exact hR _ _ (Ext.refl _) (⟨_, _, rfl, h.ext hE⟩) trivial
  case o1 =>
    intro x0 x1 x2 x3 x4 x5 w' hE
    rintro d0 R hR
    simp only [putAll, List.take, List.drop, List.map, Act.put, List.setIfInBounds_toArray, List.set_cons_zero, List.set_cons_succ]
    go_simp
    refine (left_c d0).mono ?_
    rintro _ w'' ⟨v, rfl, hv, hb⟩
    exact hR _ _ hb hv trivial
  case o2 =>
    intro x0 x1 x2 x3 x4 x5 w' hE
    rintro R hR
    have qgi0 := (gi.ext hE).c 0 rfl
    have qgi1 := (gi.ext hE).c 1 rfl
    simp only [putAll, List.take, List.drop, List.map, Act.put, List.setIfInBounds_toArray, List.set_cons_zero, List.set_cons_succ]
    go_simp
    exact hR _ _ (Ext.refl _) (⟨_, _, rfl, h.ext hE⟩) trivial
  case o3 =>
    intro x0 x1 x2 x3 x4 x5 w' hE
    rintro d2 d1 R hR
    simp only [putAll, List.take, List.drop, List.map, Act.put, List.setIfInBounds_toArray, List.set_cons_zero, List.set_cons_succ]
    go_simp
    refine (right_c d2).mono ?_
    rintro _ w'' ⟨v, rfl, hv, hb⟩
    exact hR _ _ hb hv trivial
  case o4 =>
    intro x0 x1 x2 x3 x4 x5 w' hE
    rintro R hR
    simp only [putAll, List.take, List.drop, List.map, Act.put, List.setIfInBounds_toArray, List.set_cons_zero, List.set_cons_succ]
    go_simp
    exact hR _ _ ((Ext.refl _).alloc _) (newOf_alloc hE.size _ _) (freshIn_alloc _ _)
  case o5 =>
    intro x0 x1 x2 x3 x4 x5 w' hE
    rintro R hR
    simp only [putAll, List.take, List.drop, List.map, Act.put, List.setIfInBounds_toArray, List.set_cons_zero, List.set_cons_succ]
    go_simp
    exact hR _ _ ((Ext.refl _).alloc _) (newOf_alloc hE.size _ _) (freshIn_alloc _ _)
  case rest =>
    intro x0 x1 x2 x3 x4 x5 w1 hb
    rintro _ r1 _ r3 ⟨k4, rfl, hB4, n4⟩ ⟨k5, rfl, hB5, n5⟩ hap
    replace hx := Ext.trans hx hb; replace gi := gi.ext hb; replace g1 := g1.ext hb; replace g2 := g2.ext hb; replace h := (PRep t b p).mono hb h; have s3 := hb.size
    have ne4_5 := hap 4 5 (by decide) rfl rfl _ _ rfl rfl; dsimp only at ne4_5
    clear hap
    simp only [putAll, List.take, List.drop, List.map, Act.put, List.setIfInBounds_toArray, List.set_cons_zero, List.set_cons_succ]
    obtain ⟨lb, lp, rfl, lr⟩ := r1
    obtain ⟨rb, rp, rfl, rr⟩ := r3
    have gi_0 := gi.c 0 rfl; have gif0 := gi.f 0; have gi_1 := gi.c 1 rfl; have gif1 := gi.f 1; have gil := gi.lt; have g1_0 := g1.c 0 rfl; have g1f0 := g1.f 0; have g1_1 := g1.c 1 rfl; have g1f1 := g1.f 1; have g1l := g1.lt; have g2_0 := g2.c 0 rfl; have g2f0 := g2.f 0; have g2_1 := g2.c 1 rfl; have g2f1 := g2.f 1; have g2l := g2.lt; have n4_0 := n4.c 0 rfl; have n4f0 := n4.f 0; have n4_1 := n4.c 1 rfl; have n4f1 := n4.f 1; have n4l := n4.lt; have n5_0 := n5.c 0 rfl; have n5f0 := n5.f 0; have n5_1 := n5.c 1 rfl; have n5f1 := n5.f 1; have n5l := n5.lt
    go_wp2_with fail
    clear gi_0 gif0 gi_1 gif1 gil g1_0 g1f0 g1_1 g1f1 g1l g2_0 g2f0 g2_1 g2f1 g2l n4_0 n4f0 n4_1 n4f1 n4l n5_0 n5f0 n5_1 n5f1 n5l
    obtain ⟨w2, hW, st⟩ := ex2 n4 (.bool lb) (.pointer lp)
    rw [hW]; clear hW
    replace hx : Ext w w2 := st.below hx (by omega); replace gi := st.keep gi (by omega); replace g1 := st.keep g1 (by omega); replace g2 := st.keep g2 (by omega); replace n5 := st.keep n5 (by omega); replace n4 := st.blk; replace h := (PRep t b p).imm (st.imm TS (by decide)) h; replace lr := (PRep t.left lb lp).imm (st.imm TS (by decide)) lr; replace rr := (PRep t.right rb rp).imm (st.imm TS (by decide)) rr; have s4 := st.size
    obtain ⟨w3, hW, st⟩ := ex2 n5 (.bool rb) (.pointer rp)
    rw [hW]; clear hW
    replace hx : Ext w w3 := st.below hx (by omega); replace gi := st.keep gi (by omega); replace g1 := st.keep g1 (by omega); replace g2 := st.keep g2 (by omega); replace n4 := st.keep n4 (by omega); replace n5 := st.blk; replace h := (PRep t b p).imm (st.imm TS (by decide)) h; replace lr := (PRep t.left lb lp).imm (st.imm TS (by decide)) lr; replace rr := (PRep t.right rb rp).imm (st.imm TS (by decide)) rr; have s5 := st.size
    refine (isZero_c (PRep.is h)).mono ?_
    rintro _ w4 ⟨_, rfl, rfl, hb⟩
    replace hx := Ext.trans hx hb; replace gi := gi.ext hb; replace g1 := g1.ext hb; replace g2 := g2.ext hb; replace n4 := n4.ext hb; replace n5 := n5.ext hb; replace h := (PRep t b p).mono hb h; replace lr := (PRep t.left lb lp).mono hb lr; replace rr := (PRep t.right rb rp).mono hb rr; have s6 := hb.size
    have gi_0 := gi.c 0 rfl; have gif0 := gi.f 0; have gi_1 := gi.c 1 rfl; have gif1 := gi.f 1; have gil := gi.lt; have g1_0 := g1.c 0 rfl; have g1f0 := g1.f 0; have g1_1 := g1.c 1 rfl; have g1f1 := g1.f 1; have g1l := g1.lt; have g2_0 := g2.c 0 rfl; have g2f0 := g2.f 0; have g2_1 := g2.c 1 rfl; have g2f1 := g2.f 1; have g2l := g2.lt; have n4_0 := n4.c 0 rfl; have n4f0 := n4.f 0; have n4_1 := n4.c 1 rfl; have n4f1 := n4.f 1; have n4l := n4.lt; have n5_0 := n5.c 0 rfl; have n5f0 := n5.f 0; have n5_1 := n5.c 1 rfl; have n5f1 := n5.f 1; have n5l := n5.lt
    go_wp2_with fail
    clear gi_0 gif0 gi_1 gif1 gil g1_0 g1f0 g1_1 g1f1 g1l g2_0 g2f0 g2_1 g2f1 g2l n4_0 n4f0 n4_1 n4f1 n4l n5_0 n5f0 n5_1 n5f1 n5l
    refine (isZero_c (PRep.is lr)).mono ?_
    rintro _ w5 ⟨_, rfl, rfl, hb⟩
    replace hx := Ext.trans hx hb; replace gi := gi.ext hb; replace g1 := g1.ext hb; replace g2 := g2.ext hb; replace n4 := n4.ext hb; replace n5 := n5.ext hb; replace h := (PRep t b p).mono hb h; replace lr := (PRep t.left lb lp).mono hb lr; replace rr := (PRep t.right rb rp).mono hb rr; have s7 := hb.size
    have gi_0 := gi.c 0 rfl; have gif0 := gi.f 0; have gi_1 := gi.c 1 rfl; have gif1 := gi.f 1; have gil := gi.lt; have g1_0 := g1.c 0 rfl; have g1f0 := g1.f 0; have g1_1 := g1.c 1 rfl; have g1f1 := g1.f 1; have g1l := g1.lt; have g2_0 := g2.c 0 rfl; have g2f0 := g2.f 0; have g2_1 := g2.c 1 rfl; have g2f1 := g2.f 1; have g2l := g2.lt; have n4_0 := n4.c 0 rfl; have n4f0 := n4.f 0; have n4_1 := n4.c 1 rfl; have n4f1 := n4.f 1; have n4l := n4.lt; have n5_0 := n5.c 0 rfl; have n5f0 := n5.f 0; have n5_1 := n5.c 1 rfl; have n5f1 := n5.f 1; have n5l := n5.lt
    go_wp2_with fail
    clear gi_0 gif0 gi_1 gif1 gil g1_0 g1f0 g1_1 g1f1 g1l g2_0 g2f0 g2_1 g2f1 g2l n4_0 n4f0 n4_1 n4f1 n4l n5_0 n5f0 n5_1 n5f1 n5l
    refine (isZero_c (PRep.is rr)).mono ?_
    rintro _ w6 ⟨_, rfl, rfl, hb⟩
    replace hx := Ext.trans hx hb; replace gi := gi.ext hb; replace g1 := g1.ext hb; replace g2 := g2.ext hb; replace n4 := n4.ext hb; replace n5 := n5.ext hb; replace h := (PRep t b p).mono hb h; replace lr := (PRep t.left lb lp).mono hb lr; replace rr := (PRep t.right rb rp).mono hb rr; have s8 := hb.size
    have gi_0 := gi.c 0 rfl; have gif0 := gi.f 0; have gi_1 := gi.c 1 rfl; have gif1 := gi.f 1; have gil := gi.lt; have g1_0 := g1.c 0 rfl; have g1f0 := g1.f 0; have g1_1 := g1.c 1 rfl; have g1f1 := g1.f 1; have g1l := g1.lt; have g2_0 := g2.c 0 rfl; have g2f0 := g2.f 0; have g2_1 := g2.c 1 rfl; have g2f1 := g2.f 1; have g2l := g2.lt; have n4_0 := n4.c 0 rfl; have n4f0 := n4.f 0; have n4_1 := n4.c 1 rfl; have n4f1 := n4.f 1; have n4l := n4.lt; have n5_0 := n5.c 0 rfl; have n5f0 := n5.f 0; have n5_1 := n5.c 1 rfl; have n5f1 := n5.f 1; have n5l := n5.lt
    go_wp2_with fail
    clear gi_0 gif0 gi_1 gif1 gil g1_0 g1f0 g1_1 g1f1 g1l g2_0 g2f0 g2_1 g2f1 g2l n4_0 n4f0 n4_1 n4f1 n4l n5_0 n5f0 n5_1 n5f1 n5l
    have gilt9 := gi.lt
    have g1lt9 := g1.lt
    have g2lt9 := g2.lt
    have n4lt9 := n4.lt
    have n5lt9 := n5.lt
    refine wp_facts 6 [] [(IsId t.left).toPP, (IsId .zero).toPP, (IsId (T.mk t.left .zero)).toPP, (IsId .zero).toPP, (IsId t.right).toPP, (IsId (T.mk .zero t.right)).toPP] (by kernel_rfl) (by kernel_rfl) ⟨?o0, ?o1, ?o2, ?o3, ?o4, ?o5, trivial⟩ ?rest
    case o0 =>
      intro x0 x1 x2 x3 x4 x5 w' hE
      rintro R hR
      have qn40 := (n4.ext hE).c 0 rfl
      have qn41 := (n4.ext hE).c 1 rfl
      simp only [putAll, List.take, List.drop, List.map, Act.put, List.setIfInBounds_toArray, List.set_cons_zero, List.set_cons_succ]
      go_simp
      exact hR _ _ (Ext.refl _) (⟨_, _, rfl, lr.ext hE⟩) trivial
    case o1 =>
      intro x0 x1 x2 x3 x4 x5 w' hE
      rintro R hR
      simp only [putAll, List.take, List.drop, List.map, Act.put, List.setIfInBounds_toArray, List.set_cons_zero, List.set_cons_succ]
      go_simp
      refine (zero_c).mono ?_
      rintro _ w'' ⟨v, rfl, hv, hb⟩
      exact hR _ _ hb hv trivial
    case o2 =>
      intro x0 x1 x2 x3 x4 x5 w' hE
      rintro d0 d1 _ R hR
      simp only [putAll, List.take, List.drop, List.map, Act.put, List.setIfInBounds_toArray, List.set_cons_zero, List.set_cons_succ]
      go_simp
      refine (merge_c d0 d1 (by omega) (by simp [T.depth])).mono ?_
      rintro _ w'' ⟨v, rfl, hv, hb⟩
      exact hR _ _ hb hv trivial
    case o3 =>
      intro x0 x1 x2 x3 x4 x5 w' hE
      rintro d2 R hR
      simp only [putAll, List.take, List.drop, List.map, Act.put, List.setIfInBounds_toArray, List.set_cons_zero, List.set_cons_succ]
      go_simp
      refine (zero_c).mono ?_
      rintro _ w'' ⟨v, rfl, hv, hb⟩
      exact hR _ _ hb hv trivial
    case o4 =>
      intro x0 x1 x2 x3 x4 x5 w' hE
      rintro R hR
      have qn50 := (n5.ext hE).c 0 rfl
      have qn51 := (n5.ext hE).c 1 rfl
      simp only [putAll, List.take, List.drop, List.map, Act.put, List.setIfInBounds_toArray, List.set_cons_zero, List.set_cons_succ]
      go_simp
      exact hR _ _ (Ext.refl _) (⟨_, _, rfl, rr.ext hE⟩) trivial
    case o5 =>
      intro x0 x1 x2 x3 x4 x5 w' hE
      rintro d3 d4 _ R hR
      simp only [putAll, List.take, List.drop, List.map, Act.put, List.setIfInBounds_toArray, List.set_cons_zero, List.set_cons_succ]
      go_simp
      refine (merge_c d3 d4 (by simp [T.depth]) (by omega)).mono ?_
      rintro _ w'' ⟨v, rfl, hv, hb⟩
      exact hR _ _ hb hv trivial
    case rest =>
      intro x0 x1 x2 x3 x4 x5 w9 hb
      rintro _ _ r2 _ _ r5 hap
      replace hx := Ext.trans hx hb; replace gi := gi.ext hb; replace g1 := g1.ext hb; replace g2 := g2.ext hb; replace n4 := n4.ext hb; replace n5 := n5.ext hb; replace h := (PRep t b p).mono hb h; replace lr := (PRep t.left lb lp).mono hb lr; replace rr := (PRep t.right rb rp).mono hb rr; have s10 := hb.size
      clear hap
      simp only [putAll, List.take, List.drop, List.map, Act.put, List.setIfInBounds_toArray, List.set_cons_zero, List.set_cons_succ]
      obtain ⟨ab, ap, rfl, ar⟩ := r2
      obtain ⟨bb, bp, rfl, br⟩ := r5
      have gi_0 := gi.c 0 rfl; have gif0 := gi.f 0; have gi_1 := gi.c 1 rfl; have gif1 := gi.f 1; have gil := gi.lt; have g1_0 := g1.c 0 rfl; have g1f0 := g1.f 0; have g1_1 := g1.c 1 rfl; have g1f1 := g1.f 1; have g1l := g1.lt; have g2_0 := g2.c 0 rfl; have g2f0 := g2.f 0; have g2_1 := g2.c 1 rfl; have g2f1 := g2.f 1; have g2l := g2.lt; have n4_0 := n4.c 0 rfl; have n4f0 := n4.f 0; have n4_1 := n4.c 1 rfl; have n4f1 := n4.f 1; have n4l := n4.lt; have n5_0 := n5.c 0 rfl; have n5f0 := n5.f 0; have n5_1 := n5.c 1 rfl; have n5f1 := n5.f 1; have n5l := n5.lt
      go_wp2_with fail
      clear gi_0 gif0 gi_1 gif1 gil g1_0 g1f0 g1_1 g1f1 g1l g2_0 g2f0 g2_1 g2f1 g2l n4_0 n4f0 n4_1 n4f1 n4l n5_0 n5f0 n5_1 n5f1 n5l
      obtain ⟨y1, hW, st⟩ := ex2 g1 (.bool ab) (.pointer ap)
      rw [hW]; clear hW
      replace hx : Ext w y1 := st.below hx (by omega); replace gi := st.keep gi (by omega); replace g2 := st.keep g2 (by omega); replace n4 := st.keep n4 (by omega); replace n5 := st.keep n5 (by omega); replace g1 := st.blk; replace h := (PRep t b p).imm (st.imm TS (by decide)) h; replace lr := (PRep t.left lb lp).imm (st.imm TS (by decide)) lr; replace rr := (PRep t.right rb rp).imm (st.imm TS (by decide)) rr; replace ar := (PRep (T.mk t.left .zero) ab ap).imm (st.imm TS (by decide)) ar; replace br := (PRep (T.mk .zero t.right) bb bp).imm (st.imm TS (by decide)) br; have s11 := st.size
      obtain ⟨y2, hW, st⟩ := ex2 g2 (.bool bb) (.pointer bp)
      rw [hW]; clear hW
      replace hx : Ext w y2 := st.below hx (by omega); replace gi := st.keep gi (by omega); replace g1 := st.keep g1 (by omega); replace n4 := st.keep n4 (by omega); replace n5 := st.keep n5 (by omega); replace g2 := st.blk; replace h := (PRep t b p).imm (st.imm TS (by decide)) h; replace lr := (PRep t.left lb lp).imm (st.imm TS (by decide)) lr; replace rr := (PRep t.right rb rp).imm (st.imm TS (by decide)) rr; replace ar := (PRep (T.mk t.left .zero) ab ap).imm (st.imm TS (by decide)) ar; replace br := (PRep (T.mk .zero t.right) bb bp).imm (st.imm TS (by decide)) br; have s12 := st.size
      have e0 := g1.c 0 rfl; have e1 := g1.c 1 rfl; have e2 := g2.c 0 rfl; have e3 := g2.c 1 rfl
      exact ret_of (.tuple #[idv ab ap, idv bb bp]) (by simp [results, Try.results39, go_sem, e0, e1, e2, e3]) rfl ⟨_, _, rfl, PRep.is ar, PRep.is br⟩ hx

theorem cut_c : ∀ (t : T), t.depth ≤ 900 → ∀ (v : Value) (w : World), (IsId t).p v w → Calls Try.prog 39 #[v] w (Ret w (Two (IsId (cutT t).1).toPP (IsId (cutT t).2).toPP).p)
  | .zero, _, _, _, h => cut_z h rfl
  | .one, _, _, _, h => cut_n h rfl rfl rfl (by simp [T.left, T.depth]) (by simp [T.right, T.depth])
  | .node .zero r, hd, v, w, h => by
    have hr : r.depth ≤ 900 := by simp only [T.depth] at hd; omega
    have := cut_depth r
    exact cut_l h rfl rfl (fun v w hv => cut_c r hr v w hv) (by simp only [T.right]; omega) (by simp only [T.right]; omega)
  | .node .one .zero, hd, v, w, h => by
    have := cut_depth .one
    exact cut_r h rfl rfl rfl (fun v w hv => cut_c .one (by simp [T.depth]) v w hv) (by simp only [T.left, T.depth] at *; omega) (by simp only [T.left, T.depth] at *; omega)
  | .node (.node a b) .zero, hd, v, w, h => by
    have hl : (T.node a b).depth ≤ 900 := by simp only [T.depth] at hd ⊢; omega
    have := cut_depth (.node a b)
    exact cut_r h rfl rfl rfl (fun v w hv => cut_c (.node a b) hl v w hv) (by simp only [T.left]; omega) (by simp only [T.left]; omega)
  | .node .one .one, _, _, _, h => cut_n h rfl rfl rfl (by simp [T.left, T.depth]) (by simp [T.right, T.depth])
  | .node .one (.node c d), hd, _, _, h => cut_n h rfl rfl rfl (by simp [T.left, T.depth]) (by simp only [T.right, T.depth] at hd ⊢; omega)
  | .node (.node a b) .one, hd, _, _, h => cut_n h rfl rfl rfl (by simp only [T.left, T.depth] at hd ⊢; omega) (by simp [T.right, T.depth])
  | .node (.node a b) (.node c d), hd, _, _, h => cut_n h rfl rfl rfl (by simp only [T.left, T.depth] at hd ⊢; omega) (by simp only [T.right, T.depth] at hd ⊢; omega)

set_option maxRecDepth 100000 in
set_option maxHeartbeats 1000000 in
theorem split_ok {t : T} {v : Value} {w : World} (h : (IsId t).p v w) (ht : t.depth ≤ 900) (hd : max (cutT t).1.depth (cutT t).2.depth ≤ 16) :
    Calls Try.prog 18 #[v] w (Ret w (Three (IsId (cutT t).1).toPP (IsId (cutT t).2).toPP (PP.eq (.int .i64 0))).p) := by
  obtain ⟨b, p, rfl, h⟩ := h
  go_enter Try.func18, Try.ntmps18
  go_wp2_with fail
  obtain ⟨W, hW, hb, z0, gi, g1, g2⟩ := box3 w [.bool b, .pointer p] [.bool false, .pointer none] [.bool false, .pointer none] 26 26 26
  rw [hW]; clear hW
  have hx := hb; replace h := (PRep t b p).mono hb h; have s1 := hb.size
  refine (cut_c t ht _ _ (PRep.is h)).mono ?_
  rintro _ w1 ⟨cv, rfl, c, hb⟩
  replace hx := Ext.trans hx hb; replace gi := gi.ext hb; replace g1 := g1.ext hb; replace g2 := g2.ext hb; replace h := (PRep t b p).mono hb h; have s2 := hb.size
  obtain ⟨cav, cbv, rfl, ca, cb⟩ := c
  obtain ⟨ab, ap, rfl, ar⟩ := ca
  obtain ⟨bb, bp, rfl, br⟩ := cb
  have gi_0 := gi.c 0 rfl; have gif0 := gi.f 0; have gi_1 := gi.c 1 rfl; have gif1 := gi.f 1; have gil := gi.lt; have g1_0 := g1.c 0 rfl; have g1f0 := g1.f 0; have g1_1 := g1.c 1 rfl; have g1f1 := g1.f 1; have g1l := g1.lt; have g2_0 := g2.c 0 rfl; have g2f0 := g2.f 0; have g2_1 := g2.c 1 rfl; have g2f1 := g2.f 1; have g2l := g2.lt
  go_wp2_with fail
  clear gi_0 gif0 gi_1 gif1 gil g1_0 g1f0 g1_1 g1f1 g1l g2_0 g2f0 g2_1 g2f1 g2l
  have gilt3 := gi.lt
  have g1lt3 := g1.lt
  have g2lt3 := g2.lt
  obtain ⟨w2, hW, hb, z3, ga, gb⟩ := box2 w1 [.bool ab, .pointer ap] [.bool bb, .pointer bp] 26 26
  rw [hW]; clear hW
  replace hx := Ext.trans hx hb; replace gi := gi.ext hb; replace g1 := g1.ext hb; replace g2 := g2.ext hb; replace h := (PRep t b p).mono hb h; replace ar := (PRep (cutT t).1 ab ap).mono hb ar; replace br := (PRep (cutT t).2 bb bp).mono hb br; have s4 := hb.size
  have hif : (if (cutT t).1.depth < (cutT t).2.depth then ((cutT t).2.depth : Int) else ((cutT t).1.depth : Int)) = ((max (cutT t).1.depth (cutT t).2.depth : Nat) : Int) := by split <;> omega
  have Hif := Lib.hid hif; clear hif
  have HD : Hid (decide ((16 : Int) < ((max (cutT t).1.depth (cutT t).2.depth : Nat) : Int)) = false) := by unfold Hid; simp; omega
  have gilt5 := gi.lt
  have g1lt5 := g1.lt
  have g2lt5 := g2.lt
  have galt5 := ga.lt
  have gblt5 := gb.lt
  refine wp_facts 6 [] [(IsId (cutT t).1).toPP, PP.eq (.int .i64 ((cutT t).1.depth : Nat)), (IsId (cutT t).2).toPP, PP.eq (.int .i64 ((cutT t).2.depth : Nat)), PP.eq (.int .i64 ((max (cutT t).1.depth (cutT t).2.depth : Nat) : Int)), PP.eq (.bool false)] (by kernel_rfl) (by kernel_rfl) ⟨?o0, ?o1, ?o2, ?o3, ?o4, ?o5, trivial⟩ ?rest
  case o0 =>
    intro x0 x1 x2 x3 x4 x5 w' hE
    rintro R hR
    have qga0 := (ga.ext hE).c 0 rfl
    have qga1 := (ga.ext hE).c 1 rfl
    simp only [putAll, List.take, List.drop, List.map, Act.put, List.setIfInBounds_toArray, List.set_cons_zero, List.set_cons_succ]
    go_simp
    exact hR _ _ (Ext.refl _) (⟨_, _, rfl, ar.ext hE⟩) trivial
  case o1 =>
    intro x0 x1 x2 x3 x4 x5 w' hE
    rintro d0 R hR
    simp only [putAll, List.take, List.drop, List.map, Act.put, List.setIfInBounds_toArray, List.set_cons_zero, List.set_cons_succ]
    go_simp
    refine (depth_c d0).mono ?_
    rintro _ w'' ⟨v, rfl, hv, hb⟩
    exact hR _ _ hb hv trivial
  case o2 =>
    intro x0 x1 x2 x3 x4 x5 w' hE
    rintro R hR
    have qgb0 := (gb.ext hE).c 0 rfl
    have qgb1 := (gb.ext hE).c 1 rfl
    simp only [putAll, List.take, List.drop, List.map, Act.put, List.setIfInBounds_toArray, List.set_cons_zero, List.set_cons_succ]
    go_simp
    exact hR _ _ (Ext.refl _) (⟨_, _, rfl, br.ext hE⟩) trivial
  case o3 =>
    intro x0 x1 x2 x3 x4 x5 w' hE
    rintro d2 rfl R hR
    simp only [putAll, List.take, List.drop, List.map, Act.put, List.setIfInBounds_toArray, List.set_cons_zero, List.set_cons_succ]
    go_simp
    refine (depth_c d2).mono ?_
    rintro _ w'' ⟨v, rfl, hv, hb⟩
    exact hR _ _ hb hv trivial
  case o4 =>
    intro x0 x1 x2 x3 x4 x5 w' hE
    rintro rfl rfl R hR
    simp only [putAll, List.take, List.drop, List.map, Act.put, List.setIfInBounds_toArray, List.set_cons_zero, List.set_cons_succ]
    go_simp
    rw [Hif.out]
    exact hR _ _ (Ext.refl _) (rfl) trivial
  case o5 =>
    intro x0 x1 x2 x3 x4 x5 w' hE
    rintro rfl R hR
    simp only [putAll, List.take, List.drop, List.map, Act.put, List.setIfInBounds_toArray, List.set_cons_zero, List.set_cons_succ]
    go_simp
    rw [HD.out]
    exact hR _ _ (Ext.refl _) (rfl) trivial
  case rest =>
    intro x0 x1 x2 x3 x4 x5 w3 hb
    rintro _ rfl _ rfl rfl rfl hap
    replace hx := Ext.trans hx hb; replace gi := gi.ext hb; replace g1 := g1.ext hb; replace g2 := g2.ext hb; replace ga := ga.ext hb; replace gb := gb.ext hb; replace h := (PRep t b p).mono hb h; replace ar := (PRep (cutT t).1 ab ap).mono hb ar; replace br := (PRep (cutT t).2 bb bp).mono hb br; have s6 := hb.size
    clear hap
    simp only [putAll, List.take, List.drop, List.map, Act.put, List.setIfInBounds_toArray, List.set_cons_zero, List.set_cons_succ]
    have gi_0 := gi.c 0 rfl; have gif0 := gi.f 0; have gi_1 := gi.c 1 rfl; have gif1 := gi.f 1; have gil := gi.lt; have g1_0 := g1.c 0 rfl; have g1f0 := g1.f 0; have g1_1 := g1.c 1 rfl; have g1f1 := g1.f 1; have g1l := g1.lt; have g2_0 := g2.c 0 rfl; have g2f0 := g2.f 0; have g2_1 := g2.c 1 rfl; have g2f1 := g2.f 1; have g2l := g2.lt; have ga_0 := ga.c 0 rfl; have gaf0 := ga.f 0; have ga_1 := ga.c 1 rfl; have gaf1 := ga.f 1; have gal := ga.lt; have gb_0 := gb.c 0 rfl; have gbf0 := gb.f 0; have gb_1 := gb.c 1 rfl; have gbf1 := gb.f 1; have gbl := gb.lt
    go_wp2_with fail
    clear gi_0 gif0 gi_1 gif1 gil g1_0 g1f0 g1_1 g1f1 g1l g2_0 g2f0 g2_1 g2f1 g2l ga_0 gaf0 ga_1 gaf1 gal gb_0 gbf0 gb_1 gbf1 gbl
    have gi_0 := gi.c 0 rfl; have gif0 := gi.f 0; have gi_1 := gi.c 1 rfl; have gif1 := gi.f 1; have gil := gi.lt; have g1_0 := g1.c 0 rfl; have g1f0 := g1.f 0; have g1_1 := g1.c 1 rfl; have g1f1 := g1.f 1; have g1l := g1.lt; have g2_0 := g2.c 0 rfl; have g2f0 := g2.f 0; have g2_1 := g2.c 1 rfl; have g2f1 := g2.f 1; have g2l := g2.lt; have ga_0 := ga.c 0 rfl; have gaf0 := ga.f 0; have ga_1 := ga.c 1 rfl; have gaf1 := ga.f 1; have gal := ga.lt; have gb_0 := gb.c 0 rfl; have gbf0 := gb.f 0; have gb_1 := gb.c 1 rfl; have gbf1 := gb.f 1; have gbl := gb.lt
    go_region
    clear gi_0 gif0 gi_1 gif1 gil g1_0 g1f0 g1_1 g1f1 g1l g2_0 g2f0 g2_1 g2f1 g2l ga_0 gaf0 ga_1 gaf1 gal gb_0 gbf0 gb_1 gbf1 gbl
    obtain ⟨y1, hW, st⟩ := ex2 g1 (.bool ab) (.pointer ap)
    rw [hW]; clear hW
    replace hx : Ext w y1 := st.below hx (by omega); replace gi := st.keep gi (by omega); replace g2 := st.keep g2 (by omega); replace ga := st.keep ga (by omega); replace gb := st.keep gb (by omega); replace g1 := st.blk; replace h := (PRep t b p).imm (st.imm TS (by decide)) h; replace ar := (PRep (cutT t).1 ab ap).imm (st.imm TS (by decide)) ar; replace br := (PRep (cutT t).2 bb bp).imm (st.imm TS (by decide)) br; have s7 := st.size
    obtain ⟨y2, hW, st⟩ := ex2 g2 (.bool bb) (.pointer bp)
    rw [hW]; clear hW
    replace hx : Ext w y2 := st.below hx (by omega); replace gi := st.keep gi (by omega); replace g1 := st.keep g1 (by omega); replace ga := st.keep ga (by omega); replace gb := st.keep gb (by omega); replace g2 := st.blk; replace h := (PRep t b p).imm (st.imm TS (by decide)) h; replace ar := (PRep (cutT t).1 ab ap).imm (st.imm TS (by decide)) ar; replace br := (PRep (cutT t).2 bb bp).imm (st.imm TS (by decide)) br; have s8 := st.size
    obtain ⟨y3, hW, hb⟩ : ∃ X, y2.drew = X ∧ Ext y2 X := ⟨_, rfl, (Ext.refl _).drew⟩
    rw [hW]; clear hW
    replace hx := Ext.trans hx hb; replace gi := gi.ext hb; replace g1 := g1.ext hb; replace g2 := g2.ext hb; replace ga := ga.ext hb; replace gb := gb.ext hb; replace h := (PRep t b p).mono hb h; replace ar := (PRep (cutT t).1 ab ap).mono hb ar; replace br := (PRep (cutT t).2 bb bp).mono hb br; have s9 := hb.size
    go_wp2_with fail
    have e0 := g1.c 0 rfl; have e1 := g1.c 1 rfl; have e2 := g2.c 0 rfl; have e3 := g2.c 1 rfl
    exact ret_of (.tuple #[idv ab ap, idv bb bp, .int .i64 0]) (by simp [results, Try.results18, go_sem, e0, e1, e2, e3]) rfl ⟨_, _, _, rfl, PRep.is ar, PRep.is br, rfl⟩ hx

set_option maxRecDepth 100000 in
set_option maxHeartbeats 1000000 in
theorem split_deep {t : T} {v : Value} {w : World} (h : (IsId t).p v w) (ht : t.depth ≤ 900) (hd : 16 < max (cutT t).1.depth (cutT t).2.depth) :
    Calls Try.prog 18 #[v] w (Ret w (Three (IsId .zero).toPP (IsId .zero).toPP (PP.eq (.int .i64 3))).p) := by
  obtain ⟨b, p, rfl, h⟩ := h
  go_enter Try.func18, Try.ntmps18
  go_wp2_with fail
  obtain ⟨W, hW, hb, z0, gi, g1, g2⟩ := box3 w [.bool b, .pointer p] [.bool false, .pointer none] [.bool false, .pointer none] 26 26 26
  rw [hW]; clear hW
  have hx := hb; replace h := (PRep t b p).mono hb h; have s1 := hb.size
  refine (cut_c t ht _ _ (PRep.is h)).mono ?_
  rintro _ w1 ⟨cv, rfl, c, hb⟩
  replace hx := Ext.trans hx hb; replace gi := gi.ext hb; replace g1 := g1.ext hb; replace g2 := g2.ext hb; replace h := (PRep t b p).mono hb h; have s2 := hb.size
  obtain ⟨cav, cbv, rfl, ca, cb⟩ := c
  obtain ⟨ab, ap, rfl, ar⟩ := ca
  obtain ⟨bb, bp, rfl, br⟩ := cb
  have gi_0 := gi.c 0 rfl; have gif0 := gi.f 0; have gi_1 := gi.c 1 rfl; have gif1 := gi.f 1; have gil := gi.lt; have g1_0 := g1.c 0 rfl; have g1f0 := g1.f 0; have g1_1 := g1.c 1 rfl; have g1f1 := g1.f 1; have g1l := g1.lt; have g2_0 := g2.c 0 rfl; have g2f0 := g2.f 0; have g2_1 := g2.c 1 rfl; have g2f1 := g2.f 1; have g2l := g2.lt
  go_wp2_with fail
  clear gi_0 gif0 gi_1 gif1 gil g1_0 g1f0 g1_1 g1f1 g1l g2_0 g2f0 g2_1 g2f1 g2l
  have gilt3 := gi.lt
  have g1lt3 := g1.lt
  have g2lt3 := g2.lt
  obtain ⟨w2, hW, hb, z3, ga, gb⟩ := box2 w1 [.bool ab, .pointer ap] [.bool bb, .pointer bp] 26 26
  rw [hW]; clear hW
  replace hx := Ext.trans hx hb; replace gi := gi.ext hb; replace g1 := g1.ext hb; replace g2 := g2.ext hb; replace h := (PRep t b p).mono hb h; replace ar := (PRep (cutT t).1 ab ap).mono hb ar; replace br := (PRep (cutT t).2 bb bp).mono hb br; have s4 := hb.size
  have hif : (if (cutT t).1.depth < (cutT t).2.depth then ((cutT t).2.depth : Int) else ((cutT t).1.depth : Int)) = ((max (cutT t).1.depth (cutT t).2.depth : Nat) : Int) := by split <;> omega
  have Hif := Lib.hid hif; clear hif
  have HD : Hid (decide ((16 : Int) < ((max (cutT t).1.depth (cutT t).2.depth : Nat) : Int)) = true) := by unfold Hid; simp; omega
  have gilt5 := gi.lt
  have g1lt5 := g1.lt
  have g2lt5 := g2.lt
  have galt5 := ga.lt
  have gblt5 := gb.lt
  refine wp_facts 6 [] [(IsId (cutT t).1).toPP, PP.eq (.int .i64 ((cutT t).1.depth : Nat)), (IsId (cutT t).2).toPP, PP.eq (.int .i64 ((cutT t).2.depth : Nat)), PP.eq (.int .i64 ((max (cutT t).1.depth (cutT t).2.depth : Nat) : Int)), PP.eq (.bool true)] (by kernel_rfl) (by kernel_rfl) ⟨?o0, ?o1, ?o2, ?o3, ?o4, ?o5, trivial⟩ ?rest
  case o0 =>
    intro x0 x1 x2 x3 x4 x5 w' hE
    rintro R hR
    have qga0 := (ga.ext hE).c 0 rfl
    have qga1 := (ga.ext hE).c 1 rfl
    simp only [putAll, List.take, List.drop, List.map, Act.put, List.setIfInBounds_toArray, List.set_cons_zero, List.set_cons_succ]
    go_simp
    exact hR _ _ (Ext.refl _) (⟨_, _, rfl, ar.ext hE⟩) trivial
  case o1 =>
    intro x0 x1 x2 x3 x4 x5 w' hE
    rintro d0 R hR
    simp only [putAll, List.take, List.drop, List.map, Act.put, List.setIfInBounds_toArray, List.set_cons_zero, List.set_cons_succ]
    go_simp
    refine (depth_c d0).mono ?_
    rintro _ w'' ⟨v, rfl, hv, hb⟩
    exact hR _ _ hb hv trivial
  case o2 =>
    intro x0 x1 x2 x3 x4 x5 w' hE
    rintro R hR
    have qgb0 := (gb.ext hE).c 0 rfl
    have qgb1 := (gb.ext hE).c 1 rfl
    simp only [putAll, List.take, List.drop, List.map, Act.put, List.setIfInBounds_toArray, List.set_cons_zero, List.set_cons_succ]
    go_simp
    exact hR _ _ (Ext.refl _) (⟨_, _, rfl, br.ext hE⟩) trivial
  case o3 =>
    intro x0 x1 x2 x3 x4 x5 w' hE
    rintro d2 rfl R hR
    simp only [putAll, List.take, List.drop, List.map, Act.put, List.setIfInBounds_toArray, List.set_cons_zero, List.set_cons_succ]
    go_simp
    refine (depth_c d2).mono ?_
    rintro _ w'' ⟨v, rfl, hv, hb⟩
    exact hR _ _ hb hv trivial
  case o4 =>
    intro x0 x1 x2 x3 x4 x5 w' hE
    rintro rfl rfl R hR
    simp only [putAll, List.take, List.drop, List.map, Act.put, List.setIfInBounds_toArray, List.set_cons_zero, List.set_cons_succ]
    go_simp
    rw [Hif.out]
    exact hR _ _ (Ext.refl _) (rfl) trivial
  case o5 =>
    intro x0 x1 x2 x3 x4 x5 w' hE
    rintro rfl R hR
    simp only [putAll, List.take, List.drop, List.map, Act.put, List.setIfInBounds_toArray, List.set_cons_zero, List.set_cons_succ]
    go_simp
    rw [HD.out]
    exact hR _ _ (Ext.refl _) (rfl) trivial
  case rest =>
    intro x0 x1 x2 x3 x4 x5 w3 hb
    rintro _ rfl _ rfl rfl rfl hap
    replace hx := Ext.trans hx hb; replace gi := gi.ext hb; replace g1 := g1.ext hb; replace g2 := g2.ext hb; replace ga := ga.ext hb; replace gb := gb.ext hb; replace h := (PRep t b p).mono hb h; replace ar := (PRep (cutT t).1 ab ap).mono hb ar; replace br := (PRep (cutT t).2 bb bp).mono hb br; have s6 := hb.size
    clear hap
    simp only [putAll, List.take, List.drop, List.map, Act.put, List.setIfInBounds_toArray, List.set_cons_zero, List.set_cons_succ]
    have gi_0 := gi.c 0 rfl; have gif0 := gi.f 0; have gi_1 := gi.c 1 rfl; have gif1 := gi.f 1; have gil := gi.lt; have g1_0 := g1.c 0 rfl; have g1f0 := g1.f 0; have g1_1 := g1.c 1 rfl; have g1f1 := g1.f 1; have g1l := g1.lt; have g2_0 := g2.c 0 rfl; have g2f0 := g2.f 0; have g2_1 := g2.c 1 rfl; have g2f1 := g2.f 1; have g2l := g2.lt; have ga_0 := ga.c 0 rfl; have gaf0 := ga.f 0; have ga_1 := ga.c 1 rfl; have gaf1 := ga.f 1; have gal := ga.lt; have gb_0 := gb.c 0 rfl; have gbf0 := gb.f 0; have gb_1 := gb.c 1 rfl; have gbf1 := gb.f 1; have gbl := gb.lt
    go_wp2_with fail
    clear gi_0 gif0 gi_1 gif1 gil g1_0 g1f0 g1_1 g1f1 g1l g2_0 g2f0 g2_1 g2f1 g2l ga_0 gaf0 ga_1 gaf1 gal gb_0 gbf0 gb_1 gbf1 gbl
    refine (zero_c).mono ?_
    rintro _ w5 ⟨zav, rfl, za, hb⟩
    replace hx := Ext.trans hx hb; replace gi := gi.ext hb; replace g1 := g1.ext hb; replace g2 := g2.ext hb; replace ga := ga.ext hb; replace gb := gb.ext hb; replace h := (PRep t b p).mono hb h; replace ar := (PRep (cutT t).1 ab ap).mono hb ar; replace br := (PRep (cutT t).2 bb bp).mono hb br; have s7 := hb.size
    have gi_0 := gi.c 0 rfl; have gif0 := gi.f 0; have gi_1 := gi.c 1 rfl; have gif1 := gi.f 1; have gil := gi.lt; have g1_0 := g1.c 0 rfl; have g1f0 := g1.f 0; have g1_1 := g1.c 1 rfl; have g1f1 := g1.f 1; have g1l := g1.lt; have g2_0 := g2.c 0 rfl; have g2f0 := g2.f 0; have g2_1 := g2.c 1 rfl; have g2f1 := g2.f 1; have g2l := g2.lt; have ga_0 := ga.c 0 rfl; have gaf0 := ga.f 0; have ga_1 := ga.c 1 rfl; have gaf1 := ga.f 1; have gal := ga.lt; have gb_0 := gb.c 0 rfl; have gbf0 := gb.f 0; have gb_1 := gb.c 1 rfl; have gbf1 := gb.f 1; have gbl := gb.lt
    go_wp2_with fail
    clear gi_0 gif0 gi_1 gif1 gil g1_0 g1f0 g1_1 g1f1 g1l g2_0 g2f0 g2_1 g2f1 g2l ga_0 gaf0 ga_1 gaf1 gal gb_0 gbf0 gb_1 gbf1 gbl
    refine (zero_c).mono ?_
    rintro _ w6 ⟨zbv, rfl, zb, hb⟩
    replace hx := Ext.trans hx hb; replace gi := gi.ext hb; replace g1 := g1.ext hb; replace g2 := g2.ext hb; replace ga := ga.ext hb; replace gb := gb.ext hb; replace h := (PRep t b p).mono hb h; replace ar := (PRep (cutT t).1 ab ap).mono hb ar; replace br := (PRep (cutT t).2 bb bp).mono hb br; replace za := (IsId .zero).mono hb za; have s8 := hb.size
    obtain ⟨yb, yp, rfl, yr⟩ := za
    obtain ⟨zb2, zp, rfl, zr⟩ := zb
    have gi_0 := gi.c 0 rfl; have gif0 := gi.f 0; have gi_1 := gi.c 1 rfl; have gif1 := gi.f 1; have gil := gi.lt; have g1_0 := g1.c 0 rfl; have g1f0 := g1.f 0; have g1_1 := g1.c 1 rfl; have g1f1 := g1.f 1; have g1l := g1.lt; have g2_0 := g2.c 0 rfl; have g2f0 := g2.f 0; have g2_1 := g2.c 1 rfl; have g2f1 := g2.f 1; have g2l := g2.lt; have ga_0 := ga.c 0 rfl; have gaf0 := ga.f 0; have ga_1 := ga.c 1 rfl; have gaf1 := ga.f 1; have gal := ga.lt; have gb_0 := gb.c 0 rfl; have gbf0 := gb.f 0; have gb_1 := gb.c 1 rfl; have gbf1 := gb.f 1; have gbl := gb.lt
    go_wp2_with fail
    clear gi_0 gif0 gi_1 gif1 gil g1_0 g1f0 g1_1 g1f1 g1l g2_0 g2f0 g2_1 g2f1 g2l ga_0 gaf0 ga_1 gaf1 gal gb_0 gbf0 gb_1 gbf1 gbl
    obtain ⟨y1, hW, st⟩ := ex2 g1 (.bool yb) (.pointer yp)
    rw [hW]; clear hW
    replace hx : Ext w y1 := st.below hx (by omega); replace gi := st.keep gi (by omega); replace g2 := st.keep g2 (by omega); replace ga := st.keep ga (by omega); replace gb := st.keep gb (by omega); replace g1 := st.blk; replace h := (PRep t b p).imm (st.imm TS (by decide)) h; replace ar := (PRep (cutT t).1 ab ap).imm (st.imm TS (by decide)) ar; replace br := (PRep (cutT t).2 bb bp).imm (st.imm TS (by decide)) br; replace yr := (PRep .zero yb yp).imm (st.imm TS (by decide)) yr; replace zr := (PRep .zero zb2 zp).imm (st.imm TS (by decide)) zr; have s9 := st.size
    obtain ⟨y2, hW, st⟩ := ex2 g2 (.bool zb2) (.pointer zp)
    rw [hW]; clear hW
    replace hx : Ext w y2 := st.below hx (by omega); replace gi := st.keep gi (by omega); replace g1 := st.keep g1 (by omega); replace ga := st.keep ga (by omega); replace gb := st.keep gb (by omega); replace g2 := st.blk; replace h := (PRep t b p).imm (st.imm TS (by decide)) h; replace ar := (PRep (cutT t).1 ab ap).imm (st.imm TS (by decide)) ar; replace br := (PRep (cutT t).2 bb bp).imm (st.imm TS (by decide)) br; replace yr := (PRep .zero yb yp).imm (st.imm TS (by decide)) yr; replace zr := (PRep .zero zb2 zp).imm (st.imm TS (by decide)) zr; have s10 := st.size
    have e0 := g1.c 0 rfl; have e1 := g1.c 1 rfl; have e2 := g2.c 0 rfl; have e3 := g2.c 1 rfl
    exact ret_of (.tuple #[idv yb yp, idv zb2 zp, .int .i64 3]) (by simp [results, Try.results18, go_sem, e0, e1, e2, e3]) rfl ⟨_, _, _, rfl, PRep.is yr, PRep.is zr, rfl⟩ hx

end Go.Proofs.Ytkfncjaomgcdgaa

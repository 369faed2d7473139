/- The document's Split. -/
import Derived.Test.YtkfncjaomgcdgaaW13
set_option linter.all false
namespace Go.Proofs.Ytkfncjaomgcdgaa
open Go.RowKit Go.Facts

set_option maxRecDepth 100000 in
set_option maxHeartbeats 400000 in
theorem rsplit_zero {v : Value} {w : World} (h : (IsRef .zero).p v w) :
    Calls Try.prog 19 #[v] w (Ret w (Two (IsRef .zero).toPP (IsRef .zero).toPP).p) := by
  obtain ⟨p, rfl, k, rfl, g⟩ := h
  go_enter Try.func19, Try.ntmps19
  have g_0 := g.c 0 rfl; have gf0 := g.f 0; have g_1 := g.c 1 rfl; have gf1 := g.f 1; have g_2 := g.c 2 rfl; have gf2 := g.f 2; have gl := g.lt
  go_wp2_with fail
  clear g_0 gf0 g_1 gf1 g_2 gf2 gl
  refine (rzero_c).mono ?_
  rintro _ w1 ⟨av, rfl, a, hb⟩
  have hx := hb; replace g := g.ext hb; have s0 := hb.size
  have g_0 := g.c 0 rfl; have gf0 := g.f 0; have g_1 := g.c 1 rfl; have gf1 := g.f 1; have g_2 := g.c 2 rfl; have gf2 := g.f 2; have gl := g.lt
  go_wp2_with fail
  clear g_0 gf0 g_1 gf1 g_2 gf2 gl
  refine (rzero_c).mono ?_
  rintro _ w2 ⟨bv, rfl, b, hb⟩
  replace hx := Ext.trans hx hb; replace g := g.ext hb; replace a := (IsRef .zero).mono hb a; have s1 := hb.size
  have g_0 := g.c 0 rfl; have gf0 := g.f 0; have g_1 := g.c 1 rfl; have gf1 := g.f 1; have g_2 := g.c 2 rfl; have gf2 := g.f 2; have gl := g.lt
  go_wp2_with fail
  clear g_0 gf0 g_1 gf1 g_2 gf2 gl
  exact ret_of (.tuple #[av, bv]) (by simp [results, Try.results19, go_sem]) rfl ⟨_, _, rfl, a, b⟩ hx

set_option maxRecDepth 100000 in
set_option maxHeartbeats 400000 in
theorem rsplit_one {v : Value} {w : World} (h : (IsRef .one).p v w) :
    Calls Try.prog 19 #[v] w (Ret w (Two (IsRef (T.mk .one .zero)).toPP (IsRef (T.mk .zero .one)).toPP).p) := by
  obtain ⟨p, rfl, k, rfl, g⟩ := h
  go_enter Try.func19, Try.ntmps19
  have g_0 := g.c 0 rfl; have gf0 := g.f 0; have g_1 := g.c 1 rfl; have gf1 := g.f 1; have g_2 := g.c 2 rfl; have gf2 := g.f 2; have gl := g.lt
  go_wp2_with fail
  clear g_0 gf0 g_1 gf1 g_2 gf2 gl
  refine (rone_c).mono ?_
  rintro _ w1 ⟨av, rfl, a, hb⟩
  have hx := hb; replace g := g.ext hb; have s0 := hb.size
  have g_0 := g.c 0 rfl; have gf0 := g.f 0; have g_1 := g.c 1 rfl; have gf1 := g.f 1; have g_2 := g.c 2 rfl; have gf2 := g.f 2; have gl := g.lt
  go_wp2_with fail
  clear g_0 gf0 g_1 gf1 g_2 gf2 gl
  refine (rzero_c).mono ?_
  rintro _ w2 ⟨bv, rfl, b, hb⟩
  replace hx := Ext.trans hx hb; replace g := g.ext hb; replace a := (IsRef .one).mono hb a; have s1 := hb.size
  have g_0 := g.c 0 rfl; have gf0 := g.f 0; have g_1 := g.c 1 rfl; have gf1 := g.f 1; have g_2 := g.c 2 rfl; have gf2 := g.f 2; have gl := g.lt
  go_wp2_with fail
  clear g_0 gf0 g_1 gf1 g_2 gf2 gl
  refine (rpair_c a b).mono ?_
  rintro _ w3 ⟨cv, rfl, c, hb⟩
  replace hx := Ext.trans hx hb; replace g := g.ext hb; replace a := (IsRef .one).mono hb a; replace b := (IsRef .zero).mono hb b; have s2 := hb.size
  have g_0 := g.c 0 rfl; have gf0 := g.f 0; have g_1 := g.c 1 rfl; have gf1 := g.f 1; have g_2 := g.c 2 rfl; have gf2 := g.f 2; have gl := g.lt
  go_wp2_with fail
  clear g_0 gf0 g_1 gf1 g_2 gf2 gl
  refine (rzero_c).mono ?_
  rintro _ w4 ⟨dv, rfl, d, hb⟩
  replace hx := Ext.trans hx hb; replace g := g.ext hb; replace a := (IsRef .one).mono hb a; replace b := (IsRef .zero).mono hb b; replace c := (IsRef (T.mk .one .zero)).mono hb c; have s3 := hb.size
  have g_0 := g.c 0 rfl; have gf0 := g.f 0; have g_1 := g.c 1 rfl; have gf1 := g.f 1; have g_2 := g.c 2 rfl; have gf2 := g.f 2; have gl := g.lt
  go_wp2_with fail
  clear g_0 gf0 g_1 gf1 g_2 gf2 gl
  refine (rone_c).mono ?_
  rintro _ w5 ⟨ev, rfl, e, hb⟩
  replace hx := Ext.trans hx hb; replace g := g.ext hb; replace a := (IsRef .one).mono hb a; replace b := (IsRef .zero).mono hb b; replace c := (IsRef (T.mk .one .zero)).mono hb c; replace d := (IsRef .zero).mono hb d; have s4 := hb.size
  have g_0 := g.c 0 rfl; have gf0 := g.f 0; have g_1 := g.c 1 rfl; have gf1 := g.f 1; have g_2 := g.c 2 rfl; have gf2 := g.f 2; have gl := g.lt
  go_wp2_with fail
  clear g_0 gf0 g_1 gf1 g_2 gf2 gl
  refine (rpair_c d e).mono ?_
  rintro _ w6 ⟨jv, rfl, j, hb⟩
  replace hx := Ext.trans hx hb; replace g := g.ext hb; replace a := (IsRef .one).mono hb a; replace b := (IsRef .zero).mono hb b; replace c := (IsRef (T.mk .one .zero)).mono hb c; replace d := (IsRef .zero).mono hb d; replace e := (IsRef .one).mono hb e; have s5 := hb.size
  have g_0 := g.c 0 rfl; have gf0 := g.f 0; have g_1 := g.c 1 rfl; have gf1 := g.f 1; have g_2 := g.c 2 rfl; have gf2 := g.f 2; have gl := g.lt
  go_wp2_with fail
  clear g_0 gf0 g_1 gf1 g_2 gf2 gl
  exact ret_of (.tuple #[cv, jv]) (by simp [results, Try.results19, go_sem]) rfl ⟨_, _, rfl, c, j⟩ hx

set_option maxRecDepth 100000 in
set_option maxHeartbeats 1000000 in
theorem rsplit_l {l r : T} {v : Value} {w : World} (h : (IsRef (.node l r)).p v w) (hz : (((kN l : Nat) : Int) == 0) = true) (ih : ∀ (v : Value) (w : World), (IsRef r).p v w → Calls Try.prog 19 #[v] w (Ret w (Two (IsRef (cutT r).1).toPP (IsRef (cutT r).2).toPP).p)) :
    Calls Try.prog 19 #[v] w (Ret w (Two (IsRef (T.mk .zero (cutT r).1)).toPP (IsRef (T.mk .zero (cutT r).2)).toPP).p) := by
  have IH := Lib.hid ih; clear ih
  obtain ⟨p, rfl, k, pl, pr, rfl, gk, hl, hr⟩ := h
  have hLL : (IsRef l).p (.pointer pl) w := ⟨_, rfl, hl⟩
  have hRR : (IsRef r).p (.pointer pr) w := ⟨_, rfl, hr⟩
  obtain ⟨kl, ll, lr, rfl, gl⟩ := hl.blk
  obtain ⟨kr, rl, rr, rfl, gr⟩ := hr.blk
  clear hl hr
  go_enter Try.func19, Try.ntmps19
  have gk_0 := gk.c 0 rfl; have gkf0 := gk.f 0; have gk_1 := gk.c 1 rfl; have gkf1 := gk.f 1; have gk_2 := gk.c 2 rfl; have gkf2 := gk.f 2; have gkl := gk.lt; have gl_0 := gl.c 0 rfl; have glf0 := gl.f 0; have gl_1 := gl.c 1 rfl; have glf1 := gl.f 1; have gl_2 := gl.c 2 rfl; have glf2 := gl.f 2; have gll := gl.lt; have gr_0 := gr.c 0 rfl; have grf0 := gr.f 0; have gr_1 := gr.c 1 rfl; have grf1 := gr.f 1; have gr_2 := gr.c 2 rfl; have grf2 := gr.f 2; have grl := gr.lt
  go_wp2_with fail
  clear gk_0 gkf0 gk_1 gkf1 gk_2 gkf2 gkl gl_0 glf0 gl_1 glf1 gl_2 glf2 gll gr_0 grf0 gr_1 grf1 gr_2 grf2 grl
  refine (IH.out _ _ hRR).mono ?_
  rintro _ w1 ⟨av, rfl, a, hb⟩
  have hx := hb; replace gk := gk.ext hb; replace gl := gl.ext hb; replace gr := gr.ext hb; replace hLL := (IsRef l).mono hb hLL; replace hRR := (IsRef r).mono hb hRR; have s0 := hb.size
  obtain ⟨bv, cv, rfl, b, c⟩ := a
  have gk_0 := gk.c 0 rfl; have gkf0 := gk.f 0; have gk_1 := gk.c 1 rfl; have gkf1 := gk.f 1; have gk_2 := gk.c 2 rfl; have gkf2 := gk.f 2; have gkl := gk.lt; have gl_0 := gl.c 0 rfl; have glf0 := gl.f 0; have gl_1 := gl.c 1 rfl; have glf1 := gl.f 1; have gl_2 := gl.c 2 rfl; have glf2 := gl.f 2; have gll := gl.lt; have gr_0 := gr.c 0 rfl; have grf0 := gr.f 0; have gr_1 := gr.c 1 rfl; have grf1 := gr.f 1; have gr_2 := gr.c 2 rfl; have grf2 := gr.f 2; have grl := gr.lt
  go_wp2_with fail
  clear gk_0 gkf0 gk_1 gkf1 gk_2 gkf2 gkl gl_0 glf0 gl_1 glf1 gl_2 glf2 gll gr_0 grf0 gr_1 grf1 gr_2 grf2 grl
  refine (rzero_c).mono ?_
  rintro _ w2 ⟨z1v, rfl, z1, hb⟩
  replace hx := Ext.trans hx hb; replace gk := gk.ext hb; replace gl := gl.ext hb; replace gr := gr.ext hb; replace hLL := (IsRef l).mono hb hLL; replace hRR := (IsRef r).mono hb hRR; replace b := (IsRef (cutT r).1).mono hb b; replace c := (IsRef (cutT r).2).mono hb c; have s1 := hb.size
  have gk_0 := gk.c 0 rfl; have gkf0 := gk.f 0; have gk_1 := gk.c 1 rfl; have gkf1 := gk.f 1; have gk_2 := gk.c 2 rfl; have gkf2 := gk.f 2; have gkl := gk.lt; have gl_0 := gl.c 0 rfl; have glf0 := gl.f 0; have gl_1 := gl.c 1 rfl; have glf1 := gl.f 1; have gl_2 := gl.c 2 rfl; have glf2 := gl.f 2; have gll := gl.lt; have gr_0 := gr.c 0 rfl; have grf0 := gr.f 0; have gr_1 := gr.c 1 rfl; have grf1 := gr.f 1; have gr_2 := gr.c 2 rfl; have grf2 := gr.f 2; have grl := gr.lt
  go_wp2_with fail
  clear gk_0 gkf0 gk_1 gkf1 gk_2 gkf2 gkl gl_0 glf0 gl_1 glf1 gl_2 glf2 gll gr_0 grf0 gr_1 grf1 gr_2 grf2 grl
  refine (rpair_c z1 b).mono ?_
  rintro _ w3 ⟨dv, rfl, d, hb⟩
  replace hx := Ext.trans hx hb; replace gk := gk.ext hb; replace gl := gl.ext hb; replace gr := gr.ext hb; replace hLL := (IsRef l).mono hb hLL; replace hRR := (IsRef r).mono hb hRR; replace b := (IsRef (cutT r).1).mono hb b; replace c := (IsRef (cutT r).2).mono hb c; replace z1 := (IsRef .zero).mono hb z1; have s2 := hb.size
  have gk_0 := gk.c 0 rfl; have gkf0 := gk.f 0; have gk_1 := gk.c 1 rfl; have gkf1 := gk.f 1; have gk_2 := gk.c 2 rfl; have gkf2 := gk.f 2; have gkl := gk.lt; have gl_0 := gl.c 0 rfl; have glf0 := gl.f 0; have gl_1 := gl.c 1 rfl; have glf1 := gl.f 1; have gl_2 := gl.c 2 rfl; have glf2 := gl.f 2; have gll := gl.lt; have gr_0 := gr.c 0 rfl; have grf0 := gr.f 0; have gr_1 := gr.c 1 rfl; have grf1 := gr.f 1; have gr_2 := gr.c 2 rfl; have grf2 := gr.f 2; have grl := gr.lt
  go_wp2_with fail
  clear gk_0 gkf0 gk_1 gkf1 gk_2 gkf2 gkl gl_0 glf0 gl_1 glf1 gl_2 glf2 gll gr_0 grf0 gr_1 grf1 gr_2 grf2 grl
  refine (rzero_c).mono ?_
  rintro _ w4 ⟨z2v, rfl, z2, hb⟩
  replace hx := Ext.trans hx hb; replace gk := gk.ext hb; replace gl := gl.ext hb; replace gr := gr.ext hb; replace hLL := (IsRef l).mono hb hLL; replace hRR := (IsRef r).mono hb hRR; replace b := (IsRef (cutT r).1).mono hb b; replace c := (IsRef (cutT r).2).mono hb c; replace z1 := (IsRef .zero).mono hb z1; replace d := (IsRef (T.mk .zero (cutT r).1)).mono hb d; have s3 := hb.size
  have gk_0 := gk.c 0 rfl; have gkf0 := gk.f 0; have gk_1 := gk.c 1 rfl; have gkf1 := gk.f 1; have gk_2 := gk.c 2 rfl; have gkf2 := gk.f 2; have gkl := gk.lt; have gl_0 := gl.c 0 rfl; have glf0 := gl.f 0; have gl_1 := gl.c 1 rfl; have glf1 := gl.f 1; have gl_2 := gl.c 2 rfl; have glf2 := gl.f 2; have gll := gl.lt; have gr_0 := gr.c 0 rfl; have grf0 := gr.f 0; have gr_1 := gr.c 1 rfl; have grf1 := gr.f 1; have gr_2 := gr.c 2 rfl; have grf2 := gr.f 2; have grl := gr.lt
  go_wp2_with fail
  clear gk_0 gkf0 gk_1 gkf1 gk_2 gkf2 gkl gl_0 glf0 gl_1 glf1 gl_2 glf2 gll gr_0 grf0 gr_1 grf1 gr_2 grf2 grl
  refine (rpair_c z2 c).mono ?_
  rintro _ w5 ⟨ev, rfl, e, hb⟩
  replace hx := Ext.trans hx hb; replace gk := gk.ext hb; replace gl := gl.ext hb; replace gr := gr.ext hb; replace hLL := (IsRef l).mono hb hLL; replace hRR := (IsRef r).mono hb hRR; replace b := (IsRef (cutT r).1).mono hb b; replace c := (IsRef (cutT r).2).mono hb c; replace z1 := (IsRef .zero).mono hb z1; replace d := (IsRef (T.mk .zero (cutT r).1)).mono hb d; replace z2 := (IsRef .zero).mono hb z2; have s4 := hb.size
  have gk_0 := gk.c 0 rfl; have gkf0 := gk.f 0; have gk_1 := gk.c 1 rfl; have gkf1 := gk.f 1; have gk_2 := gk.c 2 rfl; have gkf2 := gk.f 2; have gkl := gk.lt; have gl_0 := gl.c 0 rfl; have glf0 := gl.f 0; have gl_1 := gl.c 1 rfl; have glf1 := gl.f 1; have gl_2 := gl.c 2 rfl; have glf2 := gl.f 2; have gll := gl.lt; have gr_0 := gr.c 0 rfl; have grf0 := gr.f 0; have gr_1 := gr.c 1 rfl; have grf1 := gr.f 1; have gr_2 := gr.c 2 rfl; have grf2 := gr.f 2; have grl := gr.lt
  go_wp2_with fail
  clear gk_0 gkf0 gk_1 gkf1 gk_2 gkf2 gkl gl_0 glf0 gl_1 glf1 gl_2 glf2 gll gr_0 grf0 gr_1 grf1 gr_2 grf2 grl
  exact ret_of (.tuple #[dv, ev]) (by simp [results, Try.results19, go_sem]) rfl ⟨_, _, rfl, d, e⟩ hx

set_option maxRecDepth 100000 in
set_option maxHeartbeats 1000000 in
theorem rsplit_r {l r : T} {v : Value} {w : World} (h : (IsRef (.node l r)).p v w) (hz : (((kN l : Nat) : Int) == 0) = false) (hz2 : (((kN r : Nat) : Int) == 0) = true) (ih : ∀ (v : Value) (w : World), (IsRef l).p v w → Calls Try.prog 19 #[v] w (Ret w (Two (IsRef (cutT l).1).toPP (IsRef (cutT l).2).toPP).p)) :
    Calls Try.prog 19 #[v] w (Ret w (Two (IsRef (T.mk (cutT l).1 .zero)).toPP (IsRef (T.mk (cutT l).2 .zero)).toPP).p) := by
  have IH := Lib.hid ih; clear ih
  obtain ⟨p, rfl, k, pl, pr, rfl, gk, hl, hr⟩ := h
  have hLL : (IsRef l).p (.pointer pl) w := ⟨_, rfl, hl⟩
  have hRR : (IsRef r).p (.pointer pr) w := ⟨_, rfl, hr⟩
  obtain ⟨kl, ll, lr, rfl, gl⟩ := hl.blk
  obtain ⟨kr, rl, rr, rfl, gr⟩ := hr.blk
  clear hl hr
  go_enter Try.func19, Try.ntmps19
  have gk_0 := gk.c 0 rfl; have gkf0 := gk.f 0; have gk_1 := gk.c 1 rfl; have gkf1 := gk.f 1; have gk_2 := gk.c 2 rfl; have gkf2 := gk.f 2; have gkl := gk.lt; have gl_0 := gl.c 0 rfl; have glf0 := gl.f 0; have gl_1 := gl.c 1 rfl; have glf1 := gl.f 1; have gl_2 := gl.c 2 rfl; have glf2 := gl.f 2; have gll := gl.lt; have gr_0 := gr.c 0 rfl; have grf0 := gr.f 0; have gr_1 := gr.c 1 rfl; have grf1 := gr.f 1; have gr_2 := gr.c 2 rfl; have grf2 := gr.f 2; have grl := gr.lt
  go_wp2_with fail
  clear gk_0 gkf0 gk_1 gkf1 gk_2 gkf2 gkl gl_0 glf0 gl_1 glf1 gl_2 glf2 gll gr_0 grf0 gr_1 grf1 gr_2 grf2 grl
  refine (IH.out _ _ hLL).mono ?_
  rintro _ w1 ⟨av, rfl, a, hb⟩
  have hx := hb; replace gk := gk.ext hb; replace gl := gl.ext hb; replace gr := gr.ext hb; replace hLL := (IsRef l).mono hb hLL; replace hRR := (IsRef r).mono hb hRR; have s0 := hb.size
  obtain ⟨bv, cv, rfl, b, c⟩ := a
  have gk_0 := gk.c 0 rfl; have gkf0 := gk.f 0; have gk_1 := gk.c 1 rfl; have gkf1 := gk.f 1; have gk_2 := gk.c 2 rfl; have gkf2 := gk.f 2; have gkl := gk.lt; have gl_0 := gl.c 0 rfl; have glf0 := gl.f 0; have gl_1 := gl.c 1 rfl; have glf1 := gl.f 1; have gl_2 := gl.c 2 rfl; have glf2 := gl.f 2; have gll := gl.lt; have gr_0 := gr.c 0 rfl; have grf0 := gr.f 0; have gr_1 := gr.c 1 rfl; have grf1 := gr.f 1; have gr_2 := gr.c 2 rfl; have grf2 := gr.f 2; have grl := gr.lt
  go_wp2_with fail
  clear gk_0 gkf0 gk_1 gkf1 gk_2 gkf2 gkl gl_0 glf0 gl_1 glf1 gl_2 glf2 gll gr_0 grf0 gr_1 grf1 gr_2 grf2 grl
  refine (rzero_c).mono ?_
  rintro _ w2 ⟨z1v, rfl, z1, hb⟩
  replace hx := Ext.trans hx hb; replace gk := gk.ext hb; replace gl := gl.ext hb; replace gr := gr.ext hb; replace hLL := (IsRef l).mono hb hLL; replace hRR := (IsRef r).mono hb hRR; replace b := (IsRef (cutT l).1).mono hb b; replace c := (IsRef (cutT l).2).mono hb c; have s1 := hb.size
  have gk_0 := gk.c 0 rfl; have gkf0 := gk.f 0; have gk_1 := gk.c 1 rfl; have gkf1 := gk.f 1; have gk_2 := gk.c 2 rfl; have gkf2 := gk.f 2; have gkl := gk.lt; have gl_0 := gl.c 0 rfl; have glf0 := gl.f 0; have gl_1 := gl.c 1 rfl; have glf1 := gl.f 1; have gl_2 := gl.c 2 rfl; have glf2 := gl.f 2; have gll := gl.lt; have gr_0 := gr.c 0 rfl; have grf0 := gr.f 0; have gr_1 := gr.c 1 rfl; have grf1 := gr.f 1; have gr_2 := gr.c 2 rfl; have grf2 := gr.f 2; have grl := gr.lt
  go_wp2_with fail
  clear gk_0 gkf0 gk_1 gkf1 gk_2 gkf2 gkl gl_0 glf0 gl_1 glf1 gl_2 glf2 gll gr_0 grf0 gr_1 grf1 gr_2 grf2 grl
  refine (rpair_c b z1).mono ?_
  rintro _ w3 ⟨dv, rfl, d, hb⟩
  replace hx := Ext.trans hx hb; replace gk := gk.ext hb; replace gl := gl.ext hb; replace gr := gr.ext hb; replace hLL := (IsRef l).mono hb hLL; replace hRR := (IsRef r).mono hb hRR; replace b := (IsRef (cutT l).1).mono hb b; replace c := (IsRef (cutT l).2).mono hb c; replace z1 := (IsRef .zero).mono hb z1; have s2 := hb.size
  have gk_0 := gk.c 0 rfl; have gkf0 := gk.f 0; have gk_1 := gk.c 1 rfl; have gkf1 := gk.f 1; have gk_2 := gk.c 2 rfl; have gkf2 := gk.f 2; have gkl := gk.lt; have gl_0 := gl.c 0 rfl; have glf0 := gl.f 0; have gl_1 := gl.c 1 rfl; have glf1 := gl.f 1; have gl_2 := gl.c 2 rfl; have glf2 := gl.f 2; have gll := gl.lt; have gr_0 := gr.c 0 rfl; have grf0 := gr.f 0; have gr_1 := gr.c 1 rfl; have grf1 := gr.f 1; have gr_2 := gr.c 2 rfl; have grf2 := gr.f 2; have grl := gr.lt
  go_wp2_with fail
  clear gk_0 gkf0 gk_1 gkf1 gk_2 gkf2 gkl gl_0 glf0 gl_1 glf1 gl_2 glf2 gll gr_0 grf0 gr_1 grf1 gr_2 grf2 grl
  refine (rzero_c).mono ?_
  rintro _ w4 ⟨z2v, rfl, z2, hb⟩
  replace hx := Ext.trans hx hb; replace gk := gk.ext hb; replace gl := gl.ext hb; replace gr := gr.ext hb; replace hLL := (IsRef l).mono hb hLL; replace hRR := (IsRef r).mono hb hRR; replace b := (IsRef (cutT l).1).mono hb b; replace c := (IsRef (cutT l).2).mono hb c; replace z1 := (IsRef .zero).mono hb z1; replace d := (IsRef (T.mk (cutT l).1 .zero)).mono hb d; have s3 := hb.size
  have gk_0 := gk.c 0 rfl; have gkf0 := gk.f 0; have gk_1 := gk.c 1 rfl; have gkf1 := gk.f 1; have gk_2 := gk.c 2 rfl; have gkf2 := gk.f 2; have gkl := gk.lt; have gl_0 := gl.c 0 rfl; have glf0 := gl.f 0; have gl_1 := gl.c 1 rfl; have glf1 := gl.f 1; have gl_2 := gl.c 2 rfl; have glf2 := gl.f 2; have gll := gl.lt; have gr_0 := gr.c 0 rfl; have grf0 := gr.f 0; have gr_1 := gr.c 1 rfl; have grf1 := gr.f 1; have gr_2 := gr.c 2 rfl; have grf2 := gr.f 2; have grl := gr.lt
  go_wp2_with fail
  clear gk_0 gkf0 gk_1 gkf1 gk_2 gkf2 gkl gl_0 glf0 gl_1 glf1 gl_2 glf2 gll gr_0 grf0 gr_1 grf1 gr_2 grf2 grl
  refine (rpair_c c z2).mono ?_
  rintro _ w5 ⟨ev, rfl, e, hb⟩
  replace hx := Ext.trans hx hb; replace gk := gk.ext hb; replace gl := gl.ext hb; replace gr := gr.ext hb; replace hLL := (IsRef l).mono hb hLL; replace hRR := (IsRef r).mono hb hRR; replace b := (IsRef (cutT l).1).mono hb b; replace c := (IsRef (cutT l).2).mono hb c; replace z1 := (IsRef .zero).mono hb z1; replace d := (IsRef (T.mk (cutT l).1 .zero)).mono hb d; replace z2 := (IsRef .zero).mono hb z2; have s4 := hb.size
  have gk_0 := gk.c 0 rfl; have gkf0 := gk.f 0; have gk_1 := gk.c 1 rfl; have gkf1 := gk.f 1; have gk_2 := gk.c 2 rfl; have gkf2 := gk.f 2; have gkl := gk.lt; have gl_0 := gl.c 0 rfl; have glf0 := gl.f 0; have gl_1 := gl.c 1 rfl; have glf1 := gl.f 1; have gl_2 := gl.c 2 rfl; have glf2 := gl.f 2; have gll := gl.lt; have gr_0 := gr.c 0 rfl; have grf0 := gr.f 0; have gr_1 := gr.c 1 rfl; have grf1 := gr.f 1; have gr_2 := gr.c 2 rfl; have grf2 := gr.f 2; have grl := gr.lt
  go_wp2_with fail
  clear gk_0 gkf0 gk_1 gkf1 gk_2 gkf2 gkl gl_0 glf0 gl_1 glf1 gl_2 glf2 gll gr_0 grf0 gr_1 grf1 gr_2 grf2 grl
  exact ret_of (.tuple #[dv, ev]) (by simp [results, Try.results19, go_sem]) rfl ⟨_, _, rfl, d, e⟩ hx

set_option maxRecDepth 100000 in
set_option maxHeartbeats 1000000 in
theorem rsplit_n {l r : T} {v : Value} {w : World} (h : (IsRef (.node l r)).p v w) (hz : (((kN l : Nat) : Int) == 0) = false) (hz2 : (((kN r : Nat) : Int) == 0) = false) :
    Calls Try.prog 19 #[v] w (Ret w (Two (IsRef (T.mk l .zero)).toPP (IsRef (T.mk .zero r)).toPP).p) := by
  obtain ⟨p, rfl, k, pl, pr, rfl, gk, hl, hr⟩ := h
  have hLL : (IsRef l).p (.pointer pl) w := ⟨_, rfl, hl⟩
  have hRR : (IsRef r).p (.pointer pr) w := ⟨_, rfl, hr⟩
  obtain ⟨kl, ll, lr, rfl, gl⟩ := hl.blk
  obtain ⟨kr, rl, rr, rfl, gr⟩ := hr.blk
  clear hl hr
  go_enter Try.func19, Try.ntmps19
  have gk_0 := gk.c 0 rfl; have gkf0 := gk.f 0; have gk_1 := gk.c 1 rfl; have gkf1 := gk.f 1; have gk_2 := gk.c 2 rfl; have gkf2 := gk.f 2; have gkl := gk.lt; have gl_0 := gl.c 0 rfl; have glf0 := gl.f 0; have gl_1 := gl.c 1 rfl; have glf1 := gl.f 1; have gl_2 := gl.c 2 rfl; have glf2 := gl.f 2; have gll := gl.lt; have gr_0 := gr.c 0 rfl; have grf0 := gr.f 0; have gr_1 := gr.c 1 rfl; have grf1 := gr.f 1; have gr_2 := gr.c 2 rfl; have grf2 := gr.f 2; have grl := gr.lt
  go_wp2_with fail
  clear gk_0 gkf0 gk_1 gkf1 gk_2 gkf2 gkl gl_0 glf0 gl_1 glf1 gl_2 glf2 gll gr_0 grf0 gr_1 grf1 gr_2 grf2 grl
  have gklt0 := gk.lt
  have gllt0 := gl.lt
  have grlt0 := gr.lt
  refine wp_facts 12 [] [PP.eq (.pointer (some ⟨k, 0, none⟩)), PP.eq (.pointer (some ⟨k, 0, none⟩)), PP.eq (.pointer (some ⟨k, 1, none⟩)), PP.eq (.pointer (some ⟨kl, 0, none⟩)), (IsRef .zero).toPP, (IsRef (T.mk l .zero)).toPP, (IsRef .zero).toPP, PP.eq (.pointer (some ⟨k, 0, none⟩)), PP.eq (.pointer (some ⟨k, 0, none⟩)), PP.eq (.pointer (some ⟨k, 2, none⟩)), PP.eq (.pointer (some ⟨kr, 0, none⟩)), (IsRef (T.mk .zero r)).toPP] (by kernel_rfl) (by kernel_rfl) ⟨?o0, ?o1, ?o2, ?o3, ?o4, ?o5, ?o6, ?o7, ?o8, ?o9, ?o10, ?o11, trivial⟩ ?rest
  case o0 =>
    intro x0 x1 x2 x3 x4 x5 x6 x7 x8 x9 x10 x11 w' hE
    rintro R hR
    simp only [putAll, List.take, List.drop, List.map, Act.put, List.setIfInBounds_toArray, List.set_cons_zero, List.set_cons_succ]
    go_simp
    exact hR _ _ (Ext.refl _) (rfl) trivial
  case o1 =>
    intro x0 x1 x2 x3 x4 x5 x6 x7 x8 x9 x10 x11 w' hE
    rintro rfl R hR
    simp only [putAll, List.take, List.drop, List.map, Act.put, List.setIfInBounds_toArray, List.set_cons_zero, List.set_cons_succ]
    go_simp
    exact hR _ _ (Ext.refl _) (rfl) trivial
  case o2 =>
    intro x0 x1 x2 x3 x4 x5 x6 x7 x8 x9 x10 x11 w' hE
    rintro rfl R hR
    simp only [putAll, List.take, List.drop, List.map, Act.put, List.setIfInBounds_toArray, List.set_cons_zero, List.set_cons_succ]
    go_simp
    exact hR _ _ (Ext.refl _) (rfl) trivial
  case o3 =>
    intro x0 x1 x2 x3 x4 x5 x6 x7 x8 x9 x10 x11 w' hE
    rintro rfl R hR
    have qgk0 := (gk.ext hE).c 0 rfl
    have qgk1 := (gk.ext hE).c 1 rfl
    have qgk2 := (gk.ext hE).c 2 rfl
    simp only [putAll, List.take, List.drop, List.map, Act.put, List.setIfInBounds_toArray, List.set_cons_zero, List.set_cons_succ]
    go_simp
    exact hR _ _ (Ext.refl _) (rfl) trivial
  case o4 =>
    intro x0 x1 x2 x3 x4 x5 x6 x7 x8 x9 x10 x11 w' hE
    rintro R hR
    simp only [putAll, List.take, List.drop, List.map, Act.put, List.setIfInBounds_toArray, List.set_cons_zero, List.set_cons_succ]
    go_simp
    refine (rzero_c).mono ?_
    rintro _ w'' ⟨v, rfl, hv, hb⟩
    exact hR _ _ hb hv trivial
  case o5 =>
    intro x0 x1 x2 x3 x4 x5 x6 x7 x8 x9 x10 x11 w' hE
    rintro rfl d4 _ R hR
    simp only [putAll, List.take, List.drop, List.map, Act.put, List.setIfInBounds_toArray, List.set_cons_zero, List.set_cons_succ]
    go_simp
    refine (rpair_c ((IsRef l).mono hE hLL) d4).mono ?_
    rintro _ w'' ⟨v, rfl, hv, hb⟩
    exact hR _ _ hb hv trivial
  case o6 =>
    intro x0 x1 x2 x3 x4 x5 x6 x7 x8 x9 x10 x11 w' hE
    rintro d5 R hR
    simp only [putAll, List.take, List.drop, List.map, Act.put, List.setIfInBounds_toArray, List.set_cons_zero, List.set_cons_succ]
    go_simp
    refine (rzero_c).mono ?_
    rintro _ w'' ⟨v, rfl, hv, hb⟩
    exact hR _ _ hb hv trivial
  case o7 =>
    intro x0 x1 x2 x3 x4 x5 x6 x7 x8 x9 x10 x11 w' hE
    rintro R hR
    simp only [putAll, List.take, List.drop, List.map, Act.put, List.setIfInBounds_toArray, List.set_cons_zero, List.set_cons_succ]
    go_simp
    exact hR _ _ (Ext.refl _) (rfl) trivial
  case o8 =>
    intro x0 x1 x2 x3 x4 x5 x6 x7 x8 x9 x10 x11 w' hE
    rintro rfl R hR
    simp only [putAll, List.take, List.drop, List.map, Act.put, List.setIfInBounds_toArray, List.set_cons_zero, List.set_cons_succ]
    go_simp
    exact hR _ _ (Ext.refl _) (rfl) trivial
  case o9 =>
    intro x0 x1 x2 x3 x4 x5 x6 x7 x8 x9 x10 x11 w' hE
    rintro rfl R hR
    simp only [putAll, List.take, List.drop, List.map, Act.put, List.setIfInBounds_toArray, List.set_cons_zero, List.set_cons_succ]
    go_simp
    exact hR _ _ (Ext.refl _) (rfl) trivial
  case o10 =>
    intro x0 x1 x2 x3 x4 x5 x6 x7 x8 x9 x10 x11 w' hE
    rintro rfl R hR
    have qgk0 := (gk.ext hE).c 0 rfl
    have qgk1 := (gk.ext hE).c 1 rfl
    have qgk2 := (gk.ext hE).c 2 rfl
    simp only [putAll, List.take, List.drop, List.map, Act.put, List.setIfInBounds_toArray, List.set_cons_zero, List.set_cons_succ]
    go_simp
    exact hR _ _ (Ext.refl _) (rfl) trivial
  case o11 =>
    intro x0 x1 x2 x3 x4 x5 x6 x7 x8 x9 x10 x11 w' hE
    rintro d6 rfl _ R hR
    simp only [putAll, List.take, List.drop, List.map, Act.put, List.setIfInBounds_toArray, List.set_cons_zero, List.set_cons_succ]
    go_simp
    refine (rpair_c d6 ((IsRef r).mono hE hRR)).mono ?_
    rintro _ w'' ⟨v, rfl, hv, hb⟩
    exact hR _ _ hb hv trivial
  case rest =>
    intro x0 x1 x2 x3 x4 x5 x6 x7 x8 x9 x10 x11 w1 hb
    rintro rfl rfl rfl rfl _ r5 _ rfl rfl rfl rfl r11 hap
    have hx := hb; replace gk := gk.ext hb; replace gl := gl.ext hb; replace gr := gr.ext hb; replace hLL := (IsRef l).mono hb hLL; replace hRR := (IsRef r).mono hb hRR; have s1 := hb.size
    clear hap
    simp only [putAll, List.take, List.drop, List.map, Act.put, List.setIfInBounds_toArray, List.set_cons_zero, List.set_cons_succ]
    have gk_0 := gk.c 0 rfl; have gkf0 := gk.f 0; have gk_1 := gk.c 1 rfl; have gkf1 := gk.f 1; have gk_2 := gk.c 2 rfl; have gkf2 := gk.f 2; have gkl := gk.lt; have gl_0 := gl.c 0 rfl; have glf0 := gl.f 0; have gl_1 := gl.c 1 rfl; have glf1 := gl.f 1; have gl_2 := gl.c 2 rfl; have glf2 := gl.f 2; have gll := gl.lt; have gr_0 := gr.c 0 rfl; have grf0 := gr.f 0; have gr_1 := gr.c 1 rfl; have grf1 := gr.f 1; have gr_2 := gr.c 2 rfl; have grf2 := gr.f 2; have grl := gr.lt
    go_wp2_with fail
    clear gk_0 gkf0 gk_1 gkf1 gk_2 gkf2 gkl gl_0 glf0 gl_1 glf1 gl_2 glf2 gll gr_0 grf0 gr_1 grf1 gr_2 grf2 grl
    exact ret_of (.tuple #[x5, x11]) (by simp [results, Try.results19, go_sem]) rfl ⟨_, _, rfl, r5, r11⟩ hx

theorem kN_z {t : T} : (((kN t : Nat) : Int) == 0) = t.isZero := by cases t <;> rfl
theorem rsplit_c : ∀ (t : T) (v : Value) (w : World), (IsRef t).p v w → Calls Try.prog 19 #[v] w (Ret w (Two (IsRef (cutT t).1).toPP (IsRef (cutT t).2).toPP).p)
  | .zero, _, _, h => rsplit_zero h
  | .one, _, _, h => rsplit_one h
  | .node .zero r, _, _, h => rsplit_l h rfl (rsplit_c r)
  | .node .one .zero, _, _, h => rsplit_r h rfl rfl (rsplit_c .one)
  | .node (.node a b) .zero, _, _, h => rsplit_r h rfl rfl (rsplit_c (.node a b))
  | .node .one .one, _, _, h => rsplit_n h rfl rfl
  | .node .one (.node _ _), _, _, h => rsplit_n h rfl rfl
  | .node (.node _ _) .one, _, _, h => rsplit_n h rfl rfl
  | .node (.node _ _) (.node _ _), _, _, h => rsplit_n h rfl rfl
theorem disj_s {a b : T} {c : Bool} {va vb : Value} {w : World} (h : disjT a b = c) (ha : (IsId a).p va w) (hb : (IsId b).p vb w) : Calls Try.prog 21 #[va, vb] w (Ret w (PP.eq (.bool c)).p) := h ▸ disj_c a b va vb w ha hb
theorem isz_s {t : T} {c : Bool} {v : Value} {w : World} (h : t.isZero = c) (k : (IsId t).p v w) : Calls Try.prog 22 #[v] w (Ret w (PP.eq (.bool c)).p) := h ▸ isZero_c k

end Go.Proofs.Ytkfncjaomgcdgaa

/- IdSplits. -/
import Derived.Test.YtkfncjaomgcdgaaW16
import Derived.Test.YtkfncjaomgcdgaaW18
set_option linter.all false
namespace Go.Proofs.Ytkfncjaomgcdgaa
open Go.RowKit Go.Facts

set_option maxRecDepth 100000 in
set_option maxHeartbeats 4000000 in
theorem idSplits_c {l : List UInt8} {v : Value} {w : World} (h : Bsl l v w) :
    Calls Try.prog 4 #[v] w (Ret w (PP.eq (.bool true)).p) := by
  obtain ⟨a0, cap0, rfl, hh⟩ := id h
  clear hh
  go_enter Try.func4, Try.ntmps4
  go_wp2_with fail
  refine (awake_c).mono ?_
  rintro _ a1 ⟨_, rfl, rfl, hb⟩
  have hx := hb; have s0 := hb.size
  go_wp2_with fail
  refine (made_c ((BslP _).mono hx h)).mono ?_
  rintro _ mt ⟨_, rfl, ⟨t, ti, tx, rfl, tw, td, thi, thx⟩, hb⟩
  replace hx := Ext.trans hx hb; have s1 := hb.size
  obtain ⟨tb, tp, rfl, tr⟩ := thi
  obtain ⟨txp, rfl, txr⟩ := id thx
  go_wp2_with fail
  obtain ⟨bt, hW, hb, z2, gt⟩ := box1 mt [.bool tb, .pointer tp] 26
  rw [hW]; clear hW
  replace hx := Ext.trans hx hb; replace thx := (IsRef t).mono hb thx; replace tr := (PRep t tb tp).mono hb tr; have s3 := hb.size
  have hcd := cut_depth t
  have hd1 : (cutT t).1.depth ≤ 16 := by omega
  have hd2 : (cutT t).2.depth ≤ 16 := by omega
  clear hcd
  refine (split_ok (PRep.is tr) (by omega) (by omega)).mono ?_
  rintro _ y1 ⟨cv, rfl, c, hb⟩
  replace hx := Ext.trans hx hb; replace gt := gt.ext hb; replace thx := (IsRef t).mono hb thx; replace tr := (PRep t tb tp).mono hb tr; have s4 := hb.size
  obtain ⟨av, bv', _, rfl, ha, hb', rfl⟩ := c
  obtain ⟨ab, ap, rfl, ar⟩ := ha
  obtain ⟨bb, bp, rfl, br⟩ := hb'
  have gt_0 := gt.c 0 rfl; have gtf0 := gt.f 0; have gt_1 := gt.c 1 rfl; have gtf1 := gt.f 1; have gtl := gt.lt
  go_wp2_with fail
  clear gt_0 gtf0 gt_1 gtf1 gtl
  have gtlt5 := gt.lt
  obtain ⟨y2, hW, hb, z5, ga, gb⟩ := box2 y1 [.bool ab, .pointer ap] [.bool bb, .pointer bp] 26 26
  rw [hW]; clear hW
  replace hx := Ext.trans hx hb; replace gt := gt.ext hb; replace thx := (IsRef t).mono hb thx; replace tr := (PRep t tb tp).mono hb tr; replace ar := (PRep (cutT t).1 ab ap).mono hb ar; replace br := (PRep (cutT t).2 bb bp).mono hb br; have s6 := hb.size
  refine (rsplit_c t _ _ thx).mono ?_
  rintro _ y3 ⟨ev, rfl, e, hb⟩
  replace hx := Ext.trans hx hb; replace gt := gt.ext hb; replace ga := ga.ext hb; replace gb := gb.ext hb; replace thx := (IsRef t).mono hb thx; replace tr := (PRep t tb tp).mono hb tr; replace ar := (PRep (cutT t).1 ab ap).mono hb ar; replace br := (PRep (cutT t).2 bb bp).mono hb br; have s7 := hb.size
  obtain ⟨eav, ebv, rfl, ea, eb⟩ := e
  have gt_0 := gt.c 0 rfl; have gtf0 := gt.f 0; have gt_1 := gt.c 1 rfl; have gtf1 := gt.f 1; have gtl := gt.lt; have ga_0 := ga.c 0 rfl; have gaf0 := ga.f 0; have ga_1 := ga.c 1 rfl; have gaf1 := ga.f 1; have gal := ga.lt; have gb_0 := gb.c 0 rfl; have gbf0 := gb.f 0; have gb_1 := gb.c 1 rfl; have gbf1 := gb.f 1; have gbl := gb.lt
  go_wp2_with fail
  clear gt_0 gtf0 gt_1 gtf1 gtl ga_0 gaf0 ga_1 gaf1 gal gb_0 gbf0 gb_1 gbf1 gbl
  have hs := sum_t (PRep.is ar) (PRep.is br) (by omega) (by omega) (cut_disj tw)
  rw [cut_union tw] at hs
  refine (hs).mono ?_
  rintro _ y4 ⟨uv, rfl, u, hb⟩
  replace hx := Ext.trans hx hb; replace gt := gt.ext hb; replace ga := ga.ext hb; replace gb := gb.ext hb; replace thx := (IsRef t).mono hb thx; replace tr := (PRep t tb tp).mono hb tr; replace ar := (PRep (cutT t).1 ab ap).mono hb ar; replace br := (PRep (cutT t).2 bb bp).mono hb br; replace ea := (IsRef (cutT t).1).mono hb ea; replace eb := (IsRef (cutT t).2).mono hb eb; have s8 := hb.size
  obtain ⟨uv, _, rfl, uh, rfl⟩ := u
  clear hs
  obtain ⟨ub, up, rfl, ur⟩ := uh
  have gt_0 := gt.c 0 rfl; have gtf0 := gt.f 0; have gt_1 := gt.c 1 rfl; have gtf1 := gt.f 1; have gtl := gt.lt; have ga_0 := ga.c 0 rfl; have gaf0 := ga.f 0; have ga_1 := ga.c 1 rfl; have gaf1 := ga.f 1; have gal := ga.lt; have gb_0 := gb.c 0 rfl; have gbf0 := gb.f 0; have gb_1 := gb.c 1 rfl; have gbf1 := gb.f 1; have gbl := gb.lt
  go_wp2_with fail
  clear gt_0 gtf0 gt_1 gtf1 gtl ga_0 gaf0 ga_1 gaf1 gal gb_0 gbf0 gb_1 gbf1 gbl
  have gtlt9 := gt.lt
  have galt9 := ga.lt
  have gblt9 := gb.lt
  obtain ⟨y5, hW, hb, z9, gu⟩ := box1 y4 [.bool ub, .pointer up] 26
  rw [hW]; clear hW
  replace hx := Ext.trans hx hb; replace gt := gt.ext hb; replace ga := ga.ext hb; replace gb := gb.ext hb; replace thx := (IsRef t).mono hb thx; replace tr := (PRep t tb tp).mono hb tr; replace ar := (PRep (cutT t).1 ab ap).mono hb ar; replace br := (PRep (cutT t).2 bb bp).mono hb br; replace ea := (IsRef (cutT t).1).mono hb ea; replace eb := (IsRef (cutT t).2).mono hb eb; replace ur := (PRep t ub up).mono hb ur; have s10 := hb.size
  refine (like_c (cutT t).1 (by omega) (text_le (by omega)) _ _ _ (PRep.is ar) ea).mono ?_
  rintro _ y6 ⟨_, rfl, rfl, hb⟩
  replace hx := Ext.trans hx hb; replace gt := gt.ext hb; replace ga := ga.ext hb; replace gb := gb.ext hb; replace gu := gu.ext hb; replace thx := (IsRef t).mono hb thx; replace tr := (PRep t tb tp).mono hb tr; replace ar := (PRep (cutT t).1 ab ap).mono hb ar; replace br := (PRep (cutT t).2 bb bp).mono hb br; replace ea := (IsRef (cutT t).1).mono hb ea; replace eb := (IsRef (cutT t).2).mono hb eb; replace ur := (PRep t ub up).mono hb ur; have s11 := hb.size
  have gt_0 := gt.c 0 rfl; have gtf0 := gt.f 0; have gt_1 := gt.c 1 rfl; have gtf1 := gt.f 1; have gtl := gt.lt; have ga_0 := ga.c 0 rfl; have gaf0 := ga.f 0; have ga_1 := ga.c 1 rfl; have gaf1 := ga.f 1; have gal := ga.lt; have gb_0 := gb.c 0 rfl; have gbf0 := gb.f 0; have gb_1 := gb.c 1 rfl; have gbf1 := gb.f 1; have gbl := gb.lt; have gu_0 := gu.c 0 rfl; have guf0 := gu.f 0; have gu_1 := gu.c 1 rfl; have guf1 := gu.f 1; have gul := gu.lt
  go_wp2_with fail
  clear gt_0 gtf0 gt_1 gtf1 gtl ga_0 gaf0 ga_1 gaf1 gal gb_0 gbf0 gb_1 gbf1 gbl gu_0 guf0 gu_1 guf1 gul
  refine (like_c (cutT t).2 (by omega) (text_le (by omega)) _ _ _ (PRep.is br) eb).mono ?_
  rintro _ y7 ⟨_, rfl, rfl, hb⟩
  replace hx := Ext.trans hx hb; replace gt := gt.ext hb; replace ga := ga.ext hb; replace gb := gb.ext hb; replace gu := gu.ext hb; replace thx := (IsRef t).mono hb thx; replace tr := (PRep t tb tp).mono hb tr; replace ar := (PRep (cutT t).1 ab ap).mono hb ar; replace br := (PRep (cutT t).2 bb bp).mono hb br; replace ea := (IsRef (cutT t).1).mono hb ea; replace eb := (IsRef (cutT t).2).mono hb eb; replace ur := (PRep t ub up).mono hb ur; have s12 := hb.size
  have gt_0 := gt.c 0 rfl; have gtf0 := gt.f 0; have gt_1 := gt.c 1 rfl; have gtf1 := gt.f 1; have gtl := gt.lt; have ga_0 := ga.c 0 rfl; have gaf0 := ga.f 0; have ga_1 := ga.c 1 rfl; have gaf1 := ga.f 1; have gal := ga.lt; have gb_0 := gb.c 0 rfl; have gbf0 := gb.f 0; have gb_1 := gb.c 1 rfl; have gbf1 := gb.f 1; have gbl := gb.lt; have gu_0 := gu.c 0 rfl; have guf0 := gu.f 0; have gu_1 := gu.c 1 rfl; have guf1 := gu.f 1; have gul := gu.lt
  go_wp2_with fail
  clear gt_0 gtf0 gt_1 gtf1 gtl ga_0 gaf0 ga_1 gaf1 gal gb_0 gbf0 gb_1 gbf1 gbl gu_0 guf0 gu_1 guf1 gul
  refine (disj_s (cut_disj tw) (PRep.is ar) (PRep.is br)).mono ?_
  rintro _ y8 ⟨_, rfl, rfl, hb⟩
  replace hx := Ext.trans hx hb; replace gt := gt.ext hb; replace ga := ga.ext hb; replace gb := gb.ext hb; replace gu := gu.ext hb; replace thx := (IsRef t).mono hb thx; replace tr := (PRep t tb tp).mono hb tr; replace ar := (PRep (cutT t).1 ab ap).mono hb ar; replace br := (PRep (cutT t).2 bb bp).mono hb br; replace ea := (IsRef (cutT t).1).mono hb ea; replace eb := (IsRef (cutT t).2).mono hb eb; replace ur := (PRep t ub up).mono hb ur; have s13 := hb.size
  have gt_0 := gt.c 0 rfl; have gtf0 := gt.f 0; have gt_1 := gt.c 1 rfl; have gtf1 := gt.f 1; have gtl := gt.lt; have ga_0 := ga.c 0 rfl; have gaf0 := ga.f 0; have ga_1 := ga.c 1 rfl; have gaf1 := ga.f 1; have gal := ga.lt; have gb_0 := gb.c 0 rfl; have gbf0 := gb.f 0; have gb_1 := gb.c 1 rfl; have gbf1 := gb.f 1; have gbl := gb.lt; have gu_0 := gu.c 0 rfl; have guf0 := gu.f 0; have gu_1 := gu.c 1 rfl; have guf1 := gu.f 1; have gul := gu.lt
  go_wp2_with fail
  clear gt_0 gtf0 gt_1 gtf1 gtl ga_0 gaf0 ga_1 gaf1 gal gb_0 gbf0 gb_1 gbf1 gbl gu_0 guf0 gu_1 guf1 gul
  refine (same_r tw (PRep.is ur) (PRep.is tr)).mono ?_
  rintro _ y9 ⟨_, rfl, rfl, hb⟩
  replace hx := Ext.trans hx hb; replace gt := gt.ext hb; replace ga := ga.ext hb; replace gb := gb.ext hb; replace gu := gu.ext hb; replace thx := (IsRef t).mono hb thx; replace tr := (PRep t tb tp).mono hb tr; replace ar := (PRep (cutT t).1 ab ap).mono hb ar; replace br := (PRep (cutT t).2 bb bp).mono hb br; replace ea := (IsRef (cutT t).1).mono hb ea; replace eb := (IsRef (cutT t).2).mono hb eb; replace ur := (PRep t ub up).mono hb ur; have s14 := hb.size
  have gt_0 := gt.c 0 rfl; have gtf0 := gt.f 0; have gt_1 := gt.c 1 rfl; have gtf1 := gt.f 1; have gtl := gt.lt; have ga_0 := ga.c 0 rfl; have gaf0 := ga.f 0; have ga_1 := ga.c 1 rfl; have gaf1 := ga.f 1; have gal := ga.lt; have gb_0 := gb.c 0 rfl; have gbf0 := gb.f 0; have gb_1 := gb.c 1 rfl; have gbf1 := gb.f 1; have gbl := gb.lt; have gu_0 := gu.c 0 rfl; have guf0 := gu.f 0; have gu_1 := gu.c 1 rfl; have guf1 := gu.f 1; have gul := gu.lt
  go_wp2_with fail
  clear gt_0 gtf0 gt_1 gtf1 gtl ga_0 gaf0 ga_1 gaf1 gal gb_0 gbf0 gb_1 gbf1 gbl gu_0 guf0 gu_1 guf1 gul
  cases hz : t.isZero
  ·
    refine (isz_s hz (PRep.is tr)).mono ?_
    rintro _ y10 ⟨_, rfl, rfl, hb⟩
    replace hx := Ext.trans hx hb; replace gt := gt.ext hb; replace ga := ga.ext hb; replace gb := gb.ext hb; replace gu := gu.ext hb; replace thx := (IsRef t).mono hb thx; replace tr := (PRep t tb tp).mono hb tr; replace ar := (PRep (cutT t).1 ab ap).mono hb ar; replace br := (PRep (cutT t).2 bb bp).mono hb br; replace ea := (IsRef (cutT t).1).mono hb ea; replace eb := (IsRef (cutT t).2).mono hb eb; replace ur := (PRep t ub up).mono hb ur; have s15 := hb.size
    have gt_0 := gt.c 0 rfl; have gtf0 := gt.f 0; have gt_1 := gt.c 1 rfl; have gtf1 := gt.f 1; have gtl := gt.lt; have ga_0 := ga.c 0 rfl; have gaf0 := ga.f 0; have ga_1 := ga.c 1 rfl; have gaf1 := ga.f 1; have gal := ga.lt; have gb_0 := gb.c 0 rfl; have gbf0 := gb.f 0; have gb_1 := gb.c 1 rfl; have gbf1 := gb.f 1; have gbl := gb.lt; have gu_0 := gu.c 0 rfl; have guf0 := gu.f 0; have gu_1 := gu.c 1 rfl; have guf1 := gu.f 1; have gul := gu.lt
    go_wp2_with fail
    clear gt_0 gtf0 gt_1 gtf1 gtl ga_0 gaf0 ga_1 gaf1 gal gb_0 gbf0 gb_1 gbf1 gbl gu_0 guf0 gu_1 guf1 gul
    refine (isz_s (cut_nz tw hz).1 (PRep.is ar)).mono ?_
    rintro _ y11 ⟨_, rfl, rfl, hb⟩
    replace hx := Ext.trans hx hb; replace gt := gt.ext hb; replace ga := ga.ext hb; replace gb := gb.ext hb; replace gu := gu.ext hb; replace thx := (IsRef t).mono hb thx; replace tr := (PRep t tb tp).mono hb tr; replace ar := (PRep (cutT t).1 ab ap).mono hb ar; replace br := (PRep (cutT t).2 bb bp).mono hb br; replace ea := (IsRef (cutT t).1).mono hb ea; replace eb := (IsRef (cutT t).2).mono hb eb; replace ur := (PRep t ub up).mono hb ur; have s16 := hb.size
    have gt_0 := gt.c 0 rfl; have gtf0 := gt.f 0; have gt_1 := gt.c 1 rfl; have gtf1 := gt.f 1; have gtl := gt.lt; have ga_0 := ga.c 0 rfl; have gaf0 := ga.f 0; have ga_1 := ga.c 1 rfl; have gaf1 := ga.f 1; have gal := ga.lt; have gb_0 := gb.c 0 rfl; have gbf0 := gb.f 0; have gb_1 := gb.c 1 rfl; have gbf1 := gb.f 1; have gbl := gb.lt; have gu_0 := gu.c 0 rfl; have guf0 := gu.f 0; have gu_1 := gu.c 1 rfl; have guf1 := gu.f 1; have gul := gu.lt
    go_wp2_with fail
    clear gt_0 gtf0 gt_1 gtf1 gtl ga_0 gaf0 ga_1 gaf1 gal gb_0 gbf0 gb_1 gbf1 gbl gu_0 guf0 gu_1 guf1 gul
    refine (isz_s (cut_nz tw hz).2 (PRep.is br)).mono ?_
    rintro _ y12 ⟨_, rfl, rfl, hb⟩
    replace hx := Ext.trans hx hb; replace gt := gt.ext hb; replace ga := ga.ext hb; replace gb := gb.ext hb; replace gu := gu.ext hb; replace thx := (IsRef t).mono hb thx; replace tr := (PRep t tb tp).mono hb tr; replace ar := (PRep (cutT t).1 ab ap).mono hb ar; replace br := (PRep (cutT t).2 bb bp).mono hb br; replace ea := (IsRef (cutT t).1).mono hb ea; replace eb := (IsRef (cutT t).2).mono hb eb; replace ur := (PRep t ub up).mono hb ur; have s17 := hb.size
    have gt_0 := gt.c 0 rfl; have gtf0 := gt.f 0; have gt_1 := gt.c 1 rfl; have gtf1 := gt.f 1; have gtl := gt.lt; have ga_0 := ga.c 0 rfl; have gaf0 := ga.f 0; have ga_1 := ga.c 1 rfl; have gaf1 := ga.f 1; have gal := ga.lt; have gb_0 := gb.c 0 rfl; have gbf0 := gb.f 0; have gb_1 := gb.c 1 rfl; have gbf1 := gb.f 1; have gbl := gb.lt; have gu_0 := gu.c 0 rfl; have guf0 := gu.f 0; have gu_1 := gu.c 1 rfl; have guf1 := gu.f 1; have gul := gu.lt
    go_wp2_with fail
    clear gt_0 gtf0 gt_1 gtf1 gtl ga_0 gaf0 ga_1 gaf1 gal gb_0 gbf0 gb_1 gbf1 gbl gu_0 guf0 gu_1 guf1 gul
    go_ret
    exact ⟨_, rfl, rfl, hx⟩
  ·
    refine (isz_s hz (PRep.is tr)).mono ?_
    rintro _ y10 ⟨_, rfl, rfl, hb⟩
    replace hx := Ext.trans hx hb; replace gt := gt.ext hb; replace ga := ga.ext hb; replace gb := gb.ext hb; replace gu := gu.ext hb; replace thx := (IsRef t).mono hb thx; replace tr := (PRep t tb tp).mono hb tr; replace ar := (PRep (cutT t).1 ab ap).mono hb ar; replace br := (PRep (cutT t).2 bb bp).mono hb br; replace ea := (IsRef (cutT t).1).mono hb ea; replace eb := (IsRef (cutT t).2).mono hb eb; replace ur := (PRep t ub up).mono hb ur; have s18 := hb.size
    have gt_0 := gt.c 0 rfl; have gtf0 := gt.f 0; have gt_1 := gt.c 1 rfl; have gtf1 := gt.f 1; have gtl := gt.lt; have ga_0 := ga.c 0 rfl; have gaf0 := ga.f 0; have ga_1 := ga.c 1 rfl; have gaf1 := ga.f 1; have gal := ga.lt; have gb_0 := gb.c 0 rfl; have gbf0 := gb.f 0; have gb_1 := gb.c 1 rfl; have gbf1 := gb.f 1; have gbl := gb.lt; have gu_0 := gu.c 0 rfl; have guf0 := gu.f 0; have gu_1 := gu.c 1 rfl; have guf1 := gu.f 1; have gul := gu.lt
    go_wp2_with fail
    clear gt_0 gtf0 gt_1 gtf1 gtl ga_0 gaf0 ga_1 gaf1 gal gb_0 gbf0 gb_1 gbf1 gbl gu_0 guf0 gu_1 guf1 gul
    go_ret
    exact ⟨_, rfl, rfl, hx⟩

end Go.Proofs.Ytkfncjaomgcdgaa

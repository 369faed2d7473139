/- awake. -/
import Derived.Test.YtkfncjaomgcdgaaW10
set_option linter.all false
namespace Go.Proofs.Ytkfncjaomgcdgaa
open Go.RowKit Go.Facts

abbrev t01 : T := .node .zero .one
abbrev ta : T := .node .zero (.node .one .zero)
abbrev tb : T := .node .zero (.node .zero .one)
theorem parse_ex (w : World) : Calls Try.prog 32 #[.string { data := #[40, 48, 44, 49, 41] }] w (Ret w (Two (IsId t01).toPP (PP.eq (.int .i64 0))).p) := by
  have := parse_c [40, 48, 44, 49, 41] w (by decide)
  rw [show parseR [40, 48, 44, 49, 41] = (t01, 0) from by decide] at this
  exact this
theorem split_ex {v : Value} {w : World} (h : (IsId t01).p v w) : Calls Try.prog 18 #[v] w (Ret w (Three (IsId ta).toPP (IsId tb).toPP (PP.eq (.int .i64 0))).p) := by
  have := split_ok h (by decide) (by decide)
  rw [show cutT t01 = (ta, tb) from by decide] at this
  exact this
theorem sum_ex {v u : Value} {w : World} (h : (IsId ta).p v w) (k : (IsId tb).p u w) : Calls Try.prog 20 #[v, u] w (Ret w (Two (IsId t01).toPP (PP.eq (.int .i64 0))).p) := by
  have := sum_t h k (by decide) (by decide) (by decide)
  rw [show unionT ta tb = t01 from by decide] at this
  exact this

set_option maxRecDepth 100000 in
set_option maxHeartbeats 2000000 in
theorem awake_c {w : World} :
    Calls Try.prog 10 #[] w (Ret w (PP.eq (.bool true)).p) := by
  go_enter Try.func10, Try.ntmps10
  go_wp2_with fail
  refine (parse_ex _).mono ?_
  rintro _ w1 ⟨cv, rfl, c, hb⟩
  have hx := hb; have s0 := hb.size
  obtain ⟨iv, _, rfl, hi, rfl⟩ := c
  obtain ⟨ib, ip, rfl, ir⟩ := hi
  go_wp2_with fail
  obtain ⟨w2, hW, hb, z1, gi⟩ := box1 w1 [.bool ib, .pointer ip] 26
  rw [hW]; clear hW
  replace hx := Ext.trans hx hb; replace ir := (PRep t01 ib ip).mono hb ir; have s2 := hb.size
  refine (split_ex (PRep.is ir)).mono ?_
  rintro _ w3 ⟨cv, rfl, c, hb⟩
  replace hx := Ext.trans hx hb; replace gi := gi.ext hb; replace ir := (PRep t01 ib ip).mono hb ir; have s3 := hb.size
  obtain ⟨av, bv', _, rfl, ha, hb', rfl⟩ := c
  obtain ⟨ab, ap, rfl, ar⟩ := ha
  obtain ⟨bb, bp, rfl, br⟩ := hb'
  have gi_0 := gi.c 0 rfl; have gif0 := gi.f 0; have gi_1 := gi.c 1 rfl; have gif1 := gi.f 1; have gil := gi.lt
  go_wp2_with fail
  clear gi_0 gif0 gi_1 gif1 gil
  have gilt4 := gi.lt
  obtain ⟨w4, hW, hb, z4, ga, gb⟩ := box2 w3 [.bool ab, .pointer ap] [.bool bb, .pointer bp] 26 26
  rw [hW]; clear hW
  replace hx := Ext.trans hx hb; replace gi := gi.ext hb; replace ir := (PRep t01 ib ip).mono hb ir; replace ar := (PRep ta ab ap).mono hb ar; replace br := (PRep tb bb bp).mono hb br; have s5 := hb.size
  refine (sum_ex (PRep.is ar) (PRep.is br)).mono ?_
  rintro _ w5 ⟨cv, rfl, c, hb⟩
  replace hx := Ext.trans hx hb; replace gi := gi.ext hb; replace ga := ga.ext hb; replace gb := gb.ext hb; replace ir := (PRep t01 ib ip).mono hb ir; replace ar := (PRep ta ab ap).mono hb ar; replace br := (PRep tb bb bp).mono hb br; have s6 := hb.size
  obtain ⟨cv, _, rfl, hc, rfl⟩ := c
  obtain ⟨cb, cp, rfl, cr⟩ := hc
  have gi_0 := gi.c 0 rfl; have gif0 := gi.f 0; have gi_1 := gi.c 1 rfl; have gif1 := gi.f 1; have gil := gi.lt; have ga_0 := ga.c 0 rfl; have gaf0 := ga.f 0; have ga_1 := ga.c 1 rfl; have gaf1 := ga.f 1; have gal := ga.lt; have gb_0 := gb.c 0 rfl; have gbf0 := gb.f 0; have gb_1 := gb.c 1 rfl; have gbf1 := gb.f 1; have gbl := gb.lt
  go_wp2_with fail
  clear gi_0 gif0 gi_1 gif1 gil ga_0 gaf0 ga_1 gaf1 gal gb_0 gbf0 gb_1 gbf1 gbl
  have gilt7 := gi.lt
  have galt7 := ga.lt
  have gblt7 := gb.lt
  obtain ⟨w6, hW, hb, z7, gc⟩ := box1 w5 [.bool cb, .pointer cp] 26
  rw [hW]; clear hW
  replace hx := Ext.trans hx hb; replace gi := gi.ext hb; replace ga := ga.ext hb; replace gb := gb.ext hb; replace ir := (PRep t01 ib ip).mono hb ir; replace ar := (PRep ta ab ap).mono hb ar; replace br := (PRep tb bb bp).mono hb br; replace cr := (PRep t01 cb cp).mono hb cr; have s8 := hb.size
  refine (text_c (PRep.is ar) (by decide)).mono ?_
  rintro _ w7 ⟨_, rfl, rfl, hb⟩
  replace hx := Ext.trans hx hb; replace gi := gi.ext hb; replace ga := ga.ext hb; replace gb := gb.ext hb; replace gc := gc.ext hb; replace ir := (PRep t01 ib ip).mono hb ir; replace ar := (PRep ta ab ap).mono hb ar; replace br := (PRep tb bb bp).mono hb br; replace cr := (PRep t01 cb cp).mono hb cr; have s9 := hb.size
  have gi_0 := gi.c 0 rfl; have gif0 := gi.f 0; have gi_1 := gi.c 1 rfl; have gif1 := gi.f 1; have gil := gi.lt; have ga_0 := ga.c 0 rfl; have gaf0 := ga.f 0; have ga_1 := ga.c 1 rfl; have gaf1 := ga.f 1; have gal := ga.lt; have gb_0 := gb.c 0 rfl; have gbf0 := gb.f 0; have gb_1 := gb.c 1 rfl; have gbf1 := gb.f 1; have gbl := gb.lt; have gc_0 := gc.c 0 rfl; have gcf0 := gc.f 0; have gc_1 := gc.c 1 rfl; have gcf1 := gc.f 1; have gcl := gc.lt
  go_wp2_with fail
  clear gi_0 gif0 gi_1 gif1 gil ga_0 gaf0 ga_1 gaf1 gal gb_0 gbf0 gb_1 gbf1 gbl gc_0 gcf0 gc_1 gcf1 gcl
  refine (text_c (PRep.is br) (by decide)).mono ?_
  rintro _ w8 ⟨_, rfl, rfl, hb⟩
  replace hx := Ext.trans hx hb; replace gi := gi.ext hb; replace ga := ga.ext hb; replace gb := gb.ext hb; replace gc := gc.ext hb; replace ir := (PRep t01 ib ip).mono hb ir; replace ar := (PRep ta ab ap).mono hb ar; replace br := (PRep tb bb bp).mono hb br; replace cr := (PRep t01 cb cp).mono hb cr; have s10 := hb.size
  have gi_0 := gi.c 0 rfl; have gif0 := gi.f 0; have gi_1 := gi.c 1 rfl; have gif1 := gi.f 1; have gil := gi.lt; have ga_0 := ga.c 0 rfl; have gaf0 := ga.f 0; have ga_1 := ga.c 1 rfl; have gaf1 := ga.f 1; have gal := ga.lt; have gb_0 := gb.c 0 rfl; have gbf0 := gb.f 0; have gb_1 := gb.c 1 rfl; have gbf1 := gb.f 1; have gbl := gb.lt; have gc_0 := gc.c 0 rfl; have gcf0 := gc.f 0; have gc_1 := gc.c 1 rfl; have gcf1 := gc.f 1; have gcl := gc.lt
  go_wp2_with fail
  clear gi_0 gif0 gi_1 gif1 gil ga_0 gaf0 ga_1 gaf1 gal gb_0 gbf0 gb_1 gbf1 gbl gc_0 gcf0 gc_1 gcf1 gcl
  refine (text_c (PRep.is cr) (by decide)).mono ?_
  rintro _ w9 ⟨_, rfl, rfl, hb⟩
  replace hx := Ext.trans hx hb; replace gi := gi.ext hb; replace ga := ga.ext hb; replace gb := gb.ext hb; replace gc := gc.ext hb; replace ir := (PRep t01 ib ip).mono hb ir; replace ar := (PRep ta ab ap).mono hb ar; replace br := (PRep tb bb bp).mono hb br; replace cr := (PRep t01 cb cp).mono hb cr; have s11 := hb.size
  have gi_0 := gi.c 0 rfl; have gif0 := gi.f 0; have gi_1 := gi.c 1 rfl; have gif1 := gi.f 1; have gil := gi.lt; have ga_0 := ga.c 0 rfl; have gaf0 := ga.f 0; have ga_1 := ga.c 1 rfl; have gaf1 := ga.f 1; have gal := ga.lt; have gb_0 := gb.c 0 rfl; have gbf0 := gb.f 0; have gb_1 := gb.c 1 rfl; have gbf1 := gb.f 1; have gbl := gb.lt; have gc_0 := gc.c 0 rfl; have gcf0 := gc.f 0; have gc_1 := gc.c 1 rfl; have gcf1 := gc.f 1; have gcl := gc.lt
  go_wp2_with fail
  clear gi_0 gif0 gi_1 gif1 gil ga_0 gaf0 ga_1 gaf1 gal gb_0 gbf0 gb_1 gbf1 gbl gc_0 gcf0 gc_1 gcf1 gcl
  go_ret
  exact ⟨_, rfl, by first | rfl | (simp [textT]; rfl), hx⟩

end Go.Proofs.Ytkfncjaomgcdgaa

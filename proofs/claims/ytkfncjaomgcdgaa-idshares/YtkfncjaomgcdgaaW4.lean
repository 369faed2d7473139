/- Disjoint, Covers, Same, union, Sum. -/
import Derived.Test.YtkfncjaomgcdgaaW3
set_option linter.all false
namespace Go.Proofs.Ytkfncjaomgcdgaa
open Go.RowKit Go.Facts

def disjT : T → T → Bool
  | .zero, _ => true
  | _, .zero => true
  | .one, _ => false
  | _, .one => false
  | .node l r, .node l' r' => disjT l l' && disjT r r'

def coverT : T → T → Bool
  | .one, _ => true
  | _, .zero => true
  | .zero, _ => false
  | _, .one => false
  | .node l r, .node l' r' => coverT l l' && coverT r r'

def unionT : T → T → T
  | .zero, b => b
  | _, .one => .one
  | a, .zero => a
  | .one, _ => .one
  | .node l r, .node l' r' => T.mk (unionT l l') (unionT r r')

theorem union_depth : ∀ a b : T, (unionT a b).depth ≤ max a.depth b.depth
  | .zero, b => by simp [unionT, T.depth]
  | .one, .zero => by simp [unionT, T.depth]
  | .one, .one => by simp [unionT, T.depth]
  | .one, .node _ _ => by simp [unionT, T.depth]
  | .node _ _, .zero => by simp [unionT, T.depth]
  | .node _ _, .one => by simp [unionT, T.depth]
  | .node l r, .node l' r' => by
    have h1 := union_depth l l'
    have h2 := union_depth r r'
    have h3 := mk_depth (unionT l l') (unionT r r')
    simp only [unionT, T.depth] at *; omega

set_option maxRecDepth 100000 in
set_option maxHeartbeats 1000000 in
theorem disj_1 {a b : T} {va vb : Value} {w : World} (ha : (IsId a).p va w) (hb : (IsId b).p vb w) (hz : a.isZero = true) :
    Calls Try.prog 21 #[va, vb] w (Ret w (PP.eq (.bool true)).p) := by
  obtain ⟨ab, ap, rfl, ha⟩ := ha
  obtain ⟨bb, bp, rfl, hb0⟩ := hb
  go_enter Try.func21, Try.ntmps21
  go_wp2_with fail
  obtain ⟨W, hW, hb, z0, ga, gb⟩ := box2 w [.bool ab, .pointer ap] [.bool bb, .pointer bp] 26 26
  rw [hW]; clear hW
  have hx := hb; replace ha := (PRep a ab ap).mono hb ha; replace hb0 := (PRep b bb bp).mono hb hb0; have s1 := hb.size
  refine (isZero_c (PRep.is ha)).mono ?_
  rintro _ w0 ⟨_, rfl, rfl, hb⟩
  replace hx := Ext.trans hx hb; replace ga := ga.ext hb; replace gb := gb.ext hb; replace ha := (PRep a ab ap).mono hb ha; replace hb0 := (PRep b bb bp).mono hb hb0; have s2 := hb.size
  have ga_0 := ga.c 0 rfl; have gaf0 := ga.f 0; have ga_1 := ga.c 1 rfl; have gaf1 := ga.f 1; have gal := ga.lt; have gb_0 := gb.c 0 rfl; have gbf0 := gb.f 0; have gb_1 := gb.c 1 rfl; have gbf1 := gb.f 1; have gbl := gb.lt
  go_wp2_with fail
  clear ga_0 gaf0 ga_1 gaf1 gal gb_0 gbf0 gb_1 gbf1 gbl
  go_ret
  exact ⟨_, rfl, rfl, hx⟩

set_option maxRecDepth 100000 in
set_option maxHeartbeats 1000000 in
theorem disj_2 {a b : T} {va vb : Value} {w : World} (ha : (IsId a).p va w) (hb : (IsId b).p vb w) (hz : a.isZero = false) (hz2 : b.isZero = true) :
    Calls Try.prog 21 #[va, vb] w (Ret w (PP.eq (.bool true)).p) := by
  obtain ⟨ab, ap, rfl, ha⟩ := ha
  obtain ⟨bb, bp, rfl, hb0⟩ := hb
  go_enter Try.func21, Try.ntmps21
  go_wp2_with fail
  obtain ⟨W, hW, hb, z0, ga, gb⟩ := box2 w [.bool ab, .pointer ap] [.bool bb, .pointer bp] 26 26
  rw [hW]; clear hW
  have hx := hb; replace ha := (PRep a ab ap).mono hb ha; replace hb0 := (PRep b bb bp).mono hb hb0; have s1 := hb.size
  refine (isZero_c (PRep.is ha)).mono ?_
  rintro _ w0 ⟨_, rfl, rfl, hb⟩
  replace hx := Ext.trans hx hb; replace ga := ga.ext hb; replace gb := gb.ext hb; replace ha := (PRep a ab ap).mono hb ha; replace hb0 := (PRep b bb bp).mono hb hb0; have s2 := hb.size
  have ga_0 := ga.c 0 rfl; have gaf0 := ga.f 0; have ga_1 := ga.c 1 rfl; have gaf1 := ga.f 1; have gal := ga.lt; have gb_0 := gb.c 0 rfl; have gbf0 := gb.f 0; have gb_1 := gb.c 1 rfl; have gbf1 := gb.f 1; have gbl := gb.lt
  go_wp2_with fail
  clear ga_0 gaf0 ga_1 gaf1 gal gb_0 gbf0 gb_1 gbf1 gbl
  refine (isZero_c (PRep.is hb0)).mono ?_
  rintro _ w1 ⟨_, rfl, rfl, hb⟩
  replace hx := Ext.trans hx hb; replace ga := ga.ext hb; replace gb := gb.ext hb; replace ha := (PRep a ab ap).mono hb ha; replace hb0 := (PRep b bb bp).mono hb hb0; have s3 := hb.size
  have ga_0 := ga.c 0 rfl; have gaf0 := ga.f 0; have ga_1 := ga.c 1 rfl; have gaf1 := ga.f 1; have gal := ga.lt; have gb_0 := gb.c 0 rfl; have gbf0 := gb.f 0; have gb_1 := gb.c 1 rfl; have gbf1 := gb.f 1; have gbl := gb.lt
  go_wp2_with fail
  clear ga_0 gaf0 ga_1 gaf1 gal gb_0 gbf0 gb_1 gbf1 gbl
  go_ret
  exact ⟨_, rfl, rfl, hx⟩

set_option maxRecDepth 100000 in
set_option maxHeartbeats 1000000 in
theorem disj_3 {a b : T} {va vb : Value} {w : World} (ha : (IsId a).p va w) (hb : (IsId b).p vb w) (hz : a.isZero = false) (hz2 : b.isZero = false) (ho : a.isOne = true) :
    Calls Try.prog 21 #[va, vb] w (Ret w (PP.eq (.bool false)).p) := by
  obtain ⟨ab, ap, rfl, ha⟩ := ha
  obtain ⟨bb, bp, rfl, hb0⟩ := hb
  go_enter Try.func21, Try.ntmps21
  go_wp2_with fail
  obtain ⟨W, hW, hb, z0, ga, gb⟩ := box2 w [.bool ab, .pointer ap] [.bool bb, .pointer bp] 26 26
  rw [hW]; clear hW
  have hx := hb; replace ha := (PRep a ab ap).mono hb ha; replace hb0 := (PRep b bb bp).mono hb hb0; have s1 := hb.size
  refine (isZero_c (PRep.is ha)).mono ?_
  rintro _ w0 ⟨_, rfl, rfl, hb⟩
  replace hx := Ext.trans hx hb; replace ga := ga.ext hb; replace gb := gb.ext hb; replace ha := (PRep a ab ap).mono hb ha; replace hb0 := (PRep b bb bp).mono hb hb0; have s2 := hb.size
  have ga_0 := ga.c 0 rfl; have gaf0 := ga.f 0; have ga_1 := ga.c 1 rfl; have gaf1 := ga.f 1; have gal := ga.lt; have gb_0 := gb.c 0 rfl; have gbf0 := gb.f 0; have gb_1 := gb.c 1 rfl; have gbf1 := gb.f 1; have gbl := gb.lt
  go_wp2_with fail
  clear ga_0 gaf0 ga_1 gaf1 gal gb_0 gbf0 gb_1 gbf1 gbl
  refine (isZero_c (PRep.is hb0)).mono ?_
  rintro _ w1 ⟨_, rfl, rfl, hb⟩
  replace hx := Ext.trans hx hb; replace ga := ga.ext hb; replace gb := gb.ext hb; replace ha := (PRep a ab ap).mono hb ha; replace hb0 := (PRep b bb bp).mono hb hb0; have s3 := hb.size
  have ga_0 := ga.c 0 rfl; have gaf0 := ga.f 0; have ga_1 := ga.c 1 rfl; have gaf1 := ga.f 1; have gal := ga.lt; have gb_0 := gb.c 0 rfl; have gbf0 := gb.f 0; have gb_1 := gb.c 1 rfl; have gbf1 := gb.f 1; have gbl := gb.lt
  go_wp2_with fail
  clear ga_0 gaf0 ga_1 gaf1 gal gb_0 gbf0 gb_1 gbf1 gbl
  refine (isOne_c (PRep.is ha)).mono ?_
  rintro _ w2 ⟨_, rfl, rfl, hb⟩
  replace hx := Ext.trans hx hb; replace ga := ga.ext hb; replace gb := gb.ext hb; replace ha := (PRep a ab ap).mono hb ha; replace hb0 := (PRep b bb bp).mono hb hb0; have s4 := hb.size
  have ga_0 := ga.c 0 rfl; have gaf0 := ga.f 0; have ga_1 := ga.c 1 rfl; have gaf1 := ga.f 1; have gal := ga.lt; have gb_0 := gb.c 0 rfl; have gbf0 := gb.f 0; have gb_1 := gb.c 1 rfl; have gbf1 := gb.f 1; have gbl := gb.lt
  go_wp2_with fail
  clear ga_0 gaf0 ga_1 gaf1 gal gb_0 gbf0 gb_1 gbf1 gbl
  go_ret
  exact ⟨_, rfl, rfl, hx⟩

set_option maxRecDepth 100000 in
set_option maxHeartbeats 1000000 in
theorem disj_4 {a b : T} {va vb : Value} {w : World} (ha : (IsId a).p va w) (hb : (IsId b).p vb w) (hz : a.isZero = false) (hz2 : b.isZero = false) (ho : a.isOne = false) (ho2 : b.isOne = true) :
    Calls Try.prog 21 #[va, vb] w (Ret w (PP.eq (.bool false)).p) := by
  obtain ⟨ab, ap, rfl, ha⟩ := ha
  obtain ⟨bb, bp, rfl, hb0⟩ := hb
  go_enter Try.func21, Try.ntmps21
  go_wp2_with fail
  obtain ⟨W, hW, hb, z0, ga, gb⟩ := box2 w [.bool ab, .pointer ap] [.bool bb, .pointer bp] 26 26
  rw [hW]; clear hW
  have hx := hb; replace ha := (PRep a ab ap).mono hb ha; replace hb0 := (PRep b bb bp).mono hb hb0; have s1 := hb.size
  refine (isZero_c (PRep.is ha)).mono ?_
  rintro _ w0 ⟨_, rfl, rfl, hb⟩
  replace hx := Ext.trans hx hb; replace ga := ga.ext hb; replace gb := gb.ext hb; replace ha := (PRep a ab ap).mono hb ha; replace hb0 := (PRep b bb bp).mono hb hb0; have s2 := hb.size
  have ga_0 := ga.c 0 rfl; have gaf0 := ga.f 0; have ga_1 := ga.c 1 rfl; have gaf1 := ga.f 1; have gal := ga.lt; have gb_0 := gb.c 0 rfl; have gbf0 := gb.f 0; have gb_1 := gb.c 1 rfl; have gbf1 := gb.f 1; have gbl := gb.lt
  go_wp2_with fail
  clear ga_0 gaf0 ga_1 gaf1 gal gb_0 gbf0 gb_1 gbf1 gbl
  refine (isZero_c (PRep.is hb0)).mono ?_
  rintro _ w1 ⟨_, rfl, rfl, hb⟩
  replace hx := Ext.trans hx hb; replace ga := ga.ext hb; replace gb := gb.ext hb; replace ha := (PRep a ab ap).mono hb ha; replace hb0 := (PRep b bb bp).mono hb hb0; have s3 := hb.size
  have ga_0 := ga.c 0 rfl; have gaf0 := ga.f 0; have ga_1 := ga.c 1 rfl; have gaf1 := ga.f 1; have gal := ga.lt; have gb_0 := gb.c 0 rfl; have gbf0 := gb.f 0; have gb_1 := gb.c 1 rfl; have gbf1 := gb.f 1; have gbl := gb.lt
  go_wp2_with fail
  clear ga_0 gaf0 ga_1 gaf1 gal gb_0 gbf0 gb_1 gbf1 gbl
  refine (isOne_c (PRep.is ha)).mono ?_
  rintro _ w2 ⟨_, rfl, rfl, hb⟩
  replace hx := Ext.trans hx hb; replace ga := ga.ext hb; replace gb := gb.ext hb; replace ha := (PRep a ab ap).mono hb ha; replace hb0 := (PRep b bb bp).mono hb hb0; have s4 := hb.size
  have ga_0 := ga.c 0 rfl; have gaf0 := ga.f 0; have ga_1 := ga.c 1 rfl; have gaf1 := ga.f 1; have gal := ga.lt; have gb_0 := gb.c 0 rfl; have gbf0 := gb.f 0; have gb_1 := gb.c 1 rfl; have gbf1 := gb.f 1; have gbl := gb.lt
  go_wp2_with fail
  clear ga_0 gaf0 ga_1 gaf1 gal gb_0 gbf0 gb_1 gbf1 gbl
  refine (isOne_c (PRep.is hb0)).mono ?_
  rintro _ w3 ⟨_, rfl, rfl, hb⟩
  replace hx := Ext.trans hx hb; replace ga := ga.ext hb; replace gb := gb.ext hb; replace ha := (PRep a ab ap).mono hb ha; replace hb0 := (PRep b bb bp).mono hb hb0; have s5 := hb.size
  have ga_0 := ga.c 0 rfl; have gaf0 := ga.f 0; have ga_1 := ga.c 1 rfl; have gaf1 := ga.f 1; have gal := ga.lt; have gb_0 := gb.c 0 rfl; have gbf0 := gb.f 0; have gb_1 := gb.c 1 rfl; have gbf1 := gb.f 1; have gbl := gb.lt
  go_wp2_with fail
  clear ga_0 gaf0 ga_1 gaf1 gal gb_0 gbf0 gb_1 gbf1 gbl
  go_ret
  exact ⟨_, rfl, rfl, hx⟩

set_option maxRecDepth 100000 in
set_option maxHeartbeats 1000000 in
theorem disj_nt {a b : T} {va vb : Value} {w : World} (ha : (IsId a).p va w) (hb : (IsId b).p vb w) (hz : a.isZero = false) (hz2 : b.isZero = false) (ho : a.isOne = false) (ho2 : b.isOne = false) (ihl : ∀ (va vb : Value) (w : World), (IsId a.left).p va w → (IsId b.left).p vb w → Calls Try.prog 21 #[va, vb] w (Ret w (PP.eq (.bool true)).p)) (c : Bool) (ihr : ∀ (va vb : Value) (w : World), (IsId a.right).p va w → (IsId b.right).p vb w → Calls Try.prog 21 #[va, vb] w (Ret w (PP.eq (.bool c)).p)) :
    Calls Try.prog 21 #[va, vb] w (Ret w (PP.eq (.bool c)).p) := by
  obtain ⟨ab, ap, rfl, ha⟩ := ha
  obtain ⟨bb, bp, rfl, hb0⟩ := hb
  go_enter Try.func21, Try.ntmps21
  go_wp2_with fail
  obtain ⟨W, hW, hb, z0, ga, gb⟩ := box2 w [.bool ab, .pointer ap] [.bool bb, .pointer bp] 26 26
  rw [hW]; clear hW
  have hx := hb; replace ha := (PRep a ab ap).mono hb ha; replace hb0 := (PRep b bb bp).mono hb hb0; have s1 := hb.size
  refine (isZero_c (PRep.is ha)).mono ?_
  rintro _ w0 ⟨_, rfl, rfl, hb⟩
  replace hx := Ext.trans hx hb; replace ga := ga.ext hb; replace gb := gb.ext hb; replace ha := (PRep a ab ap).mono hb ha; replace hb0 := (PRep b bb bp).mono hb hb0; have s2 := hb.size
  have ga_0 := ga.c 0 rfl; have gaf0 := ga.f 0; have ga_1 := ga.c 1 rfl; have gaf1 := ga.f 1; have gal := ga.lt; have gb_0 := gb.c 0 rfl; have gbf0 := gb.f 0; have gb_1 := gb.c 1 rfl; have gbf1 := gb.f 1; have gbl := gb.lt
  go_wp2_with fail
  clear ga_0 gaf0 ga_1 gaf1 gal gb_0 gbf0 gb_1 gbf1 gbl
  refine (isZero_c (PRep.is hb0)).mono ?_
  rintro _ w1 ⟨_, rfl, rfl, hb⟩
  replace hx := Ext.trans hx hb; replace ga := ga.ext hb; replace gb := gb.ext hb; replace ha := (PRep a ab ap).mono hb ha; replace hb0 := (PRep b bb bp).mono hb hb0; have s3 := hb.size
  have ga_0 := ga.c 0 rfl; have gaf0 := ga.f 0; have ga_1 := ga.c 1 rfl; have gaf1 := ga.f 1; have gal := ga.lt; have gb_0 := gb.c 0 rfl; have gbf0 := gb.f 0; have gb_1 := gb.c 1 rfl; have gbf1 := gb.f 1; have gbl := gb.lt
  go_wp2_with fail
  clear ga_0 gaf0 ga_1 gaf1 gal gb_0 gbf0 gb_1 gbf1 gbl
  refine (isOne_c (PRep.is ha)).mono ?_
  rintro _ w2 ⟨_, rfl, rfl, hb⟩
  replace hx := Ext.trans hx hb; replace ga := ga.ext hb; replace gb := gb.ext hb; replace ha := (PRep a ab ap).mono hb ha; replace hb0 := (PRep b bb bp).mono hb hb0; have s4 := hb.size
  have ga_0 := ga.c 0 rfl; have gaf0 := ga.f 0; have ga_1 := ga.c 1 rfl; have gaf1 := ga.f 1; have gal := ga.lt; have gb_0 := gb.c 0 rfl; have gbf0 := gb.f 0; have gb_1 := gb.c 1 rfl; have gbf1 := gb.f 1; have gbl := gb.lt
  go_wp2_with fail
  clear ga_0 gaf0 ga_1 gaf1 gal gb_0 gbf0 gb_1 gbf1 gbl
  refine (isOne_c (PRep.is hb0)).mono ?_
  rintro _ w3 ⟨_, rfl, rfl, hb⟩
  replace hx := Ext.trans hx hb; replace ga := ga.ext hb; replace gb := gb.ext hb; replace ha := (PRep a ab ap).mono hb ha; replace hb0 := (PRep b bb bp).mono hb hb0; have s5 := hb.size
  have ga_0 := ga.c 0 rfl; have gaf0 := ga.f 0; have ga_1 := ga.c 1 rfl; have gaf1 := ga.f 1; have gal := ga.lt; have gb_0 := gb.c 0 rfl; have gbf0 := gb.f 0; have gb_1 := gb.c 1 rfl; have gbf1 := gb.f 1; have gbl := gb.lt
  go_wp2_with fail
  clear ga_0 gaf0 ga_1 gaf1 gal gb_0 gbf0 gb_1 gbf1 gbl
  have galt6 := ga.lt
  have gblt6 := gb.lt
  refine wp_facts 12 [] [(IsId a).toPP, (IsId a.left).toPP, (IsId b).toPP, (IsId b.left).toPP, PP.eq (.bool true), PP.eq (.bool true), (IsId a).toPP, (IsId a.right).toPP, (IsId b).toPP, (IsId b.right).toPP, PP.eq (.bool c), PP.eq (.bool c)] (by kernel_rfl) (by kernel_rfl) ⟨?o0, ?o1, ?o2, ?o3, ?o4, ?o5, ?o6, ?o7, ?o8, ?o9, ?o10, ?o11, trivial⟩ ?rest
  case o0 =>
    intro x0 x1 x2 x3 x4 x5 x6 x7 x8 x9 x10 x11 w' hE
    rintro R hR
    have qga0 := (ga.ext hE).c 0 rfl
    have qga1 := (ga.ext hE).c 1 rfl
    simp only [putAll, List.take, List.drop, List.map, Act.put, List.setIfInBounds_toArray, List.set_cons_zero, List.set_cons_succ]
    go_simp
    exact hR _ _ (Ext.refl _) (⟨_, _, rfl, ha.ext hE⟩) trivial
  case o1 =>
    intro x0 x1 x2 x3 x4 x5 x6 x7 x8 x9 x10 x11 w' hE
    rintro d0 R hR
    simp only [putAll, List.take, List.drop, List.map, Act.put, List.setIfInBounds_toArray, List.set_cons_zero, List.set_cons_succ]
    go_simp
    refine (left_c d0).mono ?_
    rintro _ w'' ⟨v, rfl, hv, hb⟩
    exact hR _ _ hb hv trivial
  case o2 =>
    intro x0 x1 x2 x3 x4 x5 x6 x7 x8 x9 x10 x11 w' hE
    rintro R hR
    have qgb0 := (gb.ext hE).c 0 rfl
    have qgb1 := (gb.ext hE).c 1 rfl
    simp only [putAll, List.take, List.drop, List.map, Act.put, List.setIfInBounds_toArray, List.set_cons_zero, List.set_cons_succ]
    go_simp
    exact hR _ _ (Ext.refl _) (⟨_, _, rfl, hb0.ext hE⟩) trivial
  case o3 =>
    intro x0 x1 x2 x3 x4 x5 x6 x7 x8 x9 x10 x11 w' hE
    rintro d2 d1 R hR
    simp only [putAll, List.take, List.drop, List.map, Act.put, List.setIfInBounds_toArray, List.set_cons_zero, List.set_cons_succ]
    go_simp
    refine (left_c d2).mono ?_
    rintro _ w'' ⟨v, rfl, hv, hb⟩
    exact hR _ _ hb hv trivial
  case o4 =>
    intro x0 x1 x2 x3 x4 x5 x6 x7 x8 x9 x10 x11 w' hE
    rintro d1 d3 _ R hR
    simp only [putAll, List.take, List.drop, List.map, Act.put, List.setIfInBounds_toArray, List.set_cons_zero, List.set_cons_succ]
    go_simp
    refine (ihl _ _ _ d1 d3).mono ?_
    rintro _ w'' ⟨v, rfl, hv, hb⟩
    exact hR _ _ hb hv trivial
  case o5 =>
    intro x0 x1 x2 x3 x4 x5 x6 x7 x8 x9 x10 x11 w' hE
    rintro rfl _ R hR
    simp only [putAll, List.take, List.drop, List.map, Act.put, List.setIfInBounds_toArray, List.set_cons_zero, List.set_cons_succ]
    go_simp
    exact hR _ _ (Ext.refl _) (rfl) trivial
  case o6 =>
    intro x0 x1 x2 x3 x4 x5 x6 x7 x8 x9 x10 x11 w' hE
    rintro rfl R hR
    have qga0 := (ga.ext hE).c 0 rfl
    have qga1 := (ga.ext hE).c 1 rfl
    simp only [putAll, List.take, List.drop, List.map, Act.put, List.setIfInBounds_toArray, List.set_cons_zero, List.set_cons_succ]
    go_simp
    exact hR _ _ (Ext.refl _) (⟨_, _, rfl, ha.ext hE⟩) trivial
  case o7 =>
    intro x0 x1 x2 x3 x4 x5 x6 x7 x8 x9 x10 x11 w' hE
    rintro d6 rfl _ R hR
    simp only [putAll, List.take, List.drop, List.map, Act.put, List.setIfInBounds_toArray, List.set_cons_zero, List.set_cons_succ]
    go_simp
    refine (right_c d6).mono ?_
    rintro _ w'' ⟨v, rfl, hv, hb⟩
    exact hR _ _ hb hv trivial
  case o8 =>
    intro x0 x1 x2 x3 x4 x5 x6 x7 x8 x9 x10 x11 w' hE
    rintro rfl R hR
    have qgb0 := (gb.ext hE).c 0 rfl
    have qgb1 := (gb.ext hE).c 1 rfl
    simp only [putAll, List.take, List.drop, List.map, Act.put, List.setIfInBounds_toArray, List.set_cons_zero, List.set_cons_succ]
    go_simp
    exact hR _ _ (Ext.refl _) (⟨_, _, rfl, hb0.ext hE⟩) trivial
  case o9 =>
    intro x0 x1 x2 x3 x4 x5 x6 x7 x8 x9 x10 x11 w' hE
    rintro d8 d7 rfl R hR
    simp only [putAll, List.take, List.drop, List.map, Act.put, List.setIfInBounds_toArray, List.set_cons_zero, List.set_cons_succ]
    go_simp
    refine (right_c d8).mono ?_
    rintro _ w'' ⟨v, rfl, hv, hb⟩
    exact hR _ _ hb hv trivial
  case o10 =>
    intro x0 x1 x2 x3 x4 x5 x6 x7 x8 x9 x10 x11 w' hE
    rintro d7 d9 _ rfl R hR
    simp only [putAll, List.take, List.drop, List.map, Act.put, List.setIfInBounds_toArray, List.set_cons_zero, List.set_cons_succ]
    go_simp
    refine (ihr _ _ _ d7 d9).mono ?_
    rintro _ w'' ⟨v, rfl, hv, hb⟩
    exact hR _ _ hb hv trivial
  case o11 =>
    intro x0 x1 x2 x3 x4 x5 x6 x7 x8 x9 x10 x11 w' hE
    rintro rfl rfl R hR
    simp only [putAll, List.take, List.drop, List.map, Act.put, List.setIfInBounds_toArray, List.set_cons_zero, List.set_cons_succ]
    go_simp
    exact hR _ _ (Ext.refl _) (rfl) trivial
  case rest =>
    intro x0 x1 x2 x3 x4 x5 x6 x7 x8 x9 x10 x11 w9 hb
    rintro _ _ _ _ rfl rfl _ _ _ _ rfl rfl hap
    replace hx := Ext.trans hx hb; replace ga := ga.ext hb; replace gb := gb.ext hb; replace ha := (PRep a ab ap).mono hb ha; replace hb0 := (PRep b bb bp).mono hb hb0; have s7 := hb.size
    clear hap
    simp only [putAll, List.take, List.drop, List.map, Act.put, List.setIfInBounds_toArray, List.set_cons_zero, List.set_cons_succ]
    have ga_0 := ga.c 0 rfl; have gaf0 := ga.f 0; have ga_1 := ga.c 1 rfl; have gaf1 := ga.f 1; have gal := ga.lt; have gb_0 := gb.c 0 rfl; have gbf0 := gb.f 0; have gb_1 := gb.c 1 rfl; have gbf1 := gb.f 1; have gbl := gb.lt
    go_wp2_with fail
    clear ga_0 gaf0 ga_1 gaf1 gal gb_0 gbf0 gb_1 gbf1 gbl
    go_ret
    exact ⟨_, rfl, rfl, hx⟩

set_option maxRecDepth 100000 in
set_option maxHeartbeats 1000000 in
theorem disj_nf {a b : T} {va vb : Value} {w : World} (ha : (IsId a).p va w) (hb : (IsId b).p vb w) (hz : a.isZero = false) (hz2 : b.isZero = false) (ho : a.isOne = false) (ho2 : b.isOne = false) (ihl : ∀ (va vb : Value) (w : World), (IsId a.left).p va w → (IsId b.left).p vb w → Calls Try.prog 21 #[va, vb] w (Ret w (PP.eq (.bool false)).p))  :
    Calls Try.prog 21 #[va, vb] w (Ret w (PP.eq (.bool false)).p) := by
  obtain ⟨ab, ap, rfl, ha⟩ := ha
  obtain ⟨bb, bp, rfl, hb0⟩ := hb
  go_enter Try.func21, Try.ntmps21
  go_wp2_with fail
  obtain ⟨W, hW, hb, z0, ga, gb⟩ := box2 w [.bool ab, .pointer ap] [.bool bb, .pointer bp] 26 26
  rw [hW]; clear hW
  have hx := hb; replace ha := (PRep a ab ap).mono hb ha; replace hb0 := (PRep b bb bp).mono hb hb0; have s1 := hb.size
  refine (isZero_c (PRep.is ha)).mono ?_
  rintro _ w0 ⟨_, rfl, rfl, hb⟩
  replace hx := Ext.trans hx hb; replace ga := ga.ext hb; replace gb := gb.ext hb; replace ha := (PRep a ab ap).mono hb ha; replace hb0 := (PRep b bb bp).mono hb hb0; have s2 := hb.size
  have ga_0 := ga.c 0 rfl; have gaf0 := ga.f 0; have ga_1 := ga.c 1 rfl; have gaf1 := ga.f 1; have gal := ga.lt; have gb_0 := gb.c 0 rfl; have gbf0 := gb.f 0; have gb_1 := gb.c 1 rfl; have gbf1 := gb.f 1; have gbl := gb.lt
  go_wp2_with fail
  clear ga_0 gaf0 ga_1 gaf1 gal gb_0 gbf0 gb_1 gbf1 gbl
  refine (isZero_c (PRep.is hb0)).mono ?_
  rintro _ w1 ⟨_, rfl, rfl, hb⟩
  replace hx := Ext.trans hx hb; replace ga := ga.ext hb; replace gb := gb.ext hb; replace ha := (PRep a ab ap).mono hb ha; replace hb0 := (PRep b bb bp).mono hb hb0; have s3 := hb.size
  have ga_0 := ga.c 0 rfl; have gaf0 := ga.f 0; have ga_1 := ga.c 1 rfl; have gaf1 := ga.f 1; have gal := ga.lt; have gb_0 := gb.c 0 rfl; have gbf0 := gb.f 0; have gb_1 := gb.c 1 rfl; have gbf1 := gb.f 1; have gbl := gb.lt
  go_wp2_with fail
  clear ga_0 gaf0 ga_1 gaf1 gal gb_0 gbf0 gb_1 gbf1 gbl
  refine (isOne_c (PRep.is ha)).mono ?_
  rintro _ w2 ⟨_, rfl, rfl, hb⟩
  replace hx := Ext.trans hx hb; replace ga := ga.ext hb; replace gb := gb.ext hb; replace ha := (PRep a ab ap).mono hb ha; replace hb0 := (PRep b bb bp).mono hb hb0; have s4 := hb.size
  have ga_0 := ga.c 0 rfl; have gaf0 := ga.f 0; have ga_1 := ga.c 1 rfl; have gaf1 := ga.f 1; have gal := ga.lt; have gb_0 := gb.c 0 rfl; have gbf0 := gb.f 0; have gb_1 := gb.c 1 rfl; have gbf1 := gb.f 1; have gbl := gb.lt
  go_wp2_with fail
  clear ga_0 gaf0 ga_1 gaf1 gal gb_0 gbf0 gb_1 gbf1 gbl
  refine (isOne_c (PRep.is hb0)).mono ?_
  rintro _ w3 ⟨_, rfl, rfl, hb⟩
  replace hx := Ext.trans hx hb; replace ga := ga.ext hb; replace gb := gb.ext hb; replace ha := (PRep a ab ap).mono hb ha; replace hb0 := (PRep b bb bp).mono hb hb0; have s5 := hb.size
  have ga_0 := ga.c 0 rfl; have gaf0 := ga.f 0; have ga_1 := ga.c 1 rfl; have gaf1 := ga.f 1; have gal := ga.lt; have gb_0 := gb.c 0 rfl; have gbf0 := gb.f 0; have gb_1 := gb.c 1 rfl; have gbf1 := gb.f 1; have gbl := gb.lt
  go_wp2_with fail
  clear ga_0 gaf0 ga_1 gaf1 gal gb_0 gbf0 gb_1 gbf1 gbl
  have galt6 := ga.lt
  have gblt6 := gb.lt
  refine wp_facts 12 [] [(IsId a).toPP, (IsId a.left).toPP, (IsId b).toPP, (IsId b.left).toPP, PP.eq (.bool false), PP.eq (.bool false), PP.eq undef, PP.eq undef, PP.eq undef, PP.eq undef, PP.eq undef, PP.eq (.bool false)] (by kernel_rfl) (by kernel_rfl) ⟨?o0, ?o1, ?o2, ?o3, ?o4, ?o5, ?o6, ?o7, ?o8, ?o9, ?o10, ?o11, trivial⟩ ?rest
  case o0 =>
    intro x0 x1 x2 x3 x4 x5 x6 x7 x8 x9 x10 x11 w' hE
    rintro R hR
    have qga0 := (ga.ext hE).c 0 rfl
    have qga1 := (ga.ext hE).c 1 rfl
    simp only [putAll, List.take, List.drop, List.map, Act.put, List.setIfInBounds_toArray, List.set_cons_zero, List.set_cons_succ]
    go_simp
    exact hR _ _ (Ext.refl _) (⟨_, _, rfl, ha.ext hE⟩) trivial
  case o1 =>
    intro x0 x1 x2 x3 x4 x5 x6 x7 x8 x9 x10 x11 w' hE
    rintro d0 R hR
    simp only [putAll, List.take, List.drop, List.map, Act.put, List.setIfInBounds_toArray, List.set_cons_zero, List.set_cons_succ]
    go_simp
    refine (left_c d0).mono ?_
    rintro _ w'' ⟨v, rfl, hv, hb⟩
    exact hR _ _ hb hv trivial
  case o2 =>
    intro x0 x1 x2 x3 x4 x5 x6 x7 x8 x9 x10 x11 w' hE
    rintro R hR
    have qgb0 := (gb.ext hE).c 0 rfl
    have qgb1 := (gb.ext hE).c 1 rfl
    simp only [putAll, List.take, List.drop, List.map, Act.put, List.setIfInBounds_toArray, List.set_cons_zero, List.set_cons_succ]
    go_simp
    exact hR _ _ (Ext.refl _) (⟨_, _, rfl, hb0.ext hE⟩) trivial
  case o3 =>
    intro x0 x1 x2 x3 x4 x5 x6 x7 x8 x9 x10 x11 w' hE
    rintro d2 d1 R hR
    simp only [putAll, List.take, List.drop, List.map, Act.put, List.setIfInBounds_toArray, List.set_cons_zero, List.set_cons_succ]
    go_simp
    refine (left_c d2).mono ?_
    rintro _ w'' ⟨v, rfl, hv, hb⟩
    exact hR _ _ hb hv trivial
  case o4 =>
    intro x0 x1 x2 x3 x4 x5 x6 x7 x8 x9 x10 x11 w' hE
    rintro d1 d3 _ R hR
    simp only [putAll, List.take, List.drop, List.map, Act.put, List.setIfInBounds_toArray, List.set_cons_zero, List.set_cons_succ]
    go_simp
    refine (ihl _ _ _ d1 d3).mono ?_
    rintro _ w'' ⟨v, rfl, hv, hb⟩
    exact hR _ _ hb hv trivial
  case o5 =>
    intro x0 x1 x2 x3 x4 x5 x6 x7 x8 x9 x10 x11 w' hE
    rintro rfl _ R hR
    simp only [putAll, List.take, List.drop, List.map, Act.put, List.setIfInBounds_toArray, List.set_cons_zero, List.set_cons_succ]
    go_simp
    exact hR _ _ (Ext.refl _) (rfl) trivial
  case o6 =>
    intro x0 x1 x2 x3 x4 x5 x6 x7 x8 x9 x10 x11 w' hE
    rintro rfl R hR
    simp only [putAll, List.take, List.drop, List.map, Act.put, List.setIfInBounds_toArray, List.set_cons_zero, List.set_cons_succ]
    go_simp
    exact hR _ _ (Ext.refl _) (rfl) trivial
  case o7 =>
    intro x0 x1 x2 x3 x4 x5 x6 x7 x8 x9 x10 x11 w' hE
    rintro rfl rfl _ R hR
    simp only [putAll, List.take, List.drop, List.map, Act.put, List.setIfInBounds_toArray, List.set_cons_zero, List.set_cons_succ]
    go_simp
    exact hR _ _ (Ext.refl _) (rfl) trivial
  case o8 =>
    intro x0 x1 x2 x3 x4 x5 x6 x7 x8 x9 x10 x11 w' hE
    rintro rfl R hR
    simp only [putAll, List.take, List.drop, List.map, Act.put, List.setIfInBounds_toArray, List.set_cons_zero, List.set_cons_succ]
    go_simp
    exact hR _ _ (Ext.refl _) (rfl) trivial
  case o9 =>
    intro x0 x1 x2 x3 x4 x5 x6 x7 x8 x9 x10 x11 w' hE
    rintro rfl rfl rfl R hR
    simp only [putAll, List.take, List.drop, List.map, Act.put, List.setIfInBounds_toArray, List.set_cons_zero, List.set_cons_succ]
    go_simp
    exact hR _ _ (Ext.refl _) (rfl) trivial
  case o10 =>
    intro x0 x1 x2 x3 x4 x5 x6 x7 x8 x9 x10 x11 w' hE
    rintro rfl rfl _ rfl R hR
    simp only [putAll, List.take, List.drop, List.map, Act.put, List.setIfInBounds_toArray, List.set_cons_zero, List.set_cons_succ]
    go_simp
    exact hR _ _ (Ext.refl _) (rfl) trivial
  case o11 =>
    intro x0 x1 x2 x3 x4 x5 x6 x7 x8 x9 x10 x11 w' hE
    rintro rfl rfl R hR
    simp only [putAll, List.take, List.drop, List.map, Act.put, List.setIfInBounds_toArray, List.set_cons_zero, List.set_cons_succ]
    go_simp
    exact hR _ _ (Ext.refl _) (rfl) trivial
  case rest =>
    intro x0 x1 x2 x3 x4 x5 x6 x7 x8 x9 x10 x11 w9 hb
    rintro _ _ _ _ rfl rfl rfl rfl rfl rfl rfl rfl hap
    replace hx := Ext.trans hx hb; replace ga := ga.ext hb; replace gb := gb.ext hb; replace ha := (PRep a ab ap).mono hb ha; replace hb0 := (PRep b bb bp).mono hb hb0; have s7 := hb.size
    clear hap
    simp only [putAll, List.take, List.drop, List.map, Act.put, List.setIfInBounds_toArray, List.set_cons_zero, List.set_cons_succ]
    have ga_0 := ga.c 0 rfl; have gaf0 := ga.f 0; have ga_1 := ga.c 1 rfl; have gaf1 := ga.f 1; have gal := ga.lt; have gb_0 := gb.c 0 rfl; have gbf0 := gb.f 0; have gb_1 := gb.c 1 rfl; have gbf1 := gb.f 1; have gbl := gb.lt
    go_wp2_with fail
    clear ga_0 gaf0 ga_1 gaf1 gal gb_0 gbf0 gb_1 gbf1 gbl
    go_ret
    exact ⟨_, rfl, rfl, hx⟩

theorem disj_rec {a b : T} {va vb : Value} {w : World} (ha : (IsId a).p va w) (hb : (IsId b).p vb w) (hz : a.isZero = false) (hz2 : b.isZero = false) (ho : a.isOne = false) (ho2 : b.isOne = false) (c d : Bool)
    (ihl : ∀ (va vb : Value) (w : World), (IsId a.left).p va w → (IsId b.left).p vb w → Calls Try.prog 21 #[va, vb] w (Ret w (PP.eq (.bool c)).p))
    (ihr : ∀ (va vb : Value) (w : World), (IsId a.right).p va w → (IsId b.right).p vb w → Calls Try.prog 21 #[va, vb] w (Ret w (PP.eq (.bool d)).p)) :
    Calls Try.prog 21 #[va, vb] w (Ret w (PP.eq (.bool (c && d))).p) := by
  cases c with
  | true => exact disj_nt ha hb hz hz2 ho ho2 ihl d ihr
  | false => exact disj_nf ha hb hz hz2 ho ho2 ihl

theorem disj_c : ∀ (a b : T) (va vb : Value) (w : World), (IsId a).p va w → (IsId b).p vb w → Calls Try.prog 21 #[va, vb] w (Ret w (PP.eq (.bool (disjT a b))).p)
  | .zero, _, _, _, _, ha, hb => disj_1 ha hb rfl
  | .one, .zero, _, _, _, ha, hb => disj_2 ha hb rfl rfl
  | .node _ _, .zero, _, _, _, ha, hb => disj_2 ha hb rfl rfl
  | .one, .one, _, _, _, ha, hb => disj_3 ha hb rfl rfl rfl
  | .one, .node _ _, _, _, _, ha, hb => disj_3 ha hb rfl rfl rfl
  | .node _ _, .one, _, _, _, ha, hb => disj_4 ha hb rfl rfl rfl rfl
  | .node l r, .node l' r', _, _, _, ha, hb => disj_rec ha hb rfl rfl rfl rfl _ _ (disj_c l l') (disj_c r r')

set_option maxRecDepth 100000 in
set_option maxHeartbeats 1000000 in
theorem cov_1 {a b : T} {va vb : Value} {w : World} (ha : (IsId a).p va w) (hb : (IsId b).p vb w) (ho : a.isOne = true) :
    Calls Try.prog 24 #[va, vb] w (Ret w (PP.eq (.bool true)).p) := by
  obtain ⟨ab, ap, rfl, ha⟩ := ha
  obtain ⟨bb, bp, rfl, hb0⟩ := hb
  go_enter Try.func24, Try.ntmps24
  go_wp2_with fail
  obtain ⟨W, hW, hb, z0, ga, gb⟩ := box2 w [.bool ab, .pointer ap] [.bool bb, .pointer bp] 26 26
  rw [hW]; clear hW
  have hx := hb; replace ha := (PRep a ab ap).mono hb ha; replace hb0 := (PRep b bb bp).mono hb hb0; have s1 := hb.size
  refine (isOne_c (PRep.is ha)).mono ?_
  rintro _ w0 ⟨_, rfl, rfl, hb⟩
  replace hx := Ext.trans hx hb; replace ga := ga.ext hb; replace gb := gb.ext hb; replace ha := (PRep a ab ap).mono hb ha; replace hb0 := (PRep b bb bp).mono hb hb0; have s2 := hb.size
  have ga_0 := ga.c 0 rfl; have gaf0 := ga.f 0; have ga_1 := ga.c 1 rfl; have gaf1 := ga.f 1; have gal := ga.lt; have gb_0 := gb.c 0 rfl; have gbf0 := gb.f 0; have gb_1 := gb.c 1 rfl; have gbf1 := gb.f 1; have gbl := gb.lt
  go_wp2_with fail
  clear ga_0 gaf0 ga_1 gaf1 gal gb_0 gbf0 gb_1 gbf1 gbl
  go_ret
  exact ⟨_, rfl, rfl, hx⟩

set_option maxRecDepth 100000 in
set_option maxHeartbeats 1000000 in
theorem cov_2 {a b : T} {va vb : Value} {w : World} (ha : (IsId a).p va w) (hb : (IsId b).p vb w) (ho : a.isOne = false) (hz2 : b.isZero = true) :
    Calls Try.prog 24 #[va, vb] w (Ret w (PP.eq (.bool true)).p) := by
  obtain ⟨ab, ap, rfl, ha⟩ := ha
  obtain ⟨bb, bp, rfl, hb0⟩ := hb
  go_enter Try.func24, Try.ntmps24
  go_wp2_with fail
  obtain ⟨W, hW, hb, z0, ga, gb⟩ := box2 w [.bool ab, .pointer ap] [.bool bb, .pointer bp] 26 26
  rw [hW]; clear hW
  have hx := hb; replace ha := (PRep a ab ap).mono hb ha; replace hb0 := (PRep b bb bp).mono hb hb0; have s1 := hb.size
  refine (isOne_c (PRep.is ha)).mono ?_
  rintro _ w0 ⟨_, rfl, rfl, hb⟩
  replace hx := Ext.trans hx hb; replace ga := ga.ext hb; replace gb := gb.ext hb; replace ha := (PRep a ab ap).mono hb ha; replace hb0 := (PRep b bb bp).mono hb hb0; have s2 := hb.size
  have ga_0 := ga.c 0 rfl; have gaf0 := ga.f 0; have ga_1 := ga.c 1 rfl; have gaf1 := ga.f 1; have gal := ga.lt; have gb_0 := gb.c 0 rfl; have gbf0 := gb.f 0; have gb_1 := gb.c 1 rfl; have gbf1 := gb.f 1; have gbl := gb.lt
  go_wp2_with fail
  clear ga_0 gaf0 ga_1 gaf1 gal gb_0 gbf0 gb_1 gbf1 gbl
  refine (isZero_c (PRep.is hb0)).mono ?_
  rintro _ w1 ⟨_, rfl, rfl, hb⟩
  replace hx := Ext.trans hx hb; replace ga := ga.ext hb; replace gb := gb.ext hb; replace ha := (PRep a ab ap).mono hb ha; replace hb0 := (PRep b bb bp).mono hb hb0; have s3 := hb.size
  have ga_0 := ga.c 0 rfl; have gaf0 := ga.f 0; have ga_1 := ga.c 1 rfl; have gaf1 := ga.f 1; have gal := ga.lt; have gb_0 := gb.c 0 rfl; have gbf0 := gb.f 0; have gb_1 := gb.c 1 rfl; have gbf1 := gb.f 1; have gbl := gb.lt
  go_wp2_with fail
  clear ga_0 gaf0 ga_1 gaf1 gal gb_0 gbf0 gb_1 gbf1 gbl
  go_ret
  exact ⟨_, rfl, rfl, hx⟩

set_option maxRecDepth 100000 in
set_option maxHeartbeats 1000000 in
theorem cov_3 {a b : T} {va vb : Value} {w : World} (ha : (IsId a).p va w) (hb : (IsId b).p vb w) (ho : a.isOne = false) (hz2 : b.isZero = false) (hz : a.isZero = true) :
    Calls Try.prog 24 #[va, vb] w (Ret w (PP.eq (.bool false)).p) := by
  obtain ⟨ab, ap, rfl, ha⟩ := ha
  obtain ⟨bb, bp, rfl, hb0⟩ := hb
  go_enter Try.func24, Try.ntmps24
  go_wp2_with fail
  obtain ⟨W, hW, hb, z0, ga, gb⟩ := box2 w [.bool ab, .pointer ap] [.bool bb, .pointer bp] 26 26
  rw [hW]; clear hW
  have hx := hb; replace ha := (PRep a ab ap).mono hb ha; replace hb0 := (PRep b bb bp).mono hb hb0; have s1 := hb.size
  refine (isOne_c (PRep.is ha)).mono ?_
  rintro _ w0 ⟨_, rfl, rfl, hb⟩
  replace hx := Ext.trans hx hb; replace ga := ga.ext hb; replace gb := gb.ext hb; replace ha := (PRep a ab ap).mono hb ha; replace hb0 := (PRep b bb bp).mono hb hb0; have s2 := hb.size
  have ga_0 := ga.c 0 rfl; have gaf0 := ga.f 0; have ga_1 := ga.c 1 rfl; have gaf1 := ga.f 1; have gal := ga.lt; have gb_0 := gb.c 0 rfl; have gbf0 := gb.f 0; have gb_1 := gb.c 1 rfl; have gbf1 := gb.f 1; have gbl := gb.lt
  go_wp2_with fail
  clear ga_0 gaf0 ga_1 gaf1 gal gb_0 gbf0 gb_1 gbf1 gbl
  refine (isZero_c (PRep.is hb0)).mono ?_
  rintro _ w1 ⟨_, rfl, rfl, hb⟩
  replace hx := Ext.trans hx hb; replace ga := ga.ext hb; replace gb := gb.ext hb; replace ha := (PRep a ab ap).mono hb ha; replace hb0 := (PRep b bb bp).mono hb hb0; have s3 := hb.size
  have ga_0 := ga.c 0 rfl; have gaf0 := ga.f 0; have ga_1 := ga.c 1 rfl; have gaf1 := ga.f 1; have gal := ga.lt; have gb_0 := gb.c 0 rfl; have gbf0 := gb.f 0; have gb_1 := gb.c 1 rfl; have gbf1 := gb.f 1; have gbl := gb.lt
  go_wp2_with fail
  clear ga_0 gaf0 ga_1 gaf1 gal gb_0 gbf0 gb_1 gbf1 gbl
  refine (isZero_c (PRep.is ha)).mono ?_
  rintro _ w2 ⟨_, rfl, rfl, hb⟩
  replace hx := Ext.trans hx hb; replace ga := ga.ext hb; replace gb := gb.ext hb; replace ha := (PRep a ab ap).mono hb ha; replace hb0 := (PRep b bb bp).mono hb hb0; have s4 := hb.size
  have ga_0 := ga.c 0 rfl; have gaf0 := ga.f 0; have ga_1 := ga.c 1 rfl; have gaf1 := ga.f 1; have gal := ga.lt; have gb_0 := gb.c 0 rfl; have gbf0 := gb.f 0; have gb_1 := gb.c 1 rfl; have gbf1 := gb.f 1; have gbl := gb.lt
  go_wp2_with fail
  clear ga_0 gaf0 ga_1 gaf1 gal gb_0 gbf0 gb_1 gbf1 gbl
  go_ret
  exact ⟨_, rfl, rfl, hx⟩

set_option maxRecDepth 100000 in
set_option maxHeartbeats 1000000 in
theorem cov_4 {a b : T} {va vb : Value} {w : World} (ha : (IsId a).p va w) (hb : (IsId b).p vb w) (ho : a.isOne = false) (hz2 : b.isZero = false) (hz : a.isZero = false) (ho2 : b.isOne = true) :
    Calls Try.prog 24 #[va, vb] w (Ret w (PP.eq (.bool false)).p) := by
  obtain ⟨ab, ap, rfl, ha⟩ := ha
  obtain ⟨bb, bp, rfl, hb0⟩ := hb
  go_enter Try.func24, Try.ntmps24
  go_wp2_with fail
  obtain ⟨W, hW, hb, z0, ga, gb⟩ := box2 w [.bool ab, .pointer ap] [.bool bb, .pointer bp] 26 26
  rw [hW]; clear hW
  have hx := hb; replace ha := (PRep a ab ap).mono hb ha; replace hb0 := (PRep b bb bp).mono hb hb0; have s1 := hb.size
  refine (isOne_c (PRep.is ha)).mono ?_
  rintro _ w0 ⟨_, rfl, rfl, hb⟩
  replace hx := Ext.trans hx hb; replace ga := ga.ext hb; replace gb := gb.ext hb; replace ha := (PRep a ab ap).mono hb ha; replace hb0 := (PRep b bb bp).mono hb hb0; have s2 := hb.size
  have ga_0 := ga.c 0 rfl; have gaf0 := ga.f 0; have ga_1 := ga.c 1 rfl; have gaf1 := ga.f 1; have gal := ga.lt; have gb_0 := gb.c 0 rfl; have gbf0 := gb.f 0; have gb_1 := gb.c 1 rfl; have gbf1 := gb.f 1; have gbl := gb.lt
  go_wp2_with fail
  clear ga_0 gaf0 ga_1 gaf1 gal gb_0 gbf0 gb_1 gbf1 gbl
  refine (isZero_c (PRep.is hb0)).mono ?_
  rintro _ w1 ⟨_, rfl, rfl, hb⟩
  replace hx := Ext.trans hx hb; replace ga := ga.ext hb; replace gb := gb.ext hb; replace ha := (PRep a ab ap).mono hb ha; replace hb0 := (PRep b bb bp).mono hb hb0; have s3 := hb.size
  have ga_0 := ga.c 0 rfl; have gaf0 := ga.f 0; have ga_1 := ga.c 1 rfl; have gaf1 := ga.f 1; have gal := ga.lt; have gb_0 := gb.c 0 rfl; have gbf0 := gb.f 0; have gb_1 := gb.c 1 rfl; have gbf1 := gb.f 1; have gbl := gb.lt
  go_wp2_with fail
  clear ga_0 gaf0 ga_1 gaf1 gal gb_0 gbf0 gb_1 gbf1 gbl
  refine (isZero_c (PRep.is ha)).mono ?_
  rintro _ w2 ⟨_, rfl, rfl, hb⟩
  replace hx := Ext.trans hx hb; replace ga := ga.ext hb; replace gb := gb.ext hb; replace ha := (PRep a ab ap).mono hb ha; replace hb0 := (PRep b bb bp).mono hb hb0; have s4 := hb.size
  have ga_0 := ga.c 0 rfl; have gaf0 := ga.f 0; have ga_1 := ga.c 1 rfl; have gaf1 := ga.f 1; have gal := ga.lt; have gb_0 := gb.c 0 rfl; have gbf0 := gb.f 0; have gb_1 := gb.c 1 rfl; have gbf1 := gb.f 1; have gbl := gb.lt
  go_wp2_with fail
  clear ga_0 gaf0 ga_1 gaf1 gal gb_0 gbf0 gb_1 gbf1 gbl
  refine (isOne_c (PRep.is hb0)).mono ?_
  rintro _ w3 ⟨_, rfl, rfl, hb⟩
  replace hx := Ext.trans hx hb; replace ga := ga.ext hb; replace gb := gb.ext hb; replace ha := (PRep a ab ap).mono hb ha; replace hb0 := (PRep b bb bp).mono hb hb0; have s5 := hb.size
  have ga_0 := ga.c 0 rfl; have gaf0 := ga.f 0; have ga_1 := ga.c 1 rfl; have gaf1 := ga.f 1; have gal := ga.lt; have gb_0 := gb.c 0 rfl; have gbf0 := gb.f 0; have gb_1 := gb.c 1 rfl; have gbf1 := gb.f 1; have gbl := gb.lt
  go_wp2_with fail
  clear ga_0 gaf0 ga_1 gaf1 gal gb_0 gbf0 gb_1 gbf1 gbl
  go_ret
  exact ⟨_, rfl, rfl, hx⟩

set_option maxRecDepth 100000 in
set_option maxHeartbeats 1000000 in
theorem cov_nt {a b : T} {va vb : Value} {w : World} (ha : (IsId a).p va w) (hb : (IsId b).p vb w) (hz : a.isZero = false) (hz2 : b.isZero = false) (ho : a.isOne = false) (ho2 : b.isOne = false) (ihl : ∀ (va vb : Value) (w : World), (IsId a.left).p va w → (IsId b.left).p vb w → Calls Try.prog 24 #[va, vb] w (Ret w (PP.eq (.bool true)).p)) (c : Bool) (ihr : ∀ (va vb : Value) (w : World), (IsId a.right).p va w → (IsId b.right).p vb w → Calls Try.prog 24 #[va, vb] w (Ret w (PP.eq (.bool c)).p)) :
    Calls Try.prog 24 #[va, vb] w (Ret w (PP.eq (.bool c)).p) := by
  obtain ⟨ab, ap, rfl, ha⟩ := ha
  obtain ⟨bb, bp, rfl, hb0⟩ := hb
  go_enter Try.func24, Try.ntmps24
  go_wp2_with fail
  obtain ⟨W, hW, hb, z0, ga, gb⟩ := box2 w [.bool ab, .pointer ap] [.bool bb, .pointer bp] 26 26
  rw [hW]; clear hW
  have hx := hb; replace ha := (PRep a ab ap).mono hb ha; replace hb0 := (PRep b bb bp).mono hb hb0; have s1 := hb.size
  refine (isOne_c (PRep.is ha)).mono ?_
  rintro _ w0 ⟨_, rfl, rfl, hb⟩
  replace hx := Ext.trans hx hb; replace ga := ga.ext hb; replace gb := gb.ext hb; replace ha := (PRep a ab ap).mono hb ha; replace hb0 := (PRep b bb bp).mono hb hb0; have s2 := hb.size
  have ga_0 := ga.c 0 rfl; have gaf0 := ga.f 0; have ga_1 := ga.c 1 rfl; have gaf1 := ga.f 1; have gal := ga.lt; have gb_0 := gb.c 0 rfl; have gbf0 := gb.f 0; have gb_1 := gb.c 1 rfl; have gbf1 := gb.f 1; have gbl := gb.lt
  go_wp2_with fail
  clear ga_0 gaf0 ga_1 gaf1 gal gb_0 gbf0 gb_1 gbf1 gbl
  refine (isZero_c (PRep.is hb0)).mono ?_
  rintro _ w1 ⟨_, rfl, rfl, hb⟩
  replace hx := Ext.trans hx hb; replace ga := ga.ext hb; replace gb := gb.ext hb; replace ha := (PRep a ab ap).mono hb ha; replace hb0 := (PRep b bb bp).mono hb hb0; have s3 := hb.size
  have ga_0 := ga.c 0 rfl; have gaf0 := ga.f 0; have ga_1 := ga.c 1 rfl; have gaf1 := ga.f 1; have gal := ga.lt; have gb_0 := gb.c 0 rfl; have gbf0 := gb.f 0; have gb_1 := gb.c 1 rfl; have gbf1 := gb.f 1; have gbl := gb.lt
  go_wp2_with fail
  clear ga_0 gaf0 ga_1 gaf1 gal gb_0 gbf0 gb_1 gbf1 gbl
  refine (isZero_c (PRep.is ha)).mono ?_
  rintro _ w2 ⟨_, rfl, rfl, hb⟩
  replace hx := Ext.trans hx hb; replace ga := ga.ext hb; replace gb := gb.ext hb; replace ha := (PRep a ab ap).mono hb ha; replace hb0 := (PRep b bb bp).mono hb hb0; have s4 := hb.size
  have ga_0 := ga.c 0 rfl; have gaf0 := ga.f 0; have ga_1 := ga.c 1 rfl; have gaf1 := ga.f 1; have gal := ga.lt; have gb_0 := gb.c 0 rfl; have gbf0 := gb.f 0; have gb_1 := gb.c 1 rfl; have gbf1 := gb.f 1; have gbl := gb.lt
  go_wp2_with fail
  clear ga_0 gaf0 ga_1 gaf1 gal gb_0 gbf0 gb_1 gbf1 gbl
  refine (isOne_c (PRep.is hb0)).mono ?_
  rintro _ w3 ⟨_, rfl, rfl, hb⟩
  replace hx := Ext.trans hx hb; replace ga := ga.ext hb; replace gb := gb.ext hb; replace ha := (PRep a ab ap).mono hb ha; replace hb0 := (PRep b bb bp).mono hb hb0; have s5 := hb.size
  have ga_0 := ga.c 0 rfl; have gaf0 := ga.f 0; have ga_1 := ga.c 1 rfl; have gaf1 := ga.f 1; have gal := ga.lt; have gb_0 := gb.c 0 rfl; have gbf0 := gb.f 0; have gb_1 := gb.c 1 rfl; have gbf1 := gb.f 1; have gbl := gb.lt
  go_wp2_with fail
  clear ga_0 gaf0 ga_1 gaf1 gal gb_0 gbf0 gb_1 gbf1 gbl
  have galt6 := ga.lt
  have gblt6 := gb.lt
  refine wp_facts 12 [] [(IsId a).toPP, (IsId a.left).toPP, (IsId b).toPP, (IsId b.left).toPP, PP.eq (.bool true), PP.eq (.bool true), (IsId a).toPP, (IsId a.right).toPP, (IsId b).toPP, (IsId b.right).toPP, PP.eq (.bool c), PP.eq (.bool c)] (by kernel_rfl) (by kernel_rfl) ⟨?o0, ?o1, ?o2, ?o3, ?o4, ?o5, ?o6, ?o7, ?o8, ?o9, ?o10, ?o11, trivial⟩ ?rest
  case o0 =>
    intro x0 x1 x2 x3 x4 x5 x6 x7 x8 x9 x10 x11 w' hE
    rintro R hR
    have qga0 := (ga.ext hE).c 0 rfl
    have qga1 := (ga.ext hE).c 1 rfl
    simp only [putAll, List.take, List.drop, List.map, Act.put, List.setIfInBounds_toArray, List.set_cons_zero, List.set_cons_succ]
    go_simp
    exact hR _ _ (Ext.refl _) (⟨_, _, rfl, ha.ext hE⟩) trivial
  case o1 =>
    intro x0 x1 x2 x3 x4 x5 x6 x7 x8 x9 x10 x11 w' hE
    rintro d0 R hR
    simp only [putAll, List.take, List.drop, List.map, Act.put, List.setIfInBounds_toArray, List.set_cons_zero, List.set_cons_succ]
    go_simp
    refine (left_c d0).mono ?_
    rintro _ w'' ⟨v, rfl, hv, hb⟩
    exact hR _ _ hb hv trivial
  case o2 =>
    intro x0 x1 x2 x3 x4 x5 x6 x7 x8 x9 x10 x11 w' hE
    rintro R hR
    have qgb0 := (gb.ext hE).c 0 rfl
    have qgb1 := (gb.ext hE).c 1 rfl
    simp only [putAll, List.take, List.drop, List.map, Act.put, List.setIfInBounds_toArray, List.set_cons_zero, List.set_cons_succ]
    go_simp
    exact hR _ _ (Ext.refl _) (⟨_, _, rfl, hb0.ext hE⟩) trivial
  case o3 =>
    intro x0 x1 x2 x3 x4 x5 x6 x7 x8 x9 x10 x11 w' hE
    rintro d2 d1 R hR
    simp only [putAll, List.take, List.drop, List.map, Act.put, List.setIfInBounds_toArray, List.set_cons_zero, List.set_cons_succ]
    go_simp
    refine (left_c d2).mono ?_
    rintro _ w'' ⟨v, rfl, hv, hb⟩
    exact hR _ _ hb hv trivial
  case o4 =>
    intro x0 x1 x2 x3 x4 x5 x6 x7 x8 x9 x10 x11 w' hE
    rintro d1 d3 _ R hR
    simp only [putAll, List.take, List.drop, List.map, Act.put, List.setIfInBounds_toArray, List.set_cons_zero, List.set_cons_succ]
    go_simp
    refine (ihl _ _ _ d1 d3).mono ?_
    rintro _ w'' ⟨v, rfl, hv, hb⟩
    exact hR _ _ hb hv trivial
  case o5 =>
    intro x0 x1 x2 x3 x4 x5 x6 x7 x8 x9 x10 x11 w' hE
    rintro rfl _ R hR
    simp only [putAll, List.take, List.drop, List.map, Act.put, List.setIfInBounds_toArray, List.set_cons_zero, List.set_cons_succ]
    go_simp
    exact hR _ _ (Ext.refl _) (rfl) trivial
  case o6 =>
    intro x0 x1 x2 x3 x4 x5 x6 x7 x8 x9 x10 x11 w' hE
    rintro rfl R hR
    have qga0 := (ga.ext hE).c 0 rfl
    have qga1 := (ga.ext hE).c 1 rfl
    simp only [putAll, List.take, List.drop, List.map, Act.put, List.setIfInBounds_toArray, List.set_cons_zero, List.set_cons_succ]
    go_simp
    exact hR _ _ (Ext.refl _) (⟨_, _, rfl, ha.ext hE⟩) trivial
  case o7 =>
    intro x0 x1 x2 x3 x4 x5 x6 x7 x8 x9 x10 x11 w' hE
    rintro d6 rfl _ R hR
    simp only [putAll, List.take, List.drop, List.map, Act.put, List.setIfInBounds_toArray, List.set_cons_zero, List.set_cons_succ]
    go_simp
    refine (right_c d6).mono ?_
    rintro _ w'' ⟨v, rfl, hv, hb⟩
    exact hR _ _ hb hv trivial
  case o8 =>
    intro x0 x1 x2 x3 x4 x5 x6 x7 x8 x9 x10 x11 w' hE
    rintro rfl R hR
    have qgb0 := (gb.ext hE).c 0 rfl
    have qgb1 := (gb.ext hE).c 1 rfl
    simp only [putAll, List.take, List.drop, List.map, Act.put, List.setIfInBounds_toArray, List.set_cons_zero, List.set_cons_succ]
    go_simp
    exact hR _ _ (Ext.refl _) (⟨_, _, rfl, hb0.ext hE⟩) trivial
  case o9 =>
    intro x0 x1 x2 x3 x4 x5 x6 x7 x8 x9 x10 x11 w' hE
    rintro d8 d7 rfl R hR
    simp only [putAll, List.take, List.drop, List.map, Act.put, List.setIfInBounds_toArray, List.set_cons_zero, List.set_cons_succ]
    go_simp
    refine (right_c d8).mono ?_
    rintro _ w'' ⟨v, rfl, hv, hb⟩
    exact hR _ _ hb hv trivial
  case o10 =>
    intro x0 x1 x2 x3 x4 x5 x6 x7 x8 x9 x10 x11 w' hE
    rintro d7 d9 _ rfl R hR
    simp only [putAll, List.take, List.drop, List.map, Act.put, List.setIfInBounds_toArray, List.set_cons_zero, List.set_cons_succ]
    go_simp
    refine (ihr _ _ _ d7 d9).mono ?_
    rintro _ w'' ⟨v, rfl, hv, hb⟩
    exact hR _ _ hb hv trivial
  case o11 =>
    intro x0 x1 x2 x3 x4 x5 x6 x7 x8 x9 x10 x11 w' hE
    rintro rfl rfl R hR
    simp only [putAll, List.take, List.drop, List.map, Act.put, List.setIfInBounds_toArray, List.set_cons_zero, List.set_cons_succ]
    go_simp
    exact hR _ _ (Ext.refl _) (rfl) trivial
  case rest =>
    intro x0 x1 x2 x3 x4 x5 x6 x7 x8 x9 x10 x11 w9 hb
    rintro _ _ _ _ rfl rfl _ _ _ _ rfl rfl hap
    replace hx := Ext.trans hx hb; replace ga := ga.ext hb; replace gb := gb.ext hb; replace ha := (PRep a ab ap).mono hb ha; replace hb0 := (PRep b bb bp).mono hb hb0; have s7 := hb.size
    clear hap
    simp only [putAll, List.take, List.drop, List.map, Act.put, List.setIfInBounds_toArray, List.set_cons_zero, List.set_cons_succ]
    have ga_0 := ga.c 0 rfl; have gaf0 := ga.f 0; have ga_1 := ga.c 1 rfl; have gaf1 := ga.f 1; have gal := ga.lt; have gb_0 := gb.c 0 rfl; have gbf0 := gb.f 0; have gb_1 := gb.c 1 rfl; have gbf1 := gb.f 1; have gbl := gb.lt
    go_wp2_with fail
    clear ga_0 gaf0 ga_1 gaf1 gal gb_0 gbf0 gb_1 gbf1 gbl
    go_ret
    exact ⟨_, rfl, rfl, hx⟩

set_option maxRecDepth 100000 in
set_option maxHeartbeats 1000000 in
theorem cov_nf {a b : T} {va vb : Value} {w : World} (ha : (IsId a).p va w) (hb : (IsId b).p vb w) (hz : a.isZero = false) (hz2 : b.isZero = false) (ho : a.isOne = false) (ho2 : b.isOne = false) (ihl : ∀ (va vb : Value) (w : World), (IsId a.left).p va w → (IsId b.left).p vb w → Calls Try.prog 24 #[va, vb] w (Ret w (PP.eq (.bool false)).p))  :
    Calls Try.prog 24 #[va, vb] w (Ret w (PP.eq (.bool false)).p) := by
  obtain ⟨ab, ap, rfl, ha⟩ := ha
  obtain ⟨bb, bp, rfl, hb0⟩ := hb
  go_enter Try.func24, Try.ntmps24
  go_wp2_with fail
  obtain ⟨W, hW, hb, z0, ga, gb⟩ := box2 w [.bool ab, .pointer ap] [.bool bb, .pointer bp] 26 26
  rw [hW]; clear hW
  have hx := hb; replace ha := (PRep a ab ap).mono hb ha; replace hb0 := (PRep b bb bp).mono hb hb0; have s1 := hb.size
  refine (isOne_c (PRep.is ha)).mono ?_
  rintro _ w0 ⟨_, rfl, rfl, hb⟩
  replace hx := Ext.trans hx hb; replace ga := ga.ext hb; replace gb := gb.ext hb; replace ha := (PRep a ab ap).mono hb ha; replace hb0 := (PRep b bb bp).mono hb hb0; have s2 := hb.size
  have ga_0 := ga.c 0 rfl; have gaf0 := ga.f 0; have ga_1 := ga.c 1 rfl; have gaf1 := ga.f 1; have gal := ga.lt; have gb_0 := gb.c 0 rfl; have gbf0 := gb.f 0; have gb_1 := gb.c 1 rfl; have gbf1 := gb.f 1; have gbl := gb.lt
  go_wp2_with fail
  clear ga_0 gaf0 ga_1 gaf1 gal gb_0 gbf0 gb_1 gbf1 gbl
  refine (isZero_c (PRep.is hb0)).mono ?_
  rintro _ w1 ⟨_, rfl, rfl, hb⟩
  replace hx := Ext.trans hx hb; replace ga := ga.ext hb; replace gb := gb.ext hb; replace ha := (PRep a ab ap).mono hb ha; replace hb0 := (PRep b bb bp).mono hb hb0; have s3 := hb.size
  have ga_0 := ga.c 0 rfl; have gaf0 := ga.f 0; have ga_1 := ga.c 1 rfl; have gaf1 := ga.f 1; have gal := ga.lt; have gb_0 := gb.c 0 rfl; have gbf0 := gb.f 0; have gb_1 := gb.c 1 rfl; have gbf1 := gb.f 1; have gbl := gb.lt
  go_wp2_with fail
  clear ga_0 gaf0 ga_1 gaf1 gal gb_0 gbf0 gb_1 gbf1 gbl
  refine (isZero_c (PRep.is ha)).mono ?_
  rintro _ w2 ⟨_, rfl, rfl, hb⟩
  replace hx := Ext.trans hx hb; replace ga := ga.ext hb; replace gb := gb.ext hb; replace ha := (PRep a ab ap).mono hb ha; replace hb0 := (PRep b bb bp).mono hb hb0; have s4 := hb.size
  have ga_0 := ga.c 0 rfl; have gaf0 := ga.f 0; have ga_1 := ga.c 1 rfl; have gaf1 := ga.f 1; have gal := ga.lt; have gb_0 := gb.c 0 rfl; have gbf0 := gb.f 0; have gb_1 := gb.c 1 rfl; have gbf1 := gb.f 1; have gbl := gb.lt
  go_wp2_with fail
  clear ga_0 gaf0 ga_1 gaf1 gal gb_0 gbf0 gb_1 gbf1 gbl
  refine (isOne_c (PRep.is hb0)).mono ?_
  rintro _ w3 ⟨_, rfl, rfl, hb⟩
  replace hx := Ext.trans hx hb; replace ga := ga.ext hb; replace gb := gb.ext hb; replace ha := (PRep a ab ap).mono hb ha; replace hb0 := (PRep b bb bp).mono hb hb0; have s5 := hb.size
  have ga_0 := ga.c 0 rfl; have gaf0 := ga.f 0; have ga_1 := ga.c 1 rfl; have gaf1 := ga.f 1; have gal := ga.lt; have gb_0 := gb.c 0 rfl; have gbf0 := gb.f 0; have gb_1 := gb.c 1 rfl; have gbf1 := gb.f 1; have gbl := gb.lt
  go_wp2_with fail
  clear ga_0 gaf0 ga_1 gaf1 gal gb_0 gbf0 gb_1 gbf1 gbl
  have galt6 := ga.lt
  have gblt6 := gb.lt
  refine wp_facts 12 [] [(IsId a).toPP, (IsId a.left).toPP, (IsId b).toPP, (IsId b.left).toPP, PP.eq (.bool false), PP.eq (.bool false), PP.eq undef, PP.eq undef, PP.eq undef, PP.eq undef, PP.eq undef, PP.eq (.bool false)] (by kernel_rfl) (by kernel_rfl) ⟨?o0, ?o1, ?o2, ?o3, ?o4, ?o5, ?o6, ?o7, ?o8, ?o9, ?o10, ?o11, trivial⟩ ?rest
  case o0 =>
    intro x0 x1 x2 x3 x4 x5 x6 x7 x8 x9 x10 x11 w' hE
    rintro R hR
    have qga0 := (ga.ext hE).c 0 rfl
    have qga1 := (ga.ext hE).c 1 rfl
    simp only [putAll, List.take, List.drop, List.map, Act.put, List.setIfInBounds_toArray, List.set_cons_zero, List.set_cons_succ]
    go_simp
    exact hR _ _ (Ext.refl _) (⟨_, _, rfl, ha.ext hE⟩) trivial
  case o1 =>
    intro x0 x1 x2 x3 x4 x5 x6 x7 x8 x9 x10 x11 w' hE
    rintro d0 R hR
    simp only [putAll, List.take, List.drop, List.map, Act.put, List.setIfInBounds_toArray, List.set_cons_zero, List.set_cons_succ]
    go_simp
    refine (left_c d0).mono ?_
    rintro _ w'' ⟨v, rfl, hv, hb⟩
    exact hR _ _ hb hv trivial
  case o2 =>
    intro x0 x1 x2 x3 x4 x5 x6 x7 x8 x9 x10 x11 w' hE
    rintro R hR
    have qgb0 := (gb.ext hE).c 0 rfl
    have qgb1 := (gb.ext hE).c 1 rfl
    simp only [putAll, List.take, List.drop, List.map, Act.put, List.setIfInBounds_toArray, List.set_cons_zero, List.set_cons_succ]
    go_simp
    exact hR _ _ (Ext.refl _) (⟨_, _, rfl, hb0.ext hE⟩) trivial
  case o3 =>
    intro x0 x1 x2 x3 x4 x5 x6 x7 x8 x9 x10 x11 w' hE
    rintro d2 d1 R hR
    simp only [putAll, List.take, List.drop, List.map, Act.put, List.setIfInBounds_toArray, List.set_cons_zero, List.set_cons_succ]
    go_simp
    refine (left_c d2).mono ?_
    rintro _ w'' ⟨v, rfl, hv, hb⟩
    exact hR _ _ hb hv trivial
  case o4 =>
    intro x0 x1 x2 x3 x4 x5 x6 x7 x8 x9 x10 x11 w' hE
    rintro d1 d3 _ R hR
    simp only [putAll, List.take, List.drop, List.map, Act.put, List.setIfInBounds_toArray, List.set_cons_zero, List.set_cons_succ]
    go_simp
    refine (ihl _ _ _ d1 d3).mono ?_
    rintro _ w'' ⟨v, rfl, hv, hb⟩
    exact hR _ _ hb hv trivial
  case o5 =>
    intro x0 x1 x2 x3 x4 x5 x6 x7 x8 x9 x10 x11 w' hE
    rintro rfl _ R hR
    simp only [putAll, List.take, List.drop, List.map, Act.put, List.setIfInBounds_toArray, List.set_cons_zero, List.set_cons_succ]
    go_simp
    exact hR _ _ (Ext.refl _) (rfl) trivial
  case o6 =>
    intro x0 x1 x2 x3 x4 x5 x6 x7 x8 x9 x10 x11 w' hE
    rintro rfl R hR
    simp only [putAll, List.take, List.drop, List.map, Act.put, List.setIfInBounds_toArray, List.set_cons_zero, List.set_cons_succ]
    go_simp
    exact hR _ _ (Ext.refl _) (rfl) trivial
  case o7 =>
    intro x0 x1 x2 x3 x4 x5 x6 x7 x8 x9 x10 x11 w' hE
    rintro rfl rfl _ R hR
    simp only [putAll, List.take, List.drop, List.map, Act.put, List.setIfInBounds_toArray, List.set_cons_zero, List.set_cons_succ]
    go_simp
    exact hR _ _ (Ext.refl _) (rfl) trivial
  case o8 =>
    intro x0 x1 x2 x3 x4 x5 x6 x7 x8 x9 x10 x11 w' hE
    rintro rfl R hR
    simp only [putAll, List.take, List.drop, List.map, Act.put, List.setIfInBounds_toArray, List.set_cons_zero, List.set_cons_succ]
    go_simp
    exact hR _ _ (Ext.refl _) (rfl) trivial
  case o9 =>
    intro x0 x1 x2 x3 x4 x5 x6 x7 x8 x9 x10 x11 w' hE
    rintro rfl rfl rfl R hR
    simp only [putAll, List.take, List.drop, List.map, Act.put, List.setIfInBounds_toArray, List.set_cons_zero, List.set_cons_succ]
    go_simp
    exact hR _ _ (Ext.refl _) (rfl) trivial
  case o10 =>
    intro x0 x1 x2 x3 x4 x5 x6 x7 x8 x9 x10 x11 w' hE
    rintro rfl rfl _ rfl R hR
    simp only [putAll, List.take, List.drop, List.map, Act.put, List.setIfInBounds_toArray, List.set_cons_zero, List.set_cons_succ]
    go_simp
    exact hR _ _ (Ext.refl _) (rfl) trivial
  case o11 =>
    intro x0 x1 x2 x3 x4 x5 x6 x7 x8 x9 x10 x11 w' hE
    rintro rfl rfl R hR
    simp only [putAll, List.take, List.drop, List.map, Act.put, List.setIfInBounds_toArray, List.set_cons_zero, List.set_cons_succ]
    go_simp
    exact hR _ _ (Ext.refl _) (rfl) trivial
  case rest =>
    intro x0 x1 x2 x3 x4 x5 x6 x7 x8 x9 x10 x11 w9 hb
    rintro _ _ _ _ rfl rfl rfl rfl rfl rfl rfl rfl hap
    replace hx := Ext.trans hx hb; replace ga := ga.ext hb; replace gb := gb.ext hb; replace ha := (PRep a ab ap).mono hb ha; replace hb0 := (PRep b bb bp).mono hb hb0; have s7 := hb.size
    clear hap
    simp only [putAll, List.take, List.drop, List.map, Act.put, List.setIfInBounds_toArray, List.set_cons_zero, List.set_cons_succ]
    have ga_0 := ga.c 0 rfl; have gaf0 := ga.f 0; have ga_1 := ga.c 1 rfl; have gaf1 := ga.f 1; have gal := ga.lt; have gb_0 := gb.c 0 rfl; have gbf0 := gb.f 0; have gb_1 := gb.c 1 rfl; have gbf1 := gb.f 1; have gbl := gb.lt
    go_wp2_with fail
    clear ga_0 gaf0 ga_1 gaf1 gal gb_0 gbf0 gb_1 gbf1 gbl
    go_ret
    exact ⟨_, rfl, rfl, hx⟩

theorem cov_rec {a b : T} {va vb : Value} {w : World} (ha : (IsId a).p va w) (hb : (IsId b).p vb w) (hz : a.isZero = false) (hz2 : b.isZero = false) (ho : a.isOne = false) (ho2 : b.isOne = false) (c d : Bool)
    (ihl : ∀ (va vb : Value) (w : World), (IsId a.left).p va w → (IsId b.left).p vb w → Calls Try.prog 24 #[va, vb] w (Ret w (PP.eq (.bool c)).p))
    (ihr : ∀ (va vb : Value) (w : World), (IsId a.right).p va w → (IsId b.right).p vb w → Calls Try.prog 24 #[va, vb] w (Ret w (PP.eq (.bool d)).p)) :
    Calls Try.prog 24 #[va, vb] w (Ret w (PP.eq (.bool (c && d))).p) := by
  cases c with
  | true => exact cov_nt ha hb hz hz2 ho ho2 ihl d ihr
  | false => exact cov_nf ha hb hz hz2 ho ho2 ihl

theorem cov_c : ∀ (a b : T) (va vb : Value) (w : World), (IsId a).p va w → (IsId b).p vb w → Calls Try.prog 24 #[va, vb] w (Ret w (PP.eq (.bool (coverT a b))).p)
  | .one, _, _, _, _, ha, hb => cov_1 ha hb rfl
  | .zero, .zero, _, _, _, ha, hb => cov_2 ha hb rfl rfl
  | .node _ _, .zero, _, _, _, ha, hb => cov_2 ha hb rfl rfl
  | .zero, .one, _, _, _, ha, hb => cov_3 ha hb rfl rfl rfl
  | .zero, .node _ _, _, _, _, ha, hb => cov_3 ha hb rfl rfl rfl
  | .node _ _, .one, _, _, _, ha, hb => cov_4 ha hb rfl rfl rfl rfl
  | .node l r, .node l' r', _, _, _, ha, hb => cov_rec ha hb rfl rfl rfl rfl _ _ (cov_c l l') (cov_c r r')

set_option maxRecDepth 100000 in
set_option maxHeartbeats 1000000 in
theorem same_t {a b : T} {va vb : Value} {w : World} (ha : (IsId a).p va w) (hb : (IsId b).p vb w) (hc : coverT a b = true) :
    Calls Try.prog 16 #[va, vb] w (Ret w (PP.eq (.bool (coverT b a))).p) := by
  obtain ⟨ab, ap, rfl, ha⟩ := ha
  obtain ⟨bb, bp, rfl, hb0⟩ := hb
  go_enter Try.func16, Try.ntmps16
  go_wp2_with fail
  obtain ⟨W, hW, hb, z0, ga, gb⟩ := box2 w [.bool ab, .pointer ap] [.bool bb, .pointer bp] 26 26
  rw [hW]; clear hW
  have hx := hb; replace ha := (PRep a ab ap).mono hb ha; replace hb0 := (PRep b bb bp).mono hb hb0; have s1 := hb.size
  refine (cov_c a b _ _ _ (PRep.is ha) (PRep.is hb0)).mono ?_
  rintro _ w1 ⟨_, rfl, rfl, hb⟩
  replace hx := Ext.trans hx hb; replace ga := ga.ext hb; replace gb := gb.ext hb; replace ha := (PRep a ab ap).mono hb ha; replace hb0 := (PRep b bb bp).mono hb hb0; have s2 := hb.size
  have ga_0 := ga.c 0 rfl; have gaf0 := ga.f 0; have ga_1 := ga.c 1 rfl; have gaf1 := ga.f 1; have gal := ga.lt; have gb_0 := gb.c 0 rfl; have gbf0 := gb.f 0; have gb_1 := gb.c 1 rfl; have gbf1 := gb.f 1; have gbl := gb.lt
  go_wp2_with fail
  clear ga_0 gaf0 ga_1 gaf1 gal gb_0 gbf0 gb_1 gbf1 gbl
  refine (cov_c b a _ _ _ (PRep.is hb0) (PRep.is ha)).mono ?_
  rintro _ w2 ⟨_, rfl, rfl, hb⟩
  replace hx := Ext.trans hx hb; replace ga := ga.ext hb; replace gb := gb.ext hb; replace ha := (PRep a ab ap).mono hb ha; replace hb0 := (PRep b bb bp).mono hb hb0; have s3 := hb.size
  have ga_0 := ga.c 0 rfl; have gaf0 := ga.f 0; have ga_1 := ga.c 1 rfl; have gaf1 := ga.f 1; have gal := ga.lt; have gb_0 := gb.c 0 rfl; have gbf0 := gb.f 0; have gb_1 := gb.c 1 rfl; have gbf1 := gb.f 1; have gbl := gb.lt
  go_wp2_with fail
  clear ga_0 gaf0 ga_1 gaf1 gal gb_0 gbf0 gb_1 gbf1 gbl
  go_ret
  exact ⟨_, rfl, rfl, hx⟩

set_option maxRecDepth 100000 in
set_option maxHeartbeats 1000000 in
theorem same_f {a b : T} {va vb : Value} {w : World} (ha : (IsId a).p va w) (hb : (IsId b).p vb w) (hc : coverT a b = false) :
    Calls Try.prog 16 #[va, vb] w (Ret w (PP.eq (.bool false)).p) := by
  obtain ⟨ab, ap, rfl, ha⟩ := ha
  obtain ⟨bb, bp, rfl, hb0⟩ := hb
  go_enter Try.func16, Try.ntmps16
  go_wp2_with fail
  obtain ⟨W, hW, hb, z0, ga, gb⟩ := box2 w [.bool ab, .pointer ap] [.bool bb, .pointer bp] 26 26
  rw [hW]; clear hW
  have hx := hb; replace ha := (PRep a ab ap).mono hb ha; replace hb0 := (PRep b bb bp).mono hb hb0; have s1 := hb.size
  refine (cov_c a b _ _ _ (PRep.is ha) (PRep.is hb0)).mono ?_
  rintro _ w1 ⟨_, rfl, rfl, hb⟩
  replace hx := Ext.trans hx hb; replace ga := ga.ext hb; replace gb := gb.ext hb; replace ha := (PRep a ab ap).mono hb ha; replace hb0 := (PRep b bb bp).mono hb hb0; have s2 := hb.size
  have ga_0 := ga.c 0 rfl; have gaf0 := ga.f 0; have ga_1 := ga.c 1 rfl; have gaf1 := ga.f 1; have gal := ga.lt; have gb_0 := gb.c 0 rfl; have gbf0 := gb.f 0; have gb_1 := gb.c 1 rfl; have gbf1 := gb.f 1; have gbl := gb.lt
  go_wp2_with fail
  clear ga_0 gaf0 ga_1 gaf1 gal gb_0 gbf0 gb_1 gbf1 gbl
  go_ret
  exact ⟨_, rfl, rfl, hx⟩

def sameT (a b : T) : Bool := coverT a b && coverT b a
theorem same_c {a b : T} {va vb : Value} {w : World} (ha : (IsId a).p va w) (hb : (IsId b).p vb w) : Calls Try.prog 16 #[va, vb] w (Ret w (PP.eq (.bool (sameT a b))).p) := by
  unfold sameT
  cases h : coverT a b with
  | true => exact same_t ha hb h
  | false => exact same_f ha hb h

set_option maxRecDepth 100000 in
set_option maxHeartbeats 1000000 in
theorem un_1 {a b : T} {va vb : Value} {w : World} (ha : (IsId a).p va w) (hb : (IsId b).p vb w) (hz : a.isZero = true) :
    Calls Try.prog 42 #[va, vb] w (Ret w (IsId b).p) := by
  obtain ⟨ab, ap, rfl, ha⟩ := ha
  obtain ⟨bb, bp, rfl, hb0⟩ := hb
  go_enter Try.func42, Try.ntmps42
  go_wp2_with fail
  obtain ⟨W, hW, hb, z0, ga, gb, gz⟩ := box3 w [.bool ab, .pointer ap] [.bool bb, .pointer bp] [.bool false, .pointer none] 26 26 26
  rw [hW]; clear hW
  have hx := hb; replace ha := (PRep a ab ap).mono hb ha; replace hb0 := (PRep b bb bp).mono hb hb0; have s1 := hb.size
  refine (isZero_c (PRep.is ha)).mono ?_
  rintro _ w0 ⟨_, rfl, rfl, hb⟩
  replace hx := Ext.trans hx hb; replace ga := ga.ext hb; replace gb := gb.ext hb; replace gz := gz.ext hb; replace ha := (PRep a ab ap).mono hb ha; replace hb0 := (PRep b bb bp).mono hb hb0; have s2 := hb.size
  have ga_0 := ga.c 0 rfl; have gaf0 := ga.f 0; have ga_1 := ga.c 1 rfl; have gaf1 := ga.f 1; have gal := ga.lt; have gb_0 := gb.c 0 rfl; have gbf0 := gb.f 0; have gb_1 := gb.c 1 rfl; have gbf1 := gb.f 1; have gbl := gb.lt; have gz_0 := gz.c 0 rfl; have gzf0 := gz.f 0; have gz_1 := gz.c 1 rfl; have gzf1 := gz.f 1; have gzl := gz.lt
  go_wp2_with fail
  clear ga_0 gaf0 ga_1 gaf1 gal gb_0 gbf0 gb_1 gbf1 gbl gz_0 gzf0 gz_1 gzf1 gzl
  obtain ⟨y1, hW, st⟩ := ex2 gz (.bool bb) (.pointer bp)
  rw [hW]; clear hW
  replace hx : Ext w y1 := st.below hx (by omega); replace ga := st.keep ga (by omega); replace gb := st.keep gb (by omega); replace gz := st.blk; replace ha := (PRep a ab ap).imm (st.imm TS (by decide)) ha; replace hb0 := (PRep b bb bp).imm (st.imm TS (by decide)) hb0; have s3 := st.size
  have e0 := gz.c 0 rfl; have e1 := gz.c 1 rfl
  exact ret_of (idv bb bp) (by simp [results, Try.results42, go_sem, e0, e1]) rfl (PRep.is hb0) hx

set_option maxRecDepth 100000 in
set_option maxHeartbeats 1000000 in
theorem un_2 {a b : T} {va vb : Value} {w : World} (ha : (IsId a).p va w) (hb : (IsId b).p vb w) (hz : a.isZero = false) (ho2 : b.isOne = true) :
    Calls Try.prog 42 #[va, vb] w (Ret w (IsId b).p) := by
  obtain ⟨ab, ap, rfl, ha⟩ := ha
  obtain ⟨bb, bp, rfl, hb0⟩ := hb
  go_enter Try.func42, Try.ntmps42
  go_wp2_with fail
  obtain ⟨W, hW, hb, z0, ga, gb, gz⟩ := box3 w [.bool ab, .pointer ap] [.bool bb, .pointer bp] [.bool false, .pointer none] 26 26 26
  rw [hW]; clear hW
  have hx := hb; replace ha := (PRep a ab ap).mono hb ha; replace hb0 := (PRep b bb bp).mono hb hb0; have s1 := hb.size
  refine (isZero_c (PRep.is ha)).mono ?_
  rintro _ w0 ⟨_, rfl, rfl, hb⟩
  replace hx := Ext.trans hx hb; replace ga := ga.ext hb; replace gb := gb.ext hb; replace gz := gz.ext hb; replace ha := (PRep a ab ap).mono hb ha; replace hb0 := (PRep b bb bp).mono hb hb0; have s2 := hb.size
  have ga_0 := ga.c 0 rfl; have gaf0 := ga.f 0; have ga_1 := ga.c 1 rfl; have gaf1 := ga.f 1; have gal := ga.lt; have gb_0 := gb.c 0 rfl; have gbf0 := gb.f 0; have gb_1 := gb.c 1 rfl; have gbf1 := gb.f 1; have gbl := gb.lt; have gz_0 := gz.c 0 rfl; have gzf0 := gz.f 0; have gz_1 := gz.c 1 rfl; have gzf1 := gz.f 1; have gzl := gz.lt
  go_wp2_with fail
  clear ga_0 gaf0 ga_1 gaf1 gal gb_0 gbf0 gb_1 gbf1 gbl gz_0 gzf0 gz_1 gzf1 gzl
  refine (isOne_c (PRep.is hb0)).mono ?_
  rintro _ w1 ⟨_, rfl, rfl, hb⟩
  replace hx := Ext.trans hx hb; replace ga := ga.ext hb; replace gb := gb.ext hb; replace gz := gz.ext hb; replace ha := (PRep a ab ap).mono hb ha; replace hb0 := (PRep b bb bp).mono hb hb0; have s3 := hb.size
  have ga_0 := ga.c 0 rfl; have gaf0 := ga.f 0; have ga_1 := ga.c 1 rfl; have gaf1 := ga.f 1; have gal := ga.lt; have gb_0 := gb.c 0 rfl; have gbf0 := gb.f 0; have gb_1 := gb.c 1 rfl; have gbf1 := gb.f 1; have gbl := gb.lt; have gz_0 := gz.c 0 rfl; have gzf0 := gz.f 0; have gz_1 := gz.c 1 rfl; have gzf1 := gz.f 1; have gzl := gz.lt
  go_wp2_with fail
  clear ga_0 gaf0 ga_1 gaf1 gal gb_0 gbf0 gb_1 gbf1 gbl gz_0 gzf0 gz_1 gzf1 gzl
  obtain ⟨y1, hW, st⟩ := ex2 gz (.bool bb) (.pointer bp)
  rw [hW]; clear hW
  replace hx : Ext w y1 := st.below hx (by omega); replace ga := st.keep ga (by omega); replace gb := st.keep gb (by omega); replace gz := st.blk; replace ha := (PRep a ab ap).imm (st.imm TS (by decide)) ha; replace hb0 := (PRep b bb bp).imm (st.imm TS (by decide)) hb0; have s4 := st.size
  have e0 := gz.c 0 rfl; have e1 := gz.c 1 rfl
  exact ret_of (idv bb bp) (by simp [results, Try.results42, go_sem, e0, e1]) rfl (PRep.is hb0) hx

set_option maxRecDepth 100000 in
set_option maxHeartbeats 1000000 in
theorem un_3 {a b : T} {va vb : Value} {w : World} (ha : (IsId a).p va w) (hb : (IsId b).p vb w) (hz : a.isZero = false) (ho2 : b.isOne = false) (hz2 : b.isZero = true) :
    Calls Try.prog 42 #[va, vb] w (Ret w (IsId a).p) := by
  obtain ⟨ab, ap, rfl, ha⟩ := ha
  obtain ⟨bb, bp, rfl, hb0⟩ := hb
  go_enter Try.func42, Try.ntmps42
  go_wp2_with fail
  obtain ⟨W, hW, hb, z0, ga, gb, gz⟩ := box3 w [.bool ab, .pointer ap] [.bool bb, .pointer bp] [.bool false, .pointer none] 26 26 26
  rw [hW]; clear hW
  have hx := hb; replace ha := (PRep a ab ap).mono hb ha; replace hb0 := (PRep b bb bp).mono hb hb0; have s1 := hb.size
  refine (isZero_c (PRep.is ha)).mono ?_
  rintro _ w0 ⟨_, rfl, rfl, hb⟩
  replace hx := Ext.trans hx hb; replace ga := ga.ext hb; replace gb := gb.ext hb; replace gz := gz.ext hb; replace ha := (PRep a ab ap).mono hb ha; replace hb0 := (PRep b bb bp).mono hb hb0; have s2 := hb.size
  have ga_0 := ga.c 0 rfl; have gaf0 := ga.f 0; have ga_1 := ga.c 1 rfl; have gaf1 := ga.f 1; have gal := ga.lt; have gb_0 := gb.c 0 rfl; have gbf0 := gb.f 0; have gb_1 := gb.c 1 rfl; have gbf1 := gb.f 1; have gbl := gb.lt; have gz_0 := gz.c 0 rfl; have gzf0 := gz.f 0; have gz_1 := gz.c 1 rfl; have gzf1 := gz.f 1; have gzl := gz.lt
  go_wp2_with fail
  clear ga_0 gaf0 ga_1 gaf1 gal gb_0 gbf0 gb_1 gbf1 gbl gz_0 gzf0 gz_1 gzf1 gzl
  refine (isOne_c (PRep.is hb0)).mono ?_
  rintro _ w1 ⟨_, rfl, rfl, hb⟩
  replace hx := Ext.trans hx hb; replace ga := ga.ext hb; replace gb := gb.ext hb; replace gz := gz.ext hb; replace ha := (PRep a ab ap).mono hb ha; replace hb0 := (PRep b bb bp).mono hb hb0; have s3 := hb.size
  have ga_0 := ga.c 0 rfl; have gaf0 := ga.f 0; have ga_1 := ga.c 1 rfl; have gaf1 := ga.f 1; have gal := ga.lt; have gb_0 := gb.c 0 rfl; have gbf0 := gb.f 0; have gb_1 := gb.c 1 rfl; have gbf1 := gb.f 1; have gbl := gb.lt; have gz_0 := gz.c 0 rfl; have gzf0 := gz.f 0; have gz_1 := gz.c 1 rfl; have gzf1 := gz.f 1; have gzl := gz.lt
  go_wp2_with fail
  clear ga_0 gaf0 ga_1 gaf1 gal gb_0 gbf0 gb_1 gbf1 gbl gz_0 gzf0 gz_1 gzf1 gzl
  refine (isZero_c (PRep.is hb0)).mono ?_
  rintro _ w2 ⟨_, rfl, rfl, hb⟩
  replace hx := Ext.trans hx hb; replace ga := ga.ext hb; replace gb := gb.ext hb; replace gz := gz.ext hb; replace ha := (PRep a ab ap).mono hb ha; replace hb0 := (PRep b bb bp).mono hb hb0; have s4 := hb.size
  have ga_0 := ga.c 0 rfl; have gaf0 := ga.f 0; have ga_1 := ga.c 1 rfl; have gaf1 := ga.f 1; have gal := ga.lt; have gb_0 := gb.c 0 rfl; have gbf0 := gb.f 0; have gb_1 := gb.c 1 rfl; have gbf1 := gb.f 1; have gbl := gb.lt; have gz_0 := gz.c 0 rfl; have gzf0 := gz.f 0; have gz_1 := gz.c 1 rfl; have gzf1 := gz.f 1; have gzl := gz.lt
  go_wp2_with fail
  clear ga_0 gaf0 ga_1 gaf1 gal gb_0 gbf0 gb_1 gbf1 gbl gz_0 gzf0 gz_1 gzf1 gzl
  obtain ⟨y1, hW, st⟩ := ex2 gz (.bool ab) (.pointer ap)
  rw [hW]; clear hW
  replace hx : Ext w y1 := st.below hx (by omega); replace ga := st.keep ga (by omega); replace gb := st.keep gb (by omega); replace gz := st.blk; replace ha := (PRep a ab ap).imm (st.imm TS (by decide)) ha; replace hb0 := (PRep b bb bp).imm (st.imm TS (by decide)) hb0; have s5 := st.size
  have e0 := gz.c 0 rfl; have e1 := gz.c 1 rfl
  exact ret_of (idv ab ap) (by simp [results, Try.results42, go_sem, e0, e1]) rfl (PRep.is ha) hx

set_option maxRecDepth 100000 in
set_option maxHeartbeats 1000000 in
theorem un_4 {a b : T} {va vb : Value} {w : World} (ha : (IsId a).p va w) (hb : (IsId b).p vb w) (hz : a.isZero = false) (ho2 : b.isOne = false) (hz2 : b.isZero = false) (ho : a.isOne = true) :
    Calls Try.prog 42 #[va, vb] w (Ret w (IsId a).p) := by
  obtain ⟨ab, ap, rfl, ha⟩ := ha
  obtain ⟨bb, bp, rfl, hb0⟩ := hb
  go_enter Try.func42, Try.ntmps42
  go_wp2_with fail
  obtain ⟨W, hW, hb, z0, ga, gb, gz⟩ := box3 w [.bool ab, .pointer ap] [.bool bb, .pointer bp] [.bool false, .pointer none] 26 26 26
  rw [hW]; clear hW
  have hx := hb; replace ha := (PRep a ab ap).mono hb ha; replace hb0 := (PRep b bb bp).mono hb hb0; have s1 := hb.size
  refine (isZero_c (PRep.is ha)).mono ?_
  rintro _ w0 ⟨_, rfl, rfl, hb⟩
  replace hx := Ext.trans hx hb; replace ga := ga.ext hb; replace gb := gb.ext hb; replace gz := gz.ext hb; replace ha := (PRep a ab ap).mono hb ha; replace hb0 := (PRep b bb bp).mono hb hb0; have s2 := hb.size
  have ga_0 := ga.c 0 rfl; have gaf0 := ga.f 0; have ga_1 := ga.c 1 rfl; have gaf1 := ga.f 1; have gal := ga.lt; have gb_0 := gb.c 0 rfl; have gbf0 := gb.f 0; have gb_1 := gb.c 1 rfl; have gbf1 := gb.f 1; have gbl := gb.lt; have gz_0 := gz.c 0 rfl; have gzf0 := gz.f 0; have gz_1 := gz.c 1 rfl; have gzf1 := gz.f 1; have gzl := gz.lt
  go_wp2_with fail
  clear ga_0 gaf0 ga_1 gaf1 gal gb_0 gbf0 gb_1 gbf1 gbl gz_0 gzf0 gz_1 gzf1 gzl
  refine (isOne_c (PRep.is hb0)).mono ?_
  rintro _ w1 ⟨_, rfl, rfl, hb⟩
  replace hx := Ext.trans hx hb; replace ga := ga.ext hb; replace gb := gb.ext hb; replace gz := gz.ext hb; replace ha := (PRep a ab ap).mono hb ha; replace hb0 := (PRep b bb bp).mono hb hb0; have s3 := hb.size
  have ga_0 := ga.c 0 rfl; have gaf0 := ga.f 0; have ga_1 := ga.c 1 rfl; have gaf1 := ga.f 1; have gal := ga.lt; have gb_0 := gb.c 0 rfl; have gbf0 := gb.f 0; have gb_1 := gb.c 1 rfl; have gbf1 := gb.f 1; have gbl := gb.lt; have gz_0 := gz.c 0 rfl; have gzf0 := gz.f 0; have gz_1 := gz.c 1 rfl; have gzf1 := gz.f 1; have gzl := gz.lt
  go_wp2_with fail
  clear ga_0 gaf0 ga_1 gaf1 gal gb_0 gbf0 gb_1 gbf1 gbl gz_0 gzf0 gz_1 gzf1 gzl
  refine (isZero_c (PRep.is hb0)).mono ?_
  rintro _ w2 ⟨_, rfl, rfl, hb⟩
  replace hx := Ext.trans hx hb; replace ga := ga.ext hb; replace gb := gb.ext hb; replace gz := gz.ext hb; replace ha := (PRep a ab ap).mono hb ha; replace hb0 := (PRep b bb bp).mono hb hb0; have s4 := hb.size
  have ga_0 := ga.c 0 rfl; have gaf0 := ga.f 0; have ga_1 := ga.c 1 rfl; have gaf1 := ga.f 1; have gal := ga.lt; have gb_0 := gb.c 0 rfl; have gbf0 := gb.f 0; have gb_1 := gb.c 1 rfl; have gbf1 := gb.f 1; have gbl := gb.lt; have gz_0 := gz.c 0 rfl; have gzf0 := gz.f 0; have gz_1 := gz.c 1 rfl; have gzf1 := gz.f 1; have gzl := gz.lt
  go_wp2_with fail
  clear ga_0 gaf0 ga_1 gaf1 gal gb_0 gbf0 gb_1 gbf1 gbl gz_0 gzf0 gz_1 gzf1 gzl
  refine (isOne_c (PRep.is ha)).mono ?_
  rintro _ w3 ⟨_, rfl, rfl, hb⟩
  replace hx := Ext.trans hx hb; replace ga := ga.ext hb; replace gb := gb.ext hb; replace gz := gz.ext hb; replace ha := (PRep a ab ap).mono hb ha; replace hb0 := (PRep b bb bp).mono hb hb0; have s5 := hb.size
  have ga_0 := ga.c 0 rfl; have gaf0 := ga.f 0; have ga_1 := ga.c 1 rfl; have gaf1 := ga.f 1; have gal := ga.lt; have gb_0 := gb.c 0 rfl; have gbf0 := gb.f 0; have gb_1 := gb.c 1 rfl; have gbf1 := gb.f 1; have gbl := gb.lt; have gz_0 := gz.c 0 rfl; have gzf0 := gz.f 0; have gz_1 := gz.c 1 rfl; have gzf1 := gz.f 1; have gzl := gz.lt
  go_wp2_with fail
  clear ga_0 gaf0 ga_1 gaf1 gal gb_0 gbf0 gb_1 gbf1 gbl gz_0 gzf0 gz_1 gzf1 gzl
  obtain ⟨y1, hW, st⟩ := ex2 gz (.bool ab) (.pointer ap)
  rw [hW]; clear hW
  replace hx : Ext w y1 := st.below hx (by omega); replace ga := st.keep ga (by omega); replace gb := st.keep gb (by omega); replace gz := st.blk; replace ha := (PRep a ab ap).imm (st.imm TS (by decide)) ha; replace hb0 := (PRep b bb bp).imm (st.imm TS (by decide)) hb0; have s6 := st.size
  have e0 := gz.c 0 rfl; have e1 := gz.c 1 rfl
  exact ret_of (idv ab ap) (by simp [results, Try.results42, go_sem, e0, e1]) rfl (PRep.is ha) hx

set_option maxRecDepth 100000 in
set_option maxHeartbeats 1000000 in
theorem un_n {a b : T} {va vb : Value} {w : World} (ha : (IsId a).p va w) (hb : (IsId b).p vb w) (hz : a.isZero = false) (ho2 : b.isOne = false) (hz2 : b.isZero = false) (ho : a.isOne = false) (x y : T) (hdx : x.depth ≤ 1000) (hdy : y.depth ≤ 1000) (ihl : ∀ (va vb : Value) (w : World), (IsId a.left).p va w → (IsId b.left).p vb w → Calls Try.prog 42 #[va, vb] w (Ret w (IsId x).p)) (ihr : ∀ (va vb : Value) (w : World), (IsId a.right).p va w → (IsId b.right).p vb w → Calls Try.prog 42 #[va, vb] w (Ret w (IsId y).p)) :
    Calls Try.prog 42 #[va, vb] w (Ret w (IsId (T.mk x y)).p) := by
  obtain ⟨ab, ap, rfl, ha⟩ := ha
  obtain ⟨bb, bp, rfl, hb0⟩ := hb
  go_enter Try.func42, Try.ntmps42
  go_wp2_with fail
  obtain ⟨W, hW, hb, z0, ga, gb, gz⟩ := box3 w [.bool ab, .pointer ap] [.bool bb, .pointer bp] [.bool false, .pointer none] 26 26 26
  rw [hW]; clear hW
  have hx := hb; replace ha := (PRep a ab ap).mono hb ha; replace hb0 := (PRep b bb bp).mono hb hb0; have s1 := hb.size
  refine (isZero_c (PRep.is ha)).mono ?_
  rintro _ w0 ⟨_, rfl, rfl, hb⟩
  replace hx := Ext.trans hx hb; replace ga := ga.ext hb; replace gb := gb.ext hb; replace gz := gz.ext hb; replace ha := (PRep a ab ap).mono hb ha; replace hb0 := (PRep b bb bp).mono hb hb0; have s2 := hb.size
  have ga_0 := ga.c 0 rfl; have gaf0 := ga.f 0; have ga_1 := ga.c 1 rfl; have gaf1 := ga.f 1; have gal := ga.lt; have gb_0 := gb.c 0 rfl; have gbf0 := gb.f 0; have gb_1 := gb.c 1 rfl; have gbf1 := gb.f 1; have gbl := gb.lt; have gz_0 := gz.c 0 rfl; have gzf0 := gz.f 0; have gz_1 := gz.c 1 rfl; have gzf1 := gz.f 1; have gzl := gz.lt
  go_wp2_with fail
  clear ga_0 gaf0 ga_1 gaf1 gal gb_0 gbf0 gb_1 gbf1 gbl gz_0 gzf0 gz_1 gzf1 gzl
  refine (isOne_c (PRep.is hb0)).mono ?_
  rintro _ w1 ⟨_, rfl, rfl, hb⟩
  replace hx := Ext.trans hx hb; replace ga := ga.ext hb; replace gb := gb.ext hb; replace gz := gz.ext hb; replace ha := (PRep a ab ap).mono hb ha; replace hb0 := (PRep b bb bp).mono hb hb0; have s3 := hb.size
  have ga_0 := ga.c 0 rfl; have gaf0 := ga.f 0; have ga_1 := ga.c 1 rfl; have gaf1 := ga.f 1; have gal := ga.lt; have gb_0 := gb.c 0 rfl; have gbf0 := gb.f 0; have gb_1 := gb.c 1 rfl; have gbf1 := gb.f 1; have gbl := gb.lt; have gz_0 := gz.c 0 rfl; have gzf0 := gz.f 0; have gz_1 := gz.c 1 rfl; have gzf1 := gz.f 1; have gzl := gz.lt
  go_wp2_with fail
  clear ga_0 gaf0 ga_1 gaf1 gal gb_0 gbf0 gb_1 gbf1 gbl gz_0 gzf0 gz_1 gzf1 gzl
  refine (isZero_c (PRep.is hb0)).mono ?_
  rintro _ w2 ⟨_, rfl, rfl, hb⟩
  replace hx := Ext.trans hx hb; replace ga := ga.ext hb; replace gb := gb.ext hb; replace gz := gz.ext hb; replace ha := (PRep a ab ap).mono hb ha; replace hb0 := (PRep b bb bp).mono hb hb0; have s4 := hb.size
  have ga_0 := ga.c 0 rfl; have gaf0 := ga.f 0; have ga_1 := ga.c 1 rfl; have gaf1 := ga.f 1; have gal := ga.lt; have gb_0 := gb.c 0 rfl; have gbf0 := gb.f 0; have gb_1 := gb.c 1 rfl; have gbf1 := gb.f 1; have gbl := gb.lt; have gz_0 := gz.c 0 rfl; have gzf0 := gz.f 0; have gz_1 := gz.c 1 rfl; have gzf1 := gz.f 1; have gzl := gz.lt
  go_wp2_with fail
  clear ga_0 gaf0 ga_1 gaf1 gal gb_0 gbf0 gb_1 gbf1 gbl gz_0 gzf0 gz_1 gzf1 gzl
  refine (isOne_c (PRep.is ha)).mono ?_
  rintro _ w3 ⟨_, rfl, rfl, hb⟩
  replace hx := Ext.trans hx hb; replace ga := ga.ext hb; replace gb := gb.ext hb; replace gz := gz.ext hb; replace ha := (PRep a ab ap).mono hb ha; replace hb0 := (PRep b bb bp).mono hb hb0; have s5 := hb.size
  have ga_0 := ga.c 0 rfl; have gaf0 := ga.f 0; have ga_1 := ga.c 1 rfl; have gaf1 := ga.f 1; have gal := ga.lt; have gb_0 := gb.c 0 rfl; have gbf0 := gb.f 0; have gb_1 := gb.c 1 rfl; have gbf1 := gb.f 1; have gbl := gb.lt; have gz_0 := gz.c 0 rfl; have gzf0 := gz.f 0; have gz_1 := gz.c 1 rfl; have gzf1 := gz.f 1; have gzl := gz.lt
  go_wp2_with fail
  clear ga_0 gaf0 ga_1 gaf1 gal gb_0 gbf0 gb_1 gbf1 gbl gz_0 gzf0 gz_1 gzf1 gzl
  have galt6 := ga.lt
  have gblt6 := gb.lt
  have gzlt6 := gz.lt
  refine wp_facts 11 [] [(IsId a).toPP, (IsId a.left).toPP, (IsId b).toPP, (IsId b.left).toPP, (IsId x).toPP, (IsId a).toPP, (IsId a.right).toPP, (IsId b).toPP, (IsId b.right).toPP, (IsId y).toPP, (IsId (T.mk x y)).toPP] (by kernel_rfl) (by kernel_rfl) ⟨?o0, ?o1, ?o2, ?o3, ?o4, ?o5, ?o6, ?o7, ?o8, ?o9, ?o10, trivial⟩ ?rest
  case o0 =>
    intro x0 x1 x2 x3 x4 x5 x6 x7 x8 x9 x10 w' hE
    rintro R hR
    have qga0 := (ga.ext hE).c 0 rfl
    have qga1 := (ga.ext hE).c 1 rfl
    simp only [putAll, List.take, List.drop, List.map, Act.put, List.setIfInBounds_toArray, List.set_cons_zero, List.set_cons_succ]
    go_simp
    exact hR _ _ (Ext.refl _) (⟨_, _, rfl, ha.ext hE⟩) trivial
  case o1 =>
    intro x0 x1 x2 x3 x4 x5 x6 x7 x8 x9 x10 w' hE
    rintro d0 R hR
    simp only [putAll, List.take, List.drop, List.map, Act.put, List.setIfInBounds_toArray, List.set_cons_zero, List.set_cons_succ]
    go_simp
    refine (left_c d0).mono ?_
    rintro _ w'' ⟨v, rfl, hv, hb⟩
    exact hR _ _ hb hv trivial
  case o2 =>
    intro x0 x1 x2 x3 x4 x5 x6 x7 x8 x9 x10 w' hE
    rintro R hR
    have qgb0 := (gb.ext hE).c 0 rfl
    have qgb1 := (gb.ext hE).c 1 rfl
    simp only [putAll, List.take, List.drop, List.map, Act.put, List.setIfInBounds_toArray, List.set_cons_zero, List.set_cons_succ]
    go_simp
    exact hR _ _ (Ext.refl _) (⟨_, _, rfl, hb0.ext hE⟩) trivial
  case o3 =>
    intro x0 x1 x2 x3 x4 x5 x6 x7 x8 x9 x10 w' hE
    rintro d2 d1 R hR
    simp only [putAll, List.take, List.drop, List.map, Act.put, List.setIfInBounds_toArray, List.set_cons_zero, List.set_cons_succ]
    go_simp
    refine (left_c d2).mono ?_
    rintro _ w'' ⟨v, rfl, hv, hb⟩
    exact hR _ _ hb hv trivial
  case o4 =>
    intro x0 x1 x2 x3 x4 x5 x6 x7 x8 x9 x10 w' hE
    rintro d1 d3 _ R hR
    simp only [putAll, List.take, List.drop, List.map, Act.put, List.setIfInBounds_toArray, List.set_cons_zero, List.set_cons_succ]
    go_simp
    refine (ihl _ _ _ d1 d3).mono ?_
    rintro _ w'' ⟨v, rfl, hv, hb⟩
    exact hR _ _ hb hv trivial
  case o5 =>
    intro x0 x1 x2 x3 x4 x5 x6 x7 x8 x9 x10 w' hE
    rintro R hR
    have qga0 := (ga.ext hE).c 0 rfl
    have qga1 := (ga.ext hE).c 1 rfl
    simp only [putAll, List.take, List.drop, List.map, Act.put, List.setIfInBounds_toArray, List.set_cons_zero, List.set_cons_succ]
    go_simp
    exact hR _ _ (Ext.refl _) (⟨_, _, rfl, ha.ext hE⟩) trivial
  case o6 =>
    intro x0 x1 x2 x3 x4 x5 x6 x7 x8 x9 x10 w' hE
    rintro d5 d4 R hR
    simp only [putAll, List.take, List.drop, List.map, Act.put, List.setIfInBounds_toArray, List.set_cons_zero, List.set_cons_succ]
    go_simp
    refine (right_c d5).mono ?_
    rintro _ w'' ⟨v, rfl, hv, hb⟩
    exact hR _ _ hb hv trivial
  case o7 =>
    intro x0 x1 x2 x3 x4 x5 x6 x7 x8 x9 x10 w' hE
    rintro R hR
    have qgb0 := (gb.ext hE).c 0 rfl
    have qgb1 := (gb.ext hE).c 1 rfl
    simp only [putAll, List.take, List.drop, List.map, Act.put, List.setIfInBounds_toArray, List.set_cons_zero, List.set_cons_succ]
    go_simp
    exact hR _ _ (Ext.refl _) (⟨_, _, rfl, hb0.ext hE⟩) trivial
  case o8 =>
    intro x0 x1 x2 x3 x4 x5 x6 x7 x8 x9 x10 w' hE
    rintro d7 d6 R hR
    simp only [putAll, List.take, List.drop, List.map, Act.put, List.setIfInBounds_toArray, List.set_cons_zero, List.set_cons_succ]
    go_simp
    refine (right_c d7).mono ?_
    rintro _ w'' ⟨v, rfl, hv, hb⟩
    exact hR _ _ hb hv trivial
  case o9 =>
    intro x0 x1 x2 x3 x4 x5 x6 x7 x8 x9 x10 w' hE
    rintro d6 d8 _ R hR
    simp only [putAll, List.take, List.drop, List.map, Act.put, List.setIfInBounds_toArray, List.set_cons_zero, List.set_cons_succ]
    go_simp
    refine (ihr _ _ _ d6 d8).mono ?_
    rintro _ w'' ⟨v, rfl, hv, hb⟩
    exact hR _ _ hb hv trivial
  case o10 =>
    intro x0 x1 x2 x3 x4 x5 x6 x7 x8 x9 x10 w' hE
    rintro d4 d9 _ R hR
    simp only [putAll, List.take, List.drop, List.map, Act.put, List.setIfInBounds_toArray, List.set_cons_zero, List.set_cons_succ]
    go_simp
    refine (merge_c d4 d9 hdx hdy).mono ?_
    rintro _ w'' ⟨v, rfl, hv, hb⟩
    exact hR _ _ hb hv trivial
  case rest =>
    intro x0 x1 x2 x3 x4 x5 x6 x7 x8 x9 x10 w9 hb
    rintro _ _ _ _ _ _ _ _ _ _ r10 hap
    replace hx := Ext.trans hx hb; replace ga := ga.ext hb; replace gb := gb.ext hb; replace gz := gz.ext hb; replace ha := (PRep a ab ap).mono hb ha; replace hb0 := (PRep b bb bp).mono hb hb0; have s7 := hb.size
    clear hap
    simp only [putAll, List.take, List.drop, List.map, Act.put, List.setIfInBounds_toArray, List.set_cons_zero, List.set_cons_succ]
    obtain ⟨mb, mp, rfl, mr⟩ := r10
    have ga_0 := ga.c 0 rfl; have gaf0 := ga.f 0; have ga_1 := ga.c 1 rfl; have gaf1 := ga.f 1; have gal := ga.lt; have gb_0 := gb.c 0 rfl; have gbf0 := gb.f 0; have gb_1 := gb.c 1 rfl; have gbf1 := gb.f 1; have gbl := gb.lt; have gz_0 := gz.c 0 rfl; have gzf0 := gz.f 0; have gz_1 := gz.c 1 rfl; have gzf1 := gz.f 1; have gzl := gz.lt
    go_wp2_with fail
    clear ga_0 gaf0 ga_1 gaf1 gal gb_0 gbf0 gb_1 gbf1 gbl gz_0 gzf0 gz_1 gzf1 gzl
    obtain ⟨y1, hW, st⟩ := ex2 gz (.bool mb) (.pointer mp)
    rw [hW]; clear hW
    replace hx : Ext w y1 := st.below hx (by omega); replace ga := st.keep ga (by omega); replace gb := st.keep gb (by omega); replace gz := st.blk; replace ha := (PRep a ab ap).imm (st.imm TS (by decide)) ha; replace hb0 := (PRep b bb bp).imm (st.imm TS (by decide)) hb0; replace mr := (PRep (T.mk x y) mb mp).imm (st.imm TS (by decide)) mr; have s8 := st.size
    have e0 := gz.c 0 rfl; have e1 := gz.c 1 rfl
    exact ret_of (idv mb mp) (by simp [results, Try.results42, go_sem, e0, e1]) rfl (PRep.is mr) hx

theorem union_c : ∀ (a b : T), a.depth ≤ 1000 → b.depth ≤ 1000 → ∀ (va vb : Value) (w : World), (IsId a).p va w → (IsId b).p vb w → Calls Try.prog 42 #[va, vb] w (Ret w (IsId (unionT a b)).p)
  | .zero, _, _, _, _, _, _, ha, hb => un_1 ha hb rfl
  | .one, .one, _, _, _, _, _, ha, hb => un_2 ha hb rfl rfl
  | .node _ _, .one, _, _, _, _, _, ha, hb => un_2 ha hb rfl rfl
  | .one, .zero, _, _, _, _, _, ha, hb => un_3 ha hb rfl rfl rfl
  | .node _ _, .zero, _, _, _, _, _, ha, hb => un_3 ha hb rfl rfl rfl
  | .one, .node _ _, _, _, _, _, _, ha, hb => un_4 ha hb rfl rfl rfl rfl
  | .node l r, .node l' r', hda, hdb, _, _, _, ha, hb => by
    have h1 := union_depth l l'
    have h2 := union_depth r r'
    simp only [T.depth] at hda hdb
    exact un_n ha hb rfl rfl rfl rfl _ _ (by omega) (by omega) (union_c l l' (by omega) (by omega)) (union_c r r' (by omega) (by omega))

set_option maxRecDepth 100000 in
set_option maxHeartbeats 1000000 in
theorem sum_t {a b : T} {va vb : Value} {w : World} (ha : (IsId a).p va w) (hb : (IsId b).p vb w) (hda : a.depth ≤ 1000) (hdb : b.depth ≤ 1000) (hc : disjT a b = true) :
    Calls Try.prog 20 #[va, vb] w (Ret w (Two (IsId (unionT a b)).toPP (PP.eq (.int .i64 0))).p) := by
  obtain ⟨ab, ap, rfl, ha⟩ := ha
  obtain ⟨bb, bp, rfl, hb0⟩ := hb
  go_enter Try.func20, Try.ntmps20
  go_wp2_with fail
  obtain ⟨W, hW, hb, z0, ga, gb, gz⟩ := box3 w [.bool ab, .pointer ap] [.bool bb, .pointer bp] [.bool false, .pointer none] 26 26 26
  rw [hW]; clear hW
  have hx := hb; replace ha := (PRep a ab ap).mono hb ha; replace hb0 := (PRep b bb bp).mono hb hb0; have s1 := hb.size
  refine (disj_c a b _ _ _ (PRep.is ha) (PRep.is hb0)).mono ?_
  rintro _ w1 ⟨_, rfl, rfl, hb⟩
  replace hx := Ext.trans hx hb; replace ga := ga.ext hb; replace gb := gb.ext hb; replace gz := gz.ext hb; replace ha := (PRep a ab ap).mono hb ha; replace hb0 := (PRep b bb bp).mono hb hb0; have s2 := hb.size
  have ga_0 := ga.c 0 rfl; have gaf0 := ga.f 0; have ga_1 := ga.c 1 rfl; have gaf1 := ga.f 1; have gal := ga.lt; have gb_0 := gb.c 0 rfl; have gbf0 := gb.f 0; have gb_1 := gb.c 1 rfl; have gbf1 := gb.f 1; have gbl := gb.lt; have gz_0 := gz.c 0 rfl; have gzf0 := gz.f 0; have gz_1 := gz.c 1 rfl; have gzf1 := gz.f 1; have gzl := gz.lt
  go_wp2_with fail
  clear ga_0 gaf0 ga_1 gaf1 gal gb_0 gbf0 gb_1 gbf1 gbl gz_0 gzf0 gz_1 gzf1 gzl
  refine (union_c a b hda hdb _ _ _ (PRep.is ha) (PRep.is hb0)).mono ?_
  rintro _ w2 ⟨uv, rfl, u, hb⟩
  replace hx := Ext.trans hx hb; replace ga := ga.ext hb; replace gb := gb.ext hb; replace gz := gz.ext hb; replace ha := (PRep a ab ap).mono hb ha; replace hb0 := (PRep b bb bp).mono hb hb0; have s3 := hb.size
  obtain ⟨ub, up, rfl, ur⟩ := u
  have ga_0 := ga.c 0 rfl; have gaf0 := ga.f 0; have ga_1 := ga.c 1 rfl; have gaf1 := ga.f 1; have gal := ga.lt; have gb_0 := gb.c 0 rfl; have gbf0 := gb.f 0; have gb_1 := gb.c 1 rfl; have gbf1 := gb.f 1; have gbl := gb.lt; have gz_0 := gz.c 0 rfl; have gzf0 := gz.f 0; have gz_1 := gz.c 1 rfl; have gzf1 := gz.f 1; have gzl := gz.lt
  go_wp2_with fail
  clear ga_0 gaf0 ga_1 gaf1 gal gb_0 gbf0 gb_1 gbf1 gbl gz_0 gzf0 gz_1 gzf1 gzl
  obtain ⟨y1, hW, st⟩ := ex2 gz (.bool ub) (.pointer up)
  rw [hW]; clear hW
  replace hx : Ext w y1 := st.below hx (by omega); replace ga := st.keep ga (by omega); replace gb := st.keep gb (by omega); replace gz := st.blk; replace ha := (PRep a ab ap).imm (st.imm TS (by decide)) ha; replace hb0 := (PRep b bb bp).imm (st.imm TS (by decide)) hb0; replace ur := (PRep (unionT a b) ub up).imm (st.imm TS (by decide)) ur; have s4 := st.size
  have e0 := gz.c 0 rfl; have e1 := gz.c 1 rfl
  exact ret_of (.tuple #[idv ub up, .int .i64 0]) (by simp [results, Try.results20, go_sem, e0, e1]) rfl ⟨_, _, rfl, PRep.is ur, rfl⟩ hx

set_option maxRecDepth 100000 in
set_option maxHeartbeats 1000000 in
theorem sum_f {a b : T} {va vb : Value} {w : World} (ha : (IsId a).p va w) (hb : (IsId b).p vb w) (hda : a.depth ≤ 1000) (hdb : b.depth ≤ 1000) (hc : disjT a b = false) :
    Calls Try.prog 20 #[va, vb] w (Ret w (Two (IsId .zero).toPP (PP.eq (.int .i64 5))).p) := by
  obtain ⟨ab, ap, rfl, ha⟩ := ha
  obtain ⟨bb, bp, rfl, hb0⟩ := hb
  go_enter Try.func20, Try.ntmps20
  go_wp2_with fail
  obtain ⟨W, hW, hb, z0, ga, gb, gz⟩ := box3 w [.bool ab, .pointer ap] [.bool bb, .pointer bp] [.bool false, .pointer none] 26 26 26
  rw [hW]; clear hW
  have hx := hb; replace ha := (PRep a ab ap).mono hb ha; replace hb0 := (PRep b bb bp).mono hb hb0; have s1 := hb.size
  refine (disj_c a b _ _ _ (PRep.is ha) (PRep.is hb0)).mono ?_
  rintro _ w1 ⟨_, rfl, rfl, hb⟩
  replace hx := Ext.trans hx hb; replace ga := ga.ext hb; replace gb := gb.ext hb; replace gz := gz.ext hb; replace ha := (PRep a ab ap).mono hb ha; replace hb0 := (PRep b bb bp).mono hb hb0; have s2 := hb.size
  have ga_0 := ga.c 0 rfl; have gaf0 := ga.f 0; have ga_1 := ga.c 1 rfl; have gaf1 := ga.f 1; have gal := ga.lt; have gb_0 := gb.c 0 rfl; have gbf0 := gb.f 0; have gb_1 := gb.c 1 rfl; have gbf1 := gb.f 1; have gbl := gb.lt; have gz_0 := gz.c 0 rfl; have gzf0 := gz.f 0; have gz_1 := gz.c 1 rfl; have gzf1 := gz.f 1; have gzl := gz.lt
  go_wp2_with fail
  clear ga_0 gaf0 ga_1 gaf1 gal gb_0 gbf0 gb_1 gbf1 gbl gz_0 gzf0 gz_1 gzf1 gzl
  refine (zero_c).mono ?_
  rintro _ w2 ⟨uv, rfl, u, hb⟩
  replace hx := Ext.trans hx hb; replace ga := ga.ext hb; replace gb := gb.ext hb; replace gz := gz.ext hb; replace ha := (PRep a ab ap).mono hb ha; replace hb0 := (PRep b bb bp).mono hb hb0; have s3 := hb.size
  obtain ⟨ub, up, rfl, ur⟩ := u
  have ga_0 := ga.c 0 rfl; have gaf0 := ga.f 0; have ga_1 := ga.c 1 rfl; have gaf1 := ga.f 1; have gal := ga.lt; have gb_0 := gb.c 0 rfl; have gbf0 := gb.f 0; have gb_1 := gb.c 1 rfl; have gbf1 := gb.f 1; have gbl := gb.lt; have gz_0 := gz.c 0 rfl; have gzf0 := gz.f 0; have gz_1 := gz.c 1 rfl; have gzf1 := gz.f 1; have gzl := gz.lt
  go_wp2_with fail
  clear ga_0 gaf0 ga_1 gaf1 gal gb_0 gbf0 gb_1 gbf1 gbl gz_0 gzf0 gz_1 gzf1 gzl
  obtain ⟨y1, hW, st⟩ := ex2 gz (.bool ub) (.pointer up)
  rw [hW]; clear hW
  replace hx : Ext w y1 := st.below hx (by omega); replace ga := st.keep ga (by omega); replace gb := st.keep gb (by omega); replace gz := st.blk; replace ha := (PRep a ab ap).imm (st.imm TS (by decide)) ha; replace hb0 := (PRep b bb bp).imm (st.imm TS (by decide)) hb0; replace ur := (PRep .zero ub up).imm (st.imm TS (by decide)) ur; have s4 := st.size
  have e0 := gz.c 0 rfl; have e1 := gz.c 1 rfl
  exact ret_of (.tuple #[idv ub up, .int .i64 5]) (by simp [results, Try.results20, go_sem, e0, e1]) rfl ⟨_, _, rfl, PRep.is ur, rfl⟩ hx

end Go.Proofs.Ytkfncjaomgcdgaa

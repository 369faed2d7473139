/- IdPairs. -/
import Derived.Test.YtkfncjaomgcdgaaW15
import Derived.Test.YtkfncjaomgcdgaaSem
set_option linter.all false
namespace Go.Proofs.Ytkfncjaomgcdgaa
open Go.RowKit Go.Facts

theorem same_r {t : T} {v u : Value} {w : World} (ht : t.wf = true) (h : (IsId t).p v w) (k : (IsId t).p u w) : Calls Try.prog 16 #[v, u] w (Ret w (PP.eq (.bool true)).p) := by
  have := same_c h k; rw [same_refl t ht] at this; exact this

set_option maxRecDepth 100000 in
set_option maxHeartbeats 4000000 in
theorem idPairs_c {l : List UInt8} {v : Value} {w : World} (h : Bsl l v w) :
    Calls Try.prog 3 #[v] w (Ret w (PP.eq (.bool true)).p) := by
  obtain ⟨a0, cap0, rfl, hh⟩ := id h
  clear hh
  go_enter Try.func3, Try.ntmps3
  go_wp2_with fail
  refine (awake_c).mono ?_
  rintro _ a1 ⟨_, rfl, rfl, hb⟩
  have hx := hb; have s0 := hb.size
  go_wp2_with fail
  refine (made_c ((BslP _).mono hx h)).mono ?_
  rintro _ mt ⟨_, rfl, ⟨t, ti, tx, rfl, tw, td, thi, thx⟩, hb⟩
  replace hx := Ext.trans hx hb; have s1 := hb.size
  obtain ⟨tb, tp, rfl, tr⟩ := thi
  obtain ⟨txp, rfl, txr⟩ := id thx
  go_wp2_with fail
  obtain ⟨bt, hW, hb, z2, gt⟩ := box1 mt [.bool tb, .pointer tp] 26
  rw [hW]; clear hW
  replace hx := Ext.trans hx hb; replace thx := (IsRef t).mono hb thx; replace tr := (PRep t tb tp).mono hb tr; have s3 := hb.size
  have hmk := mk_halves tw
  have hle : t.left.depth ≤ 1000 ∧ t.right.depth ≤ 1000 := by cases t <;> simp only [T.left, T.right, T.depth] at * <;> omega
  have HP : Hid (∀ (vl vr : Value) (w : World), (IsId t.left).p vl w → (IsId t.right).p vr w → Calls Try.prog 12 #[vl, vr] w (Ret w (Two (IsId t).toPP (PP.eq (.int .i64 0))).p)) := fun vl vr w h1 h2 => by have := pair_ok h1 h2 hle.1 hle.2 (by rw [hmk]; omega); rw [hmk] at this; exact this
  clear hmk
  have gtlt4 := gt.lt
  refine wp_late 9 [7] [] [PP.eq (.agg #[.bool tb, .pointer tp]), (IsId t.left).toPP, PP.eq (.agg #[.bool tb, .pointer tp]), (IsId t.right).toPP, Two (IsId t).toPP (PP.eq (.int .i64 0)), Two (IsId t).toPP (PP.eq (.int .i64 0)), (IsId t).toPP, PP.eq (.int .i64 0), NewOf bt.heap.size [.bool false, .pointer none] 26] (by kernel_rfl) (by kernel_rfl) (fun _ _ d _ _ h => by cases d <;> exact h) ⟨?o0, ?o1, ?o2, ?o3, ?o4, ?o5, ?o6, ?o7, ?o8, trivial⟩ ⟨?l7, trivial⟩ (by decide) ?rest
  case l7 =>
    intro x0 x1 x2 x3 x4 x5 x6 x7 x8 w' hE
    rintro ⟨a5, _, rfl, ha5, rfl⟩
    refine ⟨(.int .i64 0), rfl, fun w'' => ?_⟩
    simp only [putAll, List.take, List.drop, List.map, Act.put, List.setIfInBounds_toArray, List.set_cons_zero, List.set_cons_succ]
    go_simp
  case o0 =>
    intro x0 x1 x2 x3 x4 x5 x6 x7 x8 w' hE
    rintro R hR
    have qgt0 := (gt.ext hE).c 0 rfl
    have qgt1 := (gt.ext hE).c 1 rfl
    simp only [putAll, List.take, List.drop, List.map, Act.put, List.setIfInBounds_toArray, List.set_cons_zero, List.set_cons_succ]
    go_simp
    exact hR _ _ (Ext.refl _) (rfl) trivial
  case o1 =>
    intro x0 x1 x2 x3 x4 x5 x6 x7 x8 w' hE
    rintro rfl R hR
    simp only [putAll, List.take, List.drop, List.map, Act.put, List.setIfInBounds_toArray, List.set_cons_zero, List.set_cons_succ]
    go_simp
    refine (left_c ⟨tb, tp, rfl, tr.ext hE⟩).mono ?_
    rintro _ w'' ⟨v, rfl, hv, hb⟩
    exact hR _ _ hb hv trivial
  case o2 =>
    intro x0 x1 x2 x3 x4 x5 x6 x7 x8 w' hE
    rintro R hR
    have qgt0 := (gt.ext hE).c 0 rfl
    have qgt1 := (gt.ext hE).c 1 rfl
    simp only [putAll, List.take, List.drop, List.map, Act.put, List.setIfInBounds_toArray, List.set_cons_zero, List.set_cons_succ]
    go_simp
    exact hR _ _ (Ext.refl _) (rfl) trivial
  case o3 =>
    intro x0 x1 x2 x3 x4 x5 x6 x7 x8 w' hE
    rintro rfl d1 R hR
    simp only [putAll, List.take, List.drop, List.map, Act.put, List.setIfInBounds_toArray, List.set_cons_zero, List.set_cons_succ]
    go_simp
    refine (right_c ⟨tb, tp, rfl, tr.ext hE⟩).mono ?_
    rintro _ w'' ⟨v, rfl, hv, hb⟩
    exact hR _ _ hb hv trivial
  case o4 =>
    intro x0 x1 x2 x3 x4 x5 x6 x7 x8 w' hE
    rintro d1 d3 _ R hR
    simp only [putAll, List.take, List.drop, List.map, Act.put, List.setIfInBounds_toArray, List.set_cons_zero, List.set_cons_succ]
    go_simp
    refine (HP.out _ _ _ d1 d3).mono ?_
    rintro _ w'' ⟨v, rfl, hv, hb⟩
    exact hR _ _ hb hv trivial
  case o5 =>
    intro x0 x1 x2 x3 x4 x5 x6 x7 x8 w' hE
    rintro ⟨a4, _, rfl, ha4, rfl⟩ R hR
    simp only [putAll, List.take, List.drop, List.map, Act.put, List.setIfInBounds_toArray, List.set_cons_zero, List.set_cons_succ]
    go_simp
    exact hR _ _ (Ext.refl _) (⟨_, _, rfl, ha4, rfl⟩) trivial
  case o6 =>
    intro x0 x1 x2 x3 x4 x5 x6 x7 x8 w' hE
    rintro ⟨a5, _, rfl, ha5, rfl⟩ R hR
    simp only [putAll, List.take, List.drop, List.map, Act.put, List.setIfInBounds_toArray, List.set_cons_zero, List.set_cons_succ]
    go_simp
    exact hR _ _ (Ext.refl _) (ha5) trivial
  case o7 =>
    intro x0 x1 x2 x3 x4 x5 x6 x7 x8 w' hE
    rintro ⟨a5, _, rfl, ha5, rfl⟩ R hR
    simp only [putAll, List.take, List.drop, List.map, Act.put, List.setIfInBounds_toArray, List.set_cons_zero, List.set_cons_succ]
    go_simp
    exact hR _ _ (Ext.refl _) (rfl) trivial
  case o8 =>
    intro x0 x1 x2 x3 x4 x5 x6 x7 x8 w' hE
    rintro R hR
    simp only [putAll, List.take, List.drop, List.map, Act.put, List.setIfInBounds_toArray, List.set_cons_zero, List.set_cons_succ]
    go_simp
    exact hR _ _ ((Ext.refl _).alloc _) (newOf_alloc hE.size _ _) trivial
  case rest =>
    intro x0 x1 x2 x3 x4 x5 x6 x7 x8 w4 hb
    rintro rfl _ rfl _ _ _ r6 rfl ⟨k8, rfl, hB8, n8⟩ hap
    replace hx := Ext.trans hx hb; replace gt := gt.ext hb; replace thx := (IsRef t).mono hb thx; replace tr := (PRep t tb tp).mono hb tr; have s5 := hb.size
    clear hap
    simp only [putAll, List.take, List.drop, List.map, Act.put, List.setIfInBounds_toArray, List.set_cons_zero, List.set_cons_succ]
    obtain ⟨jb, jp, rfl, jr⟩ := r6
    have gt_0 := gt.c 0 rfl; have gtf0 := gt.f 0; have gt_1 := gt.c 1 rfl; have gtf1 := gt.f 1; have gtl := gt.lt; have n8_0 := n8.c 0 rfl; have n8f0 := n8.f 0; have n8_1 := n8.c 1 rfl; have n8f1 := n8.f 1; have n8l := n8.lt
    go_wp2_with fail
    clear gt_0 gtf0 gt_1 gtf1 gtl n8_0 n8f0 n8_1 n8f1 n8l
    obtain ⟨w5, hW, st⟩ := ex2 n8 (.bool jb) (.pointer jp)
    rw [hW]; clear hW
    replace hx : Ext w w5 := st.below hx (by omega); replace gt := st.keep gt (by omega); replace n8 := st.blk; replace thx := (IsRef t).imm (st.imm TS (by decide)) thx; replace tr := (PRep t tb tp).imm (st.imm TS (by decide)) tr; replace jr := (PRep t jb jp).imm (st.imm TS (by decide)) jr; have s6 := st.size
    have gtlt7 := gt.lt
    have n8lt7 := n8.lt
    obtain ⟨w6, hW, hb, z7, gz⟩ := box1 w5 [.bool false, .pointer none] 26
    rw [hW]; clear hW
    replace hx := Ext.trans hx hb; replace gt := gt.ext hb; replace n8 := n8.ext hb; replace thx := (IsRef t).mono hb thx; replace tr := (PRep t tb tp).mono hb tr; replace jr := (PRep t jb jp).mono hb jr; have s8 := hb.size
    rw [s6] at gz
    have hd20 : t.depth ≤ 20 := by omega
    have gtlt9 := gt.lt
    have n8lt9 := n8.lt
    have gzlt9 := gz.lt
    refine wp_facts 17 [] [PP.eq (.agg #[.bool tb, .pointer tp]), PP.eq (.pointer txp), PP.eq (.bool true), PP.eq (.bool true), PP.eq (.int .i64 0), PP.eq (.bool true), PP.eq (.bool true), PP.eq (.bool true), PP.eq (.agg #[.bool tb, .pointer tp]), PP.eq (.agg #[.bool jb, .pointer jp]), PP.eq (.bool true), PP.eq (.bool true), PP.eq (.bool true), PP.eq (.agg #[.bool false, .pointer none]), (IsRef .zero).toPP, PP.eq (.bool true), PP.eq (.bool true)] (by kernel_rfl) (by kernel_rfl) ⟨?o0, ?o1, ?o2, ?o3, ?o4, ?o5, ?o6, ?o7, ?o8, ?o9, ?o10, ?o11, ?o12, ?o13, ?o14, ?o15, ?o16, trivial⟩ ?rest
    case o0 =>
      intro x0 x1 x2 x3 x4 x5 x6 x7 x8 x9 x10 x11 x12 x13 x14 x15 x16 w' hE
      rintro R hR
      have qgt0 := (gt.ext hE).c 0 rfl
      have qgt1 := (gt.ext hE).c 1 rfl
      simp only [putAll, List.take, List.drop, List.map, Act.put, List.setIfInBounds_toArray, List.set_cons_zero, List.set_cons_succ]
      go_simp
      exact hR _ _ (Ext.refl _) (rfl) trivial
    case o1 =>
      intro x0 x1 x2 x3 x4 x5 x6 x7 x8 x9 x10 x11 x12 x13 x14 x15 x16 w' hE
      rintro R hR
      simp only [putAll, List.take, List.drop, List.map, Act.put, List.setIfInBounds_toArray, List.set_cons_zero, List.set_cons_succ]
      go_simp
      exact hR _ _ (Ext.refl _) (rfl) trivial
    case o2 =>
      intro x0 x1 x2 x3 x4 x5 x6 x7 x8 x9 x10 x11 x12 x13 x14 x15 x16 w' hE
      rintro rfl rfl R hR
      simp only [putAll, List.take, List.drop, List.map, Act.put, List.setIfInBounds_toArray, List.set_cons_zero, List.set_cons_succ]
      go_simp
      refine (like_c t (by omega) (text_le hd20) _ _ _ ⟨tb, tp, rfl, tr.ext hE⟩ ((IsRef t).mono hE thx)).mono ?_
      rintro _ w'' ⟨v, rfl, hv, hb⟩
      exact hR _ _ hb hv trivial
    case o3 =>
      intro x0 x1 x2 x3 x4 x5 x6 x7 x8 x9 x10 x11 x12 x13 x14 x15 x16 w' hE
      rintro rfl _ R hR
      simp only [putAll, List.take, List.drop, List.map, Act.put, List.setIfInBounds_toArray, List.set_cons_zero, List.set_cons_succ]
      go_simp
      exact hR _ _ (Ext.refl _) (rfl) trivial
    case o4 =>
      intro x0 x1 x2 x3 x4 x5 x6 x7 x8 x9 x10 x11 x12 x13 x14 x15 x16 w' hE
      rintro rfl R hR
      simp only [putAll, List.take, List.drop, List.map, Act.put, List.setIfInBounds_toArray, List.set_cons_zero, List.set_cons_succ]
      go_simp
      exact hR _ _ (Ext.refl _) (rfl) trivial
    case o5 =>
      intro x0 x1 x2 x3 x4 x5 x6 x7 x8 x9 x10 x11 x12 x13 x14 x15 x16 w' hE
      rintro rfl rfl R hR
      simp only [putAll, List.take, List.drop, List.map, Act.put, List.setIfInBounds_toArray, List.set_cons_zero, List.set_cons_succ]
      go_simp
      exact hR _ _ (Ext.refl _) (rfl) trivial
    case o6 =>
      intro x0 x1 x2 x3 x4 x5 x6 x7 x8 x9 x10 x11 x12 x13 x14 x15 x16 w' hE
      rintro rfl rfl R hR
      simp only [putAll, List.take, List.drop, List.map, Act.put, List.setIfInBounds_toArray, List.set_cons_zero, List.set_cons_succ]
      go_simp
      exact hR _ _ (Ext.refl _) (rfl) trivial
    case o7 =>
      intro x0 x1 x2 x3 x4 x5 x6 x7 x8 x9 x10 x11 x12 x13 x14 x15 x16 w' hE
      rintro rfl rfl R hR
      simp only [putAll, List.take, List.drop, List.map, Act.put, List.setIfInBounds_toArray, List.set_cons_zero, List.set_cons_succ]
      go_simp
      exact hR _ _ (Ext.refl _) (rfl) trivial
    case o8 =>
      intro x0 x1 x2 x3 x4 x5 x6 x7 x8 x9 x10 x11 x12 x13 x14 x15 x16 w' hE
      rintro rfl R hR
      have qgt0 := (gt.ext hE).c 0 rfl
      have qgt1 := (gt.ext hE).c 1 rfl
      simp only [putAll, List.take, List.drop, List.map, Act.put, List.setIfInBounds_toArray, List.set_cons_zero, List.set_cons_succ]
      go_simp
      exact hR _ _ (Ext.refl _) (rfl) trivial
    case o9 =>
      intro x0 x1 x2 x3 x4 x5 x6 x7 x8 x9 x10 x11 x12 x13 x14 x15 x16 w' hE
      rintro rfl R hR
      have qn80 := (n8.ext hE).c 0 rfl
      have qn81 := (n8.ext hE).c 1 rfl
      simp only [putAll, List.take, List.drop, List.map, Act.put, List.setIfInBounds_toArray, List.set_cons_zero, List.set_cons_succ]
      go_simp
      exact hR _ _ (Ext.refl _) (rfl) trivial
    case o10 =>
      intro x0 x1 x2 x3 x4 x5 x6 x7 x8 x9 x10 x11 x12 x13 x14 x15 x16 w' hE
      rintro rfl rfl rfl _ R hR
      simp only [putAll, List.take, List.drop, List.map, Act.put, List.setIfInBounds_toArray, List.set_cons_zero, List.set_cons_succ]
      go_simp
      refine (same_r tw ⟨tb, tp, rfl, tr.ext hE⟩ ⟨jb, jp, rfl, jr.ext hE⟩).mono ?_
      rintro _ w'' ⟨v, rfl, hv, hb⟩
      exact hR _ _ hb hv trivial
    case o11 =>
      intro x0 x1 x2 x3 x4 x5 x6 x7 x8 x9 x10 x11 x12 x13 x14 x15 x16 w' hE
      rintro rfl rfl R hR
      simp only [putAll, List.take, List.drop, List.map, Act.put, List.setIfInBounds_toArray, List.set_cons_zero, List.set_cons_succ]
      go_simp
      exact hR _ _ (Ext.refl _) (rfl) trivial
    case o12 =>
      intro x0 x1 x2 x3 x4 x5 x6 x7 x8 x9 x10 x11 x12 x13 x14 x15 x16 w' hE
      rintro rfl rfl R hR
      simp only [putAll, List.take, List.drop, List.map, Act.put, List.setIfInBounds_toArray, List.set_cons_zero, List.set_cons_succ]
      go_simp
      exact hR _ _ (Ext.refl _) (rfl) trivial
    case o13 =>
      intro x0 x1 x2 x3 x4 x5 x6 x7 x8 x9 x10 x11 x12 x13 x14 x15 x16 w' hE
      rintro rfl R hR
      have qgz0 := (gz.ext hE).c 0 rfl
      have qgz1 := (gz.ext hE).c 1 rfl
      simp only [putAll, List.take, List.drop, List.map, Act.put, List.setIfInBounds_toArray, List.set_cons_zero, List.set_cons_succ]
      go_simp
      exact hR _ _ (Ext.refl _) (rfl) trivial
    case o14 =>
      intro x0 x1 x2 x3 x4 x5 x6 x7 x8 x9 x10 x11 x12 x13 x14 x15 x16 w' hE
      rintro rfl _ R hR
      simp only [putAll, List.take, List.drop, List.map, Act.put, List.setIfInBounds_toArray, List.set_cons_zero, List.set_cons_succ]
      go_simp
      refine (rzero_c).mono ?_
      rintro _ w'' ⟨v, rfl, hv, hb⟩
      exact hR _ _ hb hv trivial
    case o15 =>
      intro x0 x1 x2 x3 x4 x5 x6 x7 x8 x9 x10 x11 x12 x13 x14 x15 x16 w' hE
      rintro rfl d14 _ rfl R hR
      simp only [putAll, List.take, List.drop, List.map, Act.put, List.setIfInBounds_toArray, List.set_cons_zero, List.set_cons_succ]
      go_simp
      refine (like_c .zero (by simp [T.depth]) (by decide) _ _ _ ⟨false, none, rfl, rfl, rfl⟩ d14).mono ?_
      rintro _ w'' ⟨v, rfl, hv, hb⟩
      exact hR _ _ hb hv trivial
    case o16 =>
      intro x0 x1 x2 x3 x4 x5 x6 x7 x8 x9 x10 x11 x12 x13 x14 x15 x16 w' hE
      rintro rfl rfl R hR
      simp only [putAll, List.take, List.drop, List.map, Act.put, List.setIfInBounds_toArray, List.set_cons_zero, List.set_cons_succ]
      go_simp
      exact hR _ _ (Ext.refl _) (rfl) trivial
    case rest =>
      intro x0 x1 x2 x3 x4 x5 x6 x7 x8 x9 x10 x11 x12 x13 x14 x15 x16 w7 hb
      rintro rfl rfl rfl rfl rfl rfl rfl rfl rfl rfl rfl rfl rfl rfl _ rfl rfl hap
      replace hx := Ext.trans hx hb; replace gt := gt.ext hb; replace n8 := n8.ext hb; replace gz := gz.ext hb; replace thx := (IsRef t).mono hb thx; replace tr := (PRep t tb tp).mono hb tr; replace jr := (PRep t jb jp).mono hb jr; have s10 := hb.size
      clear hap
      simp only [putAll, List.take, List.drop, List.map, Act.put, List.setIfInBounds_toArray, List.set_cons_zero, List.set_cons_succ]
      have gt_0 := gt.c 0 rfl; have gtf0 := gt.f 0; have gt_1 := gt.c 1 rfl; have gtf1 := gt.f 1; have gtl := gt.lt; have n8_0 := n8.c 0 rfl; have n8f0 := n8.f 0; have n8_1 := n8.c 1 rfl; have n8f1 := n8.f 1; have n8l := n8.lt; have gz_0 := gz.c 0 rfl; have gzf0 := gz.f 0; have gz_1 := gz.c 1 rfl; have gzf1 := gz.f 1; have gzl := gz.lt
      go_wp2_with fail
      clear gt_0 gtf0 gt_1 gtf1 gtl n8_0 n8f0 n8_1 n8f1 n8l gz_0 gzf0 gz_1 gzf1 gzl
      go_ret
      exact ⟨_, rfl, rfl, hx⟩

end Go.Proofs.Ytkfncjaomgcdgaa

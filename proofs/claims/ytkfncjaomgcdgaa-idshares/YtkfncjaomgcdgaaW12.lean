/- IdDeep. -/
import Derived.Test.YtkfncjaomgcdgaaW11
set_option linter.all false
namespace Go.Proofs.Ytkfncjaomgcdgaa
open Go.RowKit Go.Facts

def pairT (l r : T) : T × Nat := if 16 < (T.mk l r).depth then (.zero, 3) else (T.mk l r, 0)
theorem pair_c {l r : T} {vl vr : Value} {w : World} (hl : (IsId l).p vl w) (hr : (IsId r).p vr w) (hdl : l.depth ≤ 1000) (hdr : r.depth ≤ 1000) :
    Calls Try.prog 12 #[vl, vr] w (Ret w (Two (IsId (pairT l r).1).toPP (PP.eq (.int .i64 ((pairT l r).2 : Nat)))).p) := by
  unfold pairT
  split
  · exact pair_deep hl hr hdl hdr (by assumption)
  · exact pair_ok hl hr hdl hdr (by omega)
def splitT (t : T) : T × T × Nat := if 16 < max (cutT t).1.depth (cutT t).2.depth then (.zero, .zero, 3) else ((cutT t).1, (cutT t).2, 0)
theorem split_c {t : T} {v : Value} {w : World} (h : (IsId t).p v w) (ht : t.depth ≤ 900) :
    Calls Try.prog 18 #[v] w (Ret w (Three (IsId (splitT t).1).toPP (IsId (splitT t).2.1).toPP (PP.eq (.int .i64 ((splitT t).2.2 : Nat)))).p) := by
  unfold splitT
  split
  · exact split_deep h ht (by assumption)
  · exact split_ok h ht (by omega)
def sumT (a b : T) : T × Nat := if disjT a b = true then (unionT a b, 0) else (.zero, 5)
theorem sum_c {a b : T} {va vb : Value} {w : World} (ha : (IsId a).p va w) (hb : (IsId b).p vb w) (hda : a.depth ≤ 1000) (hdb : b.depth ≤ 1000) :
    Calls Try.prog 20 #[va, vb] w (Ret w (Two (IsId (sumT a b).1).toPP (PP.eq (.int .i64 ((sumT a b).2 : Nat)))).p) := by
  unfold sumT
  split
  · exact sum_t ha hb hda hdb (by assumption)
  · rename_i h; exact sum_f ha hb hda hdb (by simpa using h)

def spine : T → Bool
  | .zero => false
  | .one => true
  | .node .zero r => spine r
  | .node l .zero => spine l
  | _ => false
theorem spine_l {t : T} (h : spine t = true) : spine (.node t .zero) = true := by cases t <;> simp_all [spine]
theorem spine_r {t : T} (h : spine t = true) : spine (.node .zero t) = true := by cases t <;> simp_all [spine]
theorem spine_mk {t : T} (h : spine t = true) : T.mk t .zero = .node t .zero ∧ T.mk .zero t = .node .zero t ∧ t.isZero = false := by cases t <;> simp_all [spine, T.mk, T.isZero]
theorem mk_depth_r {t : T} (h : t.depth ≠ 0) : (T.mk .zero t).depth = 1 + t.depth ∧ (T.mk t .zero).depth = 1 + t.depth := by
  cases t <;> simp_all [T.mk, T.depth]
theorem spine_cut : ∀ t : T, spine t = true → (cutT t).1.depth = t.depth + 1 ∧ (cutT t).2.depth = t.depth + 1
  | .zero, h => by simp [spine] at h
  | .one, _ => by simp [cutT, T.mk, T.depth]
  | .node .zero r, h => by
    have := spine_cut r h
    have a := mk_depth_r (t := (cutT r).1) (by omega)
    have b := mk_depth_r (t := (cutT r).2) (by omega)
    simp only [cutT, T.depth] at *; omega
  | .node .one .zero, _ => by simp [cutT, T.mk, T.depth]
  | .node (.node a b) .zero, h => by
    have := spine_cut (.node a b) h
    have a' := mk_depth_r (t := (cutT (.node a b)).1) (by omega)
    have b' := mk_depth_r (t := (cutT (.node a b)).2) (by omega)
    simp only [cutT, T.depth] at *; omega
  | .node .one .one, h => by simp [spine] at h
  | .node .one (.node _ _), h => by simp [spine] at h
  | .node (.node _ _) .one, h => by simp [spine] at h
  | .node (.node _ _) (.node _ _), h => by simp [spine] at h

def DeepRel (w : World) (ki : Nat) (wr : World) (n : Nat) (kv : Value) (m : Nat) : Prop :=
  ∃ (k : Nat) (t : T) (b : Bool) (p : Option Addr), kv = .int .i64 k ∧ k ≤ n ∧ m = n - k ∧ spine t = true ∧ t.depth = min k 16 ∧ Ext w wr ∧ Blk wr ki [.bool b, .pointer p] 26 ∧ Rep wr t b p

set_option maxRecDepth 100000 in
set_option maxHeartbeats 4000000 in
theorem deep_c {turns n : Int} {w : World} (hn : 0 ≤ n) (hn2 : n ≤ 255) :
    Calls Try.prog 8 #[.int .u16 turns, .int .u8 n] w (Ret w (PP.eq (.bool true)).p) := by
  go_enter Try.func8, Try.ntmps8
  go_wp2_with fail
  refine (awake_c).mono ?_
  rintro _ w1 ⟨_, rfl, rfl, hb⟩
  have hx := hb; have s0 := hb.size
  go_wp2_with fail
  refine (one_c).mono ?_
  rintro _ w2 ⟨cv, rfl, c, hb⟩
  replace hx := Ext.trans hx hb; have s1 := hb.size
  obtain ⟨ib, ip, rfl, ir⟩ := c
  go_wp2_with fail
  obtain ⟨w3, hW, hb, z2, gi⟩ := box1 w2 [.bool ib, .pointer ip] 26
  rw [hW]; clear hW
  replace hx := Ext.trans hx hb; replace ir := (PRep .one ib ip).mono hb ir; have s3 := hb.size
  obtain ⟨M, hM⟩ : ∃ M : Nat, n % 18 = (M : Int) := ⟨(n % 18).toNat, by omega⟩
  have hM2 : M ≤ 17 := by omega
  rw [hM]
  have HM := Lib.hid hM; clear hM
  generalize hki : w2.heap.size = ki at *
  have Hki := Lib.hid hki; clear hki
  have hwk : w.heap.size ≤ ki := by have := Hki.out; omega
  go_loopg [20] M (fun m kv wr => DeepRel w ki wr M kv m)
  case atStart => exact ⟨0, .one, ib, ip, rfl, by omega, by omega, rfl, by simp [T.depth], hx, gi, ir⟩
  case round =>
    clear ir gi hx
    obtain ⟨k, t, b, p, rfl, hk, hm, hsp, hdep, hx, gi, ir⟩ := hrel
    have HD := Lib.hid hdep; have Hm := Lib.hid hm; have HS := Lib.hid hsp; clear hdep hm hsp
    have hdb : t.depth ≤ 16 := by have := HD.out; omega
    by_cases hlt : k < M
    ·
      by_cases h16 : k < 16
      ·
        obtain ⟨mk1, mk2, _⟩ := spine_mk HS.out
        have hd1 : (T.mk t .zero).depth ≤ 16 := by rw [mk1]; have := HD.out; simp only [T.depth]; omega
        have hd2 : (T.mk .zero t).depth ≤ 16 := by rw [mk2]; have := HD.out; simp only [T.depth]; omega
        have Hd1 := Lib.hid hd1; have Hd2 := Lib.hid hd2; have Mk1 := Lib.hid mk1; have Mk2 := Lib.hid mk2; clear hd1 hd2 mk1 mk2
        have gi_0 := gi.c 0 rfl; have gif0 := gi.f 0; have gi_1 := gi.c 1 rfl; have gif1 := gi.f 1; have gil := gi.lt
        go_wp2_with fail
        clear gi_0 gif0 gi_1 gif1 gil
        have gilt4 := gi.lt
        refine wp_late 7 [5] [] [(IsId t).toPP, (IsId .zero).toPP, Two (IsId (.node t .zero)).toPP (PP.eq (.int .i64 0)), Two (IsId (.node t .zero)).toPP (PP.eq (.int .i64 0)), (IsId (.node t .zero)).toPP, PP.eq (.int .i64 0), NewOf wr.heap.size [.bool false, .pointer none] 26] (by kernel_rfl) (by kernel_rfl) (fun _ _ d _ _ h => by cases d <;> exact h) ⟨?o0, ?o1, ?o2, ?o3, ?o4, ?o5, ?o6, trivial⟩ ⟨?l5, trivial⟩ (by decide) ?rest
        case l5 =>
          intro x0 x1 x2 x3 x4 x5 x6 w' hE
          rintro ⟨a3, _, rfl, ha3, rfl⟩
          refine ⟨(.int .i64 0), rfl, fun w'' => ?_⟩
          simp only [putAll, List.take, List.drop, List.map, Act.put, List.setIfInBounds_toArray, List.set_cons_zero, List.set_cons_succ]
          go_simp
        case o0 =>
          intro x0 x1 x2 x3 x4 x5 x6 w' hE
          rintro R hR
          have qgi0 := (gi.ext hE).c 0 rfl
          have qgi1 := (gi.ext hE).c 1 rfl
          simp only [putAll, List.take, List.drop, List.map, Act.put, List.setIfInBounds_toArray, List.set_cons_zero, List.set_cons_succ]
          go_simp
          exact hR _ _ (Ext.refl _) (⟨_, _, rfl, ir.ext hE⟩) trivial
        case o1 =>
          intro x0 x1 x2 x3 x4 x5 x6 w' hE
          rintro R hR
          simp only [putAll, List.take, List.drop, List.map, Act.put, List.setIfInBounds_toArray, List.set_cons_zero, List.set_cons_succ]
          go_simp
          refine (zero_c).mono ?_
          rintro _ w'' ⟨v, rfl, hv, hb⟩
          exact hR _ _ hb hv trivial
        case o2 =>
          intro x0 x1 x2 x3 x4 x5 x6 w' hE
          rintro d0 d1 _ R hR
          simp only [putAll, List.take, List.drop, List.map, Act.put, List.setIfInBounds_toArray, List.set_cons_zero, List.set_cons_succ]
          go_simp
          have hq := pair_ok d0 d1 (by omega) (by simp [T.depth]) Hd1.out
          rw [Mk1.out] at hq
          refine hq.mono ?_
          rintro _ w'' ⟨v, rfl, hv, hb⟩
          exact hR _ _ hb hv trivial
        case o3 =>
          intro x0 x1 x2 x3 x4 x5 x6 w' hE
          rintro ⟨a2, _, rfl, ha2, rfl⟩ R hR
          simp only [putAll, List.take, List.drop, List.map, Act.put, List.setIfInBounds_toArray, List.set_cons_zero, List.set_cons_succ]
          go_simp
          exact hR _ _ (Ext.refl _) (⟨_, _, rfl, ha2, rfl⟩) trivial
        case o4 =>
          intro x0 x1 x2 x3 x4 x5 x6 w' hE
          rintro ⟨a3, _, rfl, ha3, rfl⟩ R hR
          simp only [putAll, List.take, List.drop, List.map, Act.put, List.setIfInBounds_toArray, List.set_cons_zero, List.set_cons_succ]
          go_simp
          exact hR _ _ (Ext.refl _) (ha3) trivial
        case o5 =>
          intro x0 x1 x2 x3 x4 x5 x6 w' hE
          rintro ⟨a3, _, rfl, ha3, rfl⟩ R hR
          simp only [putAll, List.take, List.drop, List.map, Act.put, List.setIfInBounds_toArray, List.set_cons_zero, List.set_cons_succ]
          go_simp
          exact hR _ _ (Ext.refl _) (rfl) trivial
        case o6 =>
          intro x0 x1 x2 x3 x4 x5 x6 w' hE
          rintro R hR
          simp only [putAll, List.take, List.drop, List.map, Act.put, List.setIfInBounds_toArray, List.set_cons_zero, List.set_cons_succ]
          go_simp
          exact hR _ _ ((Ext.refl _).alloc _) (newOf_alloc hE.size _ _) trivial
        case rest =>
          intro x0 x1 x2 x3 x4 x5 x6 x1 hb
          rintro _ _ _ _ r4 rfl ⟨k6, rfl, hB6, n6⟩ hap
          replace hx := Ext.trans hx hb; replace gi := gi.ext hb; replace ir := (PRep t b p).mono hb ir; have s5 := hb.size
          clear hap
          simp only [putAll, List.take, List.drop, List.map, Act.put, List.setIfInBounds_toArray, List.set_cons_zero, List.set_cons_succ]
          obtain ⟨jb, jp, rfl, jr⟩ := r4
          have gi_0 := gi.c 0 rfl; have gif0 := gi.f 0; have gi_1 := gi.c 1 rfl; have gif1 := gi.f 1; have gil := gi.lt; have n6_0 := n6.c 0 rfl; have n6f0 := n6.f 0; have n6_1 := n6.c 1 rfl; have n6f1 := n6.f 1; have n6l := n6.lt
          go_wp2_with fail
          ·
            clear gi_0 gif0 gi_1 gif1 gil n6_0 n6f0 n6_1 n6f1 n6l
            obtain ⟨x2, hW, st⟩ := ex2 n6 (.bool jb) (.pointer jp)
            rw [hW]; clear hW
            replace hx : Ext w x2 := st.below hx (by omega); replace gi := st.keep gi (by omega); replace n6 := st.blk; replace ir := (PRep t b p).imm (st.imm TS (by decide)) ir; replace jr := (PRep (.node t .zero) jb jp).imm (st.imm TS (by decide)) jr; have s6 := st.size
            have gilt7 := gi.lt
            have n6lt7 := n6.lt
            refine wp_late 6 [5] [] [(IsId .zero).toPP, (IsId t).toPP, Two (IsId (.node .zero t)).toPP (PP.eq (.int .i64 0)), Two (IsId (.node .zero t)).toPP (PP.eq (.int .i64 0)), (IsId (.node .zero t)).toPP, PP.eq (.int .i64 0)] (by kernel_rfl) (by kernel_rfl) (fun _ _ d _ _ h => by cases d <;> exact h) ⟨?o0, ?o1, ?o2, ?o3, ?o4, ?o5, trivial⟩ ⟨?l5, trivial⟩ (by decide) ?rest
            case l5 =>
              intro x0 x1 x2 x3 x4 x5 w' hE
              rintro ⟨a3, _, rfl, ha3, rfl⟩
              refine ⟨(.int .i64 0), rfl, fun w'' => ?_⟩
              simp only [putAll, List.take, List.drop, List.map, Act.put, List.setIfInBounds_toArray, List.set_cons_zero, List.set_cons_succ]
              go_simp
            case o0 =>
              intro x0 x1 x2 x3 x4 x5 w' hE
              rintro R hR
              simp only [putAll, List.take, List.drop, List.map, Act.put, List.setIfInBounds_toArray, List.set_cons_zero, List.set_cons_succ]
              go_simp
              refine (zero_c).mono ?_
              rintro _ w'' ⟨v, rfl, hv, hb⟩
              exact hR _ _ hb hv trivial
            case o1 =>
              intro x0 x1 x2 x3 x4 x5 w' hE
              rintro R hR
              have qgi0 := (gi.ext hE).c 0 rfl
              have qgi1 := (gi.ext hE).c 1 rfl
              simp only [putAll, List.take, List.drop, List.map, Act.put, List.setIfInBounds_toArray, List.set_cons_zero, List.set_cons_succ]
              go_simp
              exact hR _ _ (Ext.refl _) (⟨_, _, rfl, ir.ext hE⟩) trivial
            case o2 =>
              intro x0 x1 x2 x3 x4 x5 w' hE
              rintro d0 d1 _ R hR
              simp only [putAll, List.take, List.drop, List.map, Act.put, List.setIfInBounds_toArray, List.set_cons_zero, List.set_cons_succ]
              go_simp
              have hq := pair_ok d0 d1 (by simp [T.depth]) (by omega) Hd2.out
              rw [Mk2.out] at hq
              refine hq.mono ?_
              rintro _ w'' ⟨v, rfl, hv, hb⟩
              exact hR _ _ hb hv trivial
            case o3 =>
              intro x0 x1 x2 x3 x4 x5 w' hE
              rintro ⟨a2, _, rfl, ha2, rfl⟩ R hR
              simp only [putAll, List.take, List.drop, List.map, Act.put, List.setIfInBounds_toArray, List.set_cons_zero, List.set_cons_succ]
              go_simp
              exact hR _ _ (Ext.refl _) (⟨_, _, rfl, ha2, rfl⟩) trivial
            case o4 =>
              intro x0 x1 x2 x3 x4 x5 w' hE
              rintro ⟨a3, _, rfl, ha3, rfl⟩ R hR
              simp only [putAll, List.take, List.drop, List.map, Act.put, List.setIfInBounds_toArray, List.set_cons_zero, List.set_cons_succ]
              go_simp
              exact hR _ _ (Ext.refl _) (ha3) trivial
            case o5 =>
              intro x0 x1 x2 x3 x4 x5 w' hE
              rintro ⟨a3, _, rfl, ha3, rfl⟩ R hR
              simp only [putAll, List.take, List.drop, List.map, Act.put, List.setIfInBounds_toArray, List.set_cons_zero, List.set_cons_succ]
              go_simp
              exact hR _ _ (Ext.refl _) (rfl) trivial
            case rest =>
              intro x0 x1 x2 x3 x4 x5 x3 hb
              rintro _ _ _ _ r4 rfl hap
              replace hx := Ext.trans hx hb; replace gi := gi.ext hb; replace n6 := n6.ext hb; replace ir := (PRep t b p).mono hb ir; replace jr := (PRep (.node t .zero) jb jp).mono hb jr; have s8 := hb.size
              clear hap
              simp only [putAll, List.take, List.drop, List.map, Act.put, List.setIfInBounds_toArray, List.set_cons_zero, List.set_cons_succ]
              obtain ⟨qb, qp, rfl, qr⟩ := r4
              have gi_0 := gi.c 0 rfl; have gif0 := gi.f 0; have gi_1 := gi.c 1 rfl; have gif1 := gi.f 1; have gil := gi.lt; have n6_0 := n6.c 0 rfl; have n6f0 := n6.f 0; have n6_1 := n6.c 1 rfl; have n6f1 := n6.f 1; have n6l := n6.lt
              go_wp2_with fail
              clear gi_0 gif0 gi_1 gif1 gil n6_0 n6f0 n6_1 n6f1 n6l
              obtain ⟨x4, hW, st⟩ := ex2 n6 (.bool qb) (.pointer qp)
              rw [hW]; clear hW
              replace hx : Ext w x4 := st.below hx (by omega); replace gi := st.keep gi (by omega); replace n6 := st.blk; replace ir := (PRep t b p).imm (st.imm TS (by decide)) ir; replace jr := (PRep (.node t .zero) jb jp).imm (st.imm TS (by decide)) jr; replace qr := (PRep (.node .zero t) qb qp).imm (st.imm TS (by decide)) qr; have s9 := st.size
              obtain ⟨x5, hW, st⟩ := ex2 gi (.bool qb) (.pointer qp)
              rw [hW]; clear hW
              replace hx : Ext w x5 := st.below hx (by omega); replace n6 := st.keep n6 (by omega); replace gi := st.blk; replace ir := (PRep t b p).imm (st.imm TS (by decide)) ir; replace jr := (PRep (.node t .zero) jb jp).imm (st.imm TS (by decide)) jr; replace qr := (PRep (.node .zero t) qb qp).imm (st.imm TS (by decide)) qr; have s10 := st.size
              go_roundg (M - (k + 1))
              case measure => have := Hm.out; omega
              case rel =>
                exact ⟨k + 1, (.node .zero t), qb, qp, by go_num, by omega, rfl, spine_r HS.out, by have := HD.out; (try simp only [T.depth] at *); omega, hx, gi, qr⟩
          ·
            clear gi_0 gif0 gi_1 gif1 gil n6_0 n6f0 n6_1 n6f1 n6l
            obtain ⟨x2, hW, st⟩ := ex2 n6 (.bool jb) (.pointer jp)
            rw [hW]; clear hW
            replace hx : Ext w x2 := st.below hx (by omega); replace gi := st.keep gi (by omega); replace n6 := st.blk; replace ir := (PRep t b p).imm (st.imm TS (by decide)) ir; replace jr := (PRep (.node t .zero) jb jp).imm (st.imm TS (by decide)) jr; have s11 := st.size
            obtain ⟨x5, hW, st⟩ := ex2 gi (.bool jb) (.pointer jp)
            rw [hW]; clear hW
            replace hx : Ext w x5 := st.below hx (by omega); replace n6 := st.keep n6 (by omega); replace gi := st.blk; replace ir := (PRep t b p).imm (st.imm TS (by decide)) ir; replace jr := (PRep (.node t .zero) jb jp).imm (st.imm TS (by decide)) jr; have s12 := st.size
            go_roundg (M - (k + 1))
            case measure => have := Hm.out; omega
            case rel =>
              exact ⟨k + 1, (.node t .zero), jb, jp, by go_num, by omega, rfl, spine_l HS.out, by have := HD.out; (try simp only [T.depth] at *); omega, hx, gi, jr⟩
      ·
        obtain ⟨mk1, mk2, _⟩ := spine_mk HS.out
        have hd1 : 16 < (T.mk t .zero).depth := by rw [mk1]; have := HD.out; simp only [T.depth]; omega
        have hd2 : 16 < (T.mk .zero t).depth := by rw [mk2]; have := HD.out; simp only [T.depth]; omega
        have Hd1 := Lib.hid hd1; have Hd2 := Lib.hid hd2; have Mk1 := Lib.hid mk1; have Mk2 := Lib.hid mk2; clear hd1 hd2 mk1 mk2
        have hk16 : decide ((k : Int) < 16) = false := by simp; omega
        have hzz : T.zero.isZero = true := rfl
        have gi_0 := gi.c 0 rfl; have gif0 := gi.f 0; have gi_1 := gi.c 1 rfl; have gif1 := gi.f 1; have gil := gi.lt
        go_wp2_with fail
        clear gi_0 gif0 gi_1 gif1 gil
        have gilt13 := gi.lt
        refine wp_late 7 [5] [] [(IsId t).toPP, (IsId .zero).toPP, Two (IsId .zero).toPP (PP.eq (.int .i64 3)), Two (IsId .zero).toPP (PP.eq (.int .i64 3)), (IsId .zero).toPP, PP.eq (.int .i64 3), NewOf wr.heap.size [.bool false, .pointer none] 26] (by kernel_rfl) (by kernel_rfl) (fun _ _ d _ _ h => by cases d <;> exact h) ⟨?o0, ?o1, ?o2, ?o3, ?o4, ?o5, ?o6, trivial⟩ ⟨?l5, trivial⟩ (by decide) ?rest
        case l5 =>
          intro x0 x1 x2 x3 x4 x5 x6 w' hE
          rintro ⟨a3, _, rfl, ha3, rfl⟩
          refine ⟨(.int .i64 3), rfl, fun w'' => ?_⟩
          simp only [putAll, List.take, List.drop, List.map, Act.put, List.setIfInBounds_toArray, List.set_cons_zero, List.set_cons_succ]
          go_simp
        case o0 =>
          intro x0 x1 x2 x3 x4 x5 x6 w' hE
          rintro R hR
          have qgi0 := (gi.ext hE).c 0 rfl
          have qgi1 := (gi.ext hE).c 1 rfl
          simp only [putAll, List.take, List.drop, List.map, Act.put, List.setIfInBounds_toArray, List.set_cons_zero, List.set_cons_succ]
          go_simp
          exact hR _ _ (Ext.refl _) (⟨_, _, rfl, ir.ext hE⟩) trivial
        case o1 =>
          intro x0 x1 x2 x3 x4 x5 x6 w' hE
          rintro R hR
          simp only [putAll, List.take, List.drop, List.map, Act.put, List.setIfInBounds_toArray, List.set_cons_zero, List.set_cons_succ]
          go_simp
          refine (zero_c).mono ?_
          rintro _ w'' ⟨v, rfl, hv, hb⟩
          exact hR _ _ hb hv trivial
        case o2 =>
          intro x0 x1 x2 x3 x4 x5 x6 w' hE
          rintro d0 d1 _ R hR
          simp only [putAll, List.take, List.drop, List.map, Act.put, List.setIfInBounds_toArray, List.set_cons_zero, List.set_cons_succ]
          go_simp
          have hq := pair_deep d0 d1 (by omega) (by simp [T.depth]) Hd1.out
          refine hq.mono ?_
          rintro _ w'' ⟨v, rfl, hv, hb⟩
          exact hR _ _ hb hv trivial
        case o3 =>
          intro x0 x1 x2 x3 x4 x5 x6 w' hE
          rintro ⟨a2, _, rfl, ha2, rfl⟩ R hR
          simp only [putAll, List.take, List.drop, List.map, Act.put, List.setIfInBounds_toArray, List.set_cons_zero, List.set_cons_succ]
          go_simp
          exact hR _ _ (Ext.refl _) (⟨_, _, rfl, ha2, rfl⟩) trivial
        case o4 =>
          intro x0 x1 x2 x3 x4 x5 x6 w' hE
          rintro ⟨a3, _, rfl, ha3, rfl⟩ R hR
          simp only [putAll, List.take, List.drop, List.map, Act.put, List.setIfInBounds_toArray, List.set_cons_zero, List.set_cons_succ]
          go_simp
          exact hR _ _ (Ext.refl _) (ha3) trivial
        case o5 =>
          intro x0 x1 x2 x3 x4 x5 x6 w' hE
          rintro ⟨a3, _, rfl, ha3, rfl⟩ R hR
          simp only [putAll, List.take, List.drop, List.map, Act.put, List.setIfInBounds_toArray, List.set_cons_zero, List.set_cons_succ]
          go_simp
          exact hR _ _ (Ext.refl _) (rfl) trivial
        case o6 =>
          intro x0 x1 x2 x3 x4 x5 x6 w' hE
          rintro R hR
          simp only [putAll, List.take, List.drop, List.map, Act.put, List.setIfInBounds_toArray, List.set_cons_zero, List.set_cons_succ]
          go_simp
          exact hR _ _ ((Ext.refl _).alloc _) (newOf_alloc hE.size _ _) trivial
        case rest =>
          intro x0 x1 x2 x3 x4 x5 x6 x1 hb
          rintro _ _ _ _ r4 rfl ⟨k6, rfl, hB6, n6⟩ hap
          replace hx := Ext.trans hx hb; replace gi := gi.ext hb; replace ir := (PRep t b p).mono hb ir; have s14 := hb.size
          clear hap
          simp only [putAll, List.take, List.drop, List.map, Act.put, List.setIfInBounds_toArray, List.set_cons_zero, List.set_cons_succ]
          obtain ⟨jb, jp, rfl, jr⟩ := r4
          have gi_0 := gi.c 0 rfl; have gif0 := gi.f 0; have gi_1 := gi.c 1 rfl; have gif1 := gi.f 1; have gil := gi.lt; have n6_0 := n6.c 0 rfl; have n6f0 := n6.f 0; have n6_1 := n6.c 1 rfl; have n6f1 := n6.f 1; have n6l := n6.lt
          go_wp2_with fail
          ·
            clear gi_0 gif0 gi_1 gif1 gil n6_0 n6f0 n6_1 n6f1 n6l
            obtain ⟨x2, hW, st⟩ := ex2 n6 (.bool jb) (.pointer jp)
            rw [hW]; clear hW
            replace hx : Ext w x2 := st.below hx (by omega); replace gi := st.keep gi (by omega); replace n6 := st.blk; replace ir := (PRep t b p).imm (st.imm TS (by decide)) ir; replace jr := (PRep .zero jb jp).imm (st.imm TS (by decide)) jr; have s15 := st.size
            have gilt16 := gi.lt
            have n6lt16 := n6.lt
            refine wp_late 6 [5] [] [(IsId .zero).toPP, (IsId t).toPP, Two (IsId .zero).toPP (PP.eq (.int .i64 3)), Two (IsId .zero).toPP (PP.eq (.int .i64 3)), (IsId .zero).toPP, PP.eq (.int .i64 3)] (by kernel_rfl) (by kernel_rfl) (fun _ _ d _ _ h => by cases d <;> exact h) ⟨?o0, ?o1, ?o2, ?o3, ?o4, ?o5, trivial⟩ ⟨?l5, trivial⟩ (by decide) ?rest
            case l5 =>
              intro x0 x1 x2 x3 x4 x5 w' hE
              rintro ⟨a3, _, rfl, ha3, rfl⟩
              refine ⟨(.int .i64 3), rfl, fun w'' => ?_⟩
              simp only [putAll, List.take, List.drop, List.map, Act.put, List.setIfInBounds_toArray, List.set_cons_zero, List.set_cons_succ]
              go_simp
            case o0 =>
              intro x0 x1 x2 x3 x4 x5 w' hE
              rintro R hR
              simp only [putAll, List.take, List.drop, List.map, Act.put, List.setIfInBounds_toArray, List.set_cons_zero, List.set_cons_succ]
              go_simp
              refine (zero_c).mono ?_
              rintro _ w'' ⟨v, rfl, hv, hb⟩
              exact hR _ _ hb hv trivial
            case o1 =>
              intro x0 x1 x2 x3 x4 x5 w' hE
              rintro R hR
              have qgi0 := (gi.ext hE).c 0 rfl
              have qgi1 := (gi.ext hE).c 1 rfl
              simp only [putAll, List.take, List.drop, List.map, Act.put, List.setIfInBounds_toArray, List.set_cons_zero, List.set_cons_succ]
              go_simp
              exact hR _ _ (Ext.refl _) (⟨_, _, rfl, ir.ext hE⟩) trivial
            case o2 =>
              intro x0 x1 x2 x3 x4 x5 w' hE
              rintro d0 d1 _ R hR
              simp only [putAll, List.take, List.drop, List.map, Act.put, List.setIfInBounds_toArray, List.set_cons_zero, List.set_cons_succ]
              go_simp
              have hq := pair_deep d0 d1 (by simp [T.depth]) (by omega) Hd2.out
              refine hq.mono ?_
              rintro _ w'' ⟨v, rfl, hv, hb⟩
              exact hR _ _ hb hv trivial
            case o3 =>
              intro x0 x1 x2 x3 x4 x5 w' hE
              rintro ⟨a2, _, rfl, ha2, rfl⟩ R hR
              simp only [putAll, List.take, List.drop, List.map, Act.put, List.setIfInBounds_toArray, List.set_cons_zero, List.set_cons_succ]
              go_simp
              exact hR _ _ (Ext.refl _) (⟨_, _, rfl, ha2, rfl⟩) trivial
            case o4 =>
              intro x0 x1 x2 x3 x4 x5 w' hE
              rintro ⟨a3, _, rfl, ha3, rfl⟩ R hR
              simp only [putAll, List.take, List.drop, List.map, Act.put, List.setIfInBounds_toArray, List.set_cons_zero, List.set_cons_succ]
              go_simp
              exact hR _ _ (Ext.refl _) (ha3) trivial
            case o5 =>
              intro x0 x1 x2 x3 x4 x5 w' hE
              rintro ⟨a3, _, rfl, ha3, rfl⟩ R hR
              simp only [putAll, List.take, List.drop, List.map, Act.put, List.setIfInBounds_toArray, List.set_cons_zero, List.set_cons_succ]
              go_simp
              exact hR _ _ (Ext.refl _) (rfl) trivial
            case rest =>
              intro x0 x1 x2 x3 x4 x5 x3 hb
              rintro _ _ _ _ r4 rfl hap
              replace hx := Ext.trans hx hb; replace gi := gi.ext hb; replace n6 := n6.ext hb; replace ir := (PRep t b p).mono hb ir; replace jr := (PRep .zero jb jp).mono hb jr; have s17 := hb.size
              clear hap
              simp only [putAll, List.take, List.drop, List.map, Act.put, List.setIfInBounds_toArray, List.set_cons_zero, List.set_cons_succ]
              obtain ⟨qb, qp, rfl, qr⟩ := r4
              have gi_0 := gi.c 0 rfl; have gif0 := gi.f 0; have gi_1 := gi.c 1 rfl; have gif1 := gi.f 1; have gil := gi.lt; have n6_0 := n6.c 0 rfl; have n6f0 := n6.f 0; have n6_1 := n6.c 1 rfl; have n6f1 := n6.f 1; have n6l := n6.lt
              go_wp2_with fail
              clear gi_0 gif0 gi_1 gif1 gil n6_0 n6f0 n6_1 n6f1 n6l
              obtain ⟨x4, hW, st⟩ := ex2 n6 (.bool qb) (.pointer qp)
              rw [hW]; clear hW
              replace hx : Ext w x4 := st.below hx (by omega); replace gi := st.keep gi (by omega); replace n6 := st.blk; replace ir := (PRep t b p).imm (st.imm TS (by decide)) ir; replace jr := (PRep .zero jb jp).imm (st.imm TS (by decide)) jr; replace qr := (PRep .zero qb qp).imm (st.imm TS (by decide)) qr; have s18 := st.size
              refine (isZero_c (PRep.is qr)).mono ?_
              rintro _ x5 ⟨_, rfl, rfl, hb⟩
              replace hx := Ext.trans hx hb; replace gi := gi.ext hb; replace n6 := n6.ext hb; replace ir := (PRep t b p).mono hb ir; replace jr := (PRep .zero jb jp).mono hb jr; replace qr := (PRep .zero qb qp).mono hb qr; have s19 := hb.size
              have gi_0 := gi.c 0 rfl; have gif0 := gi.f 0; have gi_1 := gi.c 1 rfl; have gif1 := gi.f 1; have gil := gi.lt; have n6_0 := n6.c 0 rfl; have n6f0 := n6.f 0; have n6_1 := n6.c 1 rfl; have n6f1 := n6.f 1; have n6l := n6.lt
              go_wp2_with fail
              clear gi_0 gif0 gi_1 gif1 gil n6_0 n6f0 n6_1 n6f1 n6l
              go_roundg (M - (k + 1))
              case measure => have := Hm.out; omega
              case rel =>
                exact ⟨k + 1, t, b, p, by go_num, by omega, rfl, HS.out, by have := HD.out; (try simp only [T.depth] at *); omega, hx, gi, ir⟩
          ·
            clear gi_0 gif0 gi_1 gif1 gil n6_0 n6f0 n6_1 n6f1 n6l
            obtain ⟨x2, hW, st⟩ := ex2 n6 (.bool jb) (.pointer jp)
            rw [hW]; clear hW
            replace hx : Ext w x2 := st.below hx (by omega); replace gi := st.keep gi (by omega); replace n6 := st.blk; replace ir := (PRep t b p).imm (st.imm TS (by decide)) ir; replace jr := (PRep .zero jb jp).imm (st.imm TS (by decide)) jr; have s20 := st.size
            refine (isZero_c (PRep.is jr)).mono ?_
            rintro _ x5 ⟨_, rfl, rfl, hb⟩
            replace hx := Ext.trans hx hb; replace gi := gi.ext hb; replace n6 := n6.ext hb; replace ir := (PRep t b p).mono hb ir; replace jr := (PRep .zero jb jp).mono hb jr; have s21 := hb.size
            have gi_0 := gi.c 0 rfl; have gif0 := gi.f 0; have gi_1 := gi.c 1 rfl; have gif1 := gi.f 1; have gil := gi.lt; have n6_0 := n6.c 0 rfl; have n6f0 := n6.f 0; have n6_1 := n6.c 1 rfl; have n6f1 := n6.f 1; have n6l := n6.lt
            go_wp2_with fail
            clear gi_0 gif0 gi_1 gif1 gil n6_0 n6f0 n6_1 n6f1 n6l
            go_roundg (M - (k + 1))
            case measure => have := Hm.out; omega
            case rel =>
              exact ⟨k + 1, t, b, p, by go_num, by omega, rfl, HS.out, by have := HD.out; (try simp only [T.depth] at *); omega, hx, gi, ir⟩
    ·
      have hkM : k = M := by omega
      subst hkM
      have hcut := spine_cut t HS.out
      have gi_0 := gi.c 0 rfl; have gif0 := gi.f 0; have gi_1 := gi.c 1 rfl; have gif1 := gi.f 1; have gil := gi.lt
      go_wp2_with fail
      clear gi_0 gif0 gi_1 gif1 gil
      rcases (show k = 16 ∨ k = 17 ∨ k < 16 from by omega) with rfl | rfl | h16
      ·
        have hdp := HD.out
        have hsp : splitT t = (.zero, .zero, 3) := by unfold splitT; rw [if_pos (by omega)]
        have hs := split_c (PRep.is ir) (by omega)
        rw [hsp] at hs
        clear hsp
        refine (hs).mono ?_
        rintro _ y1 ⟨cv, rfl, c, hb⟩
        replace hx := Ext.trans hx hb; replace gi := gi.ext hb; replace ir := (PRep t b p).mono hb ir; have s22 := hb.size
        obtain ⟨av, bv', _, rfl, ha, hb', rfl⟩ := c
        obtain ⟨ab, ap, rfl, ar⟩ := ha
        obtain ⟨bb, bp, rfl, br⟩ := hb'
        skip
        clear hs hcut
        have Hdp := Lib.hid hdp; clear hdp
        have gi_0 := gi.c 0 rfl; have gif0 := gi.f 0; have gi_1 := gi.c 1 rfl; have gif1 := gi.f 1; have gil := gi.lt
        go_wp2_with fail
        clear gi_0 gif0 gi_1 gif1 gil
        have gilt23 := gi.lt
        obtain ⟨y2, hW, hb, z23, ga, gb⟩ := box2 y1 [.bool ab, .pointer ap] [.bool bb, .pointer bp] 26 26
        rw [hW]; clear hW
        replace hx := Ext.trans hx hb; replace gi := gi.ext hb; replace ir := (PRep t b p).mono hb ir; replace ar := (PRep .zero ab ap).mono hb ar; replace br := (PRep .zero bb bp).mono hb br; have s24 := hb.size
        refine (depth_c (PRep.is ir)).mono ?_
        rintro _ y3 ⟨_, rfl, rfl, hb⟩
        replace hx := Ext.trans hx hb; replace gi := gi.ext hb; replace ga := ga.ext hb; replace gb := gb.ext hb; replace ir := (PRep t b p).mono hb ir; replace ar := (PRep .zero ab ap).mono hb ar; replace br := (PRep .zero bb bp).mono hb br; have s25 := hb.size
        rw [Hdp.out, show min 16 16 = 16 from by omega]
        have gi_0 := gi.c 0 rfl; have gif0 := gi.f 0; have gi_1 := gi.c 1 rfl; have gif1 := gi.f 1; have gil := gi.lt; have ga_0 := ga.c 0 rfl; have gaf0 := ga.f 0; have ga_1 := ga.c 1 rfl; have gaf1 := ga.f 1; have gal := ga.lt; have gb_0 := gb.c 0 rfl; have gbf0 := gb.f 0; have gb_1 := gb.c 1 rfl; have gbf1 := gb.f 1; have gbl := gb.lt
        go_wp2_with fail
        clear gi_0 gif0 gi_1 gif1 gil ga_0 gaf0 ga_1 gaf1 gal gb_0 gbf0 gb_1 gbf1 gbl
        go_ret
        exact ⟨_, rfl, rfl, hx⟩
      ·
        have hdp := HD.out
        have hsp : splitT t = (.zero, .zero, 3) := by unfold splitT; rw [if_pos (by omega)]
        have hs := split_c (PRep.is ir) (by omega)
        rw [hsp] at hs
        clear hsp
        refine (hs).mono ?_
        rintro _ y1 ⟨cv, rfl, c, hb⟩
        replace hx := Ext.trans hx hb; replace gi := gi.ext hb; replace ir := (PRep t b p).mono hb ir; have s26 := hb.size
        obtain ⟨av, bv', _, rfl, ha, hb', rfl⟩ := c
        obtain ⟨ab, ap, rfl, ar⟩ := ha
        obtain ⟨bb, bp, rfl, br⟩ := hb'
        skip
        clear hs hcut
        have Hdp := Lib.hid hdp; clear hdp
        have gi_0 := gi.c 0 rfl; have gif0 := gi.f 0; have gi_1 := gi.c 1 rfl; have gif1 := gi.f 1; have gil := gi.lt
        go_wp2_with fail
        clear gi_0 gif0 gi_1 gif1 gil
        have gilt27 := gi.lt
        obtain ⟨y2, hW, hb, z27, ga, gb⟩ := box2 y1 [.bool ab, .pointer ap] [.bool bb, .pointer bp] 26 26
        rw [hW]; clear hW
        replace hx := Ext.trans hx hb; replace gi := gi.ext hb; replace ir := (PRep t b p).mono hb ir; replace ar := (PRep .zero ab ap).mono hb ar; replace br := (PRep .zero bb bp).mono hb br; have s28 := hb.size
        refine (depth_c (PRep.is ir)).mono ?_
        rintro _ y3 ⟨_, rfl, rfl, hb⟩
        replace hx := Ext.trans hx hb; replace gi := gi.ext hb; replace ga := ga.ext hb; replace gb := gb.ext hb; replace ir := (PRep t b p).mono hb ir; replace ar := (PRep .zero ab ap).mono hb ar; replace br := (PRep .zero bb bp).mono hb br; have s29 := hb.size
        rw [Hdp.out, show min 17 16 = 16 from by omega]
        have gi_0 := gi.c 0 rfl; have gif0 := gi.f 0; have gi_1 := gi.c 1 rfl; have gif1 := gi.f 1; have gil := gi.lt; have ga_0 := ga.c 0 rfl; have gaf0 := ga.f 0; have ga_1 := ga.c 1 rfl; have gaf1 := ga.f 1; have gal := ga.lt; have gb_0 := gb.c 0 rfl; have gbf0 := gb.f 0; have gb_1 := gb.c 1 rfl; have gbf1 := gb.f 1; have gbl := gb.lt
        go_wp2_with fail
        clear gi_0 gif0 gi_1 gif1 gil ga_0 gaf0 ga_1 gaf1 gal gb_0 gbf0 gb_1 gbf1 gbl
        go_ret
        exact ⟨_, rfl, rfl, hx⟩
      ·
        have hdp := HD.out
        have hsp : splitT t = ((cutT t).1, (cutT t).2, 0) := by unfold splitT; rw [if_neg (by omega)]
        have hs := split_c (PRep.is ir) (by omega)
        rw [hsp] at hs
        clear hsp
        refine (hs).mono ?_
        rintro _ y1 ⟨cv, rfl, c, hb⟩
        replace hx := Ext.trans hx hb; replace gi := gi.ext hb; replace ir := (PRep t b p).mono hb ir; have s30 := hb.size
        obtain ⟨av, bv', _, rfl, ha, hb', rfl⟩ := c
        obtain ⟨ab, ap, rfl, ar⟩ := ha
        obtain ⟨bb, bp, rfl, br⟩ := hb'
        have hg16 : decide ((16 : Int) ≤ (k : Int)) = false := by simp; omega
        clear hs hcut
        have Hdp := Lib.hid hdp; clear hdp
        have gi_0 := gi.c 0 rfl; have gif0 := gi.f 0; have gi_1 := gi.c 1 rfl; have gif1 := gi.f 1; have gil := gi.lt
        go_wp2_with fail
        clear gi_0 gif0 gi_1 gif1 gil
        have gilt31 := gi.lt
        obtain ⟨y2, hW, hb, z31, ga, gb⟩ := box2 y1 [.bool ab, .pointer ap] [.bool bb, .pointer bp] 26 26
        rw [hW]; clear hW
        replace hx := Ext.trans hx hb; replace gi := gi.ext hb; replace ir := (PRep t b p).mono hb ir; replace ar := (PRep (cutT t).1 ab ap).mono hb ar; replace br := (PRep (cutT t).2 bb bp).mono hb br; have s32 := hb.size
        refine (depth_c (PRep.is ir)).mono ?_
        rintro _ y3 ⟨_, rfl, rfl, hb⟩
        replace hx := Ext.trans hx hb; replace gi := gi.ext hb; replace ga := ga.ext hb; replace gb := gb.ext hb; replace ir := (PRep t b p).mono hb ir; replace ar := (PRep (cutT t).1 ab ap).mono hb ar; replace br := (PRep (cutT t).2 bb bp).mono hb br; have s33 := hb.size
        rw [Hdp.out, show min k 16 = k from by omega]
        have hkk : ((k : Int) == (k : Int)) = true := by simp
        have gi_0 := gi.c 0 rfl; have gif0 := gi.f 0; have gi_1 := gi.c 1 rfl; have gif1 := gi.f 1; have gil := gi.lt; have ga_0 := ga.c 0 rfl; have gaf0 := ga.f 0; have ga_1 := ga.c 1 rfl; have gaf1 := ga.f 1; have gal := ga.lt; have gb_0 := gb.c 0 rfl; have gbf0 := gb.f 0; have gb_1 := gb.c 1 rfl; have gbf1 := gb.f 1; have gbl := gb.lt
        go_wp2_with fail
        clear gi_0 gif0 gi_1 gif1 gil ga_0 gaf0 ga_1 gaf1 gal gb_0 gbf0 gb_1 gbf1 gbl
        go_ret
        exact ⟨_, rfl, rfl, hx⟩

end Go.Proofs.Ytkfncjaomgcdgaa

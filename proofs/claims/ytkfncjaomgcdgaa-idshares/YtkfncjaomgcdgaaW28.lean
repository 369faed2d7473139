/- IdShares. -/
import Derived.Test.YtkfncjaomgcdgaaW15
import Derived.Test.YtkfncjaomgcdgaaW27
import Derived.Deep.Cut
set_option linter.all false
namespace Go.Proofs.Ytkfncjaomgcdgaa
open Go.RowKit Go.Facts

def flat : List (Bool × Option Addr) → List Value
  | [] => []
  | x :: r => .bool x.1 :: .pointer x.2 :: flat r
theorem flat_len : ∀ vs : List (Bool × Option Addr), (flat vs).length = vs.length * 2
  | [] => rfl
  | x :: r => by simp only [flat, List.length_cons, flat_len r]; omega
theorem flat_app : ∀ (a b : List (Bool × Option Addr)), flat (a ++ b) = flat a ++ flat b
  | [], _ => rfl
  | x :: r, b => by simp only [flat, List.cons_append, flat_app r b]
theorem flat_get : ∀ (vs : List (Bool × Option Addr)) (i : Nat) (x : Bool × Option Addr), vs[i]? = some x → (flat vs)[i * 2]? = some (.bool x.1) ∧ (flat vs)[i * 2 + 1]? = some (.pointer x.2)
  | [], i, x, h => by simp at h
  | y :: r, 0, x, h => by simp at h; subst h; exact ⟨rfl, rfl⟩
  | y :: r, i + 1, x, h => by
    have := flat_get r i x (by simpa using h)
    rw [show (i + 1) * 2 = i * 2 + 2 by omega]
    exact this
theorem flat_set : ∀ (vs : List (Bool × Option Addr)) (i : Nat) (x : Bool × Option Addr), flat (vs.set i x) = ((flat vs).set (i * 2) (.bool x.1)).set (i * 2 + 1) (.pointer x.2)
  | [], i, x => rfl
  | y :: r, 0, x => rfl
  | y :: r, i + 1, x => by
    rw [show (i + 1) * 2 = i * 2 + 2 by omega]
    simp only [List.set_cons_succ, flat, flat_set r i x]
/-- ids in a row of the call's own -/
def Reps (w : World) (ps : List T) (vs : List (Bool × Option Addr)) : Prop := ∀ (i : Nat) t x, ps[i]? = some t → vs[i]? = some x → Rep w t x.1 x.2
theorem Reps.imm {w w' : World} {ps : List T} {vs : List (Bool × Option Addr)} (r : Reps w ps vs) (h : Imm TS w w') : Reps w' ps vs := fun i t x h1 h2 => (r i t x h1 h2).imm h
def Ids (w : World) (B : Nat) (ps : List T) (v : Value) : Prop := ∃ vs : List (Bool × Option Addr), vs.length = ps.length ∧ w.ownsRow B 26 2 v ps.length (flat vs) ∧ Reps w ps vs
theorem Ids.ext {w w' : World} {B : Nat} {ps : List T} {v : Value} (h : Ids w B ps v) (e : Ext w w') : Ids w' B ps v := let ⟨vs, h1, h2, h3⟩ := h; ⟨vs, h1, own_ext h2 e, h3.imm (imm_of_ext e)⟩
theorem Ids.open {w : World} {B : Nat} {ps : List T} {v : Value} (h : Ids w B ps v) (h1 : 1 ≤ ps.length) : ∃ g cap cs vs, v = .slice (some ⟨g, 0, none⟩) ps.length cap ∧ B ≤ g ∧ Blk w g cs 26 ∧ ps.length ≤ cap ∧ cap ≤ maxLen ∧ cs.length = cap * 2 ∧
    vs.length = ps.length ∧ cs.take (ps.length * 2) = flat vs ∧ Reps w ps vs := by
  obtain ⟨vs, hl, ⟨_, h2⟩, hr⟩ := h
  rcases h2 with ⟨_, h0⟩ | ⟨g, cap, cur, hv, hg, hh, hc, hm, hs, ht⟩
  · omega
  · exact ⟨g, cap, cur.toList, vs, hv, hg, hh, hc, hm, by simpa using hs, hl, by simpa using ht, hr⟩
theorem ids_of {w : World} {B : Nat} {ps : List T} {g cap : Nat} {cs : List Value} {vs : List (Bool × Option Addr)} (hB : B ≤ g) (hb : Blk w g cs 26) (hc : ps.length ≤ cap) (hm : cap ≤ maxLen) (hs : cs.length = cap * 2) (hl : vs.length = ps.length) (ht : cs.take (ps.length * 2) = flat vs) (hr : Reps w ps vs) :
    Ids w B ps (.slice (some ⟨g, 0, none⟩) ps.length cap) := ⟨vs, hl, ⟨by rw [flat_len]; omega, .inr ⟨g, cap, cs.toArray, rfl, hB, hb, hc, hm, by simpa using hs, by simpa using ht⟩⟩, hr⟩
theorem ids_cells {w : World} {g n : Nat} {cs : List Value} {vs : List (Bool × Option Addr)} (hb : Blk w g cs 26) (ht : cs.take (n * 2) = flat vs) {i : Nat} {x : Bool × Option Addr} (hi : vs[i]? = some x) (hn : vs.length = n) : w.cell? ⟨g, i * 2, none⟩ = some (.bool x.1) ∧ w.cell? ⟨g, i * 2 + 1, none⟩ = some (.pointer x.2) := by
  have hil := (List.getElem?_eq_some_iff.1 hi).1
  have := flat_get vs i x hi
  rw [← ht, List.getElem?_take, List.getElem?_take, if_pos (by omega), if_pos (by omega)] at this
  exact ⟨hb.c _ this.1, hb.c _ this.2⟩
theorem get_newG {α : Type} {ps : List α} {p : Nat} {a c : α} (i : Nat) {t : α} (h : (ps.set p a ++ [c])[i]? = some t) :
    (i = ps.length ∧ t = c) ∨ (i < ps.length ∧ i = p ∧ t = a) ∨ (i < ps.length ∧ i ≠ p ∧ ps[i]? = some t) := by
  by_cases hi : i < ps.length
  · rw [List.getElem?_append_left (by simpa using hi), List.getElem?_set] at h
    by_cases hp : p = i
    · rw [if_pos hp, if_pos (by omega)] at h
      exact .inr (.inl ⟨hi, hp.symm, by simpa using h.symm⟩)
    · rw [if_neg hp] at h
      exact .inr (.inr ⟨hi, fun e => hp e.symm, h⟩)
  · rw [List.getElem?_append_right (by simp; omega)] at h
    simp only [List.length_set] at h
    rcases Nat.eq_zero_or_pos (i - ps.length) with e | e
    · rw [e] at h; simp at h; exact .inl ⟨by omega, h.symm⟩
    · rw [List.getElem?_eq_none (by simp; omega)] at h; cases h
theorem reps_new {w : World} {ps : List T} {vs : List (Bool × Option Addr)} {p : Nat} {a c : T} {x y : Bool × Option Addr} (hl : vs.length = ps.length) (r : Reps w ps vs) (ha : Rep w a x.1 x.2) (hc : Rep w c y.1 y.2) : Reps w (ps.set p a ++ [c]) (vs.set p x ++ [y]) := fun i t z h1 h2 => by
  rcases get_newG i h1 with ⟨ei, rfl⟩ | ⟨li, ei, rfl⟩ | ⟨li, ni, gi⟩ <;> rcases get_newG i h2 with ⟨ej, rfl⟩ | ⟨lj, ej, rfl⟩ | ⟨lj, nj, gj⟩
  · exact hc
  · omega
  · omega
  · omega
  · exact ha
  · omega
  · omega
  · omega
  · exact r i t z gi gj
theorem cell_two_new (w : World) (x y : Value) (t : TypeId) : ∀ j u, [x, y][j]? = some u → (w.alloc (.cells #[x, y] t)).cell? ((⟨w.heap.size, 0, none⟩ : Addr).add j) = some u := fun j u h => by
  have hb := blk_alloc w [x, y] t
  have := hb.c j h
  rw [show (⟨w.heap.size, 0, none⟩ : Addr).add j = ⟨w.heap.size, j, none⟩ from by unfold Addr.add; split <;> simp_all]
  exact this
theorem Try.info26 : (Try.prog.info? 26).map (fun i => (i.zero, i.size, i.bytes)) = some (some (.agg #[.bool false, .pointer none]), 2, 16) := by kernel_rfl
theorem own_of {w : World} {B n g cap : Nat} {cs : List Value} {vs : List (Bool × Option Addr)} (hB : B ≤ g) (hb : Blk w g cs 26) (hc : n ≤ cap) (hm : cap ≤ maxLen) (hs : cs.length = cap * 2) (hl : vs.length = n) (ht : cs.take (n * 2) = flat vs) :
    w.ownsRow B 26 2 (.slice (some ⟨g, 0, none⟩) n cap) n (flat vs) := ⟨by rw [flat_len]; omega, .inr ⟨g, cap, cs.toArray, rfl, hB, hb, hc, hm, by simpa using hs, by simpa using ht⟩⟩
theorem take_set2 {cs : List Value} {n p : Nat} {vs : List (Bool × Option Addr)} {x : Bool × Option Addr} (ht : cs.take (n * 2) = flat vs) (hp : p < n) : ((cs.set (p * 2) (.bool x.1)).set (p * 2 + 1) (.pointer x.2)).take (n * 2) = flat (vs.set p x) := by
  rw [flat_set, ← ht, List.take_set, List.take_set]
theorem isz_u {t : T} {c : Bool} {v : Value} {w : World} (h : t.isZero = c) (k : (IsId t).p v w) : Calls Try.prog 22 #[v] w (Ret w (PP.eq (.bool c)).p) := h ▸ isZero_c k
theorem iso_u {t : T} {c : Bool} {v : Value} {w : World} (h : t.isOne = c) (k : (IsId t).p v w) : Calls Try.prog 31 #[v] w (Ret w (PP.eq (.bool c)).p) := h ▸ isOne_c k
theorem depth_u {t : T} {n : Nat} {v : Value} {w : World} (h : t.depth = n) (k : (IsId t).p v w) : Calls Try.prog 29 #[v] w (Ret w (PP.eq (.int .i64 (n : Nat))).p) := h ▸ depth_c k
theorem disj_u {a b : T} {c : Bool} {va vb : Value} {w : World} (h : disjT a b = c) (ha : (IsId a).p va w) (hb : (IsId b).p vb w) : Calls Try.prog 21 #[va, vb] w (Ret w (PP.eq (.bool c)).p) := h ▸ disj_c a b va vb w ha hb
def AllRel (w : World) (n g ga : Nat) (cs : List Value) (ps : List T) (vs : List (Bool × Option Addr)) (kv : Value) (wr : World) (m : Nat) : Prop :=
  ∃ (k : Nat) (acc : T) (ab : Bool) (ap : Option Addr), kv = .int .i64 k ∧ k ≤ n ∧ m = n - k ∧ Ext w wr ∧ Blk wr g cs 26 ∧ Reps wr ps vs ∧ Blk wr ga [.bool ab, .pointer ap] 26 ∧ Rep wr acc ab ap ∧ Acc ps k acc
def InRel (k : Nat) (wA : World) (jv : Value) (wr : World) (m : Nat) : Prop := ∃ j : Nat, jv = .int .i64 j ∧ j ≤ k ∧ m = k - j ∧ Ext wA wr
def ShRel (w : World) (M : Nat) (pv kv : Value) (wr : World) (m : Nat) : Prop :=
  ∃ (k : Nat) (ps : List T), kv = .int .i64 k ∧ k ≤ M ∧ m = M - k ∧ Ext w wr ∧ Ids wr w.heap.size ps pv ∧ Good ps ∧ 1 ≤ ps.length ∧ ps.length ≤ 21 ∧ ps.length ≤ k + 1

set_option maxRecDepth 100000 in
set_option maxHeartbeats 8000000 in
theorem idShares_c {l : List UInt8} {v : Value} {w : World} (h : Bsl l v w) :
    Calls Try.prog 6 #[v] w (Ret w (PP.eq (.bool true)).p) := by
  obtain ⟨a0, cap0, rfl, hcc, hmm, hh⟩ := id h
  clear hh
  unfold maxLen at hmm
  go_enter Try.func6, Try.ntmps6
  go_wp2_with fail
  refine (awake_c).mono ?_
  rintro _ a1 ⟨_, rfl, rfl, hb⟩
  have hx := hb; have s0 := hb.size
  go_wp2_with fail
  refine (one_c).mono ?_
  rintro _ a2 ⟨cv, rfl, c, hb⟩
  replace hx := Ext.trans hx hb; have s1 := hb.size
  obtain ⟨ob, op, rfl, orr⟩ := c
  go_wp2_with fail
  obtain ⟨a3, hW, hb, z2, gp⟩ := box1 a2 [.bool ob, .pointer op] 26
  rw [hW]; clear hW
  replace hx := Ext.trans hx hb; replace orr := (PRep .one ob op).mono hb orr; have s3 := hb.size
  have hids : Ids a3 w.heap.size [.one] (.slice (some ⟨a2.heap.size, 0, none⟩) 1 1) := ids_of (vs := [(ob, op)]) (by omega) gp (Nat.le_refl _) (by decide) rfl rfl rfl (fun i t x h1 h2 => by cases i with | zero => simp at h1 h2; subst h1; subst h2; exact orr | succ i => simp at h1)
  generalize hM : l.length = M at *
  have HM := Lib.hid hM; clear hM
  go_loopg [3, 23] M (fun m pv kv wr => ShRel w M pv kv wr m)
  case atStart => exact ⟨0, [.one], rfl, by omega, by omega, hx, hids, good_one, by simp, by simp, by simp⟩
  case round =>
    clear hids hx gp orr
    obtain ⟨k, ps, rfl, hk, hm, hx, hids, hgood, hp1, hp21, hpk⟩ := hrel
    have Hm := Lib.hid hm; have HG := Lib.hid hgood; clear hm hgood
    obtain ⟨g, cap, cs, vs, rfl, hg, gr, hcap, hcm, hcs, hvl, hct, hr⟩ := hids.open hp1
    clear hids
    have HCS := Lib.hid hcs; clear hcs
    have HV := Lib.hid hvl; have HT := Lib.hid hct; have HRp := Lib.hid hr; clear hvl hct hr
    unfold maxLen at hcm
    by_cases hlt : k < M
    ·
      by_cases h20 : 20 ≤ k
      ·
        obtain ⟨x, hx1⟩ : ∃ x, l[k]? = some x := ⟨_, List.getElem?_eq_getElem (by have := HM.out; omega)⟩
        obtain ⟨_, _, hv', _, _, hcell⟩ := (BslP l).mono hx h
        obtain ⟨rfl, hq, rfl⟩ := Value.slice.inj hv'
        clear hq
        obtain ⟨b, o, rfl, hbx⟩ := hcell k x hx1
        unfold bv at hbx
        clear hcell hv' hx1
        have h20d : decide ((20 : Int) ≤ (k : Int)) = true := by simp; omega
        go_wp2_with fail
        obtain ⟨n, hn⟩ : ∃ n, ps.length = n := ⟨_, rfl⟩
        rw [hn] at hcap hp1 hp21 hpk ⊢
        have HTn : Hid (cs.take (n * 2) = flat vs) := by unfold Hid; rw [← hn]; exact HT.out
        have HVn : Hid (vs.length = n) := by unfold Hid; rw [← hn]; exact HV.out
        have HN := Lib.hid hn; clear hn hpk Hm HT HV
        refine zero_c.mono ?_
        rintro _ w1 ⟨_, rfl, ⟨zb, zp, rfl, zr⟩, hb⟩
        replace hx := Ext.trans hx hb; replace gr := gr.ext hb; replace HRp := Lib.hid (HRp.out.imm (imm_of_ext hb)); clear hb
        have hgA := gr.lt
        have hwA : w.heap.size ≤ w1.heap.size := hx.size
        go_upto_region 17 with fail
        obtain ⟨w2, hW, hb, z, ga⟩ := box1 w1 [.bool zb, .pointer zp] 26
        rw [hW]; clear hW
        replace hx := Ext.trans hx hb; replace gr := gr.ext hb; replace HRp := Lib.hid (HRp.out.imm (imm_of_ext hb)); replace zr := zr.ext hb; clear hb z
        generalize w1.heap.size = A at *
        go_wp2_with fail
        go_loopg [68] n (fun m kv wr2 => AllRel w n g A cs ps vs kv wr2 m)
        case atStart => exact ⟨0, .zero, zb, zp, rfl, by omega, by omega, hx, gr, HRp.out, ga, zr, acc_zero ps⟩
        case round =>
          clear hx gr HRp ga zr
          obtain ⟨k2, acc, ab, ap, rfl, hk2, hm2, hx, gr, hrp, ga, zr, hacc⟩ := hrel
          have HRp := Lib.hid hrp; have HA := Lib.hid hacc; have Hm2 := Lib.hid hm2; clear hrp hacc hm2
          by_cases hlt2 : k2 < n
          ·
            obtain ⟨t, ht⟩ : ∃ t, ps[k2]? = some t := ⟨_, List.getElem?_eq_getElem (by have := HN.out; omega)⟩
            obtain ⟨y, hy⟩ : ∃ y, vs[k2]? = some y := ⟨_, List.getElem?_eq_getElem (by have := HVn.out; omega)⟩
            obtain ⟨yb, yp⟩ := y
            obtain ⟨e0, e1⟩ := ids_cells gr HTn.out hy HVn.out
            have yr : Rep _ t yb yp := HRp.out k2 t _ ht hy
            have Ht := Lib.hid ht; clear ht hy
            simp only at e0 e1
            have hltd2 : decide ((k2 : Int) < (n : Int)) = true := by simp; omega
            have hkn : (k2 : Int) ≤ (n : Int) := by omega
            have hkc : (k2 : Int) ≤ (cap : Int) := by omega
            go_upto_region 20 with fail
            obtain ⟨w5, hW, hb, z, gx⟩ := box1 wr [.bool yb, .pointer yp] 26
            rw [hW]; clear hW
            have hxl : wr.heap.size ≠ A := by have := ga.lt; omega
            replace hx := Ext.trans hx hb; replace gr := gr.ext hb; replace HRp := Lib.hid (HRp.out.imm (imm_of_ext hb)); replace ga := ga.ext hb; replace zr := zr.ext hb; replace yr := yr.ext hb; clear hb z e0 e1
            generalize wr.heap.size = X at *
            go_wp2_with fail
            go_loopg [77] k2 (fun m jv wr3 => InRel k2 w5 jv wr3 m)
            case atStart => exact ⟨0, rfl, by omega, by omega, Ext.refl _⟩
            case round =>
              obtain ⟨j, rfl, hj, hmj, hb⟩ := hrel
              have Hmj := Lib.hid hmj; have H5 := Lib.hid hb; clear hmj
              replace hx := Ext.trans hx hb; replace gr := gr.ext hb; replace HRp := Lib.hid (HRp.out.imm (imm_of_ext hb)); replace ga := ga.ext hb; replace gx := gx.ext hb; replace zr := zr.ext hb; replace yr := yr.ext hb; clear hb
              by_cases hjl : j < k2
              ·
                obtain ⟨u, hu⟩ : ∃ u, ps[j]? = some u := ⟨_, List.getElem?_eq_getElem (by have := HN.out; omega)⟩
                obtain ⟨q, hq⟩ : ∃ q, vs[j]? = some q := ⟨_, List.getElem?_eq_getElem (by have := HVn.out; omega)⟩
                obtain ⟨qb, qp⟩ := q
                obtain ⟨e0, e1⟩ := ids_cells gr HTn.out hq HVn.out
                have qr : Rep _ u qb qp := HRp.out j u _ hu hq
                have HDJ := Lib.hid (good_disj HG.out (show k2 ≠ j by omega) Ht.out hu)
                clear hu hq
                simp only at e0 e1
                have hjd : decide ((j : Int) < (k2 : Int)) = true := by simp; omega
                go_upto_region 23 with fail
                obtain ⟨w7, hW, hb, z, gy⟩ := box1 wr [.bool qb, .pointer qp] 26
                rw [hW]; clear hW
                replace gx := gx.ext hb; replace yr := yr.ext hb; replace qr := qr.ext hb; replace H5 := Lib.hid (Ext.trans H5.out hb); clear hb z e0 e1
                have e0 := gx.c 0 rfl; have e1 := gx.c 1 rfl; have e2 := gy.c 0 rfl; have e3 := gy.c 1 rfl
                go_wp2_with fail
                refine (disj_u HDJ.out ⟨yb, yp, rfl, yr⟩ ⟨qb, qp, rfl, qr⟩).mono ?_
                rintro _ w8 ⟨_, rfl, rfl, hb⟩
                clear e0 e1 e2 e3
                go_wp2_with fail
                go_roundg (k2 - (j + 1))
                case measure => have := Hmj.out; omega
                case rel => exact ⟨j + 1, by go_num, by omega, rfl, Ext.trans H5.out hb⟩
              ·
                have hjk : j = k2 := by omega
                have hjd : decide ((j : Int) < (k2 : Int)) = false := by simp; omega
                have hac := HA.out
                have hdt := (HG.out.1 k2 t Ht.out).2.2
                have hs := sum_t (va := idv ab ap) (vb := idv yb yp) ⟨ab, ap, rfl, zr⟩ ⟨yb, yp, rfl, yr⟩ (by have := hac.2.1; omega) (by omega) (acc_disj HG.out hac Ht.out)
                have HS := Lib.hid hs; clear hs hac
                have e0 := ga.c 0 rfl; have e1 := ga.c 1 rfl; have e2 := gx.c 0 rfl; have e3 := gx.c 1 rfl
                go_wp2_with fail
                refine HS.out.mono ?_
                rintro _ w7 ⟨_, rfl, ⟨sv', _, rfl, sh, rfl⟩, hb⟩
                obtain ⟨sb, sp, rfl, sr⟩ := sh
                replace hx := Ext.trans hx hb; replace gr := gr.ext hb; replace HRp := Lib.hid (HRp.out.imm (imm_of_ext hb)); replace ga := ga.ext hb; replace gx := gx.ext hb; replace yr := yr.ext hb; clear hb e0 e1 e2 e3
                have hAl := ga.lt
                go_upto_region 27 with fail
                obtain ⟨w8, hW, hb, z, gs⟩ := box1 w7 [.bool sb, .pointer sp] 26
                rw [hW]; clear hW
                replace hx := Ext.trans hx hb; replace gr := gr.ext hb; replace HRp := Lib.hid (HRp.out.imm (imm_of_ext hb)); replace ga := ga.ext hb; replace gx := gx.ext hb; replace yr := yr.ext hb; replace sr := sr.ext hb; clear hb z
                have hSA : A < w7.heap.size := hAl
                generalize w7.heap.size = S at *
                have e2 := gx.c 0 rfl; have e3 := gx.c 1 rfl
                go_wp2_with fail
                refine (isz_u (HG.out.1 k2 t Ht.out).2.1 ⟨yb, yp, rfl, yr⟩).mono ?_
                rintro _ w9 ⟨_, rfl, rfl, hb⟩
                replace hx := Ext.trans hx hb; replace gr := gr.ext hb; replace HRp := Lib.hid (HRp.out.imm (imm_of_ext hb)); replace ga := ga.ext hb; replace gs := gs.ext hb; replace sr := sr.ext hb; clear hb e2 e3
                have e0 := gs.c 0 rfl; have e1 := gs.c 1 rfl; have e2 := ga.c 0 rfl; have e3 := ga.c 1 rfl; have f0 := ga.f 0; have f1 := ga.f 1
                go_upto_region 30 with fail
                obtain ⟨w10, hW, st⟩ := ex2 ga (.bool sb) (.pointer sp)
                rw [hW]; clear hW e0 e1 e2 e3 f0 f1
                replace hx : Ext w w10 := st.below hx (by omega); replace gr := st.keep gr (by omega); replace HRp := Lib.hid (HRp.out.imm (st.imm TS (by decide))); replace sr := sr.imm (st.imm TS (by decide)); replace ga := st.blk; clear st
                go_wp2_with fail
                go_roundg (n - (k2 + 1))
                case measure => have := Hm2.out; omega
                case rel => exact ⟨k2 + 1, _, sb, sp, by go_num, by omega, rfl, hx, gr, HRp.out, ga, sr, acc_step HG.out HA.out Ht.out⟩
          ·
            have hkn : k2 = n := by omega
            have hltd2 : decide ((k2 : Int) < (n : Int)) = false := by simp; omega
            have hone : acc = .one := acc_all HG.out (by rw [HN.out, ← hkn]; exact HA.out)
            have HO := Lib.hid hone; clear hone hkn
            have e0 := ga.c 0 rfl; have e1 := ga.c 1 rfl
            go_wp2_with fail
            refine (iso_u (c := true) (by rw [HO.out]; rfl) ⟨ab, ap, rfl, zr⟩).mono ?_
            rintro _ w9 ⟨_, rfl, rfl, hb⟩
            go_wp2_with fail
            go_ret
            exact ⟨_, rfl, rfl, Ext.trans hx hb⟩
      ·
        obtain ⟨x, hx1⟩ : ∃ x, l[k]? = some x := ⟨_, List.getElem?_eq_getElem (by have := HM.out; omega)⟩
        obtain ⟨_, _, hv', _, _, hcell⟩ := (BslP l).mono hx h
        obtain ⟨rfl, hq, rfl⟩ := Value.slice.inj hv'
        clear hq
        obtain ⟨b, o, rfl, hbx⟩ := hcell k x hx1
        unfold bv at hbx
        clear hcell hv' hx1
        have hu8 := u8_b x
        obtain ⟨p, hp⟩ : ∃ p : Nat, Int.tmod (x.toNat : Int) (ps.length : Int) = (p : Int) := ⟨x.toNat % ps.length, by rw [Int.tmod_eq_emod_of_nonneg (by omega)]; exact (Int.natCast_emod _ _).symm⟩
        have hpn : p < ps.length := by rw [Int.tmod_eq_emod_of_nonneg (by omega)] at hp; have := Int.emod_lt_of_pos (x.toNat : Int) (show (0 : Int) < (ps.length : Int) by omega); omega
        obtain ⟨t, ht⟩ : ∃ t, ps[p]? = some t := ⟨_, List.getElem?_eq_getElem hpn⟩
        obtain ⟨y, hy⟩ : ∃ y, vs[p]? = some y := ⟨_, List.getElem?_eq_getElem (by have := HV.out; omega)⟩
        obtain ⟨yb, yp⟩ := y
        obtain ⟨e0, e1⟩ := ids_cells gr HT.out hy HV.out
        have yr : Rep wr t yb yp := HRp.out p t _ ht hy
        have Ht := Lib.hid ht; have Hy := Lib.hid hy; clear ht hy
        have f0 := gr.f (p * 2); have f1 := gr.f (p * 2 + 1)
        simp only at e0 e1
        obtain ⟨n, hn⟩ : ∃ n, ps.length = n := ⟨_, rfl⟩
        rw [hn] at hp hpn hcap hp1 hp21 hpk ⊢
        have HTn : Hid (cs.take (n * 2) = flat vs) := by unfold Hid; rw [← hn]; exact HT.out
        have HVn : Hid (vs.length = n) := by unfold Hid; rw [← hn]; exact HV.out
        have HN := Lib.hid hn; clear hn
        have hn0 : ((n : Int) == 0) = false := beq_eq_false_iff_ne.2 (by omega)
        have h20d : decide ((20 : Int) ≤ (k : Int)) = false := by simp; omega
        go_wp2_with fail
        have gt := HG.out.1 p t Ht.out
        have hcd := cut_depth t
        have HGT := Lib.hid gt; have hd16 : t.depth ≤ 16 := gt.2.2; clear gt
        by_cases hdp : 16 < max (cutT t).1.depth (cutT t).2.depth
        ·
          have hd : t.depth = 16 := by omega
          have HD := Lib.hid hd; clear hd
          refine (split_deep ⟨yb, yp, rfl, yr⟩ (by omega) hdp).mono ?_
          rintro _ w1 ⟨_, rfl, ⟨av, bv', _, rfl, ha, hb', rfl⟩, hb⟩
          replace hx := Ext.trans hx hb; replace gr := gr.ext hb; replace HRp := Lib.hid (HRp.out.imm (imm_of_ext hb))
          obtain ⟨ab, ap, rfl, ar⟩ := ha; obtain ⟨bb, bp, rfl, br⟩ := hb'
          replace yr := yr.ext hb; have sz1 := hb.size; clear e0 e1 f0 f1 hb
          go_upto_region 10 with fail
          obtain ⟨w2, hW, hb, z, ga, gb⟩ := box2 w1 [.bool ab, .pointer ap] [.bool bb, .pointer bp] 26 26
          rw [hW]; clear hW
          replace hx := Ext.trans hx hb; replace gr := gr.ext hb; replace HRp := Lib.hid (HRp.out.imm (imm_of_ext hb)); replace yr := yr.ext hb; clear hb
          obtain ⟨e0, e1⟩ := ids_cells gr HTn.out Hy.out HVn.out
          have f0 := gr.f (p * 2); have f1 := gr.f (p * 2 + 1)
          simp only at e0 e1
          go_wp2_with fail
          refine (depth_u HD.out ⟨yb, yp, rfl, yr⟩).mono ?_
          rintro _ w3 ⟨_, rfl, rfl, hb⟩
          replace hx := Ext.trans hx hb; replace gr := gr.ext hb; replace HRp := Lib.hid (HRp.out.imm (imm_of_ext hb))
          clear e0 e1 f0 f1 hb
          go_wp2_with fail
          go_roundg (M - (k + 1))
          case measure => have := Hm.out; omega
          case rel =>
            refine ⟨k + 1, ps, by go_num, by omega, rfl, hx, ?_, HG.out, by rw [HN.out]; omega, by rw [HN.out]; omega, by rw [HN.out]; omega⟩
            have := ids_of (ps := ps) hg gr (by rw [HN.out]; exact hcap) (by unfold maxLen; omega) HCS.out HV.out HT.out HRp.out
            rw [HN.out] at this
            exact this
        ·
          have hd1 : (cutT t).1.depth ≤ 16 := by omega
          have hd2 : (cutT t).2.depth ≤ 16 := by omega
          have HS := Lib.hid (good_split HG.out Ht.out hd1 hd2)
          obtain ⟨i0, hi, hz0, hz1, hz2⟩ := info_parts Try.info26
          refine (split_ok ⟨yb, yp, rfl, yr⟩ (by omega) (by omega)).mono ?_
          rintro _ w1 ⟨_, rfl, ⟨av, bv', _, rfl, ha, hb', rfl⟩, hb⟩
          replace hx := Ext.trans hx hb; replace gr := gr.ext hb; replace HRp := Lib.hid (HRp.out.imm (imm_of_ext hb))
          obtain ⟨ab, ap, rfl, ar⟩ := ha; obtain ⟨bb, bp, rfl, br⟩ := hb'
          have sz1 := hb.size; clear e0 e1 f0 f1 hb
          go_upto_region 10 with fail
          have hgl := gr.lt
          obtain ⟨w2, hW, hb, z, ga, gb⟩ := box2 w1 [.bool ab, .pointer ap] [.bool bb, .pointer bp] 26 26
          rw [hW]; clear hW
          replace hx := Ext.trans hx hb; replace gr := gr.ext hb; replace HRp := Lib.hid (HRp.out.imm (imm_of_ext hb)); replace ar := ar.ext hb; replace br := br.ext hb; clear hb
          have e0 := ga.c 0 rfl; have e1 := ga.c 1 rfl; have f0 := gr.f (p * 2); have f1 := gr.f (p * 2 + 1)
          obtain ⟨r0, r1⟩ := ids_cells gr HTn.out Hy.out HVn.out
          simp only at r0 r1
          go_upto_region 14 with fail
          obtain ⟨w3, hW, st⟩ : ∃ W, (w2.setCell ⟨g, p * 2, none⟩ (.bool ab)).setCell ⟨g, p * 2 + 1, none⟩ (.pointer ap) = W ∧ Stored w2 W g ((cs.set (p * 2) (.bool ab)).set (p * 2 + 1) (.pointer ap)) 26 := ⟨_, rfl, (stored1 gr (p * 2) (.bool ab)).more (p * 2 + 1) (.pointer ap)⟩
          rw [hW]; clear hW e0 e1 f0 f1 r0 r1
          replace hx : Ext w w3 := st.below hx (by omega); replace gb := st.keep gb (by omega); replace ar := ar.imm (st.imm TS (by decide)); replace br := br.imm (st.imm TS (by decide)); replace HRp := Lib.hid (HRp.out.imm (st.imm TS (by decide))); replace gr := st.blk; have hw3 : w.heap.size ≤ w3.heap.size := by have := st.size; omega
          clear st
          have own := own_of hg gr hcap (by unfold maxLen; omega) (by rw [List.length_set, List.length_set]; exact HCS.out) (vs := vs.set p (ab, ap)) (by rw [List.length_set]; exact HVn.out) (take_set2 (x := (ab, ap)) HTn.out hpn)
          have e0 := gb.c 0 rfl; have e1 := gb.c 1 rfl
          go_wp2_with (at_builtin; refine wpList_append_own _ rfl _ _ 46 rfl w.heap.size 26 i0 (.agg #[.bool false, .pointer none]) 2 16 Try.underlying46 hi hz0 hz1 hz2 rfl (by decide) _ _ _ rfl (own.alloc _) ⟨w3.heap.size, 0, none⟩ 1 1 [.bool bb, .pointer bp] rfl rfl (cell_two_new _ _ _ _) (fun x hx => by simp at hx; rcases hx with rfl | rfl <;> rfl) (by unfold maxLen; omega) (by omega) (by simp; omega) ?_; intro v9 w9 own9 hg9 hnil9)
          have kp := keeps_append own (by omega) hg9
          clear hg9 hnil9 e0 e1
          go_roundg (M - (k + 1))
          case measure => have := Hm.out; omega
          case rel =>
            have hlen : (ps.set p (cutT t).1 ++ [(cutT t).2]).length = n + 1 := by simp [HN.out]
            refine ⟨k + 1, ps.set p (cutT t).1 ++ [(cutT t).2], by go_num, by omega, rfl, Below.trans hx kp.below, ⟨vs.set p (ab, ap) ++ [(bb, bp)], ?_, ?_, ?_⟩, HS.out, by rw [hlen]; omega, by rw [hlen]; omega, by rw [hlen]; omega⟩
            · rw [hlen]; simp; exact HVn.out
            · rw [hlen, flat_app]; exact own9
            · exact reps_new HV.out (HRp.out.imm (kp.imm (by decide))) (ar.imm (kp.imm (by decide))) (br.imm (kp.imm (by decide)))
    ·
      have hkM : k = M := by omega
      have hltd : decide ((k : Int) < (M : Int)) = false := by simp; omega
      go_wp2_with fail
      obtain ⟨n, hn⟩ : ∃ n, ps.length = n := ⟨_, rfl⟩
      rw [hn] at hcap hp1 hp21 hpk ⊢
      have HTn : Hid (cs.take (n * 2) = flat vs) := by unfold Hid; rw [← hn]; exact HT.out
      have HVn : Hid (vs.length = n) := by unfold Hid; rw [← hn]; exact HV.out
      have HN := Lib.hid hn; clear hn hpk Hm HT HV
      refine zero_c.mono ?_
      rintro _ w1 ⟨_, rfl, ⟨zb, zp, rfl, zr⟩, hb⟩
      replace hx := Ext.trans hx hb; replace gr := gr.ext hb; replace HRp := Lib.hid (HRp.out.imm (imm_of_ext hb)); clear hb
      have hgA := gr.lt
      have hwA : w.heap.size ≤ w1.heap.size := hx.size
      go_upto_region 17 with fail
      obtain ⟨w2, hW, hb, z, ga⟩ := box1 w1 [.bool zb, .pointer zp] 26
      rw [hW]; clear hW
      replace hx := Ext.trans hx hb; replace gr := gr.ext hb; replace HRp := Lib.hid (HRp.out.imm (imm_of_ext hb)); replace zr := zr.ext hb; clear hb z
      generalize w1.heap.size = A at *
      go_wp2_with fail
      go_loopg [68] n (fun m kv wr2 => AllRel w n g A cs ps vs kv wr2 m)
      case atStart => exact ⟨0, .zero, zb, zp, rfl, by omega, by omega, hx, gr, HRp.out, ga, zr, acc_zero ps⟩
      case round =>
        clear hx gr HRp ga zr
        obtain ⟨k2, acc, ab, ap, rfl, hk2, hm2, hx, gr, hrp, ga, zr, hacc⟩ := hrel
        have HRp := Lib.hid hrp; have HA := Lib.hid hacc; have Hm2 := Lib.hid hm2; clear hrp hacc hm2
        by_cases hlt2 : k2 < n
        ·
          obtain ⟨t, ht⟩ : ∃ t, ps[k2]? = some t := ⟨_, List.getElem?_eq_getElem (by have := HN.out; omega)⟩
          obtain ⟨y, hy⟩ : ∃ y, vs[k2]? = some y := ⟨_, List.getElem?_eq_getElem (by have := HVn.out; omega)⟩
          obtain ⟨yb, yp⟩ := y
          obtain ⟨e0, e1⟩ := ids_cells gr HTn.out hy HVn.out
          have yr : Rep _ t yb yp := HRp.out k2 t _ ht hy
          have Ht := Lib.hid ht; clear ht hy
          simp only at e0 e1
          have hltd2 : decide ((k2 : Int) < (n : Int)) = true := by simp; omega
          have hkn : (k2 : Int) ≤ (n : Int) := by omega
          have hkc : (k2 : Int) ≤ (cap : Int) := by omega
          go_upto_region 20 with fail
          obtain ⟨w5, hW, hb, z, gx⟩ := box1 wr [.bool yb, .pointer yp] 26
          rw [hW]; clear hW
          have hxl : wr.heap.size ≠ A := by have := ga.lt; omega
          replace hx := Ext.trans hx hb; replace gr := gr.ext hb; replace HRp := Lib.hid (HRp.out.imm (imm_of_ext hb)); replace ga := ga.ext hb; replace zr := zr.ext hb; replace yr := yr.ext hb; clear hb z e0 e1
          generalize wr.heap.size = X at *
          go_wp2_with fail
          go_loopg [77] k2 (fun m jv wr3 => InRel k2 w5 jv wr3 m)
          case atStart => exact ⟨0, rfl, by omega, by omega, Ext.refl _⟩
          case round =>
            obtain ⟨j, rfl, hj, hmj, hb⟩ := hrel
            have Hmj := Lib.hid hmj; have H5 := Lib.hid hb; clear hmj
            replace hx := Ext.trans hx hb; replace gr := gr.ext hb; replace HRp := Lib.hid (HRp.out.imm (imm_of_ext hb)); replace ga := ga.ext hb; replace gx := gx.ext hb; replace zr := zr.ext hb; replace yr := yr.ext hb; clear hb
            by_cases hjl : j < k2
            ·
              obtain ⟨u, hu⟩ : ∃ u, ps[j]? = some u := ⟨_, List.getElem?_eq_getElem (by have := HN.out; omega)⟩
              obtain ⟨q, hq⟩ : ∃ q, vs[j]? = some q := ⟨_, List.getElem?_eq_getElem (by have := HVn.out; omega)⟩
              obtain ⟨qb, qp⟩ := q
              obtain ⟨e0, e1⟩ := ids_cells gr HTn.out hq HVn.out
              have qr : Rep _ u qb qp := HRp.out j u _ hu hq
              have HDJ := Lib.hid (good_disj HG.out (show k2 ≠ j by omega) Ht.out hu)
              clear hu hq
              simp only at e0 e1
              have hjd : decide ((j : Int) < (k2 : Int)) = true := by simp; omega
              go_upto_region 23 with fail
              obtain ⟨w7, hW, hb, z, gy⟩ := box1 wr [.bool qb, .pointer qp] 26
              rw [hW]; clear hW
              replace gx := gx.ext hb; replace yr := yr.ext hb; replace qr := qr.ext hb; replace H5 := Lib.hid (Ext.trans H5.out hb); clear hb z e0 e1
              have e0 := gx.c 0 rfl; have e1 := gx.c 1 rfl; have e2 := gy.c 0 rfl; have e3 := gy.c 1 rfl
              go_wp2_with fail
              refine (disj_u HDJ.out ⟨yb, yp, rfl, yr⟩ ⟨qb, qp, rfl, qr⟩).mono ?_
              rintro _ w8 ⟨_, rfl, rfl, hb⟩
              clear e0 e1 e2 e3
              go_wp2_with fail
              go_roundg (k2 - (j + 1))
              case measure => have := Hmj.out; omega
              case rel => exact ⟨j + 1, by go_num, by omega, rfl, Ext.trans H5.out hb⟩
            ·
              have hjk : j = k2 := by omega
              have hjd : decide ((j : Int) < (k2 : Int)) = false := by simp; omega
              have hac := HA.out
              have hdt := (HG.out.1 k2 t Ht.out).2.2
              have hs := sum_t (va := idv ab ap) (vb := idv yb yp) ⟨ab, ap, rfl, zr⟩ ⟨yb, yp, rfl, yr⟩ (by have := hac.2.1; omega) (by omega) (acc_disj HG.out hac Ht.out)
              have HS := Lib.hid hs; clear hs hac
              have e0 := ga.c 0 rfl; have e1 := ga.c 1 rfl; have e2 := gx.c 0 rfl; have e3 := gx.c 1 rfl
              go_wp2_with fail
              refine HS.out.mono ?_
              rintro _ w7 ⟨_, rfl, ⟨sv', _, rfl, sh, rfl⟩, hb⟩
              obtain ⟨sb, sp, rfl, sr⟩ := sh
              replace hx := Ext.trans hx hb; replace gr := gr.ext hb; replace HRp := Lib.hid (HRp.out.imm (imm_of_ext hb)); replace ga := ga.ext hb; replace gx := gx.ext hb; replace yr := yr.ext hb; clear hb e0 e1 e2 e3
              have hAl := ga.lt
              go_upto_region 27 with fail
              obtain ⟨w8, hW, hb, z, gs⟩ := box1 w7 [.bool sb, .pointer sp] 26
              rw [hW]; clear hW
              replace hx := Ext.trans hx hb; replace gr := gr.ext hb; replace HRp := Lib.hid (HRp.out.imm (imm_of_ext hb)); replace ga := ga.ext hb; replace gx := gx.ext hb; replace yr := yr.ext hb; replace sr := sr.ext hb; clear hb z
              have hSA : A < w7.heap.size := hAl
              generalize w7.heap.size = S at *
              have e2 := gx.c 0 rfl; have e3 := gx.c 1 rfl
              go_wp2_with fail
              refine (isz_u (HG.out.1 k2 t Ht.out).2.1 ⟨yb, yp, rfl, yr⟩).mono ?_
              rintro _ w9 ⟨_, rfl, rfl, hb⟩
              replace hx := Ext.trans hx hb; replace gr := gr.ext hb; replace HRp := Lib.hid (HRp.out.imm (imm_of_ext hb)); replace ga := ga.ext hb; replace gs := gs.ext hb; replace sr := sr.ext hb; clear hb e2 e3
              have e0 := gs.c 0 rfl; have e1 := gs.c 1 rfl; have e2 := ga.c 0 rfl; have e3 := ga.c 1 rfl; have f0 := ga.f 0; have f1 := ga.f 1
              go_upto_region 30 with fail
              obtain ⟨w10, hW, st⟩ := ex2 ga (.bool sb) (.pointer sp)
              rw [hW]; clear hW e0 e1 e2 e3 f0 f1
              replace hx : Ext w w10 := st.below hx (by omega); replace gr := st.keep gr (by omega); replace HRp := Lib.hid (HRp.out.imm (st.imm TS (by decide))); replace sr := sr.imm (st.imm TS (by decide)); replace ga := st.blk; clear st
              go_wp2_with fail
              go_roundg (n - (k2 + 1))
              case measure => have := Hm2.out; omega
              case rel => exact ⟨k2 + 1, _, sb, sp, by go_num, by omega, rfl, hx, gr, HRp.out, ga, sr, acc_step HG.out HA.out Ht.out⟩
        ·
          have hkn : k2 = n := by omega
          have hltd2 : decide ((k2 : Int) < (n : Int)) = false := by simp; omega
          have hone : acc = .one := acc_all HG.out (by rw [HN.out, ← hkn]; exact HA.out)
          have HO := Lib.hid hone; clear hone hkn
          have e0 := ga.c 0 rfl; have e1 := ga.c 1 rfl
          go_wp2_with fail
          refine (iso_u (c := true) (by rw [HO.out]; rfl) ⟨ab, ap, rfl, zr⟩).mono ?_
          rintro _ w9 ⟨_, rfl, rfl, hb⟩
          go_wp2_with fail
          go_ret
          exact ⟨_, rfl, rfl, Ext.trans hx hb⟩

end Go.Proofs.Ytkfncjaomgcdgaa

/- appendText, Text. -/
import Derived.Test.YtkfncjaomgcdgaaW4
import Derived.Test.YtkfncjaomgcdgaaRow
set_option linter.all false
namespace Go.Proofs.Ytkfncjaomgcdgaa
open Go.RowKit Go.Facts

def textT : T → List UInt8
  | .zero => [48]
  | .one => [49]
  | .node l r => 40 :: textT l ++ 44 :: textT r ++ [41]

theorem Try.info5 : (Try.prog.info? 5).map (fun i => (i.zero, i.size, i.bytes)) = some (some (.int .u8 0), 1, 1) := by kernel_rfl

set_option maxRecDepth 100000 in
set_option maxHeartbeats 1000000 in
theorem appendText_z {B n : Nat} {xs : List Value} {v p : Value} {w : World} (h : (IsId .zero).p v w) (own : w.ownsRow B 5 1 p n xs) (hB : B ≤ w.heap.size) (hn : n + 1 ≤ 1000000000000) :
    Calls Try.prog 49 #[v, p] w (RetK B [5] w fun u w' => w'.ownsRow B 5 1 u (n + 1) (xs ++ bvs (textT .zero))) := by
  obtain ⟨i0, hi, hz0, hz1, hz2⟩ := info_parts Try.info5
  obtain ⟨b, q, rfl, h⟩ := h
  go_enter Try.func49, Try.ntmps49
  go_wp2_with fail
  obtain ⟨W, hW, hx, z0, gi⟩ := box1 w [.bool b, .pointer q] 26
  rw [hW]; clear hW
  replace own := own_ext own hx
  refine (isZero_c ⟨b, q, rfl, h.ext hx⟩).mono ?_
  rintro _ u0 ⟨_, rfl, rfl, hb⟩
  replace hx := Ext.trans hx hb; replace own := own_ext own hb; replace gi := gi.ext hb; clear hb
  have s0 := hx.size
  go_wp2_with (at_builtin; refine wpList_append_own _ rfl _ _ 22 rfl B 5 i0 (.int .u8 0) 1 1 Try.underlying22 hi hz0 hz1 hz2 rfl (by decide) _ _ _ rfl (own.alloc _) ⟨u0.heap.size, 0, none⟩ 1 1 [.int .u8 48] rfl rfl (cell_one_new _ _ _) (fun x hx => by simp at hx; subst hx; rfl) (by unfold maxLen; omega) (by omega) (by simp; omega) ?_; intro v9 w9 own9 hg9 hnil9)
  have kp9 := keeps_append own (by omega) hg9
  clear hg9 hnil9
  go_ret
  exact ⟨_, rfl, own9, (Keeps.of_ext hx hB).trans kp9⟩

set_option maxRecDepth 100000 in
set_option maxHeartbeats 1000000 in
theorem appendText_o {B n : Nat} {xs : List Value} {v p : Value} {w : World} (h : (IsId .one).p v w) (own : w.ownsRow B 5 1 p n xs) (hB : B ≤ w.heap.size) (hn : n + 1 ≤ 1000000000000) :
    Calls Try.prog 49 #[v, p] w (RetK B [5] w fun u w' => w'.ownsRow B 5 1 u (n + 1) (xs ++ bvs (textT .one))) := by
  obtain ⟨i0, hi, hz0, hz1, hz2⟩ := info_parts Try.info5
  obtain ⟨b, q, rfl, h⟩ := h
  go_enter Try.func49, Try.ntmps49
  go_wp2_with fail
  obtain ⟨W, hW, hx, z0, gi⟩ := box1 w [.bool b, .pointer q] 26
  rw [hW]; clear hW
  replace own := own_ext own hx
  refine (isZero_c ⟨b, q, rfl, h.ext hx⟩).mono ?_
  rintro _ u0 ⟨_, rfl, rfl, hb⟩
  replace hx := Ext.trans hx hb; replace own := own_ext own hb; replace gi := gi.ext hb; clear hb
  have s0 := hx.size
  have e0 := gi.c 0 rfl; have e1 := gi.c 1 rfl
  go_wp2_with fail
  clear e0 e1
  refine (isOne_c ⟨b, q, rfl, h.ext hx⟩).mono ?_
  rintro _ u1 ⟨_, rfl, rfl, hb⟩
  replace hx := Ext.trans hx hb; replace own := own_ext own hb; replace gi := gi.ext hb; clear hb
  have s1 := hx.size
  go_wp2_with (at_builtin; refine wpList_append_own _ rfl _ _ 22 rfl B 5 i0 (.int .u8 0) 1 1 Try.underlying22 hi hz0 hz1 hz2 rfl (by decide) _ _ _ rfl (own.alloc _) ⟨u1.heap.size, 0, none⟩ 1 1 [.int .u8 49] rfl rfl (cell_one_new _ _ _) (fun x hx => by simp at hx; subst hx; rfl) (by unfold maxLen; omega) (by omega) (by simp; omega) ?_; intro v9 w9 own9 hg9 hnil9)
  have kp9 := keeps_append own (by omega) hg9
  clear hg9 hnil9
  go_ret
  exact ⟨_, rfl, own9, (Keeps.of_ext hx hB).trans kp9⟩

set_option maxRecDepth 100000 in
set_option maxHeartbeats 2000000 in
theorem appendText_n {l r : T} {B n : Nat} {xs : List Value} {v p : Value} {w : World} (h : (IsId (.node l r)).p v w) (own : w.ownsRow B 5 1 p n xs) (hB : B ≤ w.heap.size) (hn : n + ((textT l).length + (textT r).length + 3) ≤ 1000000000000)
    (ihl : ∀ (B n : Nat) (xs : List Value) (v p : Value) (w : World), (IsId l).p v w → w.ownsRow B 5 1 p n xs → B ≤ w.heap.size → n + (textT l).length ≤ 1000000000000 →
      Calls Try.prog 49 #[v, p] w (RetK B [5] w fun u w' => w'.ownsRow B 5 1 u (n + (textT l).length) (xs ++ bvs (textT l))))
    (ihr : ∀ (B n : Nat) (xs : List Value) (v p : Value) (w : World), (IsId r).p v w → w.ownsRow B 5 1 p n xs → B ≤ w.heap.size → n + (textT r).length ≤ 1000000000000 →
      Calls Try.prog 49 #[v, p] w (RetK B [5] w fun u w' => w'.ownsRow B 5 1 u (n + (textT r).length) (xs ++ bvs (textT r)))) :
    Calls Try.prog 49 #[v, p] w (RetK B [5] w fun u w' => w'.ownsRow B 5 1 u (n + 1 + (textT l).length + 1 + (textT r).length + 1) (xs ++ [bv 40] ++ bvs (textT l) ++ [bv 44] ++ bvs (textT r) ++ [bv 41])) := by
  have IHL := Lib.hid ihl; have IHR := Lib.hid ihr; clear ihl ihr
  obtain ⟨i0, hi, hz0, hz1, hz2⟩ := info_parts Try.info5
  obtain ⟨b, q, rfl, h⟩ := h
  go_enter Try.func49, Try.ntmps49
  go_wp2_with fail
  obtain ⟨W, hW, hx, z0, gi⟩ := box1 w [.bool b, .pointer q] 26
  rw [hW]; clear hW
  replace own := own_ext own hx
  refine (isZero_c ⟨b, q, rfl, h.ext hx⟩).mono ?_
  rintro _ u0 ⟨_, rfl, rfl, hb⟩
  replace hx := Ext.trans hx hb; replace own := own_ext own hb; replace gi := gi.ext hb; clear hb
  have s0 := hx.size
  have e0 := gi.c 0 rfl; have e1 := gi.c 1 rfl
  go_wp2_with fail
  clear e0 e1
  refine (isOne_c ⟨b, q, rfl, h.ext hx⟩).mono ?_
  rintro _ u1 ⟨_, rfl, rfl, hb⟩
  replace hx := Ext.trans hx hb; replace own := own_ext own hb; replace gi := gi.ext hb; clear hb
  have s1 := hx.size
  have K := Keeps.of_ext (B := B) (ts := [5]) hx hB
  replace h := h.ext hx
  clear hx
  go_wp2_with (at_builtin; refine wpList_append_own _ rfl _ _ 22 rfl B 5 i0 (.int .u8 0) 1 1 Try.underlying22 hi hz0 hz1 hz2 rfl (by decide) _ _ _ rfl (own.alloc _) ⟨u1.heap.size, 0, none⟩ 1 1 [.int .u8 40] rfl rfl (cell_one_new _ _ _) (fun x hx => by simp at hx; subst hx; rfl) (by unfold maxLen; omega) (by omega) (by simp; omega) ?_; intro v1 w1 own1 hg1 hnil1; have kp1 := keeps_append own (by omega) hg1; clear hg1 hnil1; replace K := K.trans kp1; replace gi := kp1.keep gi (by decide); replace h := h.imm (kp1.imm (by decide)); have sz1 := kp1.size; clear kp1; have e0 := gi.c 0 rfl; have e1 := gi.c 1 rfl)
  clear e0 e1
  refine (left_c ⟨b, q, rfl, h⟩).mono ?_
  rintro _ u2 ⟨lv, rfl, lh, hb⟩
  replace K := K.trans (Keeps.of_ext hb (by omega)); replace own1 := own_ext own1 hb; replace gi := gi.ext hb; replace h := h.ext hb; have s2 := hb.size; clear hb
  go_wp2_with fail
  refine (IHL.out B _ _ _ _ _ lh own1 (by omega) (by omega)).mono ?_
  rintro _ u3 ⟨p3, rfl, own3, kp⟩
  replace K := K.trans kp; replace gi := kp.keep gi (by decide); replace h := h.imm (kp.imm (by decide)); have s3 := kp.size; clear kp lh
  go_wp2_with (at_builtin; refine wpList_append_own _ rfl _ _ 22 rfl B 5 i0 (.int .u8 0) 1 1 Try.underlying22 hi hz0 hz1 hz2 rfl (by decide) _ _ _ rfl (own3.alloc _) ⟨u3.heap.size, 0, none⟩ 1 1 [.int .u8 44] rfl rfl (cell_one_new _ _ _) (fun x hx => by simp at hx; subst hx; rfl) (by unfold maxLen; omega) (by omega) (by simp; omega) ?_; intro v4 w4 own4 hg4 hnil4; have kp4 := keeps_append own3 (by omega) hg4; clear hg4 hnil4; replace K := K.trans kp4; replace gi := kp4.keep gi (by decide); replace h := h.imm (kp4.imm (by decide)); have sz4 := kp4.size; clear kp4; have e0 := gi.c 0 rfl; have e1 := gi.c 1 rfl)
  clear e0 e1
  refine (right_c ⟨b, q, rfl, h⟩).mono ?_
  rintro _ u5 ⟨rv, rfl, rh, hb⟩
  replace K := K.trans (Keeps.of_ext hb (by omega)); replace own4 := own_ext own4 hb; replace gi := gi.ext hb; replace h := h.ext hb; have s5 := hb.size; clear hb
  go_wp2_with fail
  refine (IHR.out B _ _ _ _ _ rh own4 (by omega) (by omega)).mono ?_
  rintro _ u6 ⟨p6, rfl, own6, kp⟩
  replace K := K.trans kp; replace gi := kp.keep gi (by decide); replace h := h.imm (kp.imm (by decide)); have s6 := kp.size; clear kp rh
  go_wp2_with (at_builtin; refine wpList_append_own _ rfl _ _ 22 rfl B 5 i0 (.int .u8 0) 1 1 Try.underlying22 hi hz0 hz1 hz2 rfl (by decide) _ _ _ rfl (own6.alloc _) ⟨u6.heap.size, 0, none⟩ 1 1 [.int .u8 41] rfl rfl (cell_one_new _ _ _) (fun x hx => by simp at hx; subst hx; rfl) (by unfold maxLen; omega) (by omega) (by simp; omega) ?_; intro v7 w7 own7 hg7 hnil7)
  have kp7 := keeps_append own6 (by omega) hg7
  clear hg7 hnil7
  replace K := K.trans kp7; replace gi := kp7.keep gi (by decide); replace h := h.imm (kp7.imm (by decide)); have sz7 := kp7.size; clear kp7
  go_ret
  exact ⟨_, rfl, own7, K⟩

theorem appendText_c : ∀ (t : T) (B n : Nat) (xs : List Value) (v p : Value) (w : World), (IsId t).p v w → w.ownsRow B 5 1 p n xs → B ≤ w.heap.size → n + (textT t).length ≤ 1000000000000 →
    Calls Try.prog 49 #[v, p] w (RetK B [5] w fun u w' => w'.ownsRow B 5 1 u (n + (textT t).length) (xs ++ bvs (textT t)))
  | .zero, B, n, xs, v, p, w, h, own, hB, hn => appendText_z h own hB hn
  | .one, B, n, xs, v, p, w, h, own, hB, hn => appendText_o h own hB hn
  | .node l r, B, n, xs, v, p, w, h, own, hB, hn => by
    have hl : (textT (.node l r)).length = (textT l).length + (textT r).length + 3 := by simp [textT]; omega
    rw [hl] at hn ⊢
    have := appendText_n h own hB hn (appendText_c l) (appendText_c r)
    have e1 : xs ++ bvs (textT (.node l r)) = xs ++ [bv 40] ++ bvs (textT l) ++ [bv 44] ++ bvs (textT r) ++ [bv 41] := by
      simp [textT, bvs]
    have e2 : n + ((textT l).length + (textT r).length + 3) = n + 1 + (textT l).length + 1 + (textT r).length + 1 := by omega
    rw [e1, e2]; exact this

set_option maxHeartbeats 1000000 in
theorem text_c {t : T} {v : Value} {w : World} (h : (IsId t).p v w) (hn : (textT t).length ≤ 1000000000000) :
    Calls Try.prog 34 #[v] w (Ret w (PP.eq (.string ⟨(textT t).toArray⟩)).p) := by
  obtain ⟨b, q, rfl, h⟩ := h
  go_enter Try.func34, Try.ntmps34
  go_wp2_with fail
  obtain ⟨W, hW, hx, z0, gi⟩ := box1 w [.bool b, .pointer q] 26
  rw [hW]; clear hW
  refine (appendText_c t W.heap.size 0 [] _ _ _ ⟨b, q, rfl, h.ext hx⟩ (World.ownsRow_nil _ _ _ _) (Nat.le_refl _) (by omega)).mono ?_
  rintro _ u0 ⟨p, rfl, own, kp⟩
  simp only [List.nil_append] at own
  have hcv := convert_owned (P := Try.prog) own 22 5 Try.underlying22 Try.underlying5 9 Try.underlying9
  go_wp2_with fail
  go_ret
  exact ⟨_, rfl, rfl, Ext.trans hx kp.ext⟩

end Go.Proofs.Ytkfncjaomgcdgaa

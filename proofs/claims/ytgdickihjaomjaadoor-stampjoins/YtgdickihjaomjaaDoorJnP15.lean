/- Joins of stamps; what splitting and joining keep. -/
import Derived.Test.YtgdickihjaomjaaDoorJnP14
set_option linter.all false
set_option maxRecDepth 100000
namespace Go.Proofs.YtgdickihjaomjaaDoor
open Go.RowKit Go.Sep

theorem disj_zero_r (t : T) : disjT t .zero = true := by cases t <;> rfl
theorem union_zero_r (t : T) : unionT t .zero = t := by cases t <;> rfl
theorem disj_mk_l (a b : T) : disjT (T.mk a .zero) (T.mk b .zero) = disjT a b := by
  cases a <;> cases b <;> simp [T.mk, disjT]
theorem disj_mk_r (a b : T) : disjT (T.mk .zero a) (T.mk .zero b) = disjT a b := by
  cases a <;> cases b <;> simp [T.mk, disjT]
theorem disj_mk_b (a b : T) : disjT (T.mk a .zero) (T.mk .zero b) = true := by
  cases a <;> cases b <;> simp [T.mk, disjT]
theorem cut_disj : ∀ t : T, disjT (cutT t).1 (cutT t).2 = true
  | .zero => rfl
  | .one => rfl
  | .node l r => by
    unfold cutT
    split
    · simp only; rw [disj_mk_r]; exact cut_disj r
    · split
      · simp only; rw [disj_mk_l]; exact cut_disj l
      · simp only; rw [disj_mk_b]
theorem union_mk_l (a b : T) : unionT (T.mk a .zero) (T.mk b .zero) = T.mk (unionT a b) .zero := by
  cases a <;> cases b <;> simp [T.mk, unionT]
theorem union_mk_r (a b : T) : unionT (T.mk .zero a) (T.mk .zero b) = T.mk .zero (unionT a b) := by
  cases a <;> cases b <;> simp [T.mk, unionT]
theorem union_mk_b (a b : T) : unionT (T.mk a .zero) (T.mk .zero b) = T.mk a b := by
  cases a <;> cases b <;> simp [T.mk, unionT]
theorem isZero_eq {t : T} (h : t.isZero = true) : t = .zero := by cases t <;> simp_all [T.isZero]
theorem cut_union : ∀ {t : T}, t.nf → unionT (cutT t).1 (cutT t).2 = t
  | .zero, _ => rfl
  | .one, _ => rfl
  | .node l r, ⟨hl, hr, h⟩ => by
    unfold cutT
    split
    · rename_i hz
      simp only; rw [union_mk_r, cut_union hr, ← isZero_eq hz]; exact h
    · split
      · rename_i hz
        simp only; rw [union_mk_l, cut_union hl, ← isZero_eq hz]; exact h
      · simp only; rw [union_mk_b]; exact h
theorem sum_cut {t : T} (h : t.nf) : sumT (cutT t).1 (cutT t).2 = (t, 0) := by
  rw [sumT, if_pos (cut_disj t), cut_union h]
theorem cover_self : ∀ t : T, coverT t t = true
  | .zero => rfl
  | .one => rfl
  | .node l r => by show (coverT l l && coverT r r) = true; rw [cover_self l, cover_self r]; rfl
theorem same_self (t : T) : sameT t t = true := by rw [sameT, cover_self]; rfl
theorem split_small {t : T} (h : t.depth ≤ 15) : splitT t = ((cutT t).1, (cutT t).2, 0) := by
  have := cut_depth t
  rw [splitT, if_neg (by omega)]
theorem E.up_nf {k : Nat} {e : E} (h : e.nf) : (E.up k e).nf := by
  cases e with
  | leaf n => trivial
  | node n l r => exact ⟨h.1, h.2.1, E.mk_iff.2 (E.mk_iff.1 h.2.2)⟩
theorem sumT_err (A B : T) : (sumT A B).2 ≤ 5 ∧ ((sumT A B).2 ≠ 0 → (sumT A B).1 = .zero) := by
  unfold sumT; split <;> simp

set_option maxHeartbeats 2000000 in
theorem joinS_c {I : IM} {A B : T} {C D : E} {ba bb : Bool} {pa pb : Option Addr} {bc bd : Nat} {pc pd : Option Addr} (hA : TRep I A ba pa) (hB : TRep I B bb pb) (hC : ERep I C bc pc) (hD : ERep I D bd pd) (hdC : C.depth ≤ 16) (hdD : D.depth ≤ 16) (htC : C.top ≤ 1048576) (htD : D.top ≤ 1048576) (hdA : A.depth ≤ 16) (hdB : B.depth ≤ 16) : Fun Tryd.prog 59 #[stv ba pa bc pc, stv bb pb bd pd] I (fun v J => ∃ b1 p1 b2 p2, v = .tuple #[stv b1 p1 b2 p2, .int .i64 (((sumT A B).2 : Nat) : Int)] ∧ TRep J (sumT A B).1 b1 p1 ∧ ERep J (if (sumT A B).2 ≠ 0 then .leaf 0 else joinF 64 C D) b2 p2) := by
  have hsb := sumT_err A B
  refine enter_rule 27 [(0, .agg #[.bool ba, .pointer pa, .int .u64 ((bc : Nat) : Int), .pointer pc]), (1, .agg #[.bool bb, .pointer pb, .int .u64 ((bd : Nat) : Int), .pointer pd])] Tryd.func59 rfl (by kernel_rfl) ?_
  intro w s
  refine wp_seq ?_
  refine region_rule ?_
  refine ops_rule (C := []) [] [] 4 [] 3 (fun φ1 => [(5, .int .i64 0), (4, .pointer (some ⟨(φ1 2), 0, none⟩)), (3, .pointer (some ⟨(φ1 1), 0, none⟩)), (2, .pointer (some ⟨(φ1 0), 0, none⟩))]) (fun φ1 => [((φ1 0), .cells #[.bool ba, .pointer pa, .int .u64 ((bc : Nat) : Int), .pointer pc] 64), ((φ1 1), .cells #[.bool bb, .pointer pb, .int .u64 ((bd : Nat) : Int), .pointer pd] 64), ((φ1 2), .cells #[.bool false, .pointer none, .int .u64 0, .pointer none] 64)]) (fun φ1 => []) s trivial (fun φ1 => by kernel_rfl) ?_
  intro φ1 w1 s
  refine ops_done (by kernel_rfl) ?_
  refine wp_seq ?_
  refine region_rule ?_
  refine ops_rule (C := []) [((φ1 0), .cells #[.bool ba, .pointer pa, .int .u64 ((bc : Nat) : Int), .pointer pc] 64), ((φ1 1), .cells #[.bool bb, .pointer pb, .int .u64 ((bd : Nat) : Int), .pointer pd] 64), ((φ1 2), .cells #[.bool false, .pointer none, .int .u64 0, .pointer none] 64)] [] 4 [.o 0, .o 0, .o 1, .o 1] 0 (fun φ2 => [(12, .agg #[.bool bb, .pointer pb]), (11, .pointer (some ⟨(φ1 1), 0, none⟩)), (10, .agg #[.bool ba, .pointer pa]), (9, .pointer (some ⟨(φ1 0), 0, none⟩))]) (fun φ2 => [((φ1 0), .cells #[.bool ba, .pointer pa, .int .u64 ((bc : Nat) : Int), .pointer pc] 64), ((φ1 1), .cells #[.bool bb, .pointer pb, .int .u64 ((bd : Nat) : Int), .pointer pd] 64), ((φ1 2), .cells #[.bool false, .pointer none, .int .u64 0, .pointer none] 64)]) (fun φ2 => [(φ1 0), (φ1 0), (φ1 1), (φ1 1)]) s trivial (fun φ2 => by kernel_rfl) ?_
  intro φ2 w2 s
  refine call_rule (some 13) s (sum_c hA hB (by omega) (by omega)) (by kernel_rfl) ?_
  intro v3 I3 w3 le3 h3 s
  replace hA := TRep.mono le3 hA
  replace hB := TRep.mono le3 hB
  replace hC := ERep.mono le3 hC
  replace hD := ERep.mono le3 hD
  obtain ⟨b3, p3, rfl, h3_0⟩ := h3
  refine ops_rule (C := []) [((φ1 0), .cells #[.bool ba, .pointer pa, .int .u64 ((bc : Nat) : Int), .pointer pc] 64), ((φ1 1), .cells #[.bool bb, .pointer pb, .int .u64 ((bd : Nat) : Int), .pointer pd] 64), ((φ1 2), .cells #[.bool false, .pointer none, .int .u64 0, .pointer none] 64)] [] 6 [.o 3, .o 3] 1 (fun φ4 => [(7, .int .i64 (((sumT A B).2 : Nat) : Int)), (6, .pointer (some ⟨(φ4 0), 0, none⟩)), (15, .int .i64 (((sumT A B).2 : Nat) : Int)), (14, .agg #[.bool b3, .pointer p3]), (8, .tuple #[.agg #[.bool b3, .pointer p3], .int .i64 (((sumT A B).2 : Nat) : Int)])]) (fun φ4 => [((φ1 0), .cells #[.bool ba, .pointer pa, .int .u64 ((bc : Nat) : Int), .pointer pc] 64), ((φ1 1), .cells #[.bool bb, .pointer pb, .int .u64 ((bd : Nat) : Int), .pointer pd] 64), ((φ1 2), .cells #[.bool false, .pointer none, .int .u64 0, .pointer none] 64), ((φ4 0), .cells #[.bool b3, .pointer p3] 62)]) (fun φ4 => [(φ4 0), (φ4 0)]) s trivial (fun φ4 => by kernel_rfl) ?_
  intro φ4 w4 s
  refine ops_done (by kernel_rfl) ?_
  refine wp_seq ?_
  refine wp_seq ?_
  refine region_rule ?_
  refine ops_rule (C := []) [((φ1 0), .cells #[.bool ba, .pointer pa, .int .u64 ((bc : Nat) : Int), .pointer pc] 64), ((φ1 1), .cells #[.bool bb, .pointer pb, .int .u64 ((bd : Nat) : Int), .pointer pd] 64), ((φ1 2), .cells #[.bool false, .pointer none, .int .u64 0, .pointer none] 64), ((φ4 0), .cells #[.bool b3, .pointer p3] 62)] [] 2 [] 0 (fun φ5 => [(17, .bool ((((sumT A B).2 : Nat) : Int) != ((0 : Nat) : Int))), (16, .int .i64 (((sumT A B).2 : Nat) : Int))]) (fun φ5 => [((φ1 0), .cells #[.bool ba, .pointer pa, .int .u64 ((bc : Nat) : Int), .pointer pc] 64), ((φ1 1), .cells #[.bool bb, .pointer pb, .int .u64 ((bd : Nat) : Int), .pointer pd] 64), ((φ1 2), .cells #[.bool false, .pointer none, .int .u64 0, .pointer none] 64), ((φ4 0), .cells #[.bool b3, .pointer p3] 62)]) (fun φ5 => []) s trivial (fun φ5 => by kernel_rfl) ?_
  intro φ5 w5 s
  rw [nat_neq (a := ((sumT A B).2)) (b := 0)]
  refine ops_done (by kernel_rfl) ?_
  rcases Bool.eq_false_or_eq_true (decide (((sumT A B).2) ≠ 0)) with hc6 | hc6
  ·
    rw [hc6]
    refine cond_true_rule (b := true) (by kernel_rfl) rfl ?_
    refine wp_seq ?_
    refine region_rule ?_
    refine ops_rule (C := []) [((φ1 0), .cells #[.bool ba, .pointer pa, .int .u64 ((bc : Nat) : Int), .pointer pc] 64), ((φ1 1), .cells #[.bool bb, .pointer pb, .int .u64 ((bd : Nat) : Int), .pointer pd] 64), ((φ1 2), .cells #[.bool false, .pointer none, .int .u64 0, .pointer none] 64), ((φ4 0), .cells #[.bool b3, .pointer p3] 62)] [] 4 [.o 2, .o 2, .o 2, .o 2] 0 (fun φ7 => [(5, .int .i64 (((sumT A B).2 : Nat) : Int)), (19, .int .i64 (((sumT A B).2 : Nat) : Int)), (18, .agg #[.bool false, .pointer none, .int .u64 0, .pointer none])]) (fun φ7 => [((φ1 0), .cells #[.bool ba, .pointer pa, .int .u64 ((bc : Nat) : Int), .pointer pc] 64), ((φ1 1), .cells #[.bool bb, .pointer pb, .int .u64 ((bd : Nat) : Int), .pointer pd] 64), ((φ1 2), .cells #[.bool false, .pointer none, .int .u64 0, .pointer none] 64), ((φ4 0), .cells #[.bool b3, .pointer p3] 62)]) (fun φ7 => [(φ1 2), (φ1 2), (φ1 2), (φ1 2)]) s trivial (fun φ7 => by kernel_rfl) ?_
    intro φ7 w7 s
    refine ops_done (by kernel_rfl) ?_
    refine wp_ret ?_
    refine ret_rule (C := []) [((φ1 0), .cells #[.bool ba, .pointer pa, .int .u64 ((bc : Nat) : Int), .pointer pc] 64), ((φ1 1), .cells #[.bool bb, .pointer pb, .int .u64 ((bd : Nat) : Int), .pointer pd] 64), ((φ1 2), .cells #[.bool false, .pointer none, .int .u64 0, .pointer none] 64), ((φ4 0), .cells #[.bool b3, .pointer p3] 62)] [] (.tuple #[.agg #[.bool false, .pointer none, .int .u64 0, .pointer none], .int .i64 (((sumT A B).2 : Nat) : Int)]) [.o 2, .o 2, .o 2, .o 2] [(φ1 2), (φ1 2), (φ1 2), (φ1 2)] s trivial (by kernel_rfl) ?_
    exact ⟨_, _, _, rfl, s, (by have hz := hsb.2 (of_decide_eq_true hc6); rw [hz, if_pos (of_decide_eq_true hc6)]; exact ⟨_, _, _, _, rfl, ⟨rfl, rfl⟩, ⟨rfl, rfl⟩⟩)⟩
  ·
    rw [hc6]
    refine cond_false_rule (b := false) (by kernel_rfl) rfl ?_
    refine wp_skip ?_
    refine wp_seq ?_
    refine draw_rule (C := []) ⟨(fun φ8 xs8 => [.look 0 [.o 3, .o 3] [(φ4 0), (φ4 0)], .look 0 [] [], .look 0 [.o 0, .o 0] [(φ1 0), (φ1 0)], .look 0 [] [], .look 0 [.o 1, .o 1] [(φ1 1), (φ1 1)], .call 28 #[.agg #[.int .u64 ((bc : Nat) : Int), .pointer pc], .agg #[.int .u64 ((bd : Nat) : Int), .pointer pd]], .look 0 [] [], .store 0 [.o 2, .o 2, .o 2, .o 2] [(φ1 2), (φ1 2), (φ1 2), (φ1 2)], .look 1 [] []]), (fun φ8 xs8 => [.agg #[.bool b3, .pointer p3], .pointer (some ⟨(φ1 0), 2, none⟩), .agg #[.int .u64 ((bc : Nat) : Int), .pointer pc], .pointer (some ⟨(φ1 1), 2, none⟩), .agg #[.int .u64 ((bd : Nat) : Int), .pointer pd], .agg #[.int .u64 (((xs8 5).n 0 : Nat) : Int), .pointer ((xs8 5).p 0)], .agg #[.bool b3, .pointer p3, .int .u64 (((xs8 5).n 0 : Nat) : Int), .pointer ((xs8 5).p 0)], undef, .int .i64 0]), (fun φ8 xs8 => [[((φ1 0), .cells #[.bool ba, .pointer pa, .int .u64 ((bc : Nat) : Int), .pointer pc] 64), ((φ1 1), .cells #[.bool bb, .pointer pb, .int .u64 ((bd : Nat) : Int), .pointer pd] 64), ((φ1 2), .cells #[.bool false, .pointer none, .int .u64 0, .pointer none] 64), ((φ4 0), .cells #[.bool b3, .pointer p3] 62)], [((φ1 0), .cells #[.bool ba, .pointer pa, .int .u64 ((bc : Nat) : Int), .pointer pc] 64), ((φ1 1), .cells #[.bool bb, .pointer pb, .int .u64 ((bd : Nat) : Int), .pointer pd] 64), ((φ1 2), .cells #[.bool b3, .pointer p3, .int .u64 (((xs8 5).n 0 : Nat) : Int), .pointer ((xs8 5).p 0)] 64), ((φ4 0), .cells #[.bool b3, .pointer p3] 62)]]), (fun φ8 xs8 => [[default, default, default, default, default, default, default, default, default], [default, default, default, default, default, default, default, default, default]]), [7], [1, 1, 1, 1, 1, 3, 1, 4, 1]⟩ (fun j => ([MP.any, MP.any, MP.any, MP.any, MP.any, ⟨fun x J => ERep J (joinF 64 C D) (x.n 0) (x.p 0), fun le h => ERep.mono le h⟩, MP.any, MP.any, MP.any] : List MP).getD j MP.any) [5] [] [] (fun φ8 xs8 => [[none, none, none, none, none, none, none, none, none]]) (fun φ8 xs8 => [(20, .agg #[.bool b3, .pointer p3]), (21, .pointer (some ⟨(φ1 0), 2, none⟩)), (22, .agg #[.int .u64 ((bc : Nat) : Int), .pointer pc]), (23, .pointer (some ⟨(φ1 1), 2, none⟩)), (24, .agg #[.int .u64 ((bd : Nat) : Int), .pointer pd]), (25, .agg #[.int .u64 (((xs8 5).n 0 : Nat) : Int), .pointer ((xs8 5).p 0)]), (26, .agg #[.bool b3, .pointer p3, .int .u64 (((xs8 5).n 0 : Nat) : Int), .pointer ((xs8 5).p 0)]), (5, .int .i64 0)]) (fun φ8 xs8 => [((φ1 0), .cells #[.bool ba, .pointer pa, .int .u64 ((bc : Nat) : Int), .pointer pc] 64), ((φ1 1), .cells #[.bool bb, .pointer pb, .int .u64 ((bd : Nat) : Int), .pointer pd] 64), ((φ1 2), .cells #[.bool b3, .pointer p3, .int .u64 (((xs8 5).n 0 : Nat) : Int), .pointer ((xs8 5).p 0)] 64), ((φ4 0), .cells #[.bool b3, .pointer p3] 62)]) s trivial (by kernel_rfl) (by kernel_rfl) (fun _ _ => by kernel_rfl) (fun _ _ => by kernel_rfl) ⟨fun _ _ => by kernel_rfl, fun _ _ => by kernel_rfl, fun _ _ => by kernel_rfl, fun _ _ => by kernel_rfl⟩ (fun _ _ _ => by kernel_rfl) (fun _ _ => by kernel_rfl) (fun _ _ => by kernel_rfl) (fun _ _ => by kernel_rfl) (fun _ _ => by kernel_rfl) (fun _ _ => by kernel_rfl) trivial trivial ⟨?c8_5, trivial⟩ ?k8
    case c8_5 =>
      refine kcast (A := ∀ (φ8 : Nat → Nat) (xs8 : Xs) (J5_8 : IM), I3.Le J5_8 → Fun Tryd.prog 28 #[.agg #[.int .u64 ((bc : Nat) : Int), .pointer pc], .agg #[.int .u64 ((bd : Nat) : Int), .pointer pd]] J5_8 (fun v J' => ∃ x : UX, v = .agg #[.int .u64 ((x.n 0 : Nat) : Int), .pointer (x.p 0)] ∧ (ERep J' (joinF 64 C D) (x.n 0) (x.p 0)))) (by kernel_rfl) ?_
      intro φ8 xs8 J5_8 leJ
      have hC := ERep.mono leJ hC
      have hD := ERep.mono leJ hD
      exact Fun.mono (joinF_c 64 (by omega) (by omega) (by omega) (by omega) (by omega) hC hD) (fun v J' _ ⟨y0, y1, hv, g0⟩ => ⟨{ UX.d with n := fun j => y0, p := fun j => y1 }, hv, g0⟩)
    case k8 =>
      rintro φ8 xs8 I8 w8 le8 s h8_5_0
      replace hA := TRep.mono le8 hA
      replace hB := TRep.mono le8 hB
      replace hC := ERep.mono le8 hC
      replace hD := ERep.mono le8 hD
      replace h3_0 := TRep.mono le8 h3_0
      refine wp_ret ?_
      refine ret_rule (C := []) [((φ1 0), .cells #[.bool ba, .pointer pa, .int .u64 ((bc : Nat) : Int), .pointer pc] 64), ((φ1 1), .cells #[.bool bb, .pointer pb, .int .u64 ((bd : Nat) : Int), .pointer pd] 64), ((φ1 2), .cells #[.bool b3, .pointer p3, .int .u64 (((xs8 5).n 0 : Nat) : Int), .pointer ((xs8 5).p 0)] 64), ((φ4 0), .cells #[.bool b3, .pointer p3] 62)] [] (.tuple #[.agg #[.bool b3, .pointer p3, .int .u64 (((xs8 5).n 0 : Nat) : Int), .pointer ((xs8 5).p 0)], .int .i64 0]) [.o 2, .o 2, .o 2, .o 2] [(φ1 2), (φ1 2), (φ1 2), (φ1 2)] s trivial (by kernel_rfl) ?_
      have hz : (sumT A B).2 = 0 := by have := of_decide_eq_false hc6; omega
      exact ⟨_, _, _, rfl, s, (by rw [if_neg (by rw [hz]; simp)]; exact ⟨_, _, _, _, by rw [hz]; rfl, h3_0, h8_5_0⟩)⟩

end Go.Proofs.YtgdickihjaomjaaDoor

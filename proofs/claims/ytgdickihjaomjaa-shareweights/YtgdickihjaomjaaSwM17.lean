/- The program's ids: cut, Split, Covers, Same, Disjoint, union, Sum, Text. -/
import Derived.Test.YtgdickihjaomjaaSwI1
import Derived.Test.YtgdickihjaomjaaSwM15
import Derived.Test.YtgdickihjaomjaaSwS9
set_option linter.all false
set_option maxRecDepth 100000
namespace Go.Proofs.Ytgdickihjaomjaa.Ev
open Go.RowKit Go.Sep

theorem T.mk_depth (l r : T) : (T.mk l r).depth ≤ 1 + max l.depth r.depth := by
  cases l <;> cases r <;> simp [T.mk, T.depth]
def cutT : T → T × T
  | .zero => (.zero, .zero)
  | .one => (T.mk .one .zero, T.mk .zero .one)
  | .node l r => if l.isZero = true then (T.mk .zero (cutT r).1, T.mk .zero (cutT r).2) else if r.isZero = true then (T.mk (cutT l).1 .zero, T.mk (cutT l).2 .zero) else (T.mk l .zero, T.mk .zero r)
theorem cut_depth : ∀ t : T, (cutT t).1.depth ≤ 1 + t.depth ∧ (cutT t).2.depth ≤ 1 + t.depth
  | .zero => by simp [cutT, T.depth]
  | .one => by simp [cutT, T.depth, T.mk]
  | .node l r => by
    have h1 := cut_depth l
    have h2 := cut_depth r
    unfold cutT
    have e : (T.node l r).depth = 1 + max l.depth r.depth := rfl
    have a1 := T.mk_depth .zero (cutT r).1
    have a2 := T.mk_depth .zero (cutT r).2
    have a3 := T.mk_depth (cutT l).1 .zero
    have a4 := T.mk_depth (cutT l).2 .zero
    have a5 := T.mk_depth l .zero
    have a6 := T.mk_depth .zero r
    have z : T.zero.depth = 0 := rfl
    split
    · simp only; omega
    · split
      · simp only; omega
      · simp only; omega
def disjT : T → T → Bool
  | .zero, _ => true
  | _, .zero => true
  | .one, _ => false
  | _, .one => false
  | .node l r, .node l' r' => disjT l l' && disjT r r'
def unionT : T → T → T
  | .zero, b => b
  | _, .one => .one
  | a, .zero => a
  | .one, _ => .one
  | .node l r, .node l' r' => T.mk (unionT l l') (unionT r r')
set_option maxHeartbeats 1000000 in
theorem cut_step {I : IM} {t l1 l2 r1 r2 : T} {b : Bool} {p : Option Addr} (h : TRep I t b p) (hd1 : l1.depth ≤ 900) (hd2 : l2.depth ≤ 900) (hd3 : r1.depth ≤ 900) (hd4 : r2.depth ≤ 900) (hd5 : t.left.depth ≤ 900) (hd6 : t.right.depth ≤ 900) (ihl : t.isZero = false → t.left.isZero = false → t.right.isZero = true → ∀ {J : IM} {b : Bool} {p : Option Addr}, TRep J t.left b p → Fun Try.prog 44 #[idv b p] J (fun v J => ∃ b1 p1 b2 p2, v = .tuple #[idv b1 p1, idv b2 p2] ∧ TRep J l1 b1 p1 ∧ TRep J l2 b2 p2)) (ihr : t.isZero = false → t.left.isZero = true → ∀ {J : IM} {b : Bool} {p : Option Addr}, TRep J t.right b p → Fun Try.prog 44 #[idv b p] J (fun v J => ∃ b1 p1 b2 p2, v = .tuple #[idv b1 p1, idv b2 p2] ∧ TRep J r1 b1 p1 ∧ TRep J r2 b2 p2)) : Fun Try.prog 44 #[idv b p] I (fun v J => ∃ b1 p1 b2 p2, v = .tuple #[idv b1 p1, idv b2 p2] ∧ TRep J (if t.isZero = true then (T.zero, T.zero) else if t.left.isZero = true then (T.mk .zero r1, T.mk .zero r2) else if t.right.isZero = true then (T.mk l1 .zero, T.mk l2 .zero) else (T.mk t.left .zero, T.mk .zero t.right)).1 b1 p1 ∧ TRep J (if t.isZero = true then (T.zero, T.zero) else if t.left.isZero = true then (T.mk .zero r1, T.mk .zero r2) else if t.right.isZero = true then (T.mk l1 .zero, T.mk l2 .zero) else (T.mk t.left .zero, T.mk .zero t.right)).2 b2 p2) := by
  have hz0 : T.zero.depth = 0 := rfl
  refine enter_rule 53 [(0, .agg #[.bool b, .pointer p])] Try.func44 rfl (by kernel_rfl) ?_
  intro w s
  refine wp_seq ?_
  refine region_rule ?_
  refine ops_rule (C := []) [] [] 3 [] 3 (fun φ1 => [(3, .pointer (some ⟨(φ1 2), 0, none⟩)), (2, .pointer (some ⟨(φ1 1), 0, none⟩)), (1, .pointer (some ⟨(φ1 0), 0, none⟩))]) (fun φ1 => [((φ1 0), .cells #[.bool b, .pointer p] 26), ((φ1 1), .cells #[.bool false, .pointer none] 26), ((φ1 2), .cells #[.bool false, .pointer none] 26)]) (fun φ1 => []) s trivial (fun φ1 => by kernel_rfl) ?_
  intro φ1 w1 s
  refine ops_done (by kernel_rfl) ?_
  refine wp_seq ?_
  refine draw_rule (C := []) ⟨(fun φ2 xs2 => [.look 0 [.o 0, .o 0] [(φ1 0), (φ1 0)], .call 42 #[.agg #[.bool b, .pointer p]], .look 0 [.o 0, .o 0] [(φ1 0), (φ1 0)], .call 43 #[.agg #[.bool b, .pointer p]], .new, .new, .store 0 [.o 3, .o 3] [(φ2 4), (φ2 4)], .store 1 [.o 4, .o 4] [(φ2 5), (φ2 5)]]), (fun φ2 xs2 => [.agg #[.bool b, .pointer p], .agg #[.bool ((xs2 1).b 0), .pointer ((xs2 1).p 0)], .agg #[.bool b, .pointer p], .agg #[.bool ((xs2 3).b 0), .pointer ((xs2 3).p 0)], .pointer (some ⟨(φ2 4), 0, none⟩), .pointer (some ⟨(φ2 5), 0, none⟩), undef, undef]), (fun φ2 xs2 => [[((φ1 0), .cells #[.bool b, .pointer p] 26), ((φ1 1), .cells #[.bool false, .pointer none] 26), ((φ1 2), .cells #[.bool false, .pointer none] 26)], [((φ1 0), .cells #[.bool b, .pointer p] 26), ((φ1 1), .cells #[.bool false, .pointer none] 26), ((φ1 2), .cells #[.bool false, .pointer none] 26)], [((φ1 0), .cells #[.bool b, .pointer p] 26), ((φ1 1), .cells #[.bool false, .pointer none] 26), ((φ1 2), .cells #[.bool false, .pointer none] 26)]]), (fun φ2 xs2 => [[default, default, default, default, .cells #[.bool false, .pointer none] 26, .cells #[.bool false, .pointer none] 26, default, default], [default, default, default, default, .cells #[.bool ((xs2 1).b 0), .pointer ((xs2 1).p 0)] 26, .cells #[.bool false, .pointer none] 26, default, default], [default, default, default, default, .cells #[.bool ((xs2 1).b 0), .pointer ((xs2 1).p 0)] 26, .cells #[.bool ((xs2 3).b 0), .pointer ((xs2 3).p 0)] 26, default, default]]), [6, 7], [1, 3, 1, 3, 2, 2, 4, 4]⟩ (fun j => ([MP.any, ⟨fun x J => TRep J (T.left t) (x.b 0) (x.p 0), fun le h => TRep.mono le h⟩, MP.any, ⟨fun x J => TRep J (T.right t) (x.b 0) (x.p 0), fun le h => TRep.mono le h⟩, MP.any, MP.any, MP.any, MP.any] : List MP).getD j MP.any) [1, 3] [] [] (fun φ2 xs2 => [[none, none, none, none, none, none, none, none], [none, none, none, none, none, none, none, none]]) (fun φ2 xs2 => [(10, .agg #[.bool b, .pointer p]), (11, .agg #[.bool ((xs2 1).b 0), .pointer ((xs2 1).p 0)]), (12, .agg #[.bool b, .pointer p]), (13, .agg #[.bool ((xs2 3).b 0), .pointer ((xs2 3).p 0)]), (4, .pointer (some ⟨(φ2 4), 0, none⟩)), (5, .pointer (some ⟨(φ2 5), 0, none⟩))]) (fun φ2 xs2 => [((φ1 0), .cells #[.bool b, .pointer p] 26), ((φ1 1), .cells #[.bool false, .pointer none] 26), ((φ1 2), .cells #[.bool false, .pointer none] 26), ((φ2 4), .cells #[.bool ((xs2 1).b 0), .pointer ((xs2 1).p 0)] 26), ((φ2 5), .cells #[.bool ((xs2 3).b 0), .pointer ((xs2 3).p 0)] 26)]) s trivial (by kernel_rfl) (by kernel_rfl) (fun _ _ => by kernel_rfl) (fun _ _ => by kernel_rfl) ⟨fun _ _ => by kernel_rfl, fun _ _ => by kernel_rfl, fun _ _ => by kernel_rfl, fun _ _ => by kernel_rfl⟩ (fun _ _ _ => by kernel_rfl) (fun _ _ => by kernel_rfl) (fun _ _ => by kernel_rfl) (fun _ _ => by kernel_rfl) (fun _ _ => by kernel_rfl) (fun _ _ => by kernel_rfl) trivial trivial (by kernel_rfl) ⟨?c2_1, ?c2_3, trivial⟩ ?k2
  case c2_1 =>
    refine kcast (A := ∀ (φ2 : Nat → Nat) (xs2 : Xs) (J1_2 : IM), I.Le J1_2 → Fun Try.prog 42 #[.agg #[.bool b, .pointer p]] J1_2 (fun v J' => ∃ x : UX, v = .agg #[.bool (x.b 0), .pointer (x.p 0)] ∧ (TRep J' (T.left t) (x.b 0) (x.p 0)))) (by kernel_rfl) ?_
    intro φ2 xs2 J1_2 leJ
    have h := TRep.mono leJ h
    exact Fun.mono (tleft_c h) (fun v J' _ ⟨y0, y1, hv, g0⟩ => ⟨{ UX.d with b := fun j => y0, p := fun j => y1 }, hv, g0⟩)
  case c2_3 =>
    refine kcast (A := ∀ (φ2 : Nat → Nat) (xs2 : Xs) (J3_2 : IM), I.Le J3_2 → (TRep J3_2 (T.left t) ((xs2 1).b 0) ((xs2 1).p 0)) → Fun Try.prog 43 #[.agg #[.bool b, .pointer p]] J3_2 (fun v J' => ∃ x : UX, v = .agg #[.bool (x.b 0), .pointer (x.p 0)] ∧ (TRep J' (T.right t) (x.b 0) (x.p 0)))) (by kernel_rfl) ?_
    intro φ2 xs2 J3_2 leJ
    rintro h2_1_0
    have h := TRep.mono leJ h
    exact Fun.mono (tright_c h) (fun v J' _ ⟨y0, y1, hv, g0⟩ => ⟨{ UX.d with b := fun j => y0, p := fun j => y1 }, hv, g0⟩)
  case k2 =>
    rintro φ2 xs2 I2 w2 le2 s h2_1_0 h2_3_0
    replace h := TRep.mono le2 h
    refine wp_seq ?_
    refine wp_block ?_
    refine wp_seq ?_
    refine region_rule ?_
    refine ops_rule (C := []) [((φ1 0), .cells #[.bool b, .pointer p] 26), ((φ1 1), .cells #[.bool false, .pointer none] 26), ((φ1 2), .cells #[.bool false, .pointer none] 26), ((φ2 4), .cells #[.bool ((xs2 1).b 0), .pointer ((xs2 1).p 0)] 26), ((φ2 5), .cells #[.bool ((xs2 3).b 0), .pointer ((xs2 3).p 0)] 26)] [] 1 [.o 0, .o 0] 0 (fun φ3 => [(15, .agg #[.bool b, .pointer p])]) (fun φ3 => [((φ1 0), .cells #[.bool b, .pointer p] 26), ((φ1 1), .cells #[.bool false, .pointer none] 26), ((φ1 2), .cells #[.bool false, .pointer none] 26), ((φ2 4), .cells #[.bool ((xs2 1).b 0), .pointer ((xs2 1).p 0)] 26), ((φ2 5), .cells #[.bool ((xs2 3).b 0), .pointer ((xs2 3).p 0)] 26)]) (fun φ3 => [(φ1 0), (φ1 0)]) s trivial (fun φ3 => by kernel_rfl) ?_
    intro φ3 w3 s
    refine call_rule (some 16) s (isZero_c h) (by kernel_rfl) ?_
    intro v4 I4 w4 le4 h4 s
    replace h := TRep.mono le4 h
    replace h2_1_0 := TRep.mono le4 h2_1_0
    replace h2_3_0 := TRep.mono le4 h2_3_0
    obtain rfl := h4
    refine ops_rule (C := []) [((φ1 0), .cells #[.bool b, .pointer p] 26), ((φ1 1), .cells #[.bool false, .pointer none] 26), ((φ1 2), .cells #[.bool false, .pointer none] 26), ((φ2 4), .cells #[.bool ((xs2 1).b 0), .pointer ((xs2 1).p 0)] 26), ((φ2 5), .cells #[.bool ((xs2 3).b 0), .pointer ((xs2 3).p 0)] 26)] [] 1 [] 0 (fun φ5 => [(14, .bool (T.isZero t))]) (fun φ5 => [((φ1 0), .cells #[.bool b, .pointer p] 26), ((φ1 1), .cells #[.bool false, .pointer none] 26), ((φ1 2), .cells #[.bool false, .pointer none] 26), ((φ2 4), .cells #[.bool ((xs2 1).b 0), .pointer ((xs2 1).p 0)] 26), ((φ2 5), .cells #[.bool ((xs2 3).b 0), .pointer ((xs2 3).p 0)] 26)]) (fun φ5 => []) s trivial (fun φ5 => by kernel_rfl) ?_
    intro φ5 w5 s
    refine ops_done (by kernel_rfl) ?_
    rcases Bool.eq_false_or_eq_true (T.isZero t) with hc6 | hc6
    ·
      rw [hc6]
      refine cond_true_rule (b := true) (by kernel_rfl) rfl ?_
      refine wp_seq ?_
      refine region_rule ?_
      refine call_rule (some 17) s (tzero_c) (by kernel_rfl) ?_
      intro v7 I7 w7 le7 h7 s
      replace h := TRep.mono le7 h
      replace h2_1_0 := TRep.mono le7 h2_1_0
      replace h2_3_0 := TRep.mono le7 h2_3_0
      obtain rfl := h7
      refine call_rule (some 18) s (tzero_c) (by kernel_rfl) ?_
      intro v8 I8 w8 le8 h8 s
      replace h := TRep.mono le8 h
      replace h2_1_0 := TRep.mono le8 h2_1_0
      replace h2_3_0 := TRep.mono le8 h2_3_0
      obtain rfl := h8
      refine ops_rule (C := []) [((φ1 0), .cells #[.bool b, .pointer p] 26), ((φ1 1), .cells #[.bool false, .pointer none] 26), ((φ1 2), .cells #[.bool false, .pointer none] 26), ((φ2 4), .cells #[.bool ((xs2 1).b 0), .pointer ((xs2 1).p 0)] 26), ((φ2 5), .cells #[.bool ((xs2 3).b 0), .pointer ((xs2 3).p 0)] 26)] [] 2 [.o 1, .o 1, .o 2, .o 2] 0 (fun φ9 => []) (fun φ9 => [((φ1 0), .cells #[.bool b, .pointer p] 26), ((φ1 1), .cells #[.bool false, .pointer none] 26), ((φ1 2), .cells #[.bool false, .pointer none] 26), ((φ2 4), .cells #[.bool ((xs2 1).b 0), .pointer ((xs2 1).p 0)] 26), ((φ2 5), .cells #[.bool ((xs2 3).b 0), .pointer ((xs2 3).p 0)] 26)]) (fun φ9 => [(φ1 1), (φ1 1), (φ1 2), (φ1 2)]) s trivial (fun φ9 => by kernel_rfl) ?_
      intro φ9 w9 s
      refine ops_done (by kernel_rfl) ?_
      refine wp_ret ?_
      refine ret_rule (C := []) [((φ1 0), .cells #[.bool b, .pointer p] 26), ((φ1 1), .cells #[.bool false, .pointer none] 26), ((φ1 2), .cells #[.bool false, .pointer none] 26), ((φ2 4), .cells #[.bool ((xs2 1).b 0), .pointer ((xs2 1).p 0)] 26), ((φ2 5), .cells #[.bool ((xs2 3).b 0), .pointer ((xs2 3).p 0)] 26)] [] (.tuple #[.agg #[.bool false, .pointer none], .agg #[.bool false, .pointer none]]) [.o 1, .o 1, .o 2, .o 2] [(φ1 1), (φ1 1), (φ1 2), (φ1 2)] s trivial (by kernel_rfl) ?_
      simp only [hc6, ↓reduceIte, Bool.false_eq_true]
      exact ⟨_, _, _, rfl, s, ⟨_, _, _, _, rfl, (TRep.z _), (TRep.z _)⟩⟩
    ·
      rw [hc6]
      refine cond_false_rule (b := false) (by kernel_rfl) rfl ?_
      refine wp_seq ?_
      refine region_rule ?_
      refine ops_rule (C := []) [((φ1 0), .cells #[.bool b, .pointer p] 26), ((φ1 1), .cells #[.bool false, .pointer none] 26), ((φ1 2), .cells #[.bool false, .pointer none] 26), ((φ2 4), .cells #[.bool ((xs2 1).b 0), .pointer ((xs2 1).p 0)] 26), ((φ2 5), .cells #[.bool ((xs2 3).b 0), .pointer ((xs2 3).p 0)] 26)] [] 1 [.o 3, .o 3] 0 (fun φ10 => [(20, .agg #[.bool ((xs2 1).b 0), .pointer ((xs2 1).p 0)])]) (fun φ10 => [((φ1 0), .cells #[.bool b, .pointer p] 26), ((φ1 1), .cells #[.bool false, .pointer none] 26), ((φ1 2), .cells #[.bool false, .pointer none] 26), ((φ2 4), .cells #[.bool ((xs2 1).b 0), .pointer ((xs2 1).p 0)] 26), ((φ2 5), .cells #[.bool ((xs2 3).b 0), .pointer ((xs2 3).p 0)] 26)]) (fun φ10 => [(φ2 4), (φ2 4)]) s trivial (fun φ10 => by kernel_rfl) ?_
      intro φ10 w10 s
      refine call_rule (some 21) s (isZero_c h2_1_0) (by kernel_rfl) ?_
      intro v11 I11 w11 le11 h11 s
      replace h := TRep.mono le11 h
      replace h2_1_0 := TRep.mono le11 h2_1_0
      replace h2_3_0 := TRep.mono le11 h2_3_0
      obtain rfl := h11
      refine ops_rule (C := []) [((φ1 0), .cells #[.bool b, .pointer p] 26), ((φ1 1), .cells #[.bool false, .pointer none] 26), ((φ1 2), .cells #[.bool false, .pointer none] 26), ((φ2 4), .cells #[.bool ((xs2 1).b 0), .pointer ((xs2 1).p 0)] 26), ((φ2 5), .cells #[.bool ((xs2 3).b 0), .pointer ((xs2 3).p 0)] 26)] [] 1 [] 0 (fun φ12 => [(19, .bool (T.isZero (T.left t)))]) (fun φ12 => [((φ1 0), .cells #[.bool b, .pointer p] 26), ((φ1 1), .cells #[.bool false, .pointer none] 26), ((φ1 2), .cells #[.bool false, .pointer none] 26), ((φ2 4), .cells #[.bool ((xs2 1).b 0), .pointer ((xs2 1).p 0)] 26), ((φ2 5), .cells #[.bool ((xs2 3).b 0), .pointer ((xs2 3).p 0)] 26)]) (fun φ12 => []) s trivial (fun φ12 => by kernel_rfl) ?_
      intro φ12 w12 s
      refine ops_done (by kernel_rfl) ?_
      rcases Bool.eq_false_or_eq_true (T.isZero (T.left t)) with hc13 | hc13
      ·
        rw [hc13]
        refine cond_true_rule (b := true) (by kernel_rfl) rfl ?_
        refine wp_seq ?_
        refine region_rule ?_
        refine ops_rule (C := []) [((φ1 0), .cells #[.bool b, .pointer p] 26), ((φ1 1), .cells #[.bool false, .pointer none] 26), ((φ1 2), .cells #[.bool false, .pointer none] 26), ((φ2 4), .cells #[.bool ((xs2 1).b 0), .pointer ((xs2 1).p 0)] 26), ((φ2 5), .cells #[.bool ((xs2 3).b 0), .pointer ((xs2 3).p 0)] 26)] [] 1 [.o 4, .o 4] 0 (fun φ14 => [(23, .agg #[.bool ((xs2 3).b 0), .pointer ((xs2 3).p 0)])]) (fun φ14 => [((φ1 0), .cells #[.bool b, .pointer p] 26), ((φ1 1), .cells #[.bool false, .pointer none] 26), ((φ1 2), .cells #[.bool false, .pointer none] 26), ((φ2 4), .cells #[.bool ((xs2 1).b 0), .pointer ((xs2 1).p 0)] 26), ((φ2 5), .cells #[.bool ((xs2 3).b 0), .pointer ((xs2 3).p 0)] 26)]) (fun φ14 => [(φ2 5), (φ2 5)]) s trivial (fun φ14 => by kernel_rfl) ?_
        intro φ14 w14 s
        refine call_rule (some 24) s (ihr hc6 hc13 h2_3_0) (by kernel_rfl) ?_
        intro v15 I15 w15 le15 h15 s
        replace h := TRep.mono le15 h
        replace h2_1_0 := TRep.mono le15 h2_1_0
        replace h2_3_0 := TRep.mono le15 h2_3_0
        obtain ⟨b15, p15, d15, q15, rfl, h15_0, h15_1⟩ := h15
        refine ops_rule (C := []) [((φ1 0), .cells #[.bool b, .pointer p] 26), ((φ1 1), .cells #[.bool false, .pointer none] 26), ((φ1 2), .cells #[.bool false, .pointer none] 26), ((φ2 4), .cells #[.bool ((xs2 1).b 0), .pointer ((xs2 1).p 0)] 26), ((φ2 5), .cells #[.bool ((xs2 3).b 0), .pointer ((xs2 3).p 0)] 26)] [] 7 [.o 5, .o 5, .o 6, .o 6] 2 (fun φ16 => [(7, .pointer (some ⟨(φ16 1), 0, none⟩)), (6, .pointer (some ⟨(φ16 0), 0, none⟩)), (26, .agg #[.bool d15, .pointer q15]), (25, .agg #[.bool b15, .pointer p15]), (22, .tuple #[.agg #[.bool b15, .pointer p15], .agg #[.bool d15, .pointer q15]])]) (fun φ16 => [((φ1 0), .cells #[.bool b, .pointer p] 26), ((φ1 1), .cells #[.bool false, .pointer none] 26), ((φ1 2), .cells #[.bool false, .pointer none] 26), ((φ2 4), .cells #[.bool ((xs2 1).b 0), .pointer ((xs2 1).p 0)] 26), ((φ2 5), .cells #[.bool ((xs2 3).b 0), .pointer ((xs2 3).p 0)] 26), ((φ16 0), .cells #[.bool b15, .pointer p15] 26), ((φ16 1), .cells #[.bool d15, .pointer q15] 26)]) (fun φ16 => [(φ16 0), (φ16 0), (φ16 1), (φ16 1)]) s trivial (fun φ16 => by kernel_rfl) ?_
        intro φ16 w16 s
        refine ops_done (by kernel_rfl) ?_
        refine wp_seq ?_
        refine draw_rule (C := []) ⟨(fun φ17 xs17 => [.call 28 #[], .look 0 [.o 5, .o 5] [(φ16 0), (φ16 0)], .call 59 #[.agg #[.bool false, .pointer none], .agg #[.bool b15, .pointer p15]], .call 28 #[], .look 0 [.o 6, .o 6] [(φ16 1), (φ16 1)], .call 59 #[.agg #[.bool false, .pointer none], .agg #[.bool d15, .pointer q15]], .store 0 [.o 1, .o 1] [(φ1 1), (φ1 1)], .store 1 [.o 2, .o 2] [(φ1 2), (φ1 2)]]), (fun φ17 xs17 => [.agg #[.bool false, .pointer none], .agg #[.bool b15, .pointer p15], .agg #[.bool ((xs17 2).b 0), .pointer ((xs17 2).p 0)], .agg #[.bool false, .pointer none], .agg #[.bool d15, .pointer q15], .agg #[.bool ((xs17 5).b 0), .pointer ((xs17 5).p 0)], undef, undef]), (fun φ17 xs17 => [[((φ1 0), .cells #[.bool b, .pointer p] 26), ((φ1 1), .cells #[.bool false, .pointer none] 26), ((φ1 2), .cells #[.bool false, .pointer none] 26), ((φ2 4), .cells #[.bool ((xs2 1).b 0), .pointer ((xs2 1).p 0)] 26), ((φ2 5), .cells #[.bool ((xs2 3).b 0), .pointer ((xs2 3).p 0)] 26), ((φ16 0), .cells #[.bool b15, .pointer p15] 26), ((φ16 1), .cells #[.bool d15, .pointer q15] 26)], [((φ1 0), .cells #[.bool b, .pointer p] 26), ((φ1 1), .cells #[.bool ((xs17 2).b 0), .pointer ((xs17 2).p 0)] 26), ((φ1 2), .cells #[.bool false, .pointer none] 26), ((φ2 4), .cells #[.bool ((xs2 1).b 0), .pointer ((xs2 1).p 0)] 26), ((φ2 5), .cells #[.bool ((xs2 3).b 0), .pointer ((xs2 3).p 0)] 26), ((φ16 0), .cells #[.bool b15, .pointer p15] 26), ((φ16 1), .cells #[.bool d15, .pointer q15] 26)], [((φ1 0), .cells #[.bool b, .pointer p] 26), ((φ1 1), .cells #[.bool ((xs17 2).b 0), .pointer ((xs17 2).p 0)] 26), ((φ1 2), .cells #[.bool ((xs17 5).b 0), .pointer ((xs17 5).p 0)] 26), ((φ2 4), .cells #[.bool ((xs2 1).b 0), .pointer ((xs2 1).p 0)] 26), ((φ2 5), .cells #[.bool ((xs2 3).b 0), .pointer ((xs2 3).p 0)] 26), ((φ16 0), .cells #[.bool b15, .pointer p15] 26), ((φ16 1), .cells #[.bool d15, .pointer q15] 26)]]), (fun φ17 xs17 => [[default, default, default, default, default, default, default, default], [default, default, default, default, default, default, default, default], [default, default, default, default, default, default, default, default]]), [6, 7], [3, 1, 3, 3, 1, 3, 4, 4]⟩ (fun j => ([MP.any, MP.any, ⟨fun x J => TRep J (T.mk T.zero r1) (x.b 0) (x.p 0), fun le h => TRep.mono le h⟩, MP.any, MP.any, ⟨fun x J => TRep J (T.mk T.zero r2) (x.b 0) (x.p 0), fun le h => TRep.mono le h⟩, MP.any, MP.any] : List MP).getD j MP.any) [0, 2, 3, 5] [] [] (fun φ17 xs17 => [[none, none, none, none, none, none, none, none], [none, none, none, none, none, none, none, none]]) (fun φ17 xs17 => [(27, .agg #[.bool false, .pointer none]), (28, .agg #[.bool b15, .pointer p15]), (29, .agg #[.bool ((xs17 2).b 0), .pointer ((xs17 2).p 0)]), (30, .agg #[.bool false, .pointer none]), (31, .agg #[.bool d15, .pointer q15]), (32, .agg #[.bool ((xs17 5).b 0), .pointer ((xs17 5).p 0)])]) (fun φ17 xs17 => [((φ1 0), .cells #[.bool b, .pointer p] 26), ((φ1 1), .cells #[.bool ((xs17 2).b 0), .pointer ((xs17 2).p 0)] 26), ((φ1 2), .cells #[.bool ((xs17 5).b 0), .pointer ((xs17 5).p 0)] 26), ((φ2 4), .cells #[.bool ((xs2 1).b 0), .pointer ((xs2 1).p 0)] 26), ((φ2 5), .cells #[.bool ((xs2 3).b 0), .pointer ((xs2 3).p 0)] 26), ((φ16 0), .cells #[.bool b15, .pointer p15] 26), ((φ16 1), .cells #[.bool d15, .pointer q15] 26)]) s trivial (by kernel_rfl) (by kernel_rfl) (fun _ _ => by kernel_rfl) (fun _ _ => by kernel_rfl) ⟨fun _ _ => by kernel_rfl, fun _ _ => by kernel_rfl, fun _ _ => by kernel_rfl, fun _ _ => by kernel_rfl⟩ (fun _ _ _ => by kernel_rfl) (fun _ _ => by kernel_rfl) (fun _ _ => by kernel_rfl) (fun _ _ => by kernel_rfl) (fun _ _ => by kernel_rfl) (fun _ _ => by kernel_rfl) trivial trivial (by kernel_rfl) ⟨?c17_0, ?c17_2, ?c17_3, ?c17_5, trivial⟩ ?k17
        case c17_0 =>
          refine kcast (A := ∀ (φ17 : Nat → Nat) (xs17 : Xs) (J0_17 : IM), I15.Le J0_17 → Fun Try.prog 28 #[] J0_17 (fun v J' => ∃ x : UX, v = .agg #[.bool false, .pointer none] ∧ (True))) (by kernel_rfl) ?_
          intro φ17 xs17 J0_17 leJ
          exact Fun.mono (tzero_c) (fun v J' _ h => ⟨UX.d, h, trivial⟩)
        case c17_2 =>
          refine kcast (A := ∀ (φ17 : Nat → Nat) (xs17 : Xs) (J2_17 : IM), I15.Le J2_17 → (True) → Fun Try.prog 59 #[.agg #[.bool false, .pointer none], .agg #[.bool b15, .pointer p15]] J2_17 (fun v J' => ∃ x : UX, v = .agg #[.bool (x.b 0), .pointer (x.p 0)] ∧ (TRep J' (T.mk T.zero r1) (x.b 0) (x.p 0)))) (by kernel_rfl) ?_
          intro φ17 xs17 J2_17 leJ
          rintro _
          have h15_0 := TRep.mono leJ h15_0
          exact Fun.mono (merge_c (TRep.z _) h15_0 (by omega) (by omega)) (fun v J' _ ⟨y0, y1, hv, g0⟩ => ⟨{ UX.d with b := fun j => y0, p := fun j => y1 }, hv, g0⟩)
        case c17_3 =>
          refine kcast (A := ∀ (φ17 : Nat → Nat) (xs17 : Xs) (J3_17 : IM), I15.Le J3_17 → (True) → (TRep J3_17 (T.mk T.zero r1) ((xs17 2).b 0) ((xs17 2).p 0)) → Fun Try.prog 28 #[] J3_17 (fun v J' => ∃ x : UX, v = .agg #[.bool false, .pointer none] ∧ (True))) (by kernel_rfl) ?_
          intro φ17 xs17 J3_17 leJ
          rintro _ h17_2_0
          exact Fun.mono (tzero_c) (fun v J' _ h => ⟨UX.d, h, trivial⟩)
        case c17_5 =>
          refine kcast (A := ∀ (φ17 : Nat → Nat) (xs17 : Xs) (J5_17 : IM), I15.Le J5_17 → (True) → (TRep J5_17 (T.mk T.zero r1) ((xs17 2).b 0) ((xs17 2).p 0)) → (True) → Fun Try.prog 59 #[.agg #[.bool false, .pointer none], .agg #[.bool d15, .pointer q15]] J5_17 (fun v J' => ∃ x : UX, v = .agg #[.bool (x.b 0), .pointer (x.p 0)] ∧ (TRep J' (T.mk T.zero r2) (x.b 0) (x.p 0)))) (by kernel_rfl) ?_
          intro φ17 xs17 J5_17 leJ
          rintro _ h17_2_0 _
          have h15_1 := TRep.mono leJ h15_1
          exact Fun.mono (merge_c (TRep.z _) h15_1 (by omega) (by omega)) (fun v J' _ ⟨y0, y1, hv, g0⟩ => ⟨{ UX.d with b := fun j => y0, p := fun j => y1 }, hv, g0⟩)
        case k17 =>
          rintro φ17 xs17 I17 w17 le17 s _ h17_2_0 _ h17_5_0
          replace h := TRep.mono le17 h
          replace h2_1_0 := TRep.mono le17 h2_1_0
          replace h2_3_0 := TRep.mono le17 h2_3_0
          replace h15_0 := TRep.mono le17 h15_0
          replace h15_1 := TRep.mono le17 h15_1
          refine wp_ret ?_
          refine ret_rule (C := []) [((φ1 0), .cells #[.bool b, .pointer p] 26), ((φ1 1), .cells #[.bool ((xs17 2).b 0), .pointer ((xs17 2).p 0)] 26), ((φ1 2), .cells #[.bool ((xs17 5).b 0), .pointer ((xs17 5).p 0)] 26), ((φ2 4), .cells #[.bool ((xs2 1).b 0), .pointer ((xs2 1).p 0)] 26), ((φ2 5), .cells #[.bool ((xs2 3).b 0), .pointer ((xs2 3).p 0)] 26), ((φ16 0), .cells #[.bool b15, .pointer p15] 26), ((φ16 1), .cells #[.bool d15, .pointer q15] 26)] [] (.tuple #[.agg #[.bool ((xs17 2).b 0), .pointer ((xs17 2).p 0)], .agg #[.bool ((xs17 5).b 0), .pointer ((xs17 5).p 0)]]) [.o 1, .o 1, .o 2, .o 2] [(φ1 1), (φ1 1), (φ1 2), (φ1 2)] s trivial (by kernel_rfl) ?_
          simp only [hc6, hc13, ↓reduceIte, Bool.false_eq_true]
          exact ⟨_, _, _, rfl, s, ⟨_, _, _, _, rfl, h17_2_0, h17_5_0⟩⟩
      ·
        rw [hc13]
        refine cond_false_rule (b := false) (by kernel_rfl) rfl ?_
        refine wp_seq ?_
        refine region_rule ?_
        refine ops_rule (C := []) [((φ1 0), .cells #[.bool b, .pointer p] 26), ((φ1 1), .cells #[.bool false, .pointer none] 26), ((φ1 2), .cells #[.bool false, .pointer none] 26), ((φ2 4), .cells #[.bool ((xs2 1).b 0), .pointer ((xs2 1).p 0)] 26), ((φ2 5), .cells #[.bool ((xs2 3).b 0), .pointer ((xs2 3).p 0)] 26)] [] 1 [.o 4, .o 4] 0 (fun φ18 => [(34, .agg #[.bool ((xs2 3).b 0), .pointer ((xs2 3).p 0)])]) (fun φ18 => [((φ1 0), .cells #[.bool b, .pointer p] 26), ((φ1 1), .cells #[.bool false, .pointer none] 26), ((φ1 2), .cells #[.bool false, .pointer none] 26), ((φ2 4), .cells #[.bool ((xs2 1).b 0), .pointer ((xs2 1).p 0)] 26), ((φ2 5), .cells #[.bool ((xs2 3).b 0), .pointer ((xs2 3).p 0)] 26)]) (fun φ18 => [(φ2 5), (φ2 5)]) s trivial (fun φ18 => by kernel_rfl) ?_
        intro φ18 w18 s
        refine call_rule (some 35) s (isZero_c h2_3_0) (by kernel_rfl) ?_
        intro v19 I19 w19 le19 h19 s
        replace h := TRep.mono le19 h
        replace h2_1_0 := TRep.mono le19 h2_1_0
        replace h2_3_0 := TRep.mono le19 h2_3_0
        obtain rfl := h19
        refine ops_rule (C := []) [((φ1 0), .cells #[.bool b, .pointer p] 26), ((φ1 1), .cells #[.bool false, .pointer none] 26), ((φ1 2), .cells #[.bool false, .pointer none] 26), ((φ2 4), .cells #[.bool ((xs2 1).b 0), .pointer ((xs2 1).p 0)] 26), ((φ2 5), .cells #[.bool ((xs2 3).b 0), .pointer ((xs2 3).p 0)] 26)] [] 1 [] 0 (fun φ20 => [(33, .bool (T.isZero (T.right t)))]) (fun φ20 => [((φ1 0), .cells #[.bool b, .pointer p] 26), ((φ1 1), .cells #[.bool false, .pointer none] 26), ((φ1 2), .cells #[.bool false, .pointer none] 26), ((φ2 4), .cells #[.bool ((xs2 1).b 0), .pointer ((xs2 1).p 0)] 26), ((φ2 5), .cells #[.bool ((xs2 3).b 0), .pointer ((xs2 3).p 0)] 26)]) (fun φ20 => []) s trivial (fun φ20 => by kernel_rfl) ?_
        intro φ20 w20 s
        refine ops_done (by kernel_rfl) ?_
        rcases Bool.eq_false_or_eq_true (T.isZero (T.right t)) with hc21 | hc21
        ·
          rw [hc21]
          refine cond_true_rule (b := true) (by kernel_rfl) rfl ?_
          refine wp_seq ?_
          refine region_rule ?_
          refine ops_rule (C := []) [((φ1 0), .cells #[.bool b, .pointer p] 26), ((φ1 1), .cells #[.bool false, .pointer none] 26), ((φ1 2), .cells #[.bool false, .pointer none] 26), ((φ2 4), .cells #[.bool ((xs2 1).b 0), .pointer ((xs2 1).p 0)] 26), ((φ2 5), .cells #[.bool ((xs2 3).b 0), .pointer ((xs2 3).p 0)] 26)] [] 1 [.o 3, .o 3] 0 (fun φ22 => [(37, .agg #[.bool ((xs2 1).b 0), .pointer ((xs2 1).p 0)])]) (fun φ22 => [((φ1 0), .cells #[.bool b, .pointer p] 26), ((φ1 1), .cells #[.bool false, .pointer none] 26), ((φ1 2), .cells #[.bool false, .pointer none] 26), ((φ2 4), .cells #[.bool ((xs2 1).b 0), .pointer ((xs2 1).p 0)] 26), ((φ2 5), .cells #[.bool ((xs2 3).b 0), .pointer ((xs2 3).p 0)] 26)]) (fun φ22 => [(φ2 4), (φ2 4)]) s trivial (fun φ22 => by kernel_rfl) ?_
          intro φ22 w22 s
          refine call_rule (some 38) s (ihl hc6 hc13 hc21 h2_1_0) (by kernel_rfl) ?_
          intro v23 I23 w23 le23 h23 s
          replace h := TRep.mono le23 h
          replace h2_1_0 := TRep.mono le23 h2_1_0
          replace h2_3_0 := TRep.mono le23 h2_3_0
          obtain ⟨b23, p23, d23, q23, rfl, h23_0, h23_1⟩ := h23
          refine ops_rule (C := []) [((φ1 0), .cells #[.bool b, .pointer p] 26), ((φ1 1), .cells #[.bool false, .pointer none] 26), ((φ1 2), .cells #[.bool false, .pointer none] 26), ((φ2 4), .cells #[.bool ((xs2 1).b 0), .pointer ((xs2 1).p 0)] 26), ((φ2 5), .cells #[.bool ((xs2 3).b 0), .pointer ((xs2 3).p 0)] 26)] [] 7 [.o 5, .o 5, .o 6, .o 6] 2 (fun φ24 => [(9, .pointer (some ⟨(φ24 1), 0, none⟩)), (8, .pointer (some ⟨(φ24 0), 0, none⟩)), (40, .agg #[.bool d23, .pointer q23]), (39, .agg #[.bool b23, .pointer p23]), (36, .tuple #[.agg #[.bool b23, .pointer p23], .agg #[.bool d23, .pointer q23]])]) (fun φ24 => [((φ1 0), .cells #[.bool b, .pointer p] 26), ((φ1 1), .cells #[.bool false, .pointer none] 26), ((φ1 2), .cells #[.bool false, .pointer none] 26), ((φ2 4), .cells #[.bool ((xs2 1).b 0), .pointer ((xs2 1).p 0)] 26), ((φ2 5), .cells #[.bool ((xs2 3).b 0), .pointer ((xs2 3).p 0)] 26), ((φ24 0), .cells #[.bool b23, .pointer p23] 26), ((φ24 1), .cells #[.bool d23, .pointer q23] 26)]) (fun φ24 => [(φ24 0), (φ24 0), (φ24 1), (φ24 1)]) s trivial (fun φ24 => by kernel_rfl) ?_
          intro φ24 w24 s
          refine ops_done (by kernel_rfl) ?_
          refine wp_seq ?_
          refine draw_rule (C := []) ⟨(fun φ25 xs25 => [.look 0 [.o 5, .o 5] [(φ24 0), (φ24 0)], .call 28 #[], .call 59 #[.agg #[.bool b23, .pointer p23], .agg #[.bool false, .pointer none]], .look 0 [.o 6, .o 6] [(φ24 1), (φ24 1)], .call 28 #[], .call 59 #[.agg #[.bool d23, .pointer q23], .agg #[.bool false, .pointer none]], .store 0 [.o 1, .o 1] [(φ1 1), (φ1 1)], .store 1 [.o 2, .o 2] [(φ1 2), (φ1 2)]]), (fun φ25 xs25 => [.agg #[.bool b23, .pointer p23], .agg #[.bool false, .pointer none], .agg #[.bool ((xs25 2).b 0), .pointer ((xs25 2).p 0)], .agg #[.bool d23, .pointer q23], .agg #[.bool false, .pointer none], .agg #[.bool ((xs25 5).b 0), .pointer ((xs25 5).p 0)], undef, undef]), (fun φ25 xs25 => [[((φ1 0), .cells #[.bool b, .pointer p] 26), ((φ1 1), .cells #[.bool false, .pointer none] 26), ((φ1 2), .cells #[.bool false, .pointer none] 26), ((φ2 4), .cells #[.bool ((xs2 1).b 0), .pointer ((xs2 1).p 0)] 26), ((φ2 5), .cells #[.bool ((xs2 3).b 0), .pointer ((xs2 3).p 0)] 26), ((φ24 0), .cells #[.bool b23, .pointer p23] 26), ((φ24 1), .cells #[.bool d23, .pointer q23] 26)], [((φ1 0), .cells #[.bool b, .pointer p] 26), ((φ1 1), .cells #[.bool ((xs25 2).b 0), .pointer ((xs25 2).p 0)] 26), ((φ1 2), .cells #[.bool false, .pointer none] 26), ((φ2 4), .cells #[.bool ((xs2 1).b 0), .pointer ((xs2 1).p 0)] 26), ((φ2 5), .cells #[.bool ((xs2 3).b 0), .pointer ((xs2 3).p 0)] 26), ((φ24 0), .cells #[.bool b23, .pointer p23] 26), ((φ24 1), .cells #[.bool d23, .pointer q23] 26)], [((φ1 0), .cells #[.bool b, .pointer p] 26), ((φ1 1), .cells #[.bool ((xs25 2).b 0), .pointer ((xs25 2).p 0)] 26), ((φ1 2), .cells #[.bool ((xs25 5).b 0), .pointer ((xs25 5).p 0)] 26), ((φ2 4), .cells #[.bool ((xs2 1).b 0), .pointer ((xs2 1).p 0)] 26), ((φ2 5), .cells #[.bool ((xs2 3).b 0), .pointer ((xs2 3).p 0)] 26), ((φ24 0), .cells #[.bool b23, .pointer p23] 26), ((φ24 1), .cells #[.bool d23, .pointer q23] 26)]]), (fun φ25 xs25 => [[default, default, default, default, default, default, default, default], [default, default, default, default, default, default, default, default], [default, default, default, default, default, default, default, default]]), [6, 7], [1, 3, 3, 1, 3, 3, 4, 4]⟩ (fun j => ([MP.any, MP.any, ⟨fun x J => TRep J (T.mk l1 T.zero) (x.b 0) (x.p 0), fun le h => TRep.mono le h⟩, MP.any, MP.any, ⟨fun x J => TRep J (T.mk l2 T.zero) (x.b 0) (x.p 0), fun le h => TRep.mono le h⟩, MP.any, MP.any] : List MP).getD j MP.any) [1, 2, 4, 5] [] [] (fun φ25 xs25 => [[none, none, none, none, none, none, none, none], [none, none, none, none, none, none, none, none]]) (fun φ25 xs25 => [(41, .agg #[.bool b23, .pointer p23]), (42, .agg #[.bool false, .pointer none]), (43, .agg #[.bool ((xs25 2).b 0), .pointer ((xs25 2).p 0)]), (44, .agg #[.bool d23, .pointer q23]), (45, .agg #[.bool false, .pointer none]), (46, .agg #[.bool ((xs25 5).b 0), .pointer ((xs25 5).p 0)])]) (fun φ25 xs25 => [((φ1 0), .cells #[.bool b, .pointer p] 26), ((φ1 1), .cells #[.bool ((xs25 2).b 0), .pointer ((xs25 2).p 0)] 26), ((φ1 2), .cells #[.bool ((xs25 5).b 0), .pointer ((xs25 5).p 0)] 26), ((φ2 4), .cells #[.bool ((xs2 1).b 0), .pointer ((xs2 1).p 0)] 26), ((φ2 5), .cells #[.bool ((xs2 3).b 0), .pointer ((xs2 3).p 0)] 26), ((φ24 0), .cells #[.bool b23, .pointer p23] 26), ((φ24 1), .cells #[.bool d23, .pointer q23] 26)]) s trivial (by kernel_rfl) (by kernel_rfl) (fun _ _ => by kernel_rfl) (fun _ _ => by kernel_rfl) ⟨fun _ _ => by kernel_rfl, fun _ _ => by kernel_rfl, fun _ _ => by kernel_rfl, fun _ _ => by kernel_rfl⟩ (fun _ _ _ => by kernel_rfl) (fun _ _ => by kernel_rfl) (fun _ _ => by kernel_rfl) (fun _ _ => by kernel_rfl) (fun _ _ => by kernel_rfl) (fun _ _ => by kernel_rfl) trivial trivial (by kernel_rfl) ⟨?c25_1, ?c25_2, ?c25_4, ?c25_5, trivial⟩ ?k25
          case c25_1 =>
            refine kcast (A := ∀ (φ25 : Nat → Nat) (xs25 : Xs) (J1_25 : IM), I23.Le J1_25 → Fun Try.prog 28 #[] J1_25 (fun v J' => ∃ x : UX, v = .agg #[.bool false, .pointer none] ∧ (True))) (by kernel_rfl) ?_
            intro φ25 xs25 J1_25 leJ
            exact Fun.mono (tzero_c) (fun v J' _ h => ⟨UX.d, h, trivial⟩)
          case c25_2 =>
            refine kcast (A := ∀ (φ25 : Nat → Nat) (xs25 : Xs) (J2_25 : IM), I23.Le J2_25 → (True) → Fun Try.prog 59 #[.agg #[.bool b23, .pointer p23], .agg #[.bool false, .pointer none]] J2_25 (fun v J' => ∃ x : UX, v = .agg #[.bool (x.b 0), .pointer (x.p 0)] ∧ (TRep J' (T.mk l1 T.zero) (x.b 0) (x.p 0)))) (by kernel_rfl) ?_
            intro φ25 xs25 J2_25 leJ
            rintro _
            have h23_0 := TRep.mono leJ h23_0
            exact Fun.mono (merge_c h23_0 (TRep.z _) (by omega) (by omega)) (fun v J' _ ⟨y0, y1, hv, g0⟩ => ⟨{ UX.d with b := fun j => y0, p := fun j => y1 }, hv, g0⟩)
          case c25_4 =>
            refine kcast (A := ∀ (φ25 : Nat → Nat) (xs25 : Xs) (J4_25 : IM), I23.Le J4_25 → (True) → (TRep J4_25 (T.mk l1 T.zero) ((xs25 2).b 0) ((xs25 2).p 0)) → Fun Try.prog 28 #[] J4_25 (fun v J' => ∃ x : UX, v = .agg #[.bool false, .pointer none] ∧ (True))) (by kernel_rfl) ?_
            intro φ25 xs25 J4_25 leJ
            rintro _ h25_2_0
            exact Fun.mono (tzero_c) (fun v J' _ h => ⟨UX.d, h, trivial⟩)
          case c25_5 =>
            refine kcast (A := ∀ (φ25 : Nat → Nat) (xs25 : Xs) (J5_25 : IM), I23.Le J5_25 → (True) → (TRep J5_25 (T.mk l1 T.zero) ((xs25 2).b 0) ((xs25 2).p 0)) → (True) → Fun Try.prog 59 #[.agg #[.bool d23, .pointer q23], .agg #[.bool false, .pointer none]] J5_25 (fun v J' => ∃ x : UX, v = .agg #[.bool (x.b 0), .pointer (x.p 0)] ∧ (TRep J' (T.mk l2 T.zero) (x.b 0) (x.p 0)))) (by kernel_rfl) ?_
            intro φ25 xs25 J5_25 leJ
            rintro _ h25_2_0 _
            have h23_1 := TRep.mono leJ h23_1
            exact Fun.mono (merge_c h23_1 (TRep.z _) (by omega) (by omega)) (fun v J' _ ⟨y0, y1, hv, g0⟩ => ⟨{ UX.d with b := fun j => y0, p := fun j => y1 }, hv, g0⟩)
          case k25 =>
            rintro φ25 xs25 I25 w25 le25 s _ h25_2_0 _ h25_5_0
            replace h := TRep.mono le25 h
            replace h2_1_0 := TRep.mono le25 h2_1_0
            replace h2_3_0 := TRep.mono le25 h2_3_0
            replace h23_0 := TRep.mono le25 h23_0
            replace h23_1 := TRep.mono le25 h23_1
            refine wp_ret ?_
            refine ret_rule (C := []) [((φ1 0), .cells #[.bool b, .pointer p] 26), ((φ1 1), .cells #[.bool ((xs25 2).b 0), .pointer ((xs25 2).p 0)] 26), ((φ1 2), .cells #[.bool ((xs25 5).b 0), .pointer ((xs25 5).p 0)] 26), ((φ2 4), .cells #[.bool ((xs2 1).b 0), .pointer ((xs2 1).p 0)] 26), ((φ2 5), .cells #[.bool ((xs2 3).b 0), .pointer ((xs2 3).p 0)] 26), ((φ24 0), .cells #[.bool b23, .pointer p23] 26), ((φ24 1), .cells #[.bool d23, .pointer q23] 26)] [] (.tuple #[.agg #[.bool ((xs25 2).b 0), .pointer ((xs25 2).p 0)], .agg #[.bool ((xs25 5).b 0), .pointer ((xs25 5).p 0)]]) [.o 1, .o 1, .o 2, .o 2] [(φ1 1), (φ1 1), (φ1 2), (φ1 2)] s trivial (by kernel_rfl) ?_
            simp only [hc6, hc13, hc21, ↓reduceIte, Bool.false_eq_true]
            exact ⟨_, _, _, rfl, s, ⟨_, _, _, _, rfl, h25_2_0, h25_5_0⟩⟩
        ·
          rw [hc21]
          refine cond_false_rule (b := false) (by kernel_rfl) rfl ?_
          refine wp_skip ?_
          refine wp_seq ?_
          refine draw_rule (C := []) ⟨(fun φ26 xs26 => [.look 0 [.o 3, .o 3] [(φ2 4), (φ2 4)], .call 28 #[], .call 59 #[.agg #[.bool ((xs2 1).b 0), .pointer ((xs2 1).p 0)], .agg #[.bool false, .pointer none]], .call 28 #[], .look 0 [.o 4, .o 4] [(φ2 5), (φ2 5)], .call 59 #[.agg #[.bool false, .pointer none], .agg #[.bool ((xs2 3).b 0), .pointer ((xs2 3).p 0)]], .store 0 [.o 1, .o 1] [(φ1 1), (φ1 1)], .store 1 [.o 2, .o 2] [(φ1 2), (φ1 2)]]), (fun φ26 xs26 => [.agg #[.bool ((xs2 1).b 0), .pointer ((xs2 1).p 0)], .agg #[.bool false, .pointer none], .agg #[.bool ((xs26 2).b 0), .pointer ((xs26 2).p 0)], .agg #[.bool false, .pointer none], .agg #[.bool ((xs2 3).b 0), .pointer ((xs2 3).p 0)], .agg #[.bool ((xs26 5).b 0), .pointer ((xs26 5).p 0)], undef, undef]), (fun φ26 xs26 => [[((φ1 0), .cells #[.bool b, .pointer p] 26), ((φ1 1), .cells #[.bool false, .pointer none] 26), ((φ1 2), .cells #[.bool false, .pointer none] 26), ((φ2 4), .cells #[.bool ((xs2 1).b 0), .pointer ((xs2 1).p 0)] 26), ((φ2 5), .cells #[.bool ((xs2 3).b 0), .pointer ((xs2 3).p 0)] 26)], [((φ1 0), .cells #[.bool b, .pointer p] 26), ((φ1 1), .cells #[.bool ((xs26 2).b 0), .pointer ((xs26 2).p 0)] 26), ((φ1 2), .cells #[.bool false, .pointer none] 26), ((φ2 4), .cells #[.bool ((xs2 1).b 0), .pointer ((xs2 1).p 0)] 26), ((φ2 5), .cells #[.bool ((xs2 3).b 0), .pointer ((xs2 3).p 0)] 26)], [((φ1 0), .cells #[.bool b, .pointer p] 26), ((φ1 1), .cells #[.bool ((xs26 2).b 0), .pointer ((xs26 2).p 0)] 26), ((φ1 2), .cells #[.bool ((xs26 5).b 0), .pointer ((xs26 5).p 0)] 26), ((φ2 4), .cells #[.bool ((xs2 1).b 0), .pointer ((xs2 1).p 0)] 26), ((φ2 5), .cells #[.bool ((xs2 3).b 0), .pointer ((xs2 3).p 0)] 26)]]), (fun φ26 xs26 => [[default, default, default, default, default, default, default, default], [default, default, default, default, default, default, default, default], [default, default, default, default, default, default, default, default]]), [6, 7], [1, 3, 3, 3, 1, 3, 4, 4]⟩ (fun j => ([MP.any, MP.any, ⟨fun x J => TRep J (T.mk (T.left t) T.zero) (x.b 0) (x.p 0), fun le h => TRep.mono le h⟩, MP.any, MP.any, ⟨fun x J => TRep J (T.mk T.zero (T.right t)) (x.b 0) (x.p 0), fun le h => TRep.mono le h⟩, MP.any, MP.any] : List MP).getD j MP.any) [1, 2, 3, 5] [] [] (fun φ26 xs26 => [[none, none, none, none, none, none, none, none], [none, none, none, none, none, none, none, none]]) (fun φ26 xs26 => [(47, .agg #[.bool ((xs2 1).b 0), .pointer ((xs2 1).p 0)]), (48, .agg #[.bool false, .pointer none]), (49, .agg #[.bool ((xs26 2).b 0), .pointer ((xs26 2).p 0)]), (50, .agg #[.bool false, .pointer none]), (51, .agg #[.bool ((xs2 3).b 0), .pointer ((xs2 3).p 0)]), (52, .agg #[.bool ((xs26 5).b 0), .pointer ((xs26 5).p 0)])]) (fun φ26 xs26 => [((φ1 0), .cells #[.bool b, .pointer p] 26), ((φ1 1), .cells #[.bool ((xs26 2).b 0), .pointer ((xs26 2).p 0)] 26), ((φ1 2), .cells #[.bool ((xs26 5).b 0), .pointer ((xs26 5).p 0)] 26), ((φ2 4), .cells #[.bool ((xs2 1).b 0), .pointer ((xs2 1).p 0)] 26), ((φ2 5), .cells #[.bool ((xs2 3).b 0), .pointer ((xs2 3).p 0)] 26)]) s trivial (by kernel_rfl) (by kernel_rfl) (fun _ _ => by kernel_rfl) (fun _ _ => by kernel_rfl) ⟨fun _ _ => by kernel_rfl, fun _ _ => by kernel_rfl, fun _ _ => by kernel_rfl, fun _ _ => by kernel_rfl⟩ (fun _ _ _ => by kernel_rfl) (fun _ _ => by kernel_rfl) (fun _ _ => by kernel_rfl) (fun _ _ => by kernel_rfl) (fun _ _ => by kernel_rfl) (fun _ _ => by kernel_rfl) trivial trivial (by kernel_rfl) ⟨?c26_1, ?c26_2, ?c26_3, ?c26_5, trivial⟩ ?k26
          case c26_1 =>
            refine kcast (A := ∀ (φ26 : Nat → Nat) (xs26 : Xs) (J1_26 : IM), I19.Le J1_26 → Fun Try.prog 28 #[] J1_26 (fun v J' => ∃ x : UX, v = .agg #[.bool false, .pointer none] ∧ (True))) (by kernel_rfl) ?_
            intro φ26 xs26 J1_26 leJ
            exact Fun.mono (tzero_c) (fun v J' _ h => ⟨UX.d, h, trivial⟩)
          case c26_2 =>
            refine kcast (A := ∀ (φ26 : Nat → Nat) (xs26 : Xs) (J2_26 : IM), I19.Le J2_26 → (True) → Fun Try.prog 59 #[.agg #[.bool ((xs2 1).b 0), .pointer ((xs2 1).p 0)], .agg #[.bool false, .pointer none]] J2_26 (fun v J' => ∃ x : UX, v = .agg #[.bool (x.b 0), .pointer (x.p 0)] ∧ (TRep J' (T.mk (T.left t) T.zero) (x.b 0) (x.p 0)))) (by kernel_rfl) ?_
            intro φ26 xs26 J2_26 leJ
            rintro _
            have h2_1_0 := TRep.mono leJ h2_1_0
            exact Fun.mono (merge_c h2_1_0 (TRep.z _) (by omega) (by omega)) (fun v J' _ ⟨y0, y1, hv, g0⟩ => ⟨{ UX.d with b := fun j => y0, p := fun j => y1 }, hv, g0⟩)
          case c26_3 =>
            refine kcast (A := ∀ (φ26 : Nat → Nat) (xs26 : Xs) (J3_26 : IM), I19.Le J3_26 → (True) → (TRep J3_26 (T.mk (T.left t) T.zero) ((xs26 2).b 0) ((xs26 2).p 0)) → Fun Try.prog 28 #[] J3_26 (fun v J' => ∃ x : UX, v = .agg #[.bool false, .pointer none] ∧ (True))) (by kernel_rfl) ?_
            intro φ26 xs26 J3_26 leJ
            rintro _ h26_2_0
            exact Fun.mono (tzero_c) (fun v J' _ h => ⟨UX.d, h, trivial⟩)
          case c26_5 =>
            refine kcast (A := ∀ (φ26 : Nat → Nat) (xs26 : Xs) (J5_26 : IM), I19.Le J5_26 → (True) → (TRep J5_26 (T.mk (T.left t) T.zero) ((xs26 2).b 0) ((xs26 2).p 0)) → (True) → Fun Try.prog 59 #[.agg #[.bool false, .pointer none], .agg #[.bool ((xs2 3).b 0), .pointer ((xs2 3).p 0)]] J5_26 (fun v J' => ∃ x : UX, v = .agg #[.bool (x.b 0), .pointer (x.p 0)] ∧ (TRep J' (T.mk T.zero (T.right t)) (x.b 0) (x.p 0)))) (by kernel_rfl) ?_
            intro φ26 xs26 J5_26 leJ
            rintro _ h26_2_0 _
            have h2_3_0 := TRep.mono leJ h2_3_0
            exact Fun.mono (merge_c (TRep.z _) h2_3_0 (by omega) (by omega)) (fun v J' _ ⟨y0, y1, hv, g0⟩ => ⟨{ UX.d with b := fun j => y0, p := fun j => y1 }, hv, g0⟩)
          case k26 =>
            rintro φ26 xs26 I26 w26 le26 s _ h26_2_0 _ h26_5_0
            replace h := TRep.mono le26 h
            replace h2_1_0 := TRep.mono le26 h2_1_0
            replace h2_3_0 := TRep.mono le26 h2_3_0
            refine wp_ret ?_
            refine ret_rule (C := []) [((φ1 0), .cells #[.bool b, .pointer p] 26), ((φ1 1), .cells #[.bool ((xs26 2).b 0), .pointer ((xs26 2).p 0)] 26), ((φ1 2), .cells #[.bool ((xs26 5).b 0), .pointer ((xs26 5).p 0)] 26), ((φ2 4), .cells #[.bool ((xs2 1).b 0), .pointer ((xs2 1).p 0)] 26), ((φ2 5), .cells #[.bool ((xs2 3).b 0), .pointer ((xs2 3).p 0)] 26)] [] (.tuple #[.agg #[.bool ((xs26 2).b 0), .pointer ((xs26 2).p 0)], .agg #[.bool ((xs26 5).b 0), .pointer ((xs26 5).p 0)]]) [.o 1, .o 1, .o 2, .o 2] [(φ1 1), (φ1 1), (φ1 2), (φ1 2)] s trivial (by kernel_rfl) ?_
            simp only [hc6, hc13, hc21, ↓reduceIte, Bool.false_eq_true]
            exact ⟨_, _, _, rfl, s, ⟨_, _, _, _, rfl, h26_2_0, h26_5_0⟩⟩

theorem cut_c : ∀ (t : T) {I : IM} {b : Bool} {p : Option Addr}, t.depth ≤ 800 → TRep I t b p → Fun Try.prog 44 #[idv b p] I (fun v J => ∃ b1 p1 b2 p2, v = .tuple #[idv b1 p1, idv b2 p2] ∧ TRep J (cutT t).1 b1 p1 ∧ TRep J (cutT t).2 b2 p2)
  | .zero, I, b, p, _, h => cut_step (l1 := .zero) (l2 := .zero) (r1 := .zero) (r2 := .zero) h (by decide) (by decide) (by decide) (by decide) (by decide) (by decide) (fun h => by cases h) (fun h => by cases h)
  | .one, I, b, p, _, h => cut_step (l1 := .zero) (l2 := .zero) (r1 := .zero) (r2 := .zero) h (by decide) (by decide) (by decide) (by decide) (by decide) (by decide) (fun _ _ h => by cases h) (fun _ h => by cases h)
  | .node l r, I, b, p, hd, h => by
    have e : 1 + max l.depth r.depth ≤ 800 := hd
    have c1 := cut_depth l
    have c2 := cut_depth r
    have := cut_step (t := .node l r) (l1 := (cutT l).1) (l2 := (cutT l).2) (r1 := (cutT r).1) (r2 := (cutT r).2) h (by omega) (by omega) (by omega) (by omega) (show l.depth ≤ 900 by omega) (show r.depth ≤ 900 by omega)
      (fun _ _ _ {J} {b} {p} k => cut_c l (by omega) k) (fun _ _ {J} {b} {p} k => cut_c r (by omega) k)
    exact this

def splitT (t : T) : T × T × Nat := if 16 < max (cutT t).1.depth (cutT t).2.depth then (.zero, .zero, 3) else ((cutT t).1, (cutT t).2, 0)

set_option maxHeartbeats 1000000 in
theorem split_c {I : IM} {t : T} {b : Bool} {p : Option Addr} (h : TRep I t b p) (hd : t.depth ≤ 800) : Fun Try.prog 20 #[idv b p] I (fun v J => ∃ b1 p1 b2 p2, v = .tuple #[idv b1 p1, idv b2 p2, .int .i64 (((splitT t).2.2 : Nat) : Int)] ∧ TRep J (splitT t).1 b1 p1 ∧ TRep J (splitT t).2.1 b2 p2) := by
  refine enter_rule 22 [(0, .agg #[.bool b, .pointer p])] Try.func20 rfl (by kernel_rfl) ?_
  intro w s
  refine wp_seq ?_
  refine region_rule ?_
  refine ops_rule (C := []) [] [] 4 [] 3 (fun φ1 => [(4, .int .i64 0), (3, .pointer (some ⟨(φ1 2), 0, none⟩)), (2, .pointer (some ⟨(φ1 1), 0, none⟩)), (1, .pointer (some ⟨(φ1 0), 0, none⟩))]) (fun φ1 => [((φ1 0), .cells #[.bool b, .pointer p] 26), ((φ1 1), .cells #[.bool false, .pointer none] 26), ((φ1 2), .cells #[.bool false, .pointer none] 26)]) (fun φ1 => []) s trivial (fun φ1 => by kernel_rfl) ?_
  intro φ1 w1 s
  refine ops_done (by kernel_rfl) ?_
  refine wp_seq ?_
  refine region_rule ?_
  refine ops_rule (C := []) [((φ1 0), .cells #[.bool b, .pointer p] 26), ((φ1 1), .cells #[.bool false, .pointer none] 26), ((φ1 2), .cells #[.bool false, .pointer none] 26)] [] 1 [.o 0, .o 0] 0 (fun φ2 => [(8, .agg #[.bool b, .pointer p])]) (fun φ2 => [((φ1 0), .cells #[.bool b, .pointer p] 26), ((φ1 1), .cells #[.bool false, .pointer none] 26), ((φ1 2), .cells #[.bool false, .pointer none] 26)]) (fun φ2 => [(φ1 0), (φ1 0)]) s trivial (fun φ2 => by kernel_rfl) ?_
  intro φ2 w2 s
  refine call_rule (some 9) s (cut_c t (by omega) h) (by kernel_rfl) ?_
  intro v3 I3 w3 le3 h3 s
  replace h := TRep.mono le3 h
  obtain ⟨b3, p3, d3, q3, rfl, h3_0, h3_1⟩ := h3
  refine ops_rule (C := []) [((φ1 0), .cells #[.bool b, .pointer p] 26), ((φ1 1), .cells #[.bool false, .pointer none] 26), ((φ1 2), .cells #[.bool false, .pointer none] 26)] [] 7 [.o 3, .o 3, .o 4, .o 4] 2 (fun φ4 => [(6, .pointer (some ⟨(φ4 1), 0, none⟩)), (5, .pointer (some ⟨(φ4 0), 0, none⟩)), (11, .agg #[.bool d3, .pointer q3]), (10, .agg #[.bool b3, .pointer p3]), (7, .tuple #[.agg #[.bool b3, .pointer p3], .agg #[.bool d3, .pointer q3]])]) (fun φ4 => [((φ1 0), .cells #[.bool b, .pointer p] 26), ((φ1 1), .cells #[.bool false, .pointer none] 26), ((φ1 2), .cells #[.bool false, .pointer none] 26), ((φ4 0), .cells #[.bool b3, .pointer p3] 26), ((φ4 1), .cells #[.bool d3, .pointer q3] 26)]) (fun φ4 => [(φ4 0), (φ4 0), (φ4 1), (φ4 1)]) s trivial (fun φ4 => by kernel_rfl) ?_
  intro φ4 w4 s
  refine ops_done (by kernel_rfl) ?_
  refine wp_seq ?_
  refine wp_seq ?_
  refine draw_rule (C := []) ⟨(fun φ5 xs5 => [.look 0 [.o 3, .o 3] [(φ4 0), (φ4 0)], .call 45 #[.agg #[.bool b3, .pointer p3]], .look 0 [.o 4, .o 4] [(φ4 1), (φ4 1)], .call 45 #[.agg #[.bool d3, .pointer q3]], .sub 0 [] [] (.int .i64 (if ((T.depth (cutT t).2 : Nat) : Int) > ((T.depth (cutT t).1 : Nat) : Int) then ((T.depth (cutT t).2 : Nat) : Int) else ((T.depth (cutT t).1 : Nat) : Int))), .sub 0 [] [] (.bool (decide (((max (T.depth (cutT t).1) (T.depth (cutT t).2) : Nat) : Int) > ((16 : Nat) : Int))))]), (fun φ5 xs5 => [.agg #[.bool b3, .pointer p3], .int .i64 ((T.depth (cutT t).1 : Nat) : Int), .agg #[.bool d3, .pointer q3], .int .i64 ((T.depth (cutT t).2 : Nat) : Int), .int .i64 ((max (T.depth (cutT t).1) (T.depth (cutT t).2) : Nat) : Int), .bool (decide (16 < (max (T.depth (cutT t).1) (T.depth (cutT t).2))))]), (fun φ5 xs5 => [[((φ1 0), .cells #[.bool b, .pointer p] 26), ((φ1 1), .cells #[.bool false, .pointer none] 26), ((φ1 2), .cells #[.bool false, .pointer none] 26), ((φ4 0), .cells #[.bool b3, .pointer p3] 26), ((φ4 1), .cells #[.bool d3, .pointer q3] 26)]]), (fun φ5 xs5 => [[default, default, default, default, default, default]]), [], [1, 3, 1, 3, 5, 5]⟩ (fun j => ([MP.any, MP.any, MP.any, MP.any, MP.any, MP.any] : List MP).getD j MP.any) [1, 3] [4, 5] [] (fun φ5 xs5 => []) (fun φ5 xs5 => [(12, .agg #[.bool b3, .pointer p3]), (13, .int .i64 ((T.depth (cutT t).1 : Nat) : Int)), (14, .agg #[.bool d3, .pointer q3]), (15, .int .i64 ((T.depth (cutT t).2 : Nat) : Int)), (16, .int .i64 ((max (T.depth (cutT t).1) (T.depth (cutT t).2) : Nat) : Int)), (17, .bool (decide (16 < (max (T.depth (cutT t).1) (T.depth (cutT t).2)))))]) (fun φ5 xs5 => [((φ1 0), .cells #[.bool b, .pointer p] 26), ((φ1 1), .cells #[.bool false, .pointer none] 26), ((φ1 2), .cells #[.bool false, .pointer none] 26), ((φ4 0), .cells #[.bool b3, .pointer p3] 26), ((φ4 1), .cells #[.bool d3, .pointer q3] 26)]) s trivial (by kernel_rfl) (by kernel_rfl) (fun _ _ => by kernel_rfl) (fun _ _ => by kernel_rfl) ⟨fun _ _ => by kernel_rfl, fun _ _ => by kernel_rfl, fun _ _ => by kernel_rfl, fun _ _ => by kernel_rfl⟩ (fun _ _ _ => by kernel_rfl) (fun _ _ => by kernel_rfl) (fun _ _ => by kernel_rfl) (fun _ _ => by kernel_rfl) (fun _ _ => by kernel_rfl) (fun _ _ => by kernel_rfl) ⟨kcast (A := ∀ (φ5 : Nat → Nat) (xs5 : Xs), (.int .i64 (if ((T.depth (cutT t).2 : Nat) : Int) > ((T.depth (cutT t).1 : Nat) : Int) then ((T.depth (cutT t).2 : Nat) : Int) else ((T.depth (cutT t).1 : Nat) : Int)) : Value) = .int .i64 ((max (T.depth (cutT t).1) (T.depth (cutT t).2) : Nat) : Int)) (by kernel_rfl) (fun φ5 xs5 => congrArg (Value.int .i64) ((nat_max (a := (T.depth (cutT t).1)) (b := (T.depth (cutT t).2))))), ⟨kcast (A := ∀ (φ5 : Nat → Nat) (xs5 : Xs), (.bool (decide (((max (T.depth (cutT t).1) (T.depth (cutT t).2) : Nat) : Int) > ((16 : Nat) : Int))) : Value) = .bool (decide (16 < (max (T.depth (cutT t).1) (T.depth (cutT t).2))))) (by kernel_rfl) (fun φ5 xs5 => congrArg Value.bool ((nat_gtr (a := (max (T.depth (cutT t).1) (T.depth (cutT t).2))) (b := 16)))), trivial⟩⟩ trivial (by kernel_rfl) ⟨?c5_1, ?c5_3, trivial⟩ ?k5
  case c5_1 =>
    refine kcast (A := ∀ (φ5 : Nat → Nat) (xs5 : Xs) (J1_5 : IM), I3.Le J1_5 → Fun Try.prog 45 #[.agg #[.bool b3, .pointer p3]] J1_5 (fun v J' => ∃ x : UX, v = .int .i64 ((T.depth (cutT t).1 : Nat) : Int) ∧ (True))) (by kernel_rfl) ?_
    intro φ5 xs5 J1_5 leJ
    have h3_0 := TRep.mono leJ h3_0
    exact Fun.mono (tdepth_c h3_0) (fun v J' _ h => ⟨UX.d, h, trivial⟩)
  case c5_3 =>
    refine kcast (A := ∀ (φ5 : Nat → Nat) (xs5 : Xs) (J3_5 : IM), I3.Le J3_5 → (True) → Fun Try.prog 45 #[.agg #[.bool d3, .pointer q3]] J3_5 (fun v J' => ∃ x : UX, v = .int .i64 ((T.depth (cutT t).2 : Nat) : Int) ∧ (True))) (by kernel_rfl) ?_
    intro φ5 xs5 J3_5 leJ
    rintro _
    have h3_1 := TRep.mono leJ h3_1
    exact Fun.mono (tdepth_c h3_1) (fun v J' _ h => ⟨UX.d, h, trivial⟩)
  case k5 =>
    rintro φ5 xs5 I5 w5 le5 s _ _
    replace h := TRep.mono le5 h
    replace h3_0 := TRep.mono le5 h3_0
    replace h3_1 := TRep.mono le5 h3_1
    rcases Bool.eq_false_or_eq_true (decide (16 < (max (T.depth (cutT t).1) (T.depth (cutT t).2)))) with hc6 | hc6
    ·
      rw [hc6]
      refine cond_true_rule (b := true) (by kernel_rfl) rfl ?_
      refine wp_seq ?_
      refine region_rule ?_
      refine call_rule (some 18) s (tzero_c) (by kernel_rfl) ?_
      intro v7 I7 w7 le7 h7 s
      replace h := TRep.mono le7 h
      replace h3_0 := TRep.mono le7 h3_0
      replace h3_1 := TRep.mono le7 h3_1
      obtain rfl := h7
      refine call_rule (some 19) s (tzero_c) (by kernel_rfl) ?_
      intro v8 I8 w8 le8 h8 s
      replace h := TRep.mono le8 h
      replace h3_0 := TRep.mono le8 h3_0
      replace h3_1 := TRep.mono le8 h3_1
      obtain rfl := h8
      refine ops_rule (C := []) [((φ1 0), .cells #[.bool b, .pointer p] 26), ((φ1 1), .cells #[.bool false, .pointer none] 26), ((φ1 2), .cells #[.bool false, .pointer none] 26), ((φ4 0), .cells #[.bool b3, .pointer p3] 26), ((φ4 1), .cells #[.bool d3, .pointer q3] 26)] [] 3 [.o 1, .o 1, .o 2, .o 2] 0 (fun φ9 => [(4, .int .i64 3)]) (fun φ9 => [((φ1 0), .cells #[.bool b, .pointer p] 26), ((φ1 1), .cells #[.bool false, .pointer none] 26), ((φ1 2), .cells #[.bool false, .pointer none] 26), ((φ4 0), .cells #[.bool b3, .pointer p3] 26), ((φ4 1), .cells #[.bool d3, .pointer q3] 26)]) (fun φ9 => [(φ1 1), (φ1 1), (φ1 2), (φ1 2)]) s trivial (fun φ9 => by kernel_rfl) ?_
      intro φ9 w9 s
      refine ops_done (by kernel_rfl) ?_
      refine wp_ret ?_
      refine ret_rule (C := []) [((φ1 0), .cells #[.bool b, .pointer p] 26), ((φ1 1), .cells #[.bool false, .pointer none] 26), ((φ1 2), .cells #[.bool false, .pointer none] 26), ((φ4 0), .cells #[.bool b3, .pointer p3] 26), ((φ4 1), .cells #[.bool d3, .pointer q3] 26)] [] (.tuple #[.agg #[.bool false, .pointer none], .agg #[.bool false, .pointer none], .int .i64 3]) [.o 1, .o 1, .o 2, .o 2] [(φ1 1), (φ1 1), (φ1 2), (φ1 2)] s trivial (by kernel_rfl) ?_
      exact ⟨_, _, _, rfl, s, (by rw [splitT, if_pos (of_decide_eq_true hc6)]; exact ⟨_, _, _, _, rfl, ⟨rfl, rfl⟩, ⟨rfl, rfl⟩⟩)⟩
    ·
      rw [hc6]
      refine cond_false_rule (b := false) (by kernel_rfl) rfl ?_
      refine wp_skip ?_
      refine wp_seq ?_
      refine draw_rule (C := []) ⟨(fun φ10 xs10 => [.look 0 [.o 3, .o 3] [(φ4 0), (φ4 0)], .look 0 [.o 4, .o 4] [(φ4 1), (φ4 1)], .store 0 [.o 1, .o 1] [(φ1 1), (φ1 1)], .store 1 [.o 2, .o 2] [(φ1 2), (φ1 2)], .look 2 [] []]), (fun φ10 xs10 => [.agg #[.bool b3, .pointer p3], .agg #[.bool d3, .pointer q3], undef, undef, .int .i64 0]), (fun φ10 xs10 => [[((φ1 0), .cells #[.bool b, .pointer p] 26), ((φ1 1), .cells #[.bool false, .pointer none] 26), ((φ1 2), .cells #[.bool false, .pointer none] 26), ((φ4 0), .cells #[.bool b3, .pointer p3] 26), ((φ4 1), .cells #[.bool d3, .pointer q3] 26)], [((φ1 0), .cells #[.bool b, .pointer p] 26), ((φ1 1), .cells #[.bool b3, .pointer p3] 26), ((φ1 2), .cells #[.bool false, .pointer none] 26), ((φ4 0), .cells #[.bool b3, .pointer p3] 26), ((φ4 1), .cells #[.bool d3, .pointer q3] 26)], [((φ1 0), .cells #[.bool b, .pointer p] 26), ((φ1 1), .cells #[.bool b3, .pointer p3] 26), ((φ1 2), .cells #[.bool d3, .pointer q3] 26), ((φ4 0), .cells #[.bool b3, .pointer p3] 26), ((φ4 1), .cells #[.bool d3, .pointer q3] 26)]]), (fun φ10 xs10 => [[default, default, default, default, default], [default, default, default, default, default], [default, default, default, default, default]]), [2, 3], [1, 1, 4, 4, 1]⟩ (fun j => ([MP.any, MP.any, MP.any, MP.any, MP.any] : List MP).getD j MP.any) [] [] [] (fun φ10 xs10 => [[none, none, none, none, none], [none, none, none, none, none]]) (fun φ10 xs10 => [(20, .agg #[.bool b3, .pointer p3]), (21, .agg #[.bool d3, .pointer q3]), (4, .int .i64 0)]) (fun φ10 xs10 => [((φ1 0), .cells #[.bool b, .pointer p] 26), ((φ1 1), .cells #[.bool b3, .pointer p3] 26), ((φ1 2), .cells #[.bool d3, .pointer q3] 26), ((φ4 0), .cells #[.bool b3, .pointer p3] 26), ((φ4 1), .cells #[.bool d3, .pointer q3] 26)]) s trivial (by kernel_rfl) (by kernel_rfl) (fun _ _ => by kernel_rfl) (fun _ _ => by kernel_rfl) ⟨fun _ _ => by kernel_rfl, fun _ _ => by kernel_rfl, fun _ _ => by kernel_rfl, fun _ _ => by kernel_rfl⟩ (fun _ _ _ => by kernel_rfl) (fun _ _ => by kernel_rfl) (fun _ _ => by kernel_rfl) (fun _ _ => by kernel_rfl) (fun _ _ => by kernel_rfl) (fun _ _ => by kernel_rfl) trivial trivial (by kernel_rfl) trivial ?k10
      case k10 =>
        rintro φ10 xs10 I10 w10 le10 s 
        replace h := TRep.mono le10 h
        replace h3_0 := TRep.mono le10 h3_0
        replace h3_1 := TRep.mono le10 h3_1
        refine wp_ret ?_
        refine ret_rule (C := []) [((φ1 0), .cells #[.bool b, .pointer p] 26), ((φ1 1), .cells #[.bool b3, .pointer p3] 26), ((φ1 2), .cells #[.bool d3, .pointer q3] 26), ((φ4 0), .cells #[.bool b3, .pointer p3] 26), ((φ4 1), .cells #[.bool d3, .pointer q3] 26)] [] (.tuple #[.agg #[.bool b3, .pointer p3], .agg #[.bool d3, .pointer q3], .int .i64 0]) [.o 1, .o 1, .o 2, .o 2] [(φ1 1), (φ1 1), (φ1 2), (φ1 2)] s trivial (by kernel_rfl) ?_
        exact ⟨_, _, _, rfl, s, (by rw [splitT, if_neg (of_decide_eq_false hc6)]; exact ⟨_, _, _, _, rfl, h3_0, h3_1⟩)⟩

end Go.Proofs.Ytgdickihjaomjaa.Ev

/- The program's ids: union, Sum, Pair, Text. -/
set_option linter.all false
set_option maxRecDepth 100000
namespace Go.Proofs.Ytgdickihjaomjaa.Ev
open Go.RowKit Go.Sep

def pairT (l r : T) : T × Nat := if 16 < (T.mk l r).depth then (.zero, 3) else (T.mk l r, 0)

set_option maxHeartbeats 1000000 in
theorem pair_c {I : IM} {l r : T} {bl br : Bool} {pl pr : Option Addr} (hl : TRep I l bl pl) (hr : TRep I r br pr) (hdl : l.depth ≤ 1000) (hdr : r.depth ≤ 1000) : Fun Try.prog 58 #[idv bl pl, idv br pr] I (fun v J => ∃ b p, v = .tuple #[idv b p, .int .i64 (((pairT l r).2 : Nat) : Int)] ∧ TRep J (pairT l r).1 b p) := by
  refine enter_rule 15 [(0, .agg #[.bool bl, .pointer pl]), (1, .agg #[.bool br, .pointer pr])] Try.func58 rfl (by kernel_rfl) ?_
  intro w s
  refine wp_seq ?_
  refine region_rule ?_
  refine ops_rule (C := []) [] [] 4 [] 3 (fun φ1 => [(5, .int .i64 0), (4, .pointer (some ⟨(φ1 2), 0, none⟩)), (3, .pointer (some ⟨(φ1 1), 0, none⟩)), (2, .pointer (some ⟨(φ1 0), 0, none⟩))]) (fun φ1 => [((φ1 0), .cells #[.bool bl, .pointer pl] 26), ((φ1 1), .cells #[.bool br, .pointer pr] 26), ((φ1 2), .cells #[.bool false, .pointer none] 26)]) (fun φ1 => []) s trivial (fun φ1 => by kernel_rfl) ?_
  intro φ1 w1 s
  refine ops_done (by kernel_rfl) ?_
  refine wp_seq ?_
  refine region_rule ?_
  refine ops_rule (C := []) [((φ1 0), .cells #[.bool bl, .pointer pl] 26), ((φ1 1), .cells #[.bool br, .pointer pr] 26), ((φ1 2), .cells #[.bool false, .pointer none] 26)] [] 2 [.o 0, .o 0, .o 1, .o 1] 0 (fun φ2 => [(8, .agg #[.bool br, .pointer pr]), (7, .agg #[.bool bl, .pointer pl])]) (fun φ2 => [((φ1 0), .cells #[.bool bl, .pointer pl] 26), ((φ1 1), .cells #[.bool br, .pointer pr] 26), ((φ1 2), .cells #[.bool false, .pointer none] 26)]) (fun φ2 => [(φ1 0), (φ1 0), (φ1 1), (φ1 1)]) s trivial (fun φ2 => by kernel_rfl) ?_
  intro φ2 w2 s
  refine call_rule (some 9) s (merge_c hl hr (by omega) (by omega)) (by kernel_rfl) ?_
  intro v3 I3 w3 le3 h3 s
  replace hl := TRep.mono le3 hl
  replace hr := TRep.mono le3 hr
  obtain ⟨b3, p3, rfl, h3_0⟩ := h3
  refine ops_rule (C := []) [((φ1 0), .cells #[.bool bl, .pointer pl] 26), ((φ1 1), .cells #[.bool br, .pointer pr] 26), ((φ1 2), .cells #[.bool false, .pointer none] 26)] [] 2 [.o 3, .o 3] 1 (fun φ4 => [(6, .pointer (some ⟨(φ4 0), 0, none⟩))]) (fun φ4 => [((φ1 0), .cells #[.bool bl, .pointer pl] 26), ((φ1 1), .cells #[.bool br, .pointer pr] 26), ((φ1 2), .cells #[.bool false, .pointer none] 26), ((φ4 0), .cells #[.bool b3, .pointer p3] 26)]) (fun φ4 => [(φ4 0), (φ4 0)]) s trivial (fun φ4 => by kernel_rfl) ?_
  intro φ4 w4 s
  refine ops_done (by kernel_rfl) ?_
  refine wp_seq ?_
  refine wp_seq ?_
  refine region_rule ?_
  refine ops_rule (C := []) [((φ1 0), .cells #[.bool bl, .pointer pl] 26), ((φ1 1), .cells #[.bool br, .pointer pr] 26), ((φ1 2), .cells #[.bool false, .pointer none] 26), ((φ4 0), .cells #[.bool b3, .pointer p3] 26)] [] 1 [.o 3, .o 3] 0 (fun φ5 => [(10, .agg #[.bool b3, .pointer p3])]) (fun φ5 => [((φ1 0), .cells #[.bool bl, .pointer pl] 26), ((φ1 1), .cells #[.bool br, .pointer pr] 26), ((φ1 2), .cells #[.bool false, .pointer none] 26), ((φ4 0), .cells #[.bool b3, .pointer p3] 26)]) (fun φ5 => [(φ4 0), (φ4 0)]) s trivial (fun φ5 => by kernel_rfl) ?_
  intro φ5 w5 s
  refine call_rule (some 11) s (tdepth_c h3_0) (by kernel_rfl) ?_
  intro v6 I6 w6 le6 h6 s
  replace hl := TRep.mono le6 hl
  replace hr := TRep.mono le6 hr
  replace h3_0 := TRep.mono le6 h3_0
  obtain rfl := h6
  refine ops_rule (C := []) [((φ1 0), .cells #[.bool bl, .pointer pl] 26), ((φ1 1), .cells #[.bool br, .pointer pr] 26), ((φ1 2), .cells #[.bool false, .pointer none] 26), ((φ4 0), .cells #[.bool b3, .pointer p3] 26)] [] 1 [] 0 (fun φ7 => [(12, .bool (decide (((T.depth (T.mk l r) : Nat) : Int) > ((16 : Nat) : Int))))]) (fun φ7 => [((φ1 0), .cells #[.bool bl, .pointer pl] 26), ((φ1 1), .cells #[.bool br, .pointer pr] 26), ((φ1 2), .cells #[.bool false, .pointer none] 26), ((φ4 0), .cells #[.bool b3, .pointer p3] 26)]) (fun φ7 => []) s trivial (fun φ7 => by kernel_rfl) ?_
  intro φ7 w7 s
  rw [nat_gtr (a := (T.depth (T.mk l r))) (b := 16)]
  refine ops_done (by kernel_rfl) ?_
  rcases Bool.eq_false_or_eq_true (decide (16 < (T.depth (T.mk l r)))) with hc8 | hc8
  ·
    rw [hc8]
    refine cond_true_rule (b := true) (by kernel_rfl) rfl ?_
    refine wp_seq ?_
    refine region_rule ?_
    refine call_rule (some 13) s (tzero_c) (by kernel_rfl) ?_
    intro v9 I9 w9 le9 h9 s
    replace hl := TRep.mono le9 hl
    replace hr := TRep.mono le9 hr
    replace h3_0 := TRep.mono le9 h3_0
    obtain rfl := h9
    refine ops_rule (C := []) [((φ1 0), .cells #[.bool bl, .pointer pl] 26), ((φ1 1), .cells #[.bool br, .pointer pr] 26), ((φ1 2), .cells #[.bool false, .pointer none] 26), ((φ4 0), .cells #[.bool b3, .pointer p3] 26)] [] 2 [.o 2, .o 2] 0 (fun φ10 => [(5, .int .i64 3)]) (fun φ10 => [((φ1 0), .cells #[.bool bl, .pointer pl] 26), ((φ1 1), .cells #[.bool br, .pointer pr] 26), ((φ1 2), .cells #[.bool false, .pointer none] 26), ((φ4 0), .cells #[.bool b3, .pointer p3] 26)]) (fun φ10 => [(φ1 2), (φ1 2)]) s trivial (fun φ10 => by kernel_rfl) ?_
    intro φ10 w10 s
    refine ops_done (by kernel_rfl) ?_
    refine wp_ret ?_
    refine ret_rule (C := []) [((φ1 0), .cells #[.bool bl, .pointer pl] 26), ((φ1 1), .cells #[.bool br, .pointer pr] 26), ((φ1 2), .cells #[.bool false, .pointer none] 26), ((φ4 0), .cells #[.bool b3, .pointer p3] 26)] [] (.tuple #[.agg #[.bool false, .pointer none], .int .i64 3]) [.o 2, .o 2] [(φ1 2), (φ1 2)] s trivial (by kernel_rfl) ?_
    exact ⟨_, _, _, rfl, s, (by rw [pairT, if_pos (of_decide_eq_true hc8)]; exact ⟨_, _, rfl, rfl, rfl⟩)⟩
  ·
    rw [hc8]
    refine cond_false_rule (b := false) (by kernel_rfl) rfl ?_
    refine wp_skip ?_
    refine wp_seq ?_
    refine region_rule ?_
    refine ops_rule (C := []) [((φ1 0), .cells #[.bool bl, .pointer pl] 26), ((φ1 1), .cells #[.bool br, .pointer pr] 26), ((φ1 2), .cells #[.bool false, .pointer none] 26), ((φ4 0), .cells #[.bool b3, .pointer p3] 26)] [] 3 [.o 3, .o 3, .o 2, .o 2] 0 (fun φ11 => [(5, .int .i64 0), (14, .agg #[.bool b3, .pointer p3])]) (fun φ11 => [((φ1 0), .cells #[.bool bl, .pointer pl] 26), ((φ1 1), .cells #[.bool br, .pointer pr] 26), ((φ1 2), .cells #[.bool b3, .pointer p3] 26), ((φ4 0), .cells #[.bool b3, .pointer p3] 26)]) (fun φ11 => [(φ4 0), (φ4 0), (φ1 2), (φ1 2)]) s trivial (fun φ11 => by kernel_rfl) ?_
    intro φ11 w11 s
    refine ops_done (by kernel_rfl) ?_
    refine wp_ret ?_
    refine ret_rule (C := []) [((φ1 0), .cells #[.bool bl, .pointer pl] 26), ((φ1 1), .cells #[.bool br, .pointer pr] 26), ((φ1 2), .cells #[.bool b3, .pointer p3] 26), ((φ4 0), .cells #[.bool b3, .pointer p3] 26)] [] (.tuple #[.agg #[.bool b3, .pointer p3], .int .i64 0]) [.o 2, .o 2] [(φ1 2), (φ1 2)] s trivial (by kernel_rfl) ?_
    exact ⟨_, _, _, rfl, s, (by rw [pairT, if_neg (of_decide_eq_false hc8)]; exact ⟨_, _, rfl, h3_0⟩)⟩

theorem pairOk_c {I : IM} {l r : T} {bl br : Bool} {pl pr : Option Addr} (hl : TRep I l bl pl) (hr : TRep I r br pr) (h : (T.mk l r).depth ≤ 16) (hdl : l.depth ≤ 1000) (hdr : r.depth ≤ 1000) : Fun Try.prog 58 #[idv bl pl, idv br pr] I (fun v J => ∃ b p, v = .tuple #[idv b p, .int .i64 0] ∧ TRep J (T.mk l r) b p) := by
  have h1 := pair_c hl hr hdl hdr
  rw [pairT, if_neg (by omega)] at h1; exact h1

end Go.Proofs.Ytgdickihjaomjaa.Ev

/- The limits of stamps. -/
set_option linter.all false
set_option maxRecDepth 100000
namespace Go.Proofs.Ytgdickihjaomjaa.Ev
open Go.RowKit Go.Sep

/-- An id with one part alone, so deep. -/
def Spine : Nat → T → Prop
  | 0, i => i = .one
  | k + 1, i => ∃ s, Spine k s ∧ (i = .node s .zero ∨ i = .node .zero s)
theorem Spine.nz : ∀ {k : Nat} {i : T}, Spine k i → i.isZero = false
  | 0, _, h => by rw [show _ = _ from h]; rfl
  | k + 1, _, ⟨s, hs, h⟩ => by rcases h with rfl | rfl <;> rfl
theorem Spine.depth : ∀ {k : Nat} {i : T}, Spine k i → i.depth = k
  | 0, _, h => by rw [show _ = _ from h]; rfl
  | k + 1, _, ⟨s, hs, h⟩ => by
    have := hs.depth
    rcases h with rfl | rfl
    · show 1 + max s.depth 0 = k + 1; omega
    · show 1 + max 0 s.depth = k + 1; omega
theorem mk_left {s : T} (h : s.isZero = false) : T.mk s .zero = .node s .zero := by cases s <;> simp_all [T.isZero, T.mk]
theorem mk_right {s : T} (h : s.isZero = false) : T.mk .zero s = .node .zero s := by cases s <;> simp_all [T.isZero, T.mk]
theorem Spine.cut : ∀ {k : Nat} {i : T}, Spine k i → Spine (k + 1) (cutT i).1 ∧ Spine (k + 1) (cutT i).2
  | 0, _, h => by
    rw [show _ = _ from h]
    exact ⟨⟨.one, rfl, .inl rfl⟩, ⟨.one, rfl, .inr rfl⟩⟩
  | k + 1, _, ⟨s, hs, h⟩ => by
    have ih := hs.cut
    have hz := hs.nz
    rcases h with rfl | rfl
    · have : cutT (.node s .zero) = (T.mk (cutT s).1 .zero, T.mk (cutT s).2 .zero) := by
        rw [cutT, if_neg (by rw [hz]; simp), if_pos (show T.zero.isZero = true from rfl)]
      rw [this, mk_left ih.1.nz, mk_left ih.2.nz]
      exact ⟨⟨_, ih.1, .inl rfl⟩, ⟨_, ih.2, .inl rfl⟩⟩
    · have : cutT (.node .zero s) = (T.mk .zero (cutT s).1, T.mk .zero (cutT s).2) := by
        rw [cutT, if_pos (show T.zero.isZero = true from rfl)]
      rw [this, mk_right ih.1.nz, mk_right ih.2.nz]
      exact ⟨⟨_, ih.1, .inr rfl⟩, ⟨_, ih.2, .inr rfl⟩⟩
end Go.Proofs.Ytgdickihjaomjaa.Ev

/- The document's trees, and their texts. -/
set_option linter.all false
set_option maxRecDepth 100000
namespace Go.Proofs.Ytgdickihjaomjaa.Ev
open Go.RowKit Go.Sep

def RT (I : IM) : T → Nat → Prop
  | .zero, k => I k = some (.cells #[.int .i64 0, .pointer none, .pointer none] 73)
  | .one, k => I k = some (.cells #[.int .i64 1, .pointer none, .pointer none] 73)
  | .node l r, k => ∃ kl kr, I k = some (.cells #[.int .i64 2, .pointer (some ⟨kl, 0, none⟩), .pointer (some ⟨kr, 0, none⟩)] 73) ∧ RT I l kl ∧ RT I r kr
def RE (I : IM) : E → Nat → Prop
  | .leaf n, k => I k = some (.cells #[.int .u64 ((n : Nat) : Int), .pointer none, .pointer none] 86)
  | .node n l r, k => ∃ kl kr, I k = some (.cells #[.int .u64 ((n : Nat) : Int), .pointer (some ⟨kl, 0, none⟩), .pointer (some ⟨kr, 0, none⟩)] 86) ∧ RE I l kl ∧ RE I r kr
theorem RT.mono {I J : IM} (le : I.Le J) : ∀ {t : T} {k : Nat}, RT I t k → RT J t k
  | .zero, _, h => le _ _ h
  | .one, _, h => le _ _ h
  | .node _ _, _, ⟨kl, kr, h, hl, hr⟩ => ⟨kl, kr, le _ _ h, hl.mono le, hr.mono le⟩
theorem RE.mono {I J : IM} (le : I.Le J) : ∀ {e : E} {k : Nat}, RE I e k → RE J e k
  | .leaf _, _, h => le _ _ h
  | .node _ _ _, _, ⟨kl, kr, h, hl, hr⟩ => ⟨kl, kr, le _ _ h, hl.mono le, hr.mono le⟩
end Go.Proofs.Ytgdickihjaomjaa.Ev

/- The document's ids. -/
set_option linter.all false
set_option maxRecDepth 100000
namespace Go.Proofs.Ytgdickihjaomjaa.Ev
open Go.RowKit Go.Sep

def kindT : T → Nat
  | .zero => 0
  | .one => 1
  | .node _ _ => 2
theorem RT.peek {I : IM} {t : T} {k : Nat} (h : RT I t k) : ∃ pl pr, I k = some (.cells #[.int .i64 ((kindT t : Nat) : Int), .pointer pl, .pointer pr] 73) := by
  cases t with
  | zero => exact ⟨_, _, h⟩
  | one => exact ⟨_, _, h⟩
  | node l r => obtain ⟨kl, kr, h, _, _⟩ := h; exact ⟨_, _, h⟩
theorem mk_same {l r : T} (h : kindT l = kindT r) (h2 : kindT l < 2) : T.mk l r = l := by
  cases l <;> cases r <;> simp_all [kindT, T.mk]
theorem mk_apart {l r : T} (h : kindT l ≠ kindT r) : T.mk l r = .node l r := by
  cases l <;> cases r <;> simp_all [kindT, T.mk]
theorem mk_deep {l r : T} (h : ¬ kindT l < 2) : T.mk l r = .node l r := by
  cases l <;> cases r <;> simp_all [kindT, T.mk]
set_option maxHeartbeats 400000 in
theorem rzero_c {I : IM} : Fun Try.prog 37 #[] I (fun v J => ∃ k, v = .pointer (some ⟨k, 0, none⟩) ∧ RT J T.zero k) := by
  refine enter_rule 3 [] Try.func37 rfl (by kernel_rfl) ?_
  intro w s
  refine wp_seq ?_
  refine region_rule ?_
  refine ops_rule (C := []) [] [] 1 [] 0 (fun φ1 => [(0, .pointer none)]) (fun φ1 => []) (fun φ1 => []) s trivial (fun φ1 => by kernel_rfl) ?_
  intro φ1 w1 s
  refine ops_done (by kernel_rfl) ?_
  refine wp_seq ?_
  refine region_rule ?_
  refine ops_rule (C := []) [] [] 3 [] 1 (fun φ2 => [(0, .pointer (some ⟨(φ2 0), 0, none⟩)), (2, .pointer (some ⟨(φ2 0), 0, none⟩)), (1, .agg #[.int .i64 0, .pointer none, .pointer none])]) (fun φ2 => [((φ2 0), .cells #[.int .i64 0, .pointer none, .pointer none] 73)]) (fun φ2 => []) s trivial (fun φ2 => by kernel_rfl) ?_
  intro φ2 w2 s
  refine ops_done (by kernel_rfl) ?_
  refine wp_ret ?_
  refine ret_rule (C := []) [((φ2 0), .cells #[.int .i64 0, .pointer none, .pointer none] 73)] [] (.pointer (some ⟨(φ2 0), 0, none⟩)) [] [] s trivial (by kernel_rfl) ?_
  obtain ⟨I3, le3, hk3, s⟩ := s.freezeAt 0 (φ2 0) (.cells #[.int .i64 0, .pointer none, .pointer none] 73) [] (by kernel_rfl) (by kernel_rfl)
  exact ⟨_, _, _, rfl, s, ⟨_, rfl, hk3⟩⟩

set_option maxHeartbeats 1000000 in
theorem rpair_c {I : IM} {l r : T} {kl kr : Nat} (hl : RT I l kl) (hr : RT I r kr) : Fun Try.prog 38 #[.pointer (some ⟨kl, 0, none⟩), .pointer (some ⟨kr, 0, none⟩)] I (fun v J => ∃ k, v = .pointer (some ⟨k, 0, none⟩) ∧ RT J (T.mk l r) k) := by
  refine enter_rule 26 [(0, .pointer (some ⟨kl, 0, none⟩)), (1, .pointer (some ⟨kr, 0, none⟩))] Try.func38 rfl (by kernel_rfl) ?_
  intro w s
  refine wp_seq ?_
  refine region_rule ?_
  refine ops_rule (C := []) [] [] 1 [] 0 (fun φ1 => [(4, .pointer none)]) (fun φ1 => []) (fun φ1 => []) s trivial (fun φ1 => by kernel_rfl) ?_
  intro φ1 w1 s
  refine ops_done (by kernel_rfl) ?_
  refine wp_seq ?_
  refine wp_seq ?_
  rcases Bool.eq_false_or_eq_true (decide ((kindT l) = (kindT r))) with hc4 | hc4
  ·
    obtain ⟨pl5, pr5, hp5⟩ := RT.peek hl
    obtain ⟨pl6, pr6, hp6⟩ := RT.peek hr
    refine draw_rule (C := [(kl, .cells #[.int .i64 ((kindT l : Nat) : Int), .pointer pl5, .pointer pr5] 73), (kr, .cells #[.int .i64 ((kindT r : Nat) : Int), .pointer pl6, .pointer pr6] 73)]) ⟨(fun φ5 xs5 => [.look 0 [] [], .look 0 [] [], .look 0 [] [], .look 0 [.c 0] [kl], .look 0 [] [], .look 0 [] [], .look 0 [] [], .look 0 [.c 1] [kr], .sub 0 [] [] (.bool (((kindT l : Nat) : Int) == ((kindT r : Nat) : Int))), .look 0 [] [], .look 0 [] [], .look 0 [] [], .look 0 [] [], .look 0 [.c 0] [kl], .sub 0 [] [] (.bool (decide (((kindT l : Nat) : Int) < ((2 : Nat) : Int)))), .look 0 [] []]), (fun φ5 xs5 => [.pointer (some ⟨kl, 0, none⟩), .pointer (some ⟨kl, 0, none⟩), .pointer (some ⟨kl, 0, none⟩), .int .i64 ((kindT l : Nat) : Int), .pointer (some ⟨kr, 0, none⟩), .pointer (some ⟨kr, 0, none⟩), .pointer (some ⟨kr, 0, none⟩), .int .i64 ((kindT r : Nat) : Int), .bool true, .bool true, .pointer (some ⟨kl, 0, none⟩), .pointer (some ⟨kl, 0, none⟩), .pointer (some ⟨kl, 0, none⟩), .int .i64 ((kindT l : Nat) : Int), .bool (decide ((kindT l) < 2)), .bool (decide ((kindT l) < 2))]), (fun φ5 xs5 => [[]]), (fun φ5 xs5 => [[default, default, default, default, default, default, default, default, default, default, default, default, default, default, default, default]]), [], [1, 1, 1, 1, 1, 1, 1, 1, 5, 1, 1, 1, 1, 1, 5, 1]⟩ (fun j => ([MP.any, MP.any, MP.any, MP.any, MP.any, MP.any, MP.any, MP.any, MP.any, MP.any, MP.any, MP.any, MP.any, MP.any, MP.any, MP.any] : List MP).getD j MP.any) [] [8, 14] [] (fun φ5 xs5 => []) (fun φ5 xs5 => [(5, .pointer (some ⟨kl, 0, none⟩)), (6, .pointer (some ⟨kl, 0, none⟩)), (7, .pointer (some ⟨kl, 0, none⟩)), (8, .int .i64 ((kindT l : Nat) : Int)), (9, .pointer (some ⟨kr, 0, none⟩)), (10, .pointer (some ⟨kr, 0, none⟩)), (11, .pointer (some ⟨kr, 0, none⟩)), (12, .int .i64 ((kindT r : Nat) : Int)), (13, .bool true), (14, .bool true), (15, .pointer (some ⟨kl, 0, none⟩)), (16, .pointer (some ⟨kl, 0, none⟩)), (17, .pointer (some ⟨kl, 0, none⟩)), (18, .int .i64 ((kindT l : Nat) : Int)), (19, .bool (decide ((kindT l) < 2))), (20, .bool (decide ((kindT l) < 2)))]) (fun φ5 xs5 => []) s ⟨hp5, ⟨hp6, trivial⟩⟩ (by kernel_rfl) (by kernel_rfl) (fun _ _ => by kernel_rfl) (fun _ _ => by kernel_rfl) ⟨fun _ _ => by kernel_rfl, fun _ _ => by kernel_rfl, fun _ _ => by kernel_rfl, fun _ _ => by kernel_rfl⟩ (fun _ _ _ => by kernel_rfl) (fun _ _ => by kernel_rfl) (fun _ _ => by kernel_rfl) (fun _ _ => by kernel_rfl) (fun _ _ => by kernel_rfl) (fun _ _ => by kernel_rfl) ⟨kcast (A := ∀ (φ5 : Nat → Nat) (xs5 : Xs), (.bool (((kindT l : Nat) : Int) == ((kindT r : Nat) : Int)) : Value) = .bool true) (by kernel_rfl) (fun φ5 xs5 => congrArg Value.bool ((nat_eql (a := (kindT l)) (b := (kindT r))).trans (hc4))), ⟨kcast (A := ∀ (φ5 : Nat → Nat) (xs5 : Xs), (.bool (decide (((kindT l : Nat) : Int) < ((2 : Nat) : Int))) : Value) = .bool (decide ((kindT l) < 2))) (by kernel_rfl) (fun φ5 xs5 => congrArg Value.bool ((nat_lss (a := (kindT l)) (b := 2)))), trivial⟩⟩ trivial (by kernel_rfl) trivial ?k5
    case k5 =>
      rintro φ5 xs5 I5 w5 le5 s 
      replace hl := RT.mono le5 hl
      replace hr := RT.mono le5 hr
      replace hp5 := le5 _ _ hp5
      replace hp6 := le5 _ _ hp6
      rcases Bool.eq_false_or_eq_true (decide ((kindT l) < 2)) with hc8 | hc8
      ·
        rw [hc8]
        refine cond_true_rule (b := true) (by kernel_rfl) rfl ?_
        refine wp_seq ?_
        refine region_rule ?_
        refine ops_rule (C := []) [] [] 2 [] 0 (fun φ9 => [(4, .pointer (some ⟨kl, 0, none⟩)), (21, .pointer (some ⟨kl, 0, none⟩))]) (fun φ9 => []) (fun φ9 => []) s trivial (fun φ9 => by kernel_rfl) ?_
        intro φ9 w9 s
        refine ops_done (by kernel_rfl) ?_
        refine wp_ret ?_
        refine ret_rule (C := []) [] [] (.pointer (some ⟨kl, 0, none⟩)) [] [] s trivial (by kernel_rfl) ?_
        exact ⟨_, _, _, rfl, s, ⟨_, rfl, by rw [mk_same (of_decide_eq_true hc4) (of_decide_eq_true hc8)]; exact hl⟩⟩
      ·
        rw [hc8]
        refine cond_false_rule (b := false) (by kernel_rfl) rfl ?_
        refine wp_skip ?_
        refine wp_seq ?_
        refine region_rule ?_
        refine ops_rule (C := []) [] [] 5 [] 1 (fun φ10 => [(4, .pointer (some ⟨(φ10 0), 0, none⟩)), (25, .pointer (some ⟨(φ10 0), 0, none⟩)), (24, .agg #[.int .i64 2, .pointer (some ⟨kl, 0, none⟩), .pointer (some ⟨kr, 0, none⟩)]), (23, .pointer (some ⟨kr, 0, none⟩)), (22, .pointer (some ⟨kl, 0, none⟩))]) (fun φ10 => [((φ10 0), .cells #[.int .i64 2, .pointer (some ⟨kl, 0, none⟩), .pointer (some ⟨kr, 0, none⟩)] 73)]) (fun φ10 => []) s trivial (fun φ10 => by kernel_rfl) ?_
        intro φ10 w10 s
        refine ops_done (by kernel_rfl) ?_
        refine wp_ret ?_
        refine ret_rule (C := []) [((φ10 0), .cells #[.int .i64 2, .pointer (some ⟨kl, 0, none⟩), .pointer (some ⟨kr, 0, none⟩)] 73)] [] (.pointer (some ⟨(φ10 0), 0, none⟩)) [] [] s trivial (by kernel_rfl) ?_
        obtain ⟨I11, le11, hk11, s⟩ := s.freezeAt 0 (φ10 0) (.cells #[.int .i64 2, .pointer (some ⟨kl, 0, none⟩), .pointer (some ⟨kr, 0, none⟩)] 73) [] (by kernel_rfl) (by kernel_rfl)
        replace hl := RT.mono le11 hl
        replace hr := RT.mono le11 hr
        replace hp5 := le11 _ _ hp5
        replace hp6 := le11 _ _ hp6
        exact ⟨_, _, _, rfl, s, ⟨_, rfl, by rw [mk_deep (of_decide_eq_false hc8)]; exact ⟨_, _, hk11, hl, hr⟩⟩⟩
  ·
    obtain ⟨pl12, pr12, hp12⟩ := RT.peek hl
    obtain ⟨pl13, pr13, hp13⟩ := RT.peek hr
    refine draw_rule (C := [(kl, .cells #[.int .i64 ((kindT l : Nat) : Int), .pointer pl12, .pointer pr12] 73), (kr, .cells #[.int .i64 ((kindT r : Nat) : Int), .pointer pl13, .pointer pr13] 73)]) ⟨(fun φ12 xs12 => [.look 0 [] [], .look 0 [] [], .look 0 [] [], .look 0 [.c 0] [kl], .look 0 [] [], .look 0 [] [], .look 0 [] [], .look 0 [.c 1] [kr], .sub 0 [] [] (.bool (((kindT l : Nat) : Int) == ((kindT r : Nat) : Int))), .look 0 [] [], .skip, .skip, .skip, .skip, .skip, .look 0 [] []]), (fun φ12 xs12 => [.pointer (some ⟨kl, 0, none⟩), .pointer (some ⟨kl, 0, none⟩), .pointer (some ⟨kl, 0, none⟩), .int .i64 ((kindT l : Nat) : Int), .pointer (some ⟨kr, 0, none⟩), .pointer (some ⟨kr, 0, none⟩), .pointer (some ⟨kr, 0, none⟩), .int .i64 ((kindT r : Nat) : Int), .bool false, .bool false, undef, undef, undef, undef, undef, .bool false]), (fun φ12 xs12 => [[]]), (fun φ12 xs12 => [[default, default, default, default, default, default, default, default, default, default, default, default, default, default, default, default]]), [], [1, 1, 1, 1, 1, 1, 1, 1, 5, 1, 0, 0, 0, 0, 0, 1]⟩ (fun j => ([MP.any, MP.any, MP.any, MP.any, MP.any, MP.any, MP.any, MP.any, MP.any, MP.any, MP.any, MP.any, MP.any, MP.any, MP.any, MP.any] : List MP).getD j MP.any) [] [8] [] (fun φ12 xs12 => []) (fun φ12 xs12 => [(5, .pointer (some ⟨kl, 0, none⟩)), (6, .pointer (some ⟨kl, 0, none⟩)), (7, .pointer (some ⟨kl, 0, none⟩)), (8, .int .i64 ((kindT l : Nat) : Int)), (9, .pointer (some ⟨kr, 0, none⟩)), (10, .pointer (some ⟨kr, 0, none⟩)), (11, .pointer (some ⟨kr, 0, none⟩)), (12, .int .i64 ((kindT r : Nat) : Int)), (13, .bool false), (14, .bool false), (15, undef), (16, undef), (17, undef), (18, undef), (19, undef), (20, .bool false)]) (fun φ12 xs12 => []) s ⟨hp12, ⟨hp13, trivial⟩⟩ (by kernel_rfl) (by kernel_rfl) (fun _ _ => by kernel_rfl) (fun _ _ => by kernel_rfl) ⟨fun _ _ => by kernel_rfl, fun _ _ => by kernel_rfl, fun _ _ => by kernel_rfl, fun _ _ => by kernel_rfl⟩ (fun _ _ _ => by kernel_rfl) (fun _ _ => by kernel_rfl) (fun _ _ => by kernel_rfl) (fun _ _ => by kernel_rfl) (fun _ _ => by kernel_rfl) (fun _ _ => by kernel_rfl) ⟨kcast (A := ∀ (φ12 : Nat → Nat) (xs12 : Xs), (.bool (((kindT l : Nat) : Int) == ((kindT r : Nat) : Int)) : Value) = .bool false) (by kernel_rfl) (fun φ12 xs12 => congrArg Value.bool ((nat_eql (a := (kindT l)) (b := (kindT r))).trans (hc4))), trivial⟩ trivial (by kernel_rfl) trivial ?k12
    case k12 =>
      rintro φ12 xs12 I12 w12 le12 s 
      replace hl := RT.mono le12 hl
      replace hr := RT.mono le12 hr
      replace hp12 := le12 _ _ hp12
      replace hp13 := le12 _ _ hp13
      refine cond_false_rule (b := false) (by kernel_rfl) rfl ?_
      refine wp_skip ?_
      refine wp_seq ?_
      refine region_rule ?_
      refine ops_rule (C := []) [] [] 5 [] 1 (fun φ15 => [(4, .pointer (some ⟨(φ15 0), 0, none⟩)), (25, .pointer (some ⟨(φ15 0), 0, none⟩)), (24, .agg #[.int .i64 2, .pointer (some ⟨kl, 0, none⟩), .pointer (some ⟨kr, 0, none⟩)]), (23, .pointer (some ⟨kr, 0, none⟩)), (22, .pointer (some ⟨kl, 0, none⟩))]) (fun φ15 => [((φ15 0), .cells #[.int .i64 2, .pointer (some ⟨kl, 0, none⟩), .pointer (some ⟨kr, 0, none⟩)] 73)]) (fun φ15 => []) s trivial (fun φ15 => by kernel_rfl) ?_
      intro φ15 w15 s
      refine ops_done (by kernel_rfl) ?_
      refine wp_ret ?_
      refine ret_rule (C := []) [((φ15 0), .cells #[.int .i64 2, .pointer (some ⟨kl, 0, none⟩), .pointer (some ⟨kr, 0, none⟩)] 73)] [] (.pointer (some ⟨(φ15 0), 0, none⟩)) [] [] s trivial (by kernel_rfl) ?_
      obtain ⟨I16, le16, hk16, s⟩ := s.freezeAt 0 (φ15 0) (.cells #[.int .i64 2, .pointer (some ⟨kl, 0, none⟩), .pointer (some ⟨kr, 0, none⟩)] 73) [] (by kernel_rfl) (by kernel_rfl)
      replace hl := RT.mono le16 hl
      replace hr := RT.mono le16 hr
      replace hp12 := le16 _ _ hp12
      replace hp13 := le16 _ _ hp13
      exact ⟨_, _, _, rfl, s, ⟨_, rfl, by rw [mk_apart (of_decide_eq_false hc4)]; exact ⟨_, _, hk16, hl, hr⟩⟩⟩

end Go.Proofs.Ytgdickihjaomjaa.Ev

/- The document's events; to the program's own. -/
set_option linter.all false
set_option maxRecDepth 100000
namespace Go.Proofs.Ytgdickihjaomjaa.Ev
open Go.RowKit Go.Sep

def T.nf : T → Prop
  | .node l r => l.nf ∧ r.nf ∧ T.mk l r = .node l r
  | _ => True
theorem T.nf_mk {l r : T} (hl : l.nf) (hr : r.nf) : (T.mk l r).nf := by
  have hn : ∀ {a b : T}, T.mk a b = .node a b → a.nf → b.nf → (T.mk a b).nf := fun {a b} h ha hb => by rw [h]; exact ⟨ha, hb, h⟩
  cases l with
  | zero => cases r with
    | zero => trivial
    | one => exact hn rfl hl hr
    | node _ _ => exact hn rfl hl hr
  | one => cases r with
    | zero => exact hn rfl hl hr
    | one => trivial
    | node _ _ => exact hn rfl hl hr
  | node _ _ => exact hn rfl hl hr
def E.nf : E → Prop
  | .node n l r => l.nf ∧ r.nf ∧ E.mk n l r = .node n l r
  | _ => True
def E.minE : E → Nat
  | .leaf n => n
  | .node n l r => n + min l.minE r.minE
theorem E.minE_le : ∀ e : E, e.minE ≤ e.top
  | .leaf n => Nat.le_refl n
  | .node n l r => by
    have := E.minE_le l
    have := E.minE_le r
    show n + min l.minE r.minE ≤ n + max l.top r.top
    omega
theorem E.mk_iff {n : Nat} {l r : E} : E.mk n l r = .node n l r ↔ ¬ (l.isLeaf = true ∧ r.isLeaf = true ∧ l.base = r.base) ∧ min l.base r.base = 0 := by
  unfold E.mk
  constructor
  · intro h
    split at h
    · cases h
    · rename_i hc
      refine ⟨hc, ?_⟩
      have : n + min l.base r.base = n := congrArg E.base h
      omega
  · rintro ⟨hc, hm⟩
    have hdn : ∀ e : E, E.dn 0 e = e := fun e => by cases e <;> rfl
    rw [if_neg hc, hm, hdn, hdn]; rfl
theorem E.min_base : ∀ {e : E}, e.nf → e.minE = e.base
  | .leaf n, _ => rfl
  | .node n l r, ⟨hl, hr, h⟩ => by
    have := (E.mk_iff.1 h).2
    show n + min l.minE r.minE = n
    rw [E.min_base hl, E.min_base hr]; omega
theorem E.dn_nf {m : Nat} {e : E} (h : e.nf) : (E.dn m e).nf := by
  cases e with
  | leaf n => trivial
  | node n l r => exact ⟨h.1, h.2.1, E.mk_iff.2 (E.mk_iff.1 h.2.2)⟩
theorem E.dn_base (m : Nat) (e : E) : (E.dn m e).base = e.base - m := by cases e <;> rfl
theorem E.dn_leaf (m : Nat) (e : E) : (E.dn m e).isLeaf = e.isLeaf := by cases e <;> rfl
theorem E.nf_mk {n : Nat} {l r : E} (hl : l.nf) (hr : r.nf) : (E.mk n l r).nf := by
  have e : E.mk n l r = if l.isLeaf = true ∧ r.isLeaf = true ∧ l.base = r.base then .leaf (n + l.base) else .node (n + min l.base r.base) (E.dn (min l.base r.base) l) (E.dn (min l.base r.base) r) := rfl
  rw [e]
  split
  · trivial
  · rename_i hc
    refine ⟨E.dn_nf hl, E.dn_nf hr, E.mk_iff.2 ⟨?_, ?_⟩⟩
    · rintro ⟨h1, h2, h3⟩
      rw [E.dn_leaf] at h1 h2
      rw [E.dn_base, E.dn_base] at h3
      exact hc ⟨h1, h2, by omega⟩
    · rw [E.dn_base, E.dn_base]; omega

set_option maxHeartbeats 2000000 in
theorem own_step {I : IM} {t : T} {k : Nat} (h : RT I t k) (hnf : t.nf) (hd : t.depth ≤ 16) (ih : ∀ l r, t = .node l r → (∀ {J : IM} {k : Nat}, RT J l k → Fun Try.prog 31 #[.pointer (some ⟨k, 0, none⟩)] J (fun v J => ∃ b p, v = idv b p ∧ TRep J l b p)) ∧ (∀ {J : IM} {k : Nat}, RT J r k → Fun Try.prog 31 #[.pointer (some ⟨k, 0, none⟩)] J (fun v J => ∃ b p, v = idv b p ∧ TRep J r b p))) : Fun Try.prog 31 #[.pointer (some ⟨k, 0, none⟩)] I (fun v J => ∃ b p, v = idv b p ∧ TRep J t b p) := by
  cases t with
  | zero =>
    have hz : RT _ T.zero k := h
    refine enter_rule 30 [(0, .pointer (some ⟨k, 0, none⟩))] Try.func31 rfl (by kernel_rfl) ?_
    intro w s
    refine wp_seq ?_
    refine region_rule ?_
    refine ops_rule (C := []) [] [] 1 [] 1 (fun φ1 => [(2, .pointer (some ⟨(φ1 0), 0, none⟩))]) (fun φ1 => [((φ1 0), .cells #[.bool false, .pointer none] 26)]) (fun φ1 => []) s trivial (fun φ1 => by kernel_rfl) ?_
    intro φ1 w1 s
    refine ops_done (by kernel_rfl) ?_
    refine wp_seq ?_
    refine wp_seq ?_
    refine region_rule ?_
    refine ops_rule (C := [(k, .cells #[.int .i64 0, .pointer none, .pointer none] 73)]) [((φ1 0), .cells #[.bool false, .pointer none] 26)] [] 4 [.c 0] 0 (fun φ2 => [(8, .int .i64 0), (7, .pointer (some ⟨k, 0, none⟩)), (6, .pointer (some ⟨k, 0, none⟩)), (5, .pointer (some ⟨k, 0, none⟩))]) (fun φ2 => [((φ1 0), .cells #[.bool false, .pointer none] 26)]) (fun φ2 => [k]) s ⟨h, trivial⟩ (fun φ2 => by kernel_rfl) ?_
    intro φ2 w2 s
    refine ops_done (by kernel_rfl) ?_
    refine wp_block ?_
    refine wp_seq ?_
    refine region_rule ?_
    refine ops_rule (C := []) [((φ1 0), .cells #[.bool false, .pointer none] 26)] [] 2 [] 0 (fun φ3 => [(9, .bool true), (10, .bool true)]) (fun φ3 => [((φ1 0), .cells #[.bool false, .pointer none] 26)]) (fun φ3 => []) s trivial (fun φ3 => by kernel_rfl) ?_
    intro φ3 w3 s
    refine ops_done (by kernel_rfl) ?_
    refine cond_true_rule (b := true) (by kernel_rfl) rfl ?_
    refine wp_seq ?_
    refine region_rule ?_
    refine call_rule (some 11) s (tzero_c) (by kernel_rfl) ?_
    intro v4 I4 w4 le4 h4 s
    replace hz := RT.mono le4 hz
    replace h := le4 _ _ h
    obtain rfl := h4
    refine ops_rule (C := []) [((φ1 0), .cells #[.bool false, .pointer none] 26)] [] 1 [.o 0, .o 0] 0 (fun φ5 => []) (fun φ5 => [((φ1 0), .cells #[.bool false, .pointer none] 26)]) (fun φ5 => [(φ1 0), (φ1 0)]) s trivial (fun φ5 => by kernel_rfl) ?_
    intro φ5 w5 s
    refine ops_done (by kernel_rfl) ?_
    refine wp_ret ?_
    refine ret_rule (C := []) [((φ1 0), .cells #[.bool false, .pointer none] 26)] [] (.agg #[.bool false, .pointer none]) [.o 0, .o 0] [(φ1 0), (φ1 0)] s trivial (by kernel_rfl) ?_
    exact ⟨_, _, _, rfl, s, ⟨_, _, rfl, rfl, rfl⟩⟩
  | one =>
    have hz : RT _ T.one k := h
    refine enter_rule 30 [(0, .pointer (some ⟨k, 0, none⟩))] Try.func31 rfl (by kernel_rfl) ?_
    intro w s
    refine wp_seq ?_
    refine region_rule ?_
    refine ops_rule (C := []) [] [] 1 [] 1 (fun φ1 => [(2, .pointer (some ⟨(φ1 0), 0, none⟩))]) (fun φ1 => [((φ1 0), .cells #[.bool false, .pointer none] 26)]) (fun φ1 => []) s trivial (fun φ1 => by kernel_rfl) ?_
    intro φ1 w1 s
    refine ops_done (by kernel_rfl) ?_
    refine wp_seq ?_
    refine wp_seq ?_
    refine region_rule ?_
    refine ops_rule (C := [(k, .cells #[.int .i64 1, .pointer none, .pointer none] 73)]) [((φ1 0), .cells #[.bool false, .pointer none] 26)] [] 4 [.c 0] 0 (fun φ2 => [(8, .int .i64 1), (7, .pointer (some ⟨k, 0, none⟩)), (6, .pointer (some ⟨k, 0, none⟩)), (5, .pointer (some ⟨k, 0, none⟩))]) (fun φ2 => [((φ1 0), .cells #[.bool false, .pointer none] 26)]) (fun φ2 => [k]) s ⟨h, trivial⟩ (fun φ2 => by kernel_rfl) ?_
    intro φ2 w2 s
    refine ops_done (by kernel_rfl) ?_
    refine wp_block ?_
    refine wp_seq ?_
    refine region_rule ?_
    refine ops_rule (C := []) [((φ1 0), .cells #[.bool false, .pointer none] 26)] [] 2 [] 0 (fun φ3 => [(9, .bool false), (10, .bool false)]) (fun φ3 => [((φ1 0), .cells #[.bool false, .pointer none] 26)]) (fun φ3 => []) s trivial (fun φ3 => by kernel_rfl) ?_
    intro φ3 w3 s
    refine ops_done (by kernel_rfl) ?_
    refine cond_false_rule (b := false) (by kernel_rfl) rfl ?_
    refine wp_seq ?_
    refine region_rule ?_
    refine ops_rule (C := []) [((φ1 0), .cells #[.bool false, .pointer none] 26)] [] 2 [] 0 (fun φ4 => [(12, .bool true), (13, .bool true)]) (fun φ4 => [((φ1 0), .cells #[.bool false, .pointer none] 26)]) (fun φ4 => []) s trivial (fun φ4 => by kernel_rfl) ?_
    intro φ4 w4 s
    refine ops_done (by kernel_rfl) ?_
    refine cond_true_rule (b := true) (by kernel_rfl) rfl ?_
    refine wp_seq ?_
    refine region_rule ?_
    refine call_rule (some 14) s (tone_c) (by kernel_rfl) ?_
    intro v5 I5 w5 le5 h5 s
    replace hz := RT.mono le5 hz
    replace h := le5 _ _ h
    obtain rfl := h5
    refine ops_rule (C := []) [((φ1 0), .cells #[.bool false, .pointer none] 26)] [] 1 [.o 0, .o 0] 0 (fun φ6 => []) (fun φ6 => [((φ1 0), .cells #[.bool true, .pointer none] 26)]) (fun φ6 => [(φ1 0), (φ1 0)]) s trivial (fun φ6 => by kernel_rfl) ?_
    intro φ6 w6 s
    refine ops_done (by kernel_rfl) ?_
    refine wp_ret ?_
    refine ret_rule (C := []) [((φ1 0), .cells #[.bool true, .pointer none] 26)] [] (.agg #[.bool true, .pointer none]) [.o 0, .o 0] [(φ1 0), (φ1 0)] s trivial (by kernel_rfl) ?_
    exact ⟨_, _, _, rfl, s, ⟨_, _, rfl, rfl, rfl⟩⟩
  | node l r =>
    obtain ⟨kl, kr, hk, hl, hr⟩ := h
    obtain ⟨ihl, ihr⟩ := ih l r rfl
    clear ih
    have hd1 : 1 + max l.depth r.depth ≤ 16 := hd
    refine enter_rule 30 [(0, .pointer (some ⟨k, 0, none⟩))] Try.func31 rfl (by kernel_rfl) ?_
    intro w s
    refine wp_seq ?_
    refine region_rule ?_
    refine ops_rule (C := []) [] [] 1 [] 1 (fun φ1 => [(2, .pointer (some ⟨(φ1 0), 0, none⟩))]) (fun φ1 => [((φ1 0), .cells #[.bool false, .pointer none] 26)]) (fun φ1 => []) s trivial (fun φ1 => by kernel_rfl) ?_
    intro φ1 w1 s
    refine ops_done (by kernel_rfl) ?_
    refine wp_seq ?_
    refine wp_seq ?_
    refine region_rule ?_
    refine ops_rule (C := [(k, .cells #[.int .i64 2, .pointer (some ⟨kl, 0, none⟩), .pointer (some ⟨kr, 0, none⟩)] 73)]) [((φ1 0), .cells #[.bool false, .pointer none] 26)] [] 4 [.c 0] 0 (fun φ2 => [(8, .int .i64 2), (7, .pointer (some ⟨k, 0, none⟩)), (6, .pointer (some ⟨k, 0, none⟩)), (5, .pointer (some ⟨k, 0, none⟩))]) (fun φ2 => [((φ1 0), .cells #[.bool false, .pointer none] 26)]) (fun φ2 => [k]) s ⟨hk, trivial⟩ (fun φ2 => by kernel_rfl) ?_
    intro φ2 w2 s
    refine ops_done (by kernel_rfl) ?_
    refine wp_block ?_
    refine wp_seq ?_
    refine region_rule ?_
    refine ops_rule (C := []) [((φ1 0), .cells #[.bool false, .pointer none] 26)] [] 2 [] 0 (fun φ3 => [(9, .bool false), (10, .bool false)]) (fun φ3 => [((φ1 0), .cells #[.bool false, .pointer none] 26)]) (fun φ3 => []) s trivial (fun φ3 => by kernel_rfl) ?_
    intro φ3 w3 s
    refine ops_done (by kernel_rfl) ?_
    refine cond_false_rule (b := false) (by kernel_rfl) rfl ?_
    refine wp_seq ?_
    refine region_rule ?_
    refine ops_rule (C := []) [((φ1 0), .cells #[.bool false, .pointer none] 26)] [] 2 [] 0 (fun φ4 => [(12, .bool false), (13, .bool false)]) (fun φ4 => [((φ1 0), .cells #[.bool false, .pointer none] 26)]) (fun φ4 => []) s trivial (fun φ4 => by kernel_rfl) ?_
    intro φ4 w4 s
    refine ops_done (by kernel_rfl) ?_
    refine cond_false_rule (b := false) (by kernel_rfl) rfl ?_
    refine wp_skip ?_
    refine wp_seq ?_
    refine draw_rule (C := [(k, .cells #[.int .i64 2, .pointer (some ⟨kl, 0, none⟩), .pointer (some ⟨kr, 0, none⟩)] 73)]) ⟨(fun φ5 xs5 => [.look 0 [] [], .look 0 [] [], .look 0 [] [], .look 0 [.c 0] [k], .call 31 #[.pointer (some ⟨kl, 0, none⟩)], .look 0 [] [], .look 0 [] [], .look 0 [] [], .look 0 [.c 0] [k], .call 31 #[.pointer (some ⟨kr, 0, none⟩)], .call 58 #[.agg #[.bool ((xs5 4).b 0), .pointer ((xs5 4).p 0)], .agg #[.bool ((xs5 9).b 0), .pointer ((xs5 9).p 0)]], .look 0 [] [], .look 0 [] [], .look 0 [] [], .new, .store 0 [.o 1, .o 1] [(φ5 14), (φ5 14)], .look 1 [] []]), (fun φ5 xs5 => [.pointer (some ⟨k, 0, none⟩), .pointer (some ⟨k, 0, none⟩), .pointer (some ⟨k, 1, none⟩), .pointer (some ⟨kl, 0, none⟩), .agg #[.bool ((xs5 4).b 0), .pointer ((xs5 4).p 0)], .pointer (some ⟨k, 0, none⟩), .pointer (some ⟨k, 0, none⟩), .pointer (some ⟨k, 2, none⟩), .pointer (some ⟨kr, 0, none⟩), .agg #[.bool ((xs5 9).b 0), .pointer ((xs5 9).p 0)], .tuple #[.agg #[.bool ((xs5 10).b 0), .pointer ((xs5 10).p 0)], .int .i64 0], .tuple #[.agg #[.bool ((xs5 10).b 0), .pointer ((xs5 10).p 0)], .int .i64 0], .agg #[.bool ((xs5 10).b 0), .pointer ((xs5 10).p 0)], .int .i64 0, .pointer (some ⟨(φ5 14), 0, none⟩), undef, .int .i64 0]), (fun φ5 xs5 => [[((φ1 0), .cells #[.bool false, .pointer none] 26)], [((φ1 0), .cells #[.bool false, .pointer none] 26)]]), (fun φ5 xs5 => [[default, default, default, default, default, default, default, default, default, default, default, default, default, default, .cells #[.bool false, .pointer none] 26, default, default], [default, default, default, default, default, default, default, default, default, default, default, default, default, default, .cells #[.bool ((xs5 10).b 0), .pointer ((xs5 10).p 0)] 26, default, default]]), [15], [1, 1, 1, 1, 3, 1, 1, 1, 1, 3, 3, 1, 1, 1, 2, 4, 1]⟩ (fun j => ([MP.any, MP.any, MP.any, MP.any, ⟨fun x J => TRep J l (x.b 0) (x.p 0), fun le h => TRep.mono le h⟩, MP.any, MP.any, MP.any, MP.any, ⟨fun x J => TRep J r (x.b 0) (x.p 0), fun le h => TRep.mono le h⟩, ⟨fun x J => TRep J (T.mk l r) (x.b 0) (x.p 0), fun le h => TRep.mono le h⟩, MP.any, MP.any, MP.any, MP.any, MP.any, MP.any] : List MP).getD j MP.any) [4, 9, 10] [] [] (fun φ5 xs5 => [[none, none, none, none, none, none, none, none, none, none, none, none, none, none, none, none, none]]) (fun φ5 xs5 => [(16, .pointer (some ⟨k, 0, none⟩)), (17, .pointer (some ⟨k, 0, none⟩)), (18, .pointer (some ⟨k, 1, none⟩)), (19, .pointer (some ⟨kl, 0, none⟩)), (20, .agg #[.bool ((xs5 4).b 0), .pointer ((xs5 4).p 0)]), (21, .pointer (some ⟨k, 0, none⟩)), (22, .pointer (some ⟨k, 0, none⟩)), (23, .pointer (some ⟨k, 2, none⟩)), (24, .pointer (some ⟨kr, 0, none⟩)), (25, .agg #[.bool ((xs5 9).b 0), .pointer ((xs5 9).p 0)]), (26, .tuple #[.agg #[.bool ((xs5 10).b 0), .pointer ((xs5 10).p 0)], .int .i64 0]), (15, .tuple #[.agg #[.bool ((xs5 10).b 0), .pointer ((xs5 10).p 0)], .int .i64 0]), (27, .agg #[.bool ((xs5 10).b 0), .pointer ((xs5 10).p 0)]), (28, .int .i64 0), (3, .pointer (some ⟨(φ5 14), 0, none⟩)), (4, .int .i64 0)]) (fun φ5 xs5 => [((φ1 0), .cells #[.bool false, .pointer none] 26), ((φ5 14), .cells #[.bool ((xs5 10).b 0), .pointer ((xs5 10).p 0)] 26)]) s ⟨hk, trivial⟩ (by kernel_rfl) (by kernel_rfl) (fun _ _ => by kernel_rfl) (fun _ _ => by kernel_rfl) ⟨fun _ _ => by kernel_rfl, fun _ _ => by kernel_rfl, fun _ _ => by kernel_rfl, fun _ _ => by kernel_rfl⟩ (fun _ _ _ => by kernel_rfl) (fun _ _ => by kernel_rfl) (fun _ _ => by kernel_rfl) (fun _ _ => by kernel_rfl) (fun _ _ => by kernel_rfl) (fun _ _ => by kernel_rfl) trivial trivial (by kernel_rfl) ⟨?c5_4, ?c5_9, ?c5_10, trivial⟩ ?k5
    case c5_4 =>
      refine kcast (A := ∀ (φ5 : Nat → Nat) (xs5 : Xs) (J4_5 : IM), I.Le J4_5 → Fun Try.prog 31 #[.pointer (some ⟨kl, 0, none⟩)] J4_5 (fun v J' => ∃ x : UX, v = .agg #[.bool (x.b 0), .pointer (x.p 0)] ∧ (TRep J' l (x.b 0) (x.p 0)))) (by kernel_rfl) ?_
      intro φ5 xs5 J4_5 leJ
      have hl := RT.mono leJ hl
      exact Fun.mono (ihl hl) (fun v J' _ ⟨y0, y1, hv, g0⟩ => ⟨{ UX.d with b := fun j => y0, p := fun j => y1 }, hv, g0⟩)
    case c5_9 =>
      refine kcast (A := ∀ (φ5 : Nat → Nat) (xs5 : Xs) (J9_5 : IM), I.Le J9_5 → (TRep J9_5 l ((xs5 4).b 0) ((xs5 4).p 0)) → Fun Try.prog 31 #[.pointer (some ⟨kr, 0, none⟩)] J9_5 (fun v J' => ∃ x : UX, v = .agg #[.bool (x.b 0), .pointer (x.p 0)] ∧ (TRep J' r (x.b 0) (x.p 0)))) (by kernel_rfl) ?_
      intro φ5 xs5 J9_5 leJ
      rintro h5_4_0
      have hr := RT.mono leJ hr
      exact Fun.mono (ihr hr) (fun v J' _ ⟨y0, y1, hv, g0⟩ => ⟨{ UX.d with b := fun j => y0, p := fun j => y1 }, hv, g0⟩)
    case c5_10 =>
      refine kcast (A := ∀ (φ5 : Nat → Nat) (xs5 : Xs) (J10_5 : IM), I.Le J10_5 → (TRep J10_5 l ((xs5 4).b 0) ((xs5 4).p 0)) → (TRep J10_5 r ((xs5 9).b 0) ((xs5 9).p 0)) → Fun Try.prog 58 #[.agg #[.bool ((xs5 4).b 0), .pointer ((xs5 4).p 0)], .agg #[.bool ((xs5 9).b 0), .pointer ((xs5 9).p 0)]] J10_5 (fun v J' => ∃ x : UX, v = .tuple #[.agg #[.bool (x.b 0), .pointer (x.p 0)], .int .i64 0] ∧ (TRep J' (T.mk l r) (x.b 0) (x.p 0)))) (by kernel_rfl) ?_
      intro φ5 xs5 J10_5 leJ
      rintro h5_4_0 h5_9_0
      exact Fun.mono (pairOk_c h5_4_0 h5_9_0 (by first | omega | (rw [hnf.2.2]; exact hd)) (by first | omega | (rw [hnf.2.2]; exact hd)) (by first | omega | (rw [hnf.2.2]; exact hd))) (fun v J' _ ⟨y0, y1, hv, g0⟩ => ⟨{ UX.d with b := fun j => y0, p := fun j => y1 }, hv, g0⟩)
    case k5 =>
      rintro φ5 xs5 I5 w5 le5 s h5_4_0 h5_9_0 h5_10_0
      replace hl := RT.mono le5 hl
      replace hr := RT.mono le5 hr
      replace hk := le5 _ _ hk
      refine wp_seq ?_
      refine region_rule ?_
      refine ops_rule (C := []) [((φ1 0), .cells #[.bool false, .pointer none] 26), ((φ5 14), .cells #[.bool ((xs5 10).b 0), .pointer ((xs5 10).p 0)] 26)] [] 2 [.o 1, .o 1, .o 0, .o 0] 0 (fun φ6 => [(29, .agg #[.bool ((xs5 10).b 0), .pointer ((xs5 10).p 0)])]) (fun φ6 => [((φ1 0), .cells #[.bool ((xs5 10).b 0), .pointer ((xs5 10).p 0)] 26), ((φ5 14), .cells #[.bool ((xs5 10).b 0), .pointer ((xs5 10).p 0)] 26)]) (fun φ6 => [(φ5 14), (φ5 14), (φ1 0), (φ1 0)]) s trivial (fun φ6 => by kernel_rfl) ?_
      intro φ6 w6 s
      refine ops_done (by kernel_rfl) ?_
      refine wp_ret ?_
      refine ret_rule (C := []) [((φ1 0), .cells #[.bool ((xs5 10).b 0), .pointer ((xs5 10).p 0)] 26), ((φ5 14), .cells #[.bool ((xs5 10).b 0), .pointer ((xs5 10).p 0)] 26)] [] (.agg #[.bool ((xs5 10).b 0), .pointer ((xs5 10).p 0)]) [.o 0, .o 0] [(φ1 0), (φ1 0)] s trivial (by kernel_rfl) ?_
      exact ⟨_, _, _, rfl, s, (by have h9 := h5_10_0; rw [hnf.2.2] at h9; exact ⟨_, _, rfl, h9⟩)⟩

theorem own_c : ∀ (t : T) {I : IM} {k : Nat}, t.nf → t.depth ≤ 16 → RT I t k → Fun Try.prog 31 #[.pointer (some ⟨k, 0, none⟩)] I (fun v J => ∃ b p, v = idv b p ∧ TRep J t b p)
  | .zero, _, _, hn, hd, h => own_step h hn hd (fun l r h => by cases h)
  | .one, _, _, hn, hd, h => own_step h hn hd (fun l r h => by cases h)
  | .node l r, _, _, hn, hd, h => own_step h hn hd (fun l' r' e => by
      cases e
      have hd1 : 1 + max l.depth r.depth ≤ 16 := hd
      exact ⟨fun {J} {k} a => own_c l hn.1 (by omega) a, fun {J} {k} a => own_c r hn.2.1 (by omega) a⟩)

end Go.Proofs.Ytgdickihjaomjaa.Ev


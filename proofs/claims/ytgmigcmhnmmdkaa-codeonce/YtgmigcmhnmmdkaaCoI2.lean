/- The program's ids: cut, Split, Covers, Same, Disjoint, union, Sum, Text. -/
import Derived.Test.YtgmigcmhnmmdkaaCoI1
import Derived.Test.YtgmigcmhnmmdkaaCoE3
set_option linter.all false
set_option maxRecDepth 100000
namespace Go.Proofs.Ytgmigcmhnmmdkaa.Ev
open Go.RowKit Go.Sep

theorem T.mk_depth (l r : T) : (T.mk l r).depth ≤ 1 + max l.depth r.depth := by
  cases l <;> cases r <;> simp [T.mk, T.depth]
def cutT : T → T × T
  | .zero => (.zero, .zero)
  | .one => (T.mk .one .zero, T.mk .zero .one)
  | .node l r => if l.isZero = true then (T.mk .zero (cutT r).1, T.mk .zero (cutT r).2) else if r.isZero = true then (T.mk (cutT l).1 .zero, T.mk (cutT l).2 .zero) else (T.mk l .zero, T.mk .zero r)
def coverT : T → T → Bool
  | .one, _ => true
  | _, .zero => true
  | .zero, _ => false
  | _, .one => false
  | .node l r, .node l' r' => coverT l l' && coverT r r'
set_option maxHeartbeats 1000000 in
theorem covers_step {I : IM} {A B : T} {ba bb : Bool} {pa pb : Option Addr} (hA : TRep I A ba pa) (hB : TRep I B bb pb) (cl cr : Bool) (ihl : A.isOne = false → B.isZero = false → A.isZero = false → B.isOne = false → ∀ {J : IM} {b1 b2 : Bool} {p1 p2 : Option Addr}, TRep J A.left b1 p1 → TRep J B.left b2 p2 → Fun Try.prog 41 #[idv b1 p1, idv b2 p2] J (fun v _ => v = .bool cl)) (ihr : A.isOne = false → B.isZero = false → A.isZero = false → B.isOne = false → ∀ {J : IM} {b1 b2 : Bool} {p1 p2 : Option Addr}, TRep J A.right b1 p1 → TRep J B.right b2 p2 → Fun Try.prog 41 #[idv b1 p1, idv b2 p2] J (fun v _ => v = .bool cr)) : Fun Try.prog 41 #[idv ba pa, idv bb pb] I (fun v J => v = .bool (A.isOne || B.isZero || (!A.isZero && !B.isOne && (cl && cr)))) := by
  refine enter_rule 29 [(0, .agg #[.bool ba, .pointer pa]), (1, .agg #[.bool bb, .pointer pb])] Try.func41 rfl (by kernel_rfl) ?_
  intro w s
  refine wp_seq ?_
  refine region_rule ?_
  refine ops_rule (C := []) [] [] 3 [] 2 (fun φ1 => [(4, .bool false), (3, .pointer (some ⟨(φ1 1), 0, none⟩)), (2, .pointer (some ⟨(φ1 0), 0, none⟩))]) (fun φ1 => [((φ1 0), .cells #[.bool ba, .pointer pa] 26), ((φ1 1), .cells #[.bool bb, .pointer pb] 26)]) (fun φ1 => []) s trivial (fun φ1 => by kernel_rfl) ?_
  intro φ1 w1 s
  refine ops_done (by kernel_rfl) ?_
  refine wp_seq ?_
  refine wp_seq ?_
  refine region_rule ?_
  refine ops_rule (C := []) [((φ1 0), .cells #[.bool ba, .pointer pa] 26), ((φ1 1), .cells #[.bool bb, .pointer pb] 26)] [] 1 [.o 0, .o 0] 0 (fun φ2 => [(5, .agg #[.bool ba, .pointer pa])]) (fun φ2 => [((φ1 0), .cells #[.bool ba, .pointer pa] 26), ((φ1 1), .cells #[.bool bb, .pointer pb] 26)]) (fun φ2 => [(φ1 0), (φ1 0)]) s trivial (fun φ2 => by kernel_rfl) ?_
  intro φ2 w2 s
  refine call_rule (some 6) s (isOne_c hA) (by kernel_rfl) ?_
  intro v3 I3 w3 le3 h3 s
  replace hA := TRep.mono le3 hA
  replace hB := TRep.mono le3 hB
  obtain rfl := h3
  refine ops_rule (C := []) [((φ1 0), .cells #[.bool ba, .pointer pa] 26), ((φ1 1), .cells #[.bool bb, .pointer pb] 26)] [] 1 [] 0 (fun φ4 => [(7, .bool (T.isOne A))]) (fun φ4 => [((φ1 0), .cells #[.bool ba, .pointer pa] 26), ((φ1 1), .cells #[.bool bb, .pointer pb] 26)]) (fun φ4 => []) s trivial (fun φ4 => by kernel_rfl) ?_
  intro φ4 w4 s
  rcases Bool.eq_false_or_eq_true (T.isOne A) with hc5 | hc5
  ·
    rw [hc5]
    refine ops_rule (C := []) [((φ1 0), .cells #[.bool ba, .pointer pa] 26), ((φ1 1), .cells #[.bool bb, .pointer pb] 26)] [] 3 [] 0 (fun φ6 => [(10, .bool true), (9, undef), (8, undef)]) (fun φ6 => [((φ1 0), .cells #[.bool ba, .pointer pa] 26), ((φ1 1), .cells #[.bool bb, .pointer pb] 26)]) (fun φ6 => []) s trivial (fun φ6 => by kernel_rfl) ?_
    intro φ6 w6 s
    refine ops_done (by kernel_rfl) ?_
    refine cond_true_rule (b := true) (by kernel_rfl) rfl ?_
    refine wp_seq ?_
    refine region_rule ?_
    refine ops_rule (C := []) [((φ1 0), .cells #[.bool ba, .pointer pa] 26), ((φ1 1), .cells #[.bool bb, .pointer pb] 26)] [] 1 [] 0 (fun φ7 => [(4, .bool true)]) (fun φ7 => [((φ1 0), .cells #[.bool ba, .pointer pa] 26), ((φ1 1), .cells #[.bool bb, .pointer pb] 26)]) (fun φ7 => []) s trivial (fun φ7 => by kernel_rfl) ?_
    intro φ7 w7 s
    refine ops_done (by kernel_rfl) ?_
    refine wp_ret ?_
    refine ret_rule (C := []) [((φ1 0), .cells #[.bool ba, .pointer pa] 26), ((φ1 1), .cells #[.bool bb, .pointer pb] 26)] [] (.bool true) [] [] s trivial (by kernel_rfl) ?_
    exact ⟨_, _, _, rfl, s, (by simp [hc5])⟩
  ·
    rw [hc5]
    refine ops_rule (C := []) [((φ1 0), .cells #[.bool ba, .pointer pa] 26), ((φ1 1), .cells #[.bool bb, .pointer pb] 26)] [] 1 [.o 1, .o 1] 0 (fun φ8 => [(8, .agg #[.bool bb, .pointer pb])]) (fun φ8 => [((φ1 0), .cells #[.bool ba, .pointer pa] 26), ((φ1 1), .cells #[.bool bb, .pointer pb] 26)]) (fun φ8 => [(φ1 1), (φ1 1)]) s trivial (fun φ8 => by kernel_rfl) ?_
    intro φ8 w8 s
    refine call_rule (some 9) s (isZero_c hB) (by kernel_rfl) ?_
    intro v9 I9 w9 le9 h9 s
    replace hA := TRep.mono le9 hA
    replace hB := TRep.mono le9 hB
    obtain rfl := h9
    refine ops_rule (C := []) [((φ1 0), .cells #[.bool ba, .pointer pa] 26), ((φ1 1), .cells #[.bool bb, .pointer pb] 26)] [] 1 [] 0 (fun φ10 => [(10, .bool (T.isZero B))]) (fun φ10 => [((φ1 0), .cells #[.bool ba, .pointer pa] 26), ((φ1 1), .cells #[.bool bb, .pointer pb] 26)]) (fun φ10 => []) s trivial (fun φ10 => by kernel_rfl) ?_
    intro φ10 w10 s
    refine ops_done (by kernel_rfl) ?_
    rcases Bool.eq_false_or_eq_true (T.isZero B) with hc11 | hc11
    ·
      rw [hc11]
      refine cond_true_rule (b := true) (by kernel_rfl) rfl ?_
      refine wp_seq ?_
      refine region_rule ?_
      refine ops_rule (C := []) [((φ1 0), .cells #[.bool ba, .pointer pa] 26), ((φ1 1), .cells #[.bool bb, .pointer pb] 26)] [] 1 [] 0 (fun φ12 => [(4, .bool true)]) (fun φ12 => [((φ1 0), .cells #[.bool ba, .pointer pa] 26), ((φ1 1), .cells #[.bool bb, .pointer pb] 26)]) (fun φ12 => []) s trivial (fun φ12 => by kernel_rfl) ?_
      intro φ12 w12 s
      refine ops_done (by kernel_rfl) ?_
      refine wp_ret ?_
      refine ret_rule (C := []) [((φ1 0), .cells #[.bool ba, .pointer pa] 26), ((φ1 1), .cells #[.bool bb, .pointer pb] 26)] [] (.bool true) [] [] s trivial (by kernel_rfl) ?_
      exact ⟨_, _, _, rfl, s, (by simp [hc5, hc11])⟩
    ·
      rw [hc11]
      refine cond_false_rule (b := false) (by kernel_rfl) rfl ?_
      refine wp_skip ?_
      refine wp_seq ?_
      refine wp_seq ?_
      refine region_rule ?_
      refine ops_rule (C := []) [((φ1 0), .cells #[.bool ba, .pointer pa] 26), ((φ1 1), .cells #[.bool bb, .pointer pb] 26)] [] 1 [.o 0, .o 0] 0 (fun φ13 => [(11, .agg #[.bool ba, .pointer pa])]) (fun φ13 => [((φ1 0), .cells #[.bool ba, .pointer pa] 26), ((φ1 1), .cells #[.bool bb, .pointer pb] 26)]) (fun φ13 => [(φ1 0), (φ1 0)]) s trivial (fun φ13 => by kernel_rfl) ?_
      intro φ13 w13 s
      refine call_rule (some 12) s (isZero_c hA) (by kernel_rfl) ?_
      intro v14 I14 w14 le14 h14 s
      replace hA := TRep.mono le14 hA
      replace hB := TRep.mono le14 hB
      obtain rfl := h14
      refine ops_rule (C := []) [((φ1 0), .cells #[.bool ba, .pointer pa] 26), ((φ1 1), .cells #[.bool bb, .pointer pb] 26)] [] 1 [] 0 (fun φ15 => [(13, .bool (T.isZero A))]) (fun φ15 => [((φ1 0), .cells #[.bool ba, .pointer pa] 26), ((φ1 1), .cells #[.bool bb, .pointer pb] 26)]) (fun φ15 => []) s trivial (fun φ15 => by kernel_rfl) ?_
      intro φ15 w15 s
      rcases Bool.eq_false_or_eq_true (T.isZero A) with hc16 | hc16
      ·
        rw [hc16]
        refine ops_rule (C := []) [((φ1 0), .cells #[.bool ba, .pointer pa] 26), ((φ1 1), .cells #[.bool bb, .pointer pb] 26)] [] 3 [] 0 (fun φ17 => [(16, .bool true), (15, undef), (14, undef)]) (fun φ17 => [((φ1 0), .cells #[.bool ba, .pointer pa] 26), ((φ1 1), .cells #[.bool bb, .pointer pb] 26)]) (fun φ17 => []) s trivial (fun φ17 => by kernel_rfl) ?_
        intro φ17 w17 s
        refine ops_done (by kernel_rfl) ?_
        refine cond_true_rule (b := true) (by kernel_rfl) rfl ?_
        refine wp_seq ?_
        refine region_rule ?_
        refine ops_rule (C := []) [((φ1 0), .cells #[.bool ba, .pointer pa] 26), ((φ1 1), .cells #[.bool bb, .pointer pb] 26)] [] 1 [] 0 (fun φ18 => [(4, .bool false)]) (fun φ18 => [((φ1 0), .cells #[.bool ba, .pointer pa] 26), ((φ1 1), .cells #[.bool bb, .pointer pb] 26)]) (fun φ18 => []) s trivial (fun φ18 => by kernel_rfl) ?_
        intro φ18 w18 s
        refine ops_done (by kernel_rfl) ?_
        refine wp_ret ?_
        refine ret_rule (C := []) [((φ1 0), .cells #[.bool ba, .pointer pa] 26), ((φ1 1), .cells #[.bool bb, .pointer pb] 26)] [] (.bool false) [] [] s trivial (by kernel_rfl) ?_
        exact ⟨_, _, _, rfl, s, (by simp [hc5, hc11, hc16])⟩
      ·
        rw [hc16]
        refine ops_rule (C := []) [((φ1 0), .cells #[.bool ba, .pointer pa] 26), ((φ1 1), .cells #[.bool bb, .pointer pb] 26)] [] 1 [.o 1, .o 1] 0 (fun φ19 => [(14, .agg #[.bool bb, .pointer pb])]) (fun φ19 => [((φ1 0), .cells #[.bool ba, .pointer pa] 26), ((φ1 1), .cells #[.bool bb, .pointer pb] 26)]) (fun φ19 => [(φ1 1), (φ1 1)]) s trivial (fun φ19 => by kernel_rfl) ?_
        intro φ19 w19 s
        refine call_rule (some 15) s (isOne_c hB) (by kernel_rfl) ?_
        intro v20 I20 w20 le20 h20 s
        replace hA := TRep.mono le20 hA
        replace hB := TRep.mono le20 hB
        obtain rfl := h20
        refine ops_rule (C := []) [((φ1 0), .cells #[.bool ba, .pointer pa] 26), ((φ1 1), .cells #[.bool bb, .pointer pb] 26)] [] 1 [] 0 (fun φ21 => [(16, .bool (T.isOne B))]) (fun φ21 => [((φ1 0), .cells #[.bool ba, .pointer pa] 26), ((φ1 1), .cells #[.bool bb, .pointer pb] 26)]) (fun φ21 => []) s trivial (fun φ21 => by kernel_rfl) ?_
        intro φ21 w21 s
        refine ops_done (by kernel_rfl) ?_
        rcases Bool.eq_false_or_eq_true (T.isOne B) with hc22 | hc22
        ·
          rw [hc22]
          refine cond_true_rule (b := true) (by kernel_rfl) rfl ?_
          refine wp_seq ?_
          refine region_rule ?_
          refine ops_rule (C := []) [((φ1 0), .cells #[.bool ba, .pointer pa] 26), ((φ1 1), .cells #[.bool bb, .pointer pb] 26)] [] 1 [] 0 (fun φ23 => [(4, .bool false)]) (fun φ23 => [((φ1 0), .cells #[.bool ba, .pointer pa] 26), ((φ1 1), .cells #[.bool bb, .pointer pb] 26)]) (fun φ23 => []) s trivial (fun φ23 => by kernel_rfl) ?_
          intro φ23 w23 s
          refine ops_done (by kernel_rfl) ?_
          refine wp_ret ?_
          refine ret_rule (C := []) [((φ1 0), .cells #[.bool ba, .pointer pa] 26), ((φ1 1), .cells #[.bool bb, .pointer pb] 26)] [] (.bool false) [] [] s trivial (by kernel_rfl) ?_
          exact ⟨_, _, _, rfl, s, (by simp [hc5, hc11, hc16, hc22])⟩
        ·
          rw [hc22]
          refine cond_false_rule (b := false) (by kernel_rfl) rfl ?_
          refine wp_skip ?_
          refine wp_seq ?_
          rcases Bool.eq_false_or_eq_true (cl) with hc24 | hc24
          ·
            refine draw_rule (C := []) ⟨(fun φ25 xs25 => [.look 0 [.o 0, .o 0] [(φ1 0), (φ1 0)], .call 55 #[.agg #[.bool ba, .pointer pa]], .look 0 [.o 1, .o 1] [(φ1 1), (φ1 1)], .call 55 #[.agg #[.bool bb, .pointer pb]], .call 41 #[.agg #[.bool ((xs25 1).b 0), .pointer ((xs25 1).p 0)], .agg #[.bool ((xs25 3).b 0), .pointer ((xs25 3).p 0)]], .look 0 [] [], .look 0 [.o 0, .o 0] [(φ1 0), (φ1 0)], .call 56 #[.agg #[.bool ba, .pointer pa]], .look 0 [.o 1, .o 1] [(φ1 1), (φ1 1)], .call 56 #[.agg #[.bool bb, .pointer pb]], .call 41 #[.agg #[.bool ((xs25 7).b 0), .pointer ((xs25 7).p 0)], .agg #[.bool ((xs25 9).b 0), .pointer ((xs25 9).p 0)]], .look 0 [] [], .look 0 [] []]), (fun φ25 xs25 => [.agg #[.bool ba, .pointer pa], .agg #[.bool ((xs25 1).b 0), .pointer ((xs25 1).p 0)], .agg #[.bool bb, .pointer pb], .agg #[.bool ((xs25 3).b 0), .pointer ((xs25 3).p 0)], .bool true, .bool true, .agg #[.bool ba, .pointer pa], .agg #[.bool ((xs25 7).b 0), .pointer ((xs25 7).p 0)], .agg #[.bool bb, .pointer pb], .agg #[.bool ((xs25 9).b 0), .pointer ((xs25 9).p 0)], .bool cr, .bool cr, .bool cr]), (fun φ25 xs25 => [[((φ1 0), .cells #[.bool ba, .pointer pa] 26), ((φ1 1), .cells #[.bool bb, .pointer pb] 26)]]), (fun φ25 xs25 => [[default, default, default, default, default, default, default, default, default, default, default, default, default]]), [], [1, 3, 1, 3, 3, 1, 1, 3, 1, 3, 3, 1, 1]⟩ (fun j => ([MP.any, ⟨fun x J => TRep J (T.left A) (x.b 0) (x.p 0), fun le h => TRep.mono le h⟩, MP.any, ⟨fun x J => TRep J (T.left B) (x.b 0) (x.p 0), fun le h => TRep.mono le h⟩, MP.any, MP.any, MP.any, ⟨fun x J => TRep J (T.right A) (x.b 0) (x.p 0), fun le h => TRep.mono le h⟩, MP.any, ⟨fun x J => TRep J (T.right B) (x.b 0) (x.p 0), fun le h => TRep.mono le h⟩, MP.any, MP.any, MP.any] : List MP).getD j MP.any) [1, 3, 4, 7, 9, 10] [] [] (fun φ25 xs25 => []) (fun φ25 xs25 => [(17, .agg #[.bool ba, .pointer pa]), (18, .agg #[.bool ((xs25 1).b 0), .pointer ((xs25 1).p 0)]), (19, .agg #[.bool bb, .pointer pb]), (20, .agg #[.bool ((xs25 3).b 0), .pointer ((xs25 3).p 0)]), (21, .bool true), (22, .bool true), (23, .agg #[.bool ba, .pointer pa]), (24, .agg #[.bool ((xs25 7).b 0), .pointer ((xs25 7).p 0)]), (25, .agg #[.bool bb, .pointer pb]), (26, .agg #[.bool ((xs25 9).b 0), .pointer ((xs25 9).p 0)]), (27, .bool cr), (28, .bool cr), (4, .bool cr)]) (fun φ25 xs25 => [((φ1 0), .cells #[.bool ba, .pointer pa] 26), ((φ1 1), .cells #[.bool bb, .pointer pb] 26)]) s trivial (by kernel_rfl) (by kernel_rfl) (fun _ _ => by kernel_rfl) (fun _ _ => by kernel_rfl) ⟨fun _ _ => by kernel_rfl, fun _ _ => by kernel_rfl, fun _ _ => by kernel_rfl, fun _ _ => by kernel_rfl⟩ (fun _ _ _ => by kernel_rfl) (fun _ _ => by kernel_rfl) (fun _ _ => by kernel_rfl) (fun _ _ => by kernel_rfl) (fun _ _ => by kernel_rfl) (fun _ _ => by kernel_rfl) trivial trivial (by kernel_rfl) ⟨?c25_1, ?c25_3, ?c25_4, ?c25_7, ?c25_9, ?c25_10, trivial⟩ ?k25
            case c25_1 =>
              refine kcast (A := ∀ (φ25 : Nat → Nat) (xs25 : Xs) (J1_25 : IM), I20.Le J1_25 → Fun Try.prog 55 #[.agg #[.bool ba, .pointer pa]] J1_25 (fun v J' => ∃ x : UX, v = .agg #[.bool (x.b 0), .pointer (x.p 0)] ∧ (TRep J' (T.left A) (x.b 0) (x.p 0)))) (by kernel_rfl) ?_
              intro φ25 xs25 J1_25 leJ
              have hA := TRep.mono leJ hA
              exact Fun.mono (tleft_c hA) (fun v J' _ ⟨y0, y1, hv, g0⟩ => ⟨{ UX.d with b := fun j => y0, p := fun j => y1 }, hv, g0⟩)
            case c25_3 =>
              refine kcast (A := ∀ (φ25 : Nat → Nat) (xs25 : Xs) (J3_25 : IM), I20.Le J3_25 → (TRep J3_25 (T.left A) ((xs25 1).b 0) ((xs25 1).p 0)) → Fun Try.prog 55 #[.agg #[.bool bb, .pointer pb]] J3_25 (fun v J' => ∃ x : UX, v = .agg #[.bool (x.b 0), .pointer (x.p 0)] ∧ (TRep J' (T.left B) (x.b 0) (x.p 0)))) (by kernel_rfl) ?_
              intro φ25 xs25 J3_25 leJ
              rintro h25_1_0
              have hB := TRep.mono leJ hB
              exact Fun.mono (tleft_c hB) (fun v J' _ ⟨y0, y1, hv, g0⟩ => ⟨{ UX.d with b := fun j => y0, p := fun j => y1 }, hv, g0⟩)
            case c25_4 =>
              refine kcast (A := ∀ (φ25 : Nat → Nat) (xs25 : Xs) (J4_25 : IM), I20.Le J4_25 → (TRep J4_25 (T.left A) ((xs25 1).b 0) ((xs25 1).p 0)) → (TRep J4_25 (T.left B) ((xs25 3).b 0) ((xs25 3).p 0)) → Fun Try.prog 41 #[.agg #[.bool ((xs25 1).b 0), .pointer ((xs25 1).p 0)], .agg #[.bool ((xs25 3).b 0), .pointer ((xs25 3).p 0)]] J4_25 (fun v J' => ∃ x : UX, v = .bool true ∧ (True))) (by kernel_rfl) ?_
              intro φ25 xs25 J4_25 leJ
              rintro h25_1_0 h25_3_0
              exact Fun.mono (ihl hc5 hc11 hc16 hc22 h25_1_0 h25_3_0) (fun v J' _ h => ⟨UX.d, h.trans (congrArg Value.bool hc24), trivial⟩)
            case c25_7 =>
              refine kcast (A := ∀ (φ25 : Nat → Nat) (xs25 : Xs) (J7_25 : IM), I20.Le J7_25 → (TRep J7_25 (T.left A) ((xs25 1).b 0) ((xs25 1).p 0)) → (TRep J7_25 (T.left B) ((xs25 3).b 0) ((xs25 3).p 0)) → (True) → Fun Try.prog 56 #[.agg #[.bool ba, .pointer pa]] J7_25 (fun v J' => ∃ x : UX, v = .agg #[.bool (x.b 0), .pointer (x.p 0)] ∧ (TRep J' (T.right A) (x.b 0) (x.p 0)))) (by kernel_rfl) ?_
              intro φ25 xs25 J7_25 leJ
              rintro h25_1_0 h25_3_0 _
              have hA := TRep.mono leJ hA
              exact Fun.mono (tright_c hA) (fun v J' _ ⟨y0, y1, hv, g0⟩ => ⟨{ UX.d with b := fun j => y0, p := fun j => y1 }, hv, g0⟩)
            case c25_9 =>
              refine kcast (A := ∀ (φ25 : Nat → Nat) (xs25 : Xs) (J9_25 : IM), I20.Le J9_25 → (TRep J9_25 (T.left A) ((xs25 1).b 0) ((xs25 1).p 0)) → (TRep J9_25 (T.left B) ((xs25 3).b 0) ((xs25 3).p 0)) → (True) → (TRep J9_25 (T.right A) ((xs25 7).b 0) ((xs25 7).p 0)) → Fun Try.prog 56 #[.agg #[.bool bb, .pointer pb]] J9_25 (fun v J' => ∃ x : UX, v = .agg #[.bool (x.b 0), .pointer (x.p 0)] ∧ (TRep J' (T.right B) (x.b 0) (x.p 0)))) (by kernel_rfl) ?_
              intro φ25 xs25 J9_25 leJ
              rintro h25_1_0 h25_3_0 _ h25_7_0
              have hB := TRep.mono leJ hB
              exact Fun.mono (tright_c hB) (fun v J' _ ⟨y0, y1, hv, g0⟩ => ⟨{ UX.d with b := fun j => y0, p := fun j => y1 }, hv, g0⟩)
            case c25_10 =>
              refine kcast (A := ∀ (φ25 : Nat → Nat) (xs25 : Xs) (J10_25 : IM), I20.Le J10_25 → (TRep J10_25 (T.left A) ((xs25 1).b 0) ((xs25 1).p 0)) → (TRep J10_25 (T.left B) ((xs25 3).b 0) ((xs25 3).p 0)) → (True) → (TRep J10_25 (T.right A) ((xs25 7).b 0) ((xs25 7).p 0)) → (TRep J10_25 (T.right B) ((xs25 9).b 0) ((xs25 9).p 0)) → Fun Try.prog 41 #[.agg #[.bool ((xs25 7).b 0), .pointer ((xs25 7).p 0)], .agg #[.bool ((xs25 9).b 0), .pointer ((xs25 9).p 0)]] J10_25 (fun v J' => ∃ x : UX, v = .bool cr ∧ (True))) (by kernel_rfl) ?_
              intro φ25 xs25 J10_25 leJ
              rintro h25_1_0 h25_3_0 _ h25_7_0 h25_9_0
              exact Fun.mono (ihr hc5 hc11 hc16 hc22 h25_7_0 h25_9_0) (fun v J' _ h => ⟨UX.d, h, trivial⟩)
            case k25 =>
              rintro φ25 xs25 I25 w25 le25 s h25_1_0 h25_3_0 _ h25_7_0 h25_9_0 _
              replace hA := TRep.mono le25 hA
              replace hB := TRep.mono le25 hB
              refine wp_ret ?_
              refine ret_rule (C := []) [((φ1 0), .cells #[.bool ba, .pointer pa] 26), ((φ1 1), .cells #[.bool bb, .pointer pb] 26)] [] (.bool cr) [] [] s trivial (by kernel_rfl) ?_
              exact ⟨_, _, _, rfl, s, (by simp [hc5, hc11, hc16, hc22, hc24])⟩
          ·
            refine draw_rule (C := []) ⟨(fun φ26 xs26 => [.look 0 [.o 0, .o 0] [(φ1 0), (φ1 0)], .call 55 #[.agg #[.bool ba, .pointer pa]], .look 0 [.o 1, .o 1] [(φ1 1), (φ1 1)], .call 55 #[.agg #[.bool bb, .pointer pb]], .call 41 #[.agg #[.bool ((xs26 1).b 0), .pointer ((xs26 1).p 0)], .agg #[.bool ((xs26 3).b 0), .pointer ((xs26 3).p 0)]], .look 0 [] [], .skip, .skip, .skip, .skip, .skip, .look 0 [] [], .look 0 [] []]), (fun φ26 xs26 => [.agg #[.bool ba, .pointer pa], .agg #[.bool ((xs26 1).b 0), .pointer ((xs26 1).p 0)], .agg #[.bool bb, .pointer pb], .agg #[.bool ((xs26 3).b 0), .pointer ((xs26 3).p 0)], .bool false, .bool false, undef, undef, undef, undef, undef, .bool false, .bool false]), (fun φ26 xs26 => [[((φ1 0), .cells #[.bool ba, .pointer pa] 26), ((φ1 1), .cells #[.bool bb, .pointer pb] 26)]]), (fun φ26 xs26 => [[default, default, default, default, default, default, default, default, default, default, default, default, default]]), [], [1, 3, 1, 3, 3, 1, 0, 0, 0, 0, 0, 1, 1]⟩ (fun j => ([MP.any, ⟨fun x J => TRep J (T.left A) (x.b 0) (x.p 0), fun le h => TRep.mono le h⟩, MP.any, ⟨fun x J => TRep J (T.left B) (x.b 0) (x.p 0), fun le h => TRep.mono le h⟩, MP.any, MP.any, MP.any, MP.any, MP.any, MP.any, MP.any, MP.any, MP.any] : List MP).getD j MP.any) [1, 3, 4] [] [] (fun φ26 xs26 => []) (fun φ26 xs26 => [(17, .agg #[.bool ba, .pointer pa]), (18, .agg #[.bool ((xs26 1).b 0), .pointer ((xs26 1).p 0)]), (19, .agg #[.bool bb, .pointer pb]), (20, .agg #[.bool ((xs26 3).b 0), .pointer ((xs26 3).p 0)]), (21, .bool false), (22, .bool false), (23, undef), (24, undef), (25, undef), (26, undef), (27, undef), (28, .bool false), (4, .bool false)]) (fun φ26 xs26 => [((φ1 0), .cells #[.bool ba, .pointer pa] 26), ((φ1 1), .cells #[.bool bb, .pointer pb] 26)]) s trivial (by kernel_rfl) (by kernel_rfl) (fun _ _ => by kernel_rfl) (fun _ _ => by kernel_rfl) ⟨fun _ _ => by kernel_rfl, fun _ _ => by kernel_rfl, fun _ _ => by kernel_rfl, fun _ _ => by kernel_rfl⟩ (fun _ _ _ => by kernel_rfl) (fun _ _ => by kernel_rfl) (fun _ _ => by kernel_rfl) (fun _ _ => by kernel_rfl) (fun _ _ => by kernel_rfl) (fun _ _ => by kernel_rfl) trivial trivial (by kernel_rfl) ⟨?c26_1, ?c26_3, ?c26_4, trivial⟩ ?k26
            case c26_1 =>
              refine kcast (A := ∀ (φ26 : Nat → Nat) (xs26 : Xs) (J1_26 : IM), I20.Le J1_26 → Fun Try.prog 55 #[.agg #[.bool ba, .pointer pa]] J1_26 (fun v J' => ∃ x : UX, v = .agg #[.bool (x.b 0), .pointer (x.p 0)] ∧ (TRep J' (T.left A) (x.b 0) (x.p 0)))) (by kernel_rfl) ?_
              intro φ26 xs26 J1_26 leJ
              have hA := TRep.mono leJ hA
              exact Fun.mono (tleft_c hA) (fun v J' _ ⟨y0, y1, hv, g0⟩ => ⟨{ UX.d with b := fun j => y0, p := fun j => y1 }, hv, g0⟩)
            case c26_3 =>
              refine kcast (A := ∀ (φ26 : Nat → Nat) (xs26 : Xs) (J3_26 : IM), I20.Le J3_26 → (TRep J3_26 (T.left A) ((xs26 1).b 0) ((xs26 1).p 0)) → Fun Try.prog 55 #[.agg #[.bool bb, .pointer pb]] J3_26 (fun v J' => ∃ x : UX, v = .agg #[.bool (x.b 0), .pointer (x.p 0)] ∧ (TRep J' (T.left B) (x.b 0) (x.p 0)))) (by kernel_rfl) ?_
              intro φ26 xs26 J3_26 leJ
              rintro h26_1_0
              have hB := TRep.mono leJ hB
              exact Fun.mono (tleft_c hB) (fun v J' _ ⟨y0, y1, hv, g0⟩ => ⟨{ UX.d with b := fun j => y0, p := fun j => y1 }, hv, g0⟩)
            case c26_4 =>
              refine kcast (A := ∀ (φ26 : Nat → Nat) (xs26 : Xs) (J4_26 : IM), I20.Le J4_26 → (TRep J4_26 (T.left A) ((xs26 1).b 0) ((xs26 1).p 0)) → (TRep J4_26 (T.left B) ((xs26 3).b 0) ((xs26 3).p 0)) → Fun Try.prog 41 #[.agg #[.bool ((xs26 1).b 0), .pointer ((xs26 1).p 0)], .agg #[.bool ((xs26 3).b 0), .pointer ((xs26 3).p 0)]] J4_26 (fun v J' => ∃ x : UX, v = .bool false ∧ (True))) (by kernel_rfl) ?_
              intro φ26 xs26 J4_26 leJ
              rintro h26_1_0 h26_3_0
              exact Fun.mono (ihl hc5 hc11 hc16 hc22 h26_1_0 h26_3_0) (fun v J' _ h => ⟨UX.d, h.trans (congrArg Value.bool hc24), trivial⟩)
            case k26 =>
              rintro φ26 xs26 I26 w26 le26 s h26_1_0 h26_3_0 _
              replace hA := TRep.mono le26 hA
              replace hB := TRep.mono le26 hB
              refine wp_ret ?_
              refine ret_rule (C := []) [((φ1 0), .cells #[.bool ba, .pointer pa] 26), ((φ1 1), .cells #[.bool bb, .pointer pb] 26)] [] (.bool false) [] [] s trivial (by kernel_rfl) ?_
              exact ⟨_, _, _, rfl, s, (by simp [hc5, hc11, hc16, hc22, hc24])⟩

theorem covers_c : ∀ (A B : T) {I : IM} {ba bb : Bool} {pa pb : Option Addr}, TRep I A ba pa → TRep I B bb pb → Fun Try.prog 41 #[idv ba pa, idv bb pb] I (fun v _ => v = .bool (coverT A B))
  | .zero, B, _, _, _, _, _, hA, hB => (by cases B <;> simpa [coverT, T.isZero, T.isOne] using covers_step hA hB false false (by simp [T.isZero, T.isOne]) (by simp [T.isZero, T.isOne]))
  | .one, B, _, _, _, _, _, hA, hB => (by cases B <;> simpa [coverT, T.isZero, T.isOne] using covers_step hA hB false false (by simp [T.isZero, T.isOne]) (by simp [T.isZero, T.isOne]))
  | .node l r, .zero, _, _, _, _, _, hA, hB => (by simpa [coverT, T.isZero, T.isOne] using covers_step hA hB false false (by simp [T.isZero, T.isOne]) (by simp [T.isZero, T.isOne]))
  | .node l r, .one, _, _, _, _, _, hA, hB => (by simpa [coverT, T.isZero, T.isOne] using covers_step hA hB false false (by simp [T.isZero, T.isOne]) (by simp [T.isZero, T.isOne]))
  | .node l r, .node l' r', _, _, _, _, _, hA, hB => by
    have := covers_step hA hB (coverT l l') (coverT r r') (fun _ _ _ _ {J} {b1} {b2} {p1} {p2} k1 k2 => covers_c l l' k1 k2) (fun _ _ _ _ {J} {b1} {b2} {p1} {p2} k1 k2 => covers_c r r' k1 k2)
    simpa [coverT, T.isZero, T.isOne] using this

set_option maxHeartbeats 1000000 in
theorem idsame_c {I : IM} {A B : T} {ba bb : Bool} {pa pb : Option Addr} (hA : TRep I A ba pa) (hB : TRep I B bb pb) : Fun Try.prog 18 #[idv ba pa, idv bb pb] I (fun v J => v = .bool (coverT A B && coverT B A)) := by
  refine enter_rule 13 [(0, .agg #[.bool ba, .pointer pa]), (1, .agg #[.bool bb, .pointer pb])] Try.func18 rfl (by kernel_rfl) ?_
  intro w s
  refine wp_seq ?_
  refine region_rule ?_
  refine ops_rule (C := []) [] [] 3 [] 2 (fun φ1 => [(4, .bool false), (3, .pointer (some ⟨(φ1 1), 0, none⟩)), (2, .pointer (some ⟨(φ1 0), 0, none⟩))]) (fun φ1 => [((φ1 0), .cells #[.bool ba, .pointer pa] 26), ((φ1 1), .cells #[.bool bb, .pointer pb] 26)]) (fun φ1 => []) s trivial (fun φ1 => by kernel_rfl) ?_
  intro φ1 w1 s
  refine ops_done (by kernel_rfl) ?_
  refine wp_seq ?_
  refine region_rule ?_
  refine ops_rule (C := []) [((φ1 0), .cells #[.bool ba, .pointer pa] 26), ((φ1 1), .cells #[.bool bb, .pointer pb] 26)] [] 2 [.o 0, .o 0, .o 1, .o 1] 0 (fun φ2 => [(6, .agg #[.bool bb, .pointer pb]), (5, .agg #[.bool ba, .pointer pa])]) (fun φ2 => [((φ1 0), .cells #[.bool ba, .pointer pa] 26), ((φ1 1), .cells #[.bool bb, .pointer pb] 26)]) (fun φ2 => [(φ1 0), (φ1 0), (φ1 1), (φ1 1)]) s trivial (fun φ2 => by kernel_rfl) ?_
  intro φ2 w2 s
  refine call_rule (some 7) s (covers_c A B hA hB) (by kernel_rfl) ?_
  intro v3 I3 w3 le3 h3 s
  replace hA := TRep.mono le3 hA
  replace hB := TRep.mono le3 hB
  obtain rfl := h3
  refine ops_rule (C := []) [((φ1 0), .cells #[.bool ba, .pointer pa] 26), ((φ1 1), .cells #[.bool bb, .pointer pb] 26)] [] 1 [] 0 (fun φ4 => [(8, .bool (coverT A B))]) (fun φ4 => [((φ1 0), .cells #[.bool ba, .pointer pa] 26), ((φ1 1), .cells #[.bool bb, .pointer pb] 26)]) (fun φ4 => []) s trivial (fun φ4 => by kernel_rfl) ?_
  intro φ4 w4 s
  rcases Bool.eq_false_or_eq_true (coverT A B) with hc5 | hc5
  ·
    rw [hc5]
    refine ops_rule (C := []) [((φ1 0), .cells #[.bool ba, .pointer pa] 26), ((φ1 1), .cells #[.bool bb, .pointer pb] 26)] [] 2 [.o 1, .o 1, .o 0, .o 0] 0 (fun φ6 => [(10, .agg #[.bool ba, .pointer pa]), (9, .agg #[.bool bb, .pointer pb])]) (fun φ6 => [((φ1 0), .cells #[.bool ba, .pointer pa] 26), ((φ1 1), .cells #[.bool bb, .pointer pb] 26)]) (fun φ6 => [(φ1 1), (φ1 1), (φ1 0), (φ1 0)]) s trivial (fun φ6 => by kernel_rfl) ?_
    intro φ6 w6 s
    refine call_rule (some 11) s (covers_c B A hB hA) (by kernel_rfl) ?_
    intro v7 I7 w7 le7 h7 s
    replace hA := TRep.mono le7 hA
    replace hB := TRep.mono le7 hB
    obtain rfl := h7
    refine ops_rule (C := []) [((φ1 0), .cells #[.bool ba, .pointer pa] 26), ((φ1 1), .cells #[.bool bb, .pointer pb] 26)] [] 2 [] 0 (fun φ8 => [(4, .bool (coverT B A)), (12, .bool (coverT B A))]) (fun φ8 => [((φ1 0), .cells #[.bool ba, .pointer pa] 26), ((φ1 1), .cells #[.bool bb, .pointer pb] 26)]) (fun φ8 => []) s trivial (fun φ8 => by kernel_rfl) ?_
    intro φ8 w8 s
    refine ops_done (by kernel_rfl) ?_
    refine wp_ret ?_
    refine ret_rule (C := []) [((φ1 0), .cells #[.bool ba, .pointer pa] 26), ((φ1 1), .cells #[.bool bb, .pointer pb] 26)] [] (.bool (coverT B A)) [] [] s trivial (by kernel_rfl) ?_
    exact ⟨_, _, _, rfl, s, (by simp [hc5])⟩
  ·
    rw [hc5]
    refine ops_rule (C := []) [((φ1 0), .cells #[.bool ba, .pointer pa] 26), ((φ1 1), .cells #[.bool bb, .pointer pb] 26)] [] 5 [] 0 (fun φ9 => [(4, .bool false), (12, .bool false), (11, undef), (10, undef), (9, undef)]) (fun φ9 => [((φ1 0), .cells #[.bool ba, .pointer pa] 26), ((φ1 1), .cells #[.bool bb, .pointer pb] 26)]) (fun φ9 => []) s trivial (fun φ9 => by kernel_rfl) ?_
    intro φ9 w9 s
    refine ops_done (by kernel_rfl) ?_
    refine wp_ret ?_
    refine ret_rule (C := []) [((φ1 0), .cells #[.bool ba, .pointer pa] 26), ((φ1 1), .cells #[.bool bb, .pointer pb] 26)] [] (.bool false) [] [] s trivial (by kernel_rfl) ?_
    exact ⟨_, _, _, rfl, s, (by simp [hc5])⟩

end Go.Proofs.Ytgmigcmhnmmdkaa.Ev


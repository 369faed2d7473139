/- The program's ids: cut, Split, Covers, Same, Disjoint, union, Sum, Text. -/
import Derived.Test.YtgdickihjaomjaaSqI1
import Derived.Test.YtgdickihjaomjaaSqM17
import Derived.Test.YtgdickihjaomjaaSqS9
set_option linter.all false
set_option maxRecDepth 100000
namespace Go.Proofs.Ytgdickihjaomjaa.Ev
open Go.RowKit Go.Sep

theorem T.mk_depth (l r : T) : (T.mk l r).depth ≤ 1 + max l.depth r.depth := by
  cases l <;> cases r <;> simp [T.mk, T.depth]
def cutT : T → T × T
  | .zero => (.zero, .zero)
  | .one => (T.mk .one .zero, T.mk .zero .one)
  | .node l r => if l.isZero = true then (T.mk .zero (cutT r).1, T.mk .zero (cutT r).2) else if r.isZero = true then (T.mk (cutT l).1 .zero, T.mk (cutT l).2 .zero) else (T.mk l .zero, T.mk .zero r)
def coverT : T → T → Bool
  | .one, _ => true
  | _, .zero => true
  | .zero, _ => false
  | _, .one => false
  | .node l r, .node l' r' => coverT l l' && coverT r r'
set_option maxHeartbeats 1000000 in
theorem covers_step {I : IM} {A B : T} {ba bb : Bool} {pa pb : Option Addr} (hA : TRep I A ba pa) (hB : TRep I B bb pb) (cl cr : Bool) (ihl : A.isOne = false → B.isZero = false → A.isZero = false → B.isOne = false → ∀ {J : IM} {b1 b2 : Bool} {p1 p2 : Option Addr}, TRep J A.left b1 p1 → TRep J B.left b2 p2 → Fun Try.prog 36 #[idv b1 p1, idv b2 p2] J (fun v _ => v = .bool cl)) (ihr : A.isOne = false → B.isZero = false → A.isZero = false → B.isOne = false → ∀ {J : IM} {b1 b2 : Bool} {p1 p2 : Option Addr}, TRep J A.right b1 p1 → TRep J B.right b2 p2 → Fun Try.prog 36 #[idv b1 p1, idv b2 p2] J (fun v _ => v = .bool cr)) : Fun Try.prog 36 #[idv ba pa, idv bb pb] I (fun v J => v = .bool (A.isOne || B.isZero || (!A.isZero && !B.isOne && (cl && cr)))) := by
  refine enter_rule 29 [(0, .agg #[.bool ba, .pointer pa]), (1, .agg #[.bool bb, .pointer pb])] Try.func36 rfl (by kernel_rfl) ?_
  intro w s
  refine wp_seq ?_
  refine region_rule ?_
  refine ops_rule (C := []) [] [] 3 [] 2 (fun φ1 => [(4, .bool false), (3, .pointer (some ⟨(φ1 1), 0, none⟩)), (2, .pointer (some ⟨(φ1 0), 0, none⟩))]) (fun φ1 => [((φ1 0), .cells #[.bool ba, .pointer pa] 26), ((φ1 1), .cells #[.bool bb, .pointer pb] 26)]) (fun φ1 => []) s trivial (fun φ1 => by kernel_rfl) ?_
  intro φ1 w1 s
  refine ops_done (by kernel_rfl) ?_
  refine wp_seq ?_
  refine wp_seq ?_
  refine region_rule ?_
  refine ops_rule (C := []) [((φ1 0), .cells #[.bool ba, .pointer pa] 26), ((φ1 1), .cells #[.bool bb, .pointer pb] 26)] [] 1 [.o 0, .o 0] 0 (fun φ2 => [(5, .agg #[.bool ba, .pointer pa])]) (fun φ2 => [((φ1 0), .cells #[.bool ba, .pointer pa] 26), ((φ1 1), .cells #[.bool bb, .pointer pb] 26)]) (fun φ2 => [(φ1 0), (φ1 0)]) s trivial (fun φ2 => by kernel_rfl) ?_
  intro φ2 w2 s
  refine call_rule (some 6) s (isOne_c hA) (by kernel_rfl) ?_
  intro v3 I3 w3 le3 h3 s
  replace hA := TRep.mono le3 hA
  replace hB := TRep.mono le3 hB
  obtain rfl := h3
  refine ops_rule (C := []) [((φ1 0), .cells #[.bool ba, .pointer pa] 26), ((φ1 1), .cells #[.bool bb, .pointer pb] 26)] [] 1 [] 0 (fun φ4 => [(7, .bool (T.isOne A))]) (fun φ4 => [((φ1 0), .cells #[.bool ba, .pointer pa] 26), ((φ1 1), .cells #[.bool bb, .pointer pb] 26)]) (fun φ4 => []) s trivial (fun φ4 => by kernel_rfl) ?_
  intro φ4 w4 s
  rcases Bool.eq_false_or_eq_true (T.isOne A) with hc5 | hc5
  ·
    rw [hc5]
    refine ops_rule (C := []) [((φ1 0), .cells #[.bool ba, .pointer pa] 26), ((φ1 1), .cells #[.bool bb, .pointer pb] 26)] [] 3 [] 0 (fun φ6 => [(10, .bool true), (9, undef), (8, undef)]) (fun φ6 => [((φ1 0), .cells #[.bool ba, .pointer pa] 26), ((φ1 1), .cells #[.bool bb, .pointer pb] 26)]) (fun φ6 => []) s trivial (fun φ6 => by kernel_rfl) ?_
    intro φ6 w6 s
    refine ops_done (by kernel_rfl) ?_
    refine cond_true_rule (b := true) (by kernel_rfl) rfl ?_
    refine wp_seq ?_
    refine region_rule ?_
    refine ops_rule (C := []) [((φ1 0), .cells #[.bool ba, .pointer pa] 26), ((φ1 1), .cells #[.bool bb, .pointer pb] 26)] [] 1 [] 0 (fun φ7 => [(4, .bool true)]) (fun φ7 => [((φ1 0), .cells #[.bool ba, .pointer pa] 26), ((φ1 1), .cells #[.bool bb, .pointer pb] 26)]) (fun φ7 => []) s trivial (fun φ7 => by kernel_rfl) ?_
    intro φ7 w7 s
    refine ops_done (by kernel_rfl) ?_
    refine wp_ret ?_
    refine ret_rule (C := []) [((φ1 0), .cells #[.bool ba, .pointer pa] 26), ((φ1 1), .cells #[.bool bb, .pointer pb] 26)] [] (.bool true) [] [] s trivial (by kernel_rfl) ?_
    exact ⟨_, _, _, rfl, s, (by simp [hc5])⟩
  ·
    rw [hc5]
    refine ops_rule (C := []) [((φ1 0), .cells #[.bool ba, .pointer pa] 26), ((φ1 1), .cells #[.bool bb, .pointer pb] 26)] [] 1 [.o 1, .o 1] 0 (fun φ8 => [(8, .agg #[.bool bb, .pointer pb])]) (fun φ8 => [((φ1 0), .cells #[.bool ba, .pointer pa] 26), ((φ1 1), .cells #[.bool bb, .pointer pb] 26)]) (fun φ8 => [(φ1 1), (φ1 1)]) s trivial (fun φ8 => by kernel_rfl) ?_
    intro φ8 w8 s
    refine call_rule (some 9) s (isZero_c hB) (by kernel_rfl) ?_
    intro v9 I9 w9 le9 h9 s
    replace hA := TRep.mono le9 hA
    replace hB := TRep.mono le9 hB
    obtain rfl := h9
    refine ops_rule (C := []) [((φ1 0), .cells #[.bool ba, .pointer pa] 26), ((φ1 1), .cells #[.bool bb, .pointer pb] 26)] [] 1 [] 0 (fun φ10 => [(10, .bool (T.isZero B))]) (fun φ10 => [((φ1 0), .cells #[.bool ba, .pointer pa] 26), ((φ1 1), .cells #[.bool bb, .pointer pb] 26)]) (fun φ10 => []) s trivial (fun φ10 => by kernel_rfl) ?_
    intro φ10 w10 s
    refine ops_done (by kernel_rfl) ?_
    rcases Bool.eq_false_or_eq_true (T.isZero B) with hc11 | hc11
    ·
      rw [hc11]
      refine cond_true_rule (b := true) (by kernel_rfl) rfl ?_
      refine wp_seq ?_
      refine region_rule ?_
      refine ops_rule (C := []) [((φ1 0), .cells #[.bool ba, .pointer pa] 26), ((φ1 1), .cells #[.bool bb, .pointer pb] 26)] [] 1 [] 0 (fun φ12 => [(4, .bool true)]) (fun φ12 => [((φ1 0), .cells #[.bool ba, .pointer pa] 26), ((φ1 1), .cells #[.bool bb, .pointer pb] 26)]) (fun φ12 => []) s trivial (fun φ12 => by kernel_rfl) ?_
      intro φ12 w12 s
      refine ops_done (by kernel_rfl) ?_
      refine wp_ret ?_
      refine ret_rule (C := []) [((φ1 0), .cells #[.bool ba, .pointer pa] 26), ((φ1 1), .cells #[.bool bb, .pointer pb] 26)] [] (.bool true) [] [] s trivial (by kernel_rfl) ?_
      exact ⟨_, _, _, rfl, s, (by simp [hc5, hc11])⟩
    ·
      rw [hc11]
      refine cond_false_rule (b := false) (by kernel_rfl) rfl ?_
      refine wp_skip ?_
      refine wp_seq ?_
      refine wp_seq ?_
      refine region_rule ?_
      refine ops_rule (C := []) [((φ1 0), .cells #[.bool ba, .pointer pa] 26), ((φ1 1), .cells #[.bool bb, .pointer pb] 26)] [] 1 [.o 0, .o 0] 0 (fun φ13 => [(11, .agg #[.bool ba, .pointer pa])]) (fun φ13 => [((φ1 0), .cells #[.bool ba, .pointer pa] 26), ((φ1 1), .cells #[.bool bb, .pointer pb] 26)]) (fun φ13 => [(φ1 0), (φ1 0)]) s trivial (fun φ13 => by kernel_rfl) ?_
      intro φ13 w13 s
      refine call_rule (some 12) s (isZero_c hA) (by kernel_rfl) ?_
      intro v14 I14 w14 le14 h14 s
      replace hA := TRep.mono le14 hA
      replace hB := TRep.mono le14 hB
      obtain rfl := h14
      refine ops_rule (C := []) [((φ1 0), .cells #[.bool ba, .pointer pa] 26), ((φ1 1), .cells #[.bool bb, .pointer pb] 26)] [] 1 [] 0 (fun φ15 => [(13, .bool (T.isZero A))]) (fun φ15 => [((φ1 0), .cells #[.bool ba, .pointer pa] 26), ((φ1 1), .cells #[.bool bb, .pointer pb] 26)]) (fun φ15 => []) s trivial (fun φ15 => by kernel_rfl) ?_
      intro φ15 w15 s
      rcases Bool.eq_false_or_eq_true (T.isZero A) with hc16 | hc16
      ·
        rw [hc16]
        refine ops_rule (C := []) [((φ1 0), .cells #[.bool ba, .pointer pa] 26), ((φ1 1), .cells #[.bool bb, .pointer pb] 26)] [] 3 [] 0 (fun φ17 => [(16, .bool true), (15, undef), (14, undef)]) (fun φ17 => [((φ1 0), .cells #[.bool ba, .pointer pa] 26), ((φ1 1), .cells #[.bool bb, .pointer pb] 26)]) (fun φ17 => []) s trivial (fun φ17 => by kernel_rfl) ?_
        intro φ17 w17 s
        refine ops_done (by kernel_rfl) ?_
        refine cond_true_rule (b := true) (by kernel_rfl) rfl ?_
        refine wp_seq ?_
        refine region_rule ?_
        refine ops_rule (C := []) [((φ1 0), .cells #[.bool ba, .pointer pa] 26), ((φ1 1), .cells #[.bool bb, .pointer pb] 26)] [] 1 [] 0 (fun φ18 => [(4, .bool false)]) (fun φ18 => [((φ1 0), .cells #[.bool ba, .pointer pa] 26), ((φ1 1), .cells #[.bool bb, .pointer pb] 26)]) (fun φ18 => []) s trivial (fun φ18 => by kernel_rfl) ?_
        intro φ18 w18 s
        refine ops_done (by kernel_rfl) ?_
        refine wp_ret ?_
        refine ret_rule (C := []) [((φ1 0), .cells #[.bool ba, .pointer pa] 26), ((φ1 1), .cells #[.bool bb, .pointer pb] 26)] [] (.bool false) [] [] s trivial (by kernel_rfl) ?_
        exact ⟨_, _, _, rfl, s, (by simp [hc5, hc11, hc16])⟩
      ·
        rw [hc16]
        refine ops_rule (C := []) [((φ1 0), .cells #[.bool ba, .pointer pa] 26), ((φ1 1), .cells #[.bool bb, .pointer pb] 26)] [] 1 [.o 1, .o 1] 0 (fun φ19 => [(14, .agg #[.bool bb, .pointer pb])]) (fun φ19 => [((φ1 0), .cells #[.bool ba, .pointer pa] 26), ((φ1 1), .cells #[.bool bb, .pointer pb] 26)]) (fun φ19 => [(φ1 1), (φ1 1)]) s trivial (fun φ19 => by kernel_rfl) ?_
        intro φ19 w19 s
        refine call_rule (some 15) s (isOne_c hB) (by kernel_rfl) ?_
        intro v20 I20 w20 le20 h20 s
        replace hA := TRep.mono le20 hA
        replace hB := TRep.mono le20 hB
        obtain rfl := h20
        refine ops_rule (C := []) [((φ1 0), .cells #[.bool ba, .pointer pa] 26), ((φ1 1), .cells #[.bool bb, .pointer pb] 26)] [] 1 [] 0 (fun φ21 => [(16, .bool (T.isOne B))]) (fun φ21 => [((φ1 0), .cells #[.bool ba, .pointer pa] 26), ((φ1 1), .cells #[.bool bb, .pointer pb] 26)]) (fun φ21 => []) s trivial (fun φ21 => by kernel_rfl) ?_
        intro φ21 w21 s
        refine ops_done (by kernel_rfl) ?_
        rcases Bool.eq_false_or_eq_true (T.isOne B) with hc22 | hc22
        ·
          rw [hc22]
          refine cond_true_rule (b := true) (by kernel_rfl) rfl ?_
          refine wp_seq ?_
          refine region_rule ?_
          refine ops_rule (C := []) [((φ1 0), .cells #[.bool ba, .pointer pa] 26), ((φ1 1), .cells #[.bool bb, .pointer pb] 26)] [] 1 [] 0 (fun φ23 => [(4, .bool false)]) (fun φ23 => [((φ1 0), .cells #[.bool ba, .pointer pa] 26), ((φ1 1), .cells #[.bool bb, .pointer pb] 26)]) (fun φ23 => []) s trivial (fun φ23 => by kernel_rfl) ?_
          intro φ23 w23 s
          refine ops_done (by kernel_rfl) ?_
          refine wp_ret ?_
          refine ret_rule (C := []) [((φ1 0), .cells #[.bool ba, .pointer pa] 26), ((φ1 1), .cells #[.bool bb, .pointer pb] 26)] [] (.bool false) [] [] s trivial (by kernel_rfl) ?_
          exact ⟨_, _, _, rfl, s, (by simp [hc5, hc11, hc16, hc22])⟩
        ·
          rw [hc22]
          refine cond_false_rule (b := false) (by kernel_rfl) rfl ?_
          refine wp_skip ?_
          refine wp_seq ?_
          rcases Bool.eq_false_or_eq_true (cl) with hc24 | hc24
          ·
            refine draw_rule (C := []) ⟨(fun φ25 xs25 => [.look 0 [.o 0, .o 0] [(φ1 0), (φ1 0)], .call 42 #[.agg #[.bool ba, .pointer pa]], .look 0 [.o 1, .o 1] [(φ1 1), (φ1 1)], .call 42 #[.agg #[.bool bb, .pointer pb]], .call 36 #[.agg #[.bool ((xs25 1).b 0), .pointer ((xs25 1).p 0)], .agg #[.bool ((xs25 3).b 0), .pointer ((xs25 3).p 0)]], .look 0 [] [], .look 0 [.o 0, .o 0] [(φ1 0), (φ1 0)], .call 43 #[.agg #[.bool ba, .pointer pa]], .look 0 [.o 1, .o 1] [(φ1 1), (φ1 1)], .call 43 #[.agg #[.bool bb, .pointer pb]], .call 36 #[.agg #[.bool ((xs25 7).b 0), .pointer ((xs25 7).p 0)], .agg #[.bool ((xs25 9).b 0), .pointer ((xs25 9).p 0)]], .look 0 [] [], .look 0 [] []]), (fun φ25 xs25 => [.agg #[.bool ba, .pointer pa], .agg #[.bool ((xs25 1).b 0), .pointer ((xs25 1).p 0)], .agg #[.bool bb, .pointer pb], .agg #[.bool ((xs25 3).b 0), .pointer ((xs25 3).p 0)], .bool true, .bool true, .agg #[.bool ba, .pointer pa], .agg #[.bool ((xs25 7).b 0), .pointer ((xs25 7).p 0)], .agg #[.bool bb, .pointer pb], .agg #[.bool ((xs25 9).b 0), .pointer ((xs25 9).p 0)], .bool cr, .bool cr, .bool cr]), (fun φ25 xs25 => [[((φ1 0), .cells #[.bool ba, .pointer pa] 26), ((φ1 1), .cells #[.bool bb, .pointer pb] 26)]]), (fun φ25 xs25 => [[default, default, default, default, default, default, default, default, default, default, default, default, default]]), [], [1, 3, 1, 3, 3, 1, 1, 3, 1, 3, 3, 1, 1]⟩ (fun j => ([MP.any, ⟨fun x J => TRep J (T.left A) (x.b 0) (x.p 0), fun le h => TRep.mono le h⟩, MP.any, ⟨fun x J => TRep J (T.left B) (x.b 0) (x.p 0), fun le h => TRep.mono le h⟩, MP.any, MP.any, MP.any, ⟨fun x J => TRep J (T.right A) (x.b 0) (x.p 0), fun le h => TRep.mono le h⟩, MP.any, ⟨fun x J => TRep J (T.right B) (x.b 0) (x.p 0), fun le h => TRep.mono le h⟩, MP.any, MP.any, MP.any] : List MP).getD j MP.any) [1, 3, 4, 7, 9, 10] [] [] (fun φ25 xs25 => []) (fun φ25 xs25 => [(17, .agg #[.bool ba, .pointer pa]), (18, .agg #[.bool ((xs25 1).b 0), .pointer ((xs25 1).p 0)]), (19, .agg #[.bool bb, .pointer pb]), (20, .agg #[.bool ((xs25 3).b 0), .pointer ((xs25 3).p 0)]), (21, .bool true), (22, .bool true), (23, .agg #[.bool ba, .pointer pa]), (24, .agg #[.bool ((xs25 7).b 0), .pointer ((xs25 7).p 0)]), (25, .agg #[.bool bb, .pointer pb]), (26, .agg #[.bool ((xs25 9).b 0), .pointer ((xs25 9).p 0)]), (27, .bool cr), (28, .bool cr), (4, .bool cr)]) (fun φ25 xs25 => [((φ1 0), .cells #[.bool ba, .pointer pa] 26), ((φ1 1), .cells #[.bool bb, .pointer pb] 26)]) s trivial (by kernel_rfl) (by kernel_rfl) (fun _ _ => by kernel_rfl) (fun _ _ => by kernel_rfl) ⟨fun _ _ => by kernel_rfl, fun _ _ => by kernel_rfl, fun _ _ => by kernel_rfl, fun _ _ => by kernel_rfl⟩ (fun _ _ _ => by kernel_rfl) (fun _ _ => by kernel_rfl) (fun _ _ => by kernel_rfl) (fun _ _ => by kernel_rfl) (fun _ _ => by kernel_rfl) (fun _ _ => by kernel_rfl) trivial trivial (by kernel_rfl) ⟨?c25_1, ?c25_3, ?c25_4, ?c25_7, ?c25_9, ?c25_10, trivial⟩ ?k25
            case c25_1 =>
              refine kcast (A := ∀ (φ25 : Nat → Nat) (xs25 : Xs) (J1_25 : IM), I20.Le J1_25 → Fun Try.prog 42 #[.agg #[.bool ba, .pointer pa]] J1_25 (fun v J' => ∃ x : UX, v = .agg #[.bool (x.b 0), .pointer (x.p 0)] ∧ (TRep J' (T.left A) (x.b 0) (x.p 0)))) (by kernel_rfl) ?_
              intro φ25 xs25 J1_25 leJ
              have hA := TRep.mono leJ hA
              exact Fun.mono (tleft_c hA) (fun v J' _ ⟨y0, y1, hv, g0⟩ => ⟨{ UX.d with b := fun j => y0, p := fun j => y1 }, hv, g0⟩)
            case c25_3 =>
              refine kcast (A := ∀ (φ25 : Nat → Nat) (xs25 : Xs) (J3_25 : IM), I20.Le J3_25 → (TRep J3_25 (T.left A) ((xs25 1).b 0) ((xs25 1).p 0)) → Fun Try.prog 42 #[.agg #[.bool bb, .pointer pb]] J3_25 (fun v J' => ∃ x : UX, v = .agg #[.bool (x.b 0), .pointer (x.p 0)] ∧ (TRep J' (T.left B) (x.b 0) (x.p 0)))) (by kernel_rfl) ?_
              intro φ25 xs25 J3_25 leJ
              rintro h25_1_0
              have hB := TRep.mono leJ hB
              exact Fun.mono (tleft_c hB) (fun v J' _ ⟨y0, y1, hv, g0⟩ => ⟨{ UX.d with b := fun j => y0, p := fun j => y1 }, hv, g0⟩)
            case c25_4 =>
              refine kcast (A := ∀ (φ25 : Nat → Nat) (xs25 : Xs) (J4_25 : IM), I20.Le J4_25 → (TRep J4_25 (T.left A) ((xs25 1).b 0) ((xs25 1).p 0)) → (TRep J4_25 (T.left B) ((xs25 3).b 0) ((xs25 3).p 0)) → Fun Try.prog 36 #[.agg #[.bool ((xs25 1).b 0), .pointer ((xs25 1).p 0)], .agg #[.bool ((xs25 3).b 0), .pointer ((xs25 3).p 0)]] J4_25 (fun v J' => ∃ x : UX, v = .bool true ∧ (True))) (by kernel_rfl) ?_
              intro φ25 xs25 J4_25 leJ
              rintro h25_1_0 h25_3_0
              exact Fun.mono (ihl hc5 hc11 hc16 hc22 h25_1_0 h25_3_0) (fun v J' _ h => ⟨UX.d, h.trans (congrArg Value.bool hc24), trivial⟩)
            case c25_7 =>
              refine kcast (A := ∀ (φ25 : Nat → Nat) (xs25 : Xs) (J7_25 : IM), I20.Le J7_25 → (TRep J7_25 (T.left A) ((xs25 1).b 0) ((xs25 1).p 0)) → (TRep J7_25 (T.left B) ((xs25 3).b 0) ((xs25 3).p 0)) → (True) → Fun Try.prog 43 #[.agg #[.bool ba, .pointer pa]] J7_25 (fun v J' => ∃ x : UX, v = .agg #[.bool (x.b 0), .pointer (x.p 0)] ∧ (TRep J' (T.right A) (x.b 0) (x.p 0)))) (by kernel_rfl) ?_
              intro φ25 xs25 J7_25 leJ
              rintro h25_1_0 h25_3_0 _
              have hA := TRep.mono leJ hA
              exact Fun.mono (tright_c hA) (fun v J' _ ⟨y0, y1, hv, g0⟩ => ⟨{ UX.d with b := fun j => y0, p := fun j => y1 }, hv, g0⟩)
            case c25_9 =>
              refine kcast (A := ∀ (φ25 : Nat → Nat) (xs25 : Xs) (J9_25 : IM), I20.Le J9_25 → (TRep J9_25 (T.left A) ((xs25 1).b 0) ((xs25 1).p 0)) → (TRep J9_25 (T.left B) ((xs25 3).b 0) ((xs25 3).p 0)) → (True) → (TRep J9_25 (T.right A) ((xs25 7).b 0) ((xs25 7).p 0)) → Fun Try.prog 43 #[.agg #[.bool bb, .pointer pb]] J9_25 (fun v J' => ∃ x : UX, v = .agg #[.bool (x.b 0), .pointer (x.p 0)] ∧ (TRep J' (T.right B) (x.b 0) (x.p 0)))) (by kernel_rfl) ?_
              intro φ25 xs25 J9_25 leJ
              rintro h25_1_0 h25_3_0 _ h25_7_0
              have hB := TRep.mono leJ hB
              exact Fun.mono (tright_c hB) (fun v J' _ ⟨y0, y1, hv, g0⟩ => ⟨{ UX.d with b := fun j => y0, p := fun j => y1 }, hv, g0⟩)
            case c25_10 =>
              refine kcast (A := ∀ (φ25 : Nat → Nat) (xs25 : Xs) (J10_25 : IM), I20.Le J10_25 → (TRep J10_25 (T.left A) ((xs25 1).b 0) ((xs25 1).p 0)) → (TRep J10_25 (T.left B) ((xs25 3).b 0) ((xs25 3).p 0)) → (True) → (TRep J10_25 (T.right A) ((xs25 7).b 0) ((xs25 7).p 0)) → (TRep J10_25 (T.right B) ((xs25 9).b 0) ((xs25 9).p 0)) → Fun Try.prog 36 #[.agg #[.bool ((xs25 7).b 0), .pointer ((xs25 7).p 0)], .agg #[.bool ((xs25 9).b 0), .pointer ((xs25 9).p 0)]] J10_25 (fun v J' => ∃ x : UX, v = .bool cr ∧ (True))) (by kernel_rfl) ?_
              intro φ25 xs25 J10_25 leJ
              rintro h25_1_0 h25_3_0 _ h25_7_0 h25_9_0
              exact Fun.mono (ihr hc5 hc11 hc16 hc22 h25_7_0 h25_9_0) (fun v J' _ h => ⟨UX.d, h, trivial⟩)
            case k25 =>
              rintro φ25 xs25 I25 w25 le25 s h25_1_0 h25_3_0 _ h25_7_0 h25_9_0 _
              replace hA := TRep.mono le25 hA
              replace hB := TRep.mono le25 hB
              refine wp_ret ?_
              refine ret_rule (C := []) [((φ1 0), .cells #[.bool ba, .pointer pa] 26), ((φ1 1), .cells #[.bool bb, .pointer pb] 26)] [] (.bool cr) [] [] s trivial (by kernel_rfl) ?_
              exact ⟨_, _, _, rfl, s, (by simp [hc5, hc11, hc16, hc22, hc24])⟩
          ·
            refine draw_rule (C := []) ⟨(fun φ26 xs26 => [.look 0 [.o 0, .o 0] [(φ1 0), (φ1 0)], .call 42 #[.agg #[.bool ba, .pointer pa]], .look 0 [.o 1, .o 1] [(φ1 1), (φ1 1)], .call 42 #[.agg #[.bool bb, .pointer pb]], .call 36 #[.agg #[.bool ((xs26 1).b 0), .pointer ((xs26 1).p 0)], .agg #[.bool ((xs26 3).b 0), .pointer ((xs26 3).p 0)]], .look 0 [] [], .skip, .skip, .skip, .skip, .skip, .look 0 [] [], .look 0 [] []]), (fun φ26 xs26 => [.agg #[.bool ba, .pointer pa], .agg #[.bool ((xs26 1).b 0), .pointer ((xs26 1).p 0)], .agg #[.bool bb, .pointer pb], .agg #[.bool ((xs26 3).b 0), .pointer ((xs26 3).p 0)], .bool false, .bool false, undef, undef, undef, undef, undef, .bool false, .bool false]), (fun φ26 xs26 => [[((φ1 0), .cells #[.bool ba, .pointer pa] 26), ((φ1 1), .cells #[.bool bb, .pointer pb] 26)]]), (fun φ26 xs26 => [[default, default, default, default, default, default, default, default, default, default, default, default, default]]), [], [1, 3, 1, 3, 3, 1, 0, 0, 0, 0, 0, 1, 1]⟩ (fun j => ([MP.any, ⟨fun x J => TRep J (T.left A) (x.b 0) (x.p 0), fun le h => TRep.mono le h⟩, MP.any, ⟨fun x J => TRep J (T.left B) (x.b 0) (x.p 0), fun le h => TRep.mono le h⟩, MP.any, MP.any, MP.any, MP.any, MP.any, MP.any, MP.any, MP.any, MP.any] : List MP).getD j MP.any) [1, 3, 4] [] [] (fun φ26 xs26 => []) (fun φ26 xs26 => [(17, .agg #[.bool ba, .pointer pa]), (18, .agg #[.bool ((xs26 1).b 0), .pointer ((xs26 1).p 0)]), (19, .agg #[.bool bb, .pointer pb]), (20, .agg #[.bool ((xs26 3).b 0), .pointer ((xs26 3).p 0)]), (21, .bool false), (22, .bool false), (23, undef), (24, undef), (25, undef), (26, undef), (27, undef), (28, .bool false), (4, .bool false)]) (fun φ26 xs26 => [((φ1 0), .cells #[.bool ba, .pointer pa] 26), ((φ1 1), .cells #[.bool bb, .pointer pb] 26)]) s trivial (by kernel_rfl) (by kernel_rfl) (fun _ _ => by kernel_rfl) (fun _ _ => by kernel_rfl) ⟨fun _ _ => by kernel_rfl, fun _ _ => by kernel_rfl, fun _ _ => by kernel_rfl, fun _ _ => by kernel_rfl⟩ (fun _ _ _ => by kernel_rfl) (fun _ _ => by kernel_rfl) (fun _ _ => by kernel_rfl) (fun _ _ => by kernel_rfl) (fun _ _ => by kernel_rfl) (fun _ _ => by kernel_rfl) trivial trivial (by kernel_rfl) ⟨?c26_1, ?c26_3, ?c26_4, trivial⟩ ?k26
            case c26_1 =>
              refine kcast (A := ∀ (φ26 : Nat → Nat) (xs26 : Xs) (J1_26 : IM), I20.Le J1_26 → Fun Try.prog 42 #[.agg #[.bool ba, .pointer pa]] J1_26 (fun v J' => ∃ x : UX, v = .agg #[.bool (x.b 0), .pointer (x.p 0)] ∧ (TRep J' (T.left A) (x.b 0) (x.p 0)))) (by kernel_rfl) ?_
              intro φ26 xs26 J1_26 leJ
              have hA := TRep.mono leJ hA
              exact Fun.mono (tleft_c hA) (fun v J' _ ⟨y0, y1, hv, g0⟩ => ⟨{ UX.d with b := fun j => y0, p := fun j => y1 }, hv, g0⟩)
            case c26_3 =>
              refine kcast (A := ∀ (φ26 : Nat → Nat) (xs26 : Xs) (J3_26 : IM), I20.Le J3_26 → (TRep J3_26 (T.left A) ((xs26 1).b 0) ((xs26 1).p 0)) → Fun Try.prog 42 #[.agg #[.bool bb, .pointer pb]] J3_26 (fun v J' => ∃ x : UX, v = .agg #[.bool (x.b 0), .pointer (x.p 0)] ∧ (TRep J' (T.left B) (x.b 0) (x.p 0)))) (by kernel_rfl) ?_
              intro φ26 xs26 J3_26 leJ
              rintro h26_1_0
              have hB := TRep.mono leJ hB
              exact Fun.mono (tleft_c hB) (fun v J' _ ⟨y0, y1, hv, g0⟩ => ⟨{ UX.d with b := fun j => y0, p := fun j => y1 }, hv, g0⟩)
            case c26_4 =>
              refine kcast (A := ∀ (φ26 : Nat → Nat) (xs26 : Xs) (J4_26 : IM), I20.Le J4_26 → (TRep J4_26 (T.left A) ((xs26 1).b 0) ((xs26 1).p 0)) → (TRep J4_26 (T.left B) ((xs26 3).b 0) ((xs26 3).p 0)) → Fun Try.prog 36 #[.agg #[.bool ((xs26 1).b 0), .pointer ((xs26 1).p 0)], .agg #[.bool ((xs26 3).b 0), .pointer ((xs26 3).p 0)]] J4_26 (fun v J' => ∃ x : UX, v = .bool false ∧ (True))) (by kernel_rfl) ?_
              intro φ26 xs26 J4_26 leJ
              rintro h26_1_0 h26_3_0
              exact Fun.mono (ihl hc5 hc11 hc16 hc22 h26_1_0 h26_3_0) (fun v J' _ h => ⟨UX.d, h.trans (congrArg Value.bool hc24), trivial⟩)
            case k26 =>
              rintro φ26 xs26 I26 w26 le26 s h26_1_0 h26_3_0 _
              replace hA := TRep.mono le26 hA
              replace hB := TRep.mono le26 hB
              refine wp_ret ?_
              refine ret_rule (C := []) [((φ1 0), .cells #[.bool ba, .pointer pa] 26), ((φ1 1), .cells #[.bool bb, .pointer pb] 26)] [] (.bool false) [] [] s trivial (by kernel_rfl) ?_
              exact ⟨_, _, _, rfl, s, (by simp [hc5, hc11, hc16, hc22, hc24])⟩

theorem covers_c : ∀ (A B : T) {I : IM} {ba bb : Bool} {pa pb : Option Addr}, TRep I A ba pa → TRep I B bb pb → Fun Try.prog 36 #[idv ba pa, idv bb pb] I (fun v _ => v = .bool (coverT A B))
  | .zero, B, _, _, _, _, _, hA, hB => (by cases B <;> simpa [coverT, T.isZero, T.isOne] using covers_step hA hB false false (by simp [T.isZero, T.isOne]) (by simp [T.isZero, T.isOne]))
  | .one, B, _, _, _, _, _, hA, hB => (by cases B <;> simpa [coverT, T.isZero, T.isOne] using covers_step hA hB false false (by simp [T.isZero, T.isOne]) (by simp [T.isZero, T.isOne]))
  | .node l r, .zero, _, _, _, _, _, hA, hB => (by simpa [coverT, T.isZero, T.isOne] using covers_step hA hB false false (by simp [T.isZero, T.isOne]) (by simp [T.isZero, T.isOne]))
  | .node l r, .one, _, _, _, _, _, hA, hB => (by simpa [coverT, T.isZero, T.isOne] using covers_step hA hB false false (by simp [T.isZero, T.isOne]) (by simp [T.isZero, T.isOne]))
  | .node l r, .node l' r', _, _, _, _, _, hA, hB => by
    have := covers_step hA hB (coverT l l') (coverT r r') (fun _ _ _ _ {J} {b1} {b2} {p1} {p2} k1 k2 => covers_c l l' k1 k2) (fun _ _ _ _ {J} {b1} {b2} {p1} {p2} k1 k2 => covers_c r r' k1 k2)
    simpa [coverT, T.isZero, T.isOne] using this

set_option maxHeartbeats 1000000 in
theorem idsame_c {I : IM} {A B : T} {ba bb : Bool} {pa pb : Option Addr} (hA : TRep I A ba pa) (hB : TRep I B bb pb) : Fun Try.prog 14 #[idv ba pa, idv bb pb] I (fun v J => v = .bool (coverT A B && coverT B A)) := by
  refine enter_rule 13 [(0, .agg #[.bool ba, .pointer pa]), (1, .agg #[.bool bb, .pointer pb])] Try.func14 rfl (by kernel_rfl) ?_
  intro w s
  refine wp_seq ?_
  refine region_rule ?_
  refine ops_rule (C := []) [] [] 3 [] 2 (fun φ1 => [(4, .bool false), (3, .pointer (some ⟨(φ1 1), 0, none⟩)), (2, .pointer (some ⟨(φ1 0), 0, none⟩))]) (fun φ1 => [((φ1 0), .cells #[.bool ba, .pointer pa] 26), ((φ1 1), .cells #[.bool bb, .pointer pb] 26)]) (fun φ1 => []) s trivial (fun φ1 => by kernel_rfl) ?_
  intro φ1 w1 s
  refine ops_done (by kernel_rfl) ?_
  refine wp_seq ?_
  refine region_rule ?_
  refine ops_rule (C := []) [((φ1 0), .cells #[.bool ba, .pointer pa] 26), ((φ1 1), .cells #[.bool bb, .pointer pb] 26)] [] 2 [.o 0, .o 0, .o 1, .o 1] 0 (fun φ2 => [(6, .agg #[.bool bb, .pointer pb]), (5, .agg #[.bool ba, .pointer pa])]) (fun φ2 => [((φ1 0), .cells #[.bool ba, .pointer pa] 26), ((φ1 1), .cells #[.bool bb, .pointer pb] 26)]) (fun φ2 => [(φ1 0), (φ1 0), (φ1 1), (φ1 1)]) s trivial (fun φ2 => by kernel_rfl) ?_
  intro φ2 w2 s
  refine call_rule (some 7) s (covers_c A B hA hB) (by kernel_rfl) ?_
  intro v3 I3 w3 le3 h3 s
  replace hA := TRep.mono le3 hA
  replace hB := TRep.mono le3 hB
  obtain rfl := h3
  refine ops_rule (C := []) [((φ1 0), .cells #[.bool ba, .pointer pa] 26), ((φ1 1), .cells #[.bool bb, .pointer pb] 26)] [] 1 [] 0 (fun φ4 => [(8, .bool (coverT A B))]) (fun φ4 => [((φ1 0), .cells #[.bool ba, .pointer pa] 26), ((φ1 1), .cells #[.bool bb, .pointer pb] 26)]) (fun φ4 => []) s trivial (fun φ4 => by kernel_rfl) ?_
  intro φ4 w4 s
  rcases Bool.eq_false_or_eq_true (coverT A B) with hc5 | hc5
  ·
    rw [hc5]
    refine ops_rule (C := []) [((φ1 0), .cells #[.bool ba, .pointer pa] 26), ((φ1 1), .cells #[.bool bb, .pointer pb] 26)] [] 2 [.o 1, .o 1, .o 0, .o 0] 0 (fun φ6 => [(10, .agg #[.bool ba, .pointer pa]), (9, .agg #[.bool bb, .pointer pb])]) (fun φ6 => [((φ1 0), .cells #[.bool ba, .pointer pa] 26), ((φ1 1), .cells #[.bool bb, .pointer pb] 26)]) (fun φ6 => [(φ1 1), (φ1 1), (φ1 0), (φ1 0)]) s trivial (fun φ6 => by kernel_rfl) ?_
    intro φ6 w6 s
    refine call_rule (some 11) s (covers_c B A hB hA) (by kernel_rfl) ?_
    intro v7 I7 w7 le7 h7 s
    replace hA := TRep.mono le7 hA
    replace hB := TRep.mono le7 hB
    obtain rfl := h7
    refine ops_rule (C := []) [((φ1 0), .cells #[.bool ba, .pointer pa] 26), ((φ1 1), .cells #[.bool bb, .pointer pb] 26)] [] 2 [] 0 (fun φ8 => [(4, .bool (coverT B A)), (12, .bool (coverT B A))]) (fun φ8 => [((φ1 0), .cells #[.bool ba, .pointer pa] 26), ((φ1 1), .cells #[.bool bb, .pointer pb] 26)]) (fun φ8 => []) s trivial (fun φ8 => by kernel_rfl) ?_
    intro φ8 w8 s
    refine ops_done (by kernel_rfl) ?_
    refine wp_ret ?_
    refine ret_rule (C := []) [((φ1 0), .cells #[.bool ba, .pointer pa] 26), ((φ1 1), .cells #[.bool bb, .pointer pb] 26)] [] (.bool (coverT B A)) [] [] s trivial (by kernel_rfl) ?_
    exact ⟨_, _, _, rfl, s, (by simp [hc5])⟩
  ·
    rw [hc5]
    refine ops_rule (C := []) [((φ1 0), .cells #[.bool ba, .pointer pa] 26), ((φ1 1), .cells #[.bool bb, .pointer pb] 26)] [] 5 [] 0 (fun φ9 => [(4, .bool false), (12, .bool false), (11, undef), (10, undef), (9, undef)]) (fun φ9 => [((φ1 0), .cells #[.bool ba, .pointer pa] 26), ((φ1 1), .cells #[.bool bb, .pointer pb] 26)]) (fun φ9 => []) s trivial (fun φ9 => by kernel_rfl) ?_
    intro φ9 w9 s
    refine ops_done (by kernel_rfl) ?_
    refine wp_ret ?_
    refine ret_rule (C := []) [((φ1 0), .cells #[.bool ba, .pointer pa] 26), ((φ1 1), .cells #[.bool bb, .pointer pb] 26)] [] (.bool false) [] [] s trivial (by kernel_rfl) ?_
    exact ⟨_, _, _, rfl, s, (by simp [hc5])⟩

end Go.Proofs.Ytgdickihjaomjaa.Ev

/- The program's ids: union, Sum, Pair, Text. -/
set_option linter.all false
set_option maxRecDepth 100000
namespace Go.Proofs.Ytgdickihjaomjaa.Ev
open Go.RowKit Go.Sep

def pairT (l r : T) : T × Nat := if 16 < (T.mk l r).depth then (.zero, 3) else (T.mk l r, 0)

set_option maxHeartbeats 1000000 in
theorem pair_c {I : IM} {l r : T} {bl br : Bool} {pl pr : Option Addr} (hl : TRep I l bl pl) (hr : TRep I r br pr) (hdl : l.depth ≤ 1000) (hdr : r.depth ≤ 1000) : Fun Try.prog 58 #[idv bl pl, idv br pr] I (fun v J => ∃ b p, v = .tuple #[idv b p, .int .i64 (((pairT l r).2 : Nat) : Int)] ∧ TRep J (pairT l r).1 b p) := by
  refine enter_rule 15 [(0, .agg #[.bool bl, .pointer pl]), (1, .agg #[.bool br, .pointer pr])] Try.func58 rfl (by kernel_rfl) ?_
  intro w s
  refine wp_seq ?_
  refine region_rule ?_
  refine ops_rule (C := []) [] [] 4 [] 3 (fun φ1 => [(5, .int .i64 0), (4, .pointer (some ⟨(φ1 2), 0, none⟩)), (3, .pointer (some ⟨(φ1 1), 0, none⟩)), (2, .pointer (some ⟨(φ1 0), 0, none⟩))]) (fun φ1 => [((φ1 0), .cells #[.bool bl, .pointer pl] 26), ((φ1 1), .cells #[.bool br, .pointer pr] 26), ((φ1 2), .cells #[.bool false, .pointer none] 26)]) (fun φ1 => []) s trivial (fun φ1 => by kernel_rfl) ?_
  intro φ1 w1 s
  refine ops_done (by kernel_rfl) ?_
  refine wp_seq ?_
  refine region_rule ?_
  refine ops_rule (C := []) [((φ1 0), .cells #[.bool bl, .pointer pl] 26), ((φ1 1), .cells #[.bool br, .pointer pr] 26), ((φ1 2), .cells #[.bool false, .pointer none] 26)] [] 2 [.o 0, .o 0, .o 1, .o 1] 0 (fun φ2 => [(8, .agg #[.bool br, .pointer pr]), (7, .agg #[.bool bl, .pointer pl])]) (fun φ2 => [((φ1 0), .cells #[.bool bl, .pointer pl] 26), ((φ1 1), .cells #[.bool br, .pointer pr] 26), ((φ1 2), .cells #[.bool false, .pointer none] 26)]) (fun φ2 => [(φ1 0), (φ1 0), (φ1 1), (φ1 1)]) s trivial (fun φ2 => by kernel_rfl) ?_
  intro φ2 w2 s
  refine call_rule (some 9) s (merge_c hl hr (by omega) (by omega)) (by kernel_rfl) ?_
  intro v3 I3 w3 le3 h3 s
  replace hl := TRep.mono le3 hl
  replace hr := TRep.mono le3 hr
  obtain ⟨b3, p3, rfl, h3_0⟩ := h3
  refine ops_rule (C := []) [((φ1 0), .cells #[.bool bl, .pointer pl] 26), ((φ1 1), .cells #[.bool br, .pointer pr] 26), ((φ1 2), .cells #[.bool false, .pointer none] 26)] [] 2 [.o 3, .o 3] 1 (fun φ4 => [(6, .pointer (some ⟨(φ4 0), 0, none⟩))]) (fun φ4 => [((φ1 0), .cells #[.bool bl, .pointer pl] 26), ((φ1 1), .cells #[.bool br, .pointer pr] 26), ((φ1 2), .cells #[.bool false, .pointer none] 26), ((φ4 0), .cells #[.bool b3, .pointer p3] 26)]) (fun φ4 => [(φ4 0), (φ4 0)]) s trivial (fun φ4 => by kernel_rfl) ?_
  intro φ4 w4 s
  refine ops_done (by kernel_rfl) ?_
  refine wp_seq ?_
  refine wp_seq ?_
  refine region_rule ?_
  refine ops_rule (C := []) [((φ1 0), .cells #[.bool bl, .pointer pl] 26), ((φ1 1), .cells #[.bool br, .pointer pr] 26), ((φ1 2), .cells #[.bool false, .pointer none] 26), ((φ4 0), .cells #[.bool b3, .pointer p3] 26)] [] 1 [.o 3, .o 3] 0 (fun φ5 => [(10, .agg #[.bool b3, .pointer p3])]) (fun φ5 => [((φ1 0), .cells #[.bool bl, .pointer pl] 26), ((φ1 1), .cells #[.bool br, .pointer pr] 26), ((φ1 2), .cells #[.bool false, .pointer none] 26), ((φ4 0), .cells #[.bool b3, .pointer p3] 26)]) (fun φ5 => [(φ4 0), (φ4 0)]) s trivial (fun φ5 => by kernel_rfl) ?_
  intro φ5 w5 s
  refine call_rule (some 11) s (tdepth_c h3_0) (by kernel_rfl) ?_
  intro v6 I6 w6 le6 h6 s
  replace hl := TRep.mono le6 hl
  replace hr := TRep.mono le6 hr
  replace h3_0 := TRep.mono le6 h3_0
  obtain rfl := h6
  refine ops_rule (C := []) [((φ1 0), .cells #[.bool bl, .pointer pl] 26), ((φ1 1), .cells #[.bool br, .pointer pr] 26), ((φ1 2), .cells #[.bool false, .pointer none] 26), ((φ4 0), .cells #[.bool b3, .pointer p3] 26)] [] 1 [] 0 (fun φ7 => [(12, .bool (decide (((T.depth (T.mk l r) : Nat) : Int) > ((16 : Nat) : Int))))]) (fun φ7 => [((φ1 0), .cells #[.bool bl, .pointer pl] 26), ((φ1 1), .cells #[.bool br, .pointer pr] 26), ((φ1 2), .cells #[.bool false, .pointer none] 26), ((φ4 0), .cells #[.bool b3, .pointer p3] 26)]) (fun φ7 => []) s trivial (fun φ7 => by kernel_rfl) ?_
  intro φ7 w7 s
  rw [nat_gtr (a := (T.depth (T.mk l r))) (b := 16)]
  refine ops_done (by kernel_rfl) ?_
  rcases Bool.eq_false_or_eq_true (decide (16 < (T.depth (T.mk l r)))) with hc8 | hc8
  ·
    rw [hc8]
    refine cond_true_rule (b := true) (by kernel_rfl) rfl ?_
    refine wp_seq ?_
    refine region_rule ?_
    refine call_rule (some 13) s (tzero_c) (by kernel_rfl) ?_
    intro v9 I9 w9 le9 h9 s
    replace hl := TRep.mono le9 hl
    replace hr := TRep.mono le9 hr
    replace h3_0 := TRep.mono le9 h3_0
    obtain rfl := h9
    refine ops_rule (C := []) [((φ1 0), .cells #[.bool bl, .pointer pl] 26), ((φ1 1), .cells #[.bool br, .pointer pr] 26), ((φ1 2), .cells #[.bool false, .pointer none] 26), ((φ4 0), .cells #[.bool b3, .pointer p3] 26)] [] 2 [.o 2, .o 2] 0 (fun φ10 => [(5, .int .i64 3)]) (fun φ10 => [((φ1 0), .cells #[.bool bl, .pointer pl] 26), ((φ1 1), .cells #[.bool br, .pointer pr] 26), ((φ1 2), .cells #[.bool false, .pointer none] 26), ((φ4 0), .cells #[.bool b3, .pointer p3] 26)]) (fun φ10 => [(φ1 2), (φ1 2)]) s trivial (fun φ10 => by kernel_rfl) ?_
    intro φ10 w10 s
    refine ops_done (by kernel_rfl) ?_
    refine wp_ret ?_
    refine ret_rule (C := []) [((φ1 0), .cells #[.bool bl, .pointer pl] 26), ((φ1 1), .cells #[.bool br, .pointer pr] 26), ((φ1 2), .cells #[.bool false, .pointer none] 26), ((φ4 0), .cells #[.bool b3, .pointer p3] 26)] [] (.tuple #[.agg #[.bool false, .pointer none], .int .i64 3]) [.o 2, .o 2] [(φ1 2), (φ1 2)] s trivial (by kernel_rfl) ?_
    exact ⟨_, _, _, rfl, s, (by rw [pairT, if_pos (of_decide_eq_true hc8)]; exact ⟨_, _, rfl, rfl, rfl⟩)⟩
  ·
    rw [hc8]
    refine cond_false_rule (b := false) (by kernel_rfl) rfl ?_
    refine wp_skip ?_
    refine wp_seq ?_
    refine region_rule ?_
    refine ops_rule (C := []) [((φ1 0), .cells #[.bool bl, .pointer pl] 26), ((φ1 1), .cells #[.bool br, .pointer pr] 26), ((φ1 2), .cells #[.bool false, .pointer none] 26), ((φ4 0), .cells #[.bool b3, .pointer p3] 26)] [] 3 [.o 3, .o 3, .o 2, .o 2] 0 (fun φ11 => [(5, .int .i64 0), (14, .agg #[.bool b3, .pointer p3])]) (fun φ11 => [((φ1 0), .cells #[.bool bl, .pointer pl] 26), ((φ1 1), .cells #[.bool br, .pointer pr] 26), ((φ1 2), .cells #[.bool b3, .pointer p3] 26), ((φ4 0), .cells #[.bool b3, .pointer p3] 26)]) (fun φ11 => [(φ4 0), (φ4 0), (φ1 2), (φ1 2)]) s trivial (fun φ11 => by kernel_rfl) ?_
    intro φ11 w11 s
    refine ops_done (by kernel_rfl) ?_
    refine wp_ret ?_
    refine ret_rule (C := []) [((φ1 0), .cells #[.bool bl, .pointer pl] 26), ((φ1 1), .cells #[.bool br, .pointer pr] 26), ((φ1 2), .cells #[.bool b3, .pointer p3] 26), ((φ4 0), .cells #[.bool b3, .pointer p3] 26)] [] (.tuple #[.agg #[.bool b3, .pointer p3], .int .i64 0]) [.o 2, .o 2] [(φ1 2), (φ1 2)] s trivial (by kernel_rfl) ?_
    exact ⟨_, _, _, rfl, s, (by rw [pairT, if_neg (of_decide_eq_false hc8)]; exact ⟨_, _, rfl, h3_0⟩)⟩

theorem pairOk_c {I : IM} {l r : T} {bl br : Bool} {pl pr : Option Addr} (hl : TRep I l bl pl) (hr : TRep I r br pr) (h : (T.mk l r).depth ≤ 16) (hdl : l.depth ≤ 1000) (hdr : r.depth ≤ 1000) : Fun Try.prog 58 #[idv bl pl, idv br pr] I (fun v J => ∃ b p, v = .tuple #[idv b p, .int .i64 0] ∧ TRep J (T.mk l r) b p) := by
  have h1 := pair_c hl hr hdl hdr
  rw [pairT, if_neg (by omega)] at h1; exact h1

end Go.Proofs.Ytgdickihjaomjaa.Ev

/- The limits of stamps. -/
set_option linter.all false
set_option maxRecDepth 100000
namespace Go.Proofs.Ytgdickihjaomjaa.Ev
open Go.RowKit Go.Sep

/-- An id with one part alone, so deep. -/
def Spine : Nat → T → Prop
  | 0, i => i = .one
  | k + 1, i => ∃ s, Spine k s ∧ (i = .node s .zero ∨ i = .node .zero s)
theorem Spine.nz : ∀ {k : Nat} {i : T}, Spine k i → i.isZero = false
  | 0, _, h => by rw [show _ = _ from h]; rfl
  | k + 1, _, ⟨s, hs, h⟩ => by rcases h with rfl | rfl <;> rfl
theorem Spine.depth : ∀ {k : Nat} {i : T}, Spine k i → i.depth = k
  | 0, _, h => by rw [show _ = _ from h]; rfl
  | k + 1, _, ⟨s, hs, h⟩ => by
    have := hs.depth
    rcases h with rfl | rfl
    · show 1 + max s.depth 0 = k + 1; omega
    · show 1 + max 0 s.depth = k + 1; omega
theorem mk_left {s : T} (h : s.isZero = false) : T.mk s .zero = .node s .zero := by cases s <;> simp_all [T.isZero, T.mk]
theorem mk_right {s : T} (h : s.isZero = false) : T.mk .zero s = .node .zero s := by cases s <;> simp_all [T.isZero, T.mk]
theorem Spine.cut : ∀ {k : Nat} {i : T}, Spine k i → Spine (k + 1) (cutT i).1 ∧ Spine (k + 1) (cutT i).2
  | 0, _, h => by
    rw [show _ = _ from h]
    exact ⟨⟨.one, rfl, .inl rfl⟩, ⟨.one, rfl, .inr rfl⟩⟩
  | k + 1, _, ⟨s, hs, h⟩ => by
    have ih := hs.cut
    have hz := hs.nz
    rcases h with rfl | rfl
    · have : cutT (.node s .zero) = (T.mk (cutT s).1 .zero, T.mk (cutT s).2 .zero) := by
        rw [cutT, if_neg (by rw [hz]; simp), if_pos (show T.zero.isZero = true from rfl)]
      rw [this, mk_left ih.1.nz, mk_left ih.2.nz]
      exact ⟨⟨_, ih.1, .inl rfl⟩, ⟨_, ih.2, .inl rfl⟩⟩
    · have : cutT (.node .zero s) = (T.mk .zero (cutT s).1, T.mk .zero (cutT s).2) := by
        rw [cutT, if_pos (show T.zero.isZero = true from rfl)]
      rw [this, mk_right ih.1.nz, mk_right ih.2.nz]
      exact ⟨⟨_, ih.1, .inr rfl⟩, ⟨_, ih.2, .inr rfl⟩⟩
end Go.Proofs.Ytgdickihjaomjaa.Ev

/- The document's trees, and their texts. -/
set_option linter.all false
set_option maxRecDepth 100000
namespace Go.Proofs.Ytgdickihjaomjaa.Ev
open Go.RowKit Go.Sep

def RT (I : IM) : T → Nat → Prop
  | .zero, k => I k = some (.cells #[.int .i64 0, .pointer none, .pointer none] 73)
  | .one, k => I k = some (.cells #[.int .i64 1, .pointer none, .pointer none] 73)
  | .node l r, k => ∃ kl kr, I k = some (.cells #[.int .i64 2, .pointer (some ⟨kl, 0, none⟩), .pointer (some ⟨kr, 0, none⟩)] 73) ∧ RT I l kl ∧ RT I r kr
def RE (I : IM) : E → Nat → Prop
  | .leaf n, k => I k = some (.cells #[.int .u64 ((n : Nat) : Int), .pointer none, .pointer none] 86)
  | .node n l r, k => ∃ kl kr, I k = some (.cells #[.int .u64 ((n : Nat) : Int), .pointer (some ⟨kl, 0, none⟩), .pointer (some ⟨kr, 0, none⟩)] 86) ∧ RE I l kl ∧ RE I r kr
theorem RT.mono {I J : IM} (le : I.Le J) : ∀ {t : T} {k : Nat}, RT I t k → RT J t k
  | .zero, _, h => le _ _ h
  | .one, _, h => le _ _ h
  | .node _ _, _, ⟨kl, kr, h, hl, hr⟩ => ⟨kl, kr, le _ _ h, hl.mono le, hr.mono le⟩
theorem RE.mono {I J : IM} (le : I.Le J) : ∀ {e : E} {k : Nat}, RE I e k → RE J e k
  | .leaf _, _, h => le _ _ h
  | .node _ _ _, _, ⟨kl, kr, h, hl, hr⟩ => ⟨kl, kr, le _ _ h, hl.mono le, hr.mono le⟩
end Go.Proofs.Ytgdickihjaomjaa.Ev

/- The document's ids. -/
set_option linter.all false
set_option maxRecDepth 100000
namespace Go.Proofs.Ytgdickihjaomjaa.Ev
open Go.RowKit Go.Sep

def kindT : T → Nat
  | .zero => 0
  | .one => 1
  | .node _ _ => 2
theorem RT.peek {I : IM} {t : T} {k : Nat} (h : RT I t k) : ∃ pl pr, I k = some (.cells #[.int .i64 ((kindT t : Nat) : Int), .pointer pl, .pointer pr] 73) := by
  cases t with
  | zero => exact ⟨_, _, h⟩
  | one => exact ⟨_, _, h⟩
  | node l r => obtain ⟨kl, kr, h, _, _⟩ := h; exact ⟨_, _, h⟩
theorem mk_same {l r : T} (h : kindT l = kindT r) (h2 : kindT l < 2) : T.mk l r = l := by
  cases l <;> cases r <;> simp_all [kindT, T.mk]
theorem mk_apart {l r : T} (h : kindT l ≠ kindT r) : T.mk l r = .node l r := by
  cases l <;> cases r <;> simp_all [kindT, T.mk]
theorem mk_deep {l r : T} (h : ¬ kindT l < 2) : T.mk l r = .node l r := by
  cases l <;> cases r <;> simp_all [kindT, T.mk]
set_option maxHeartbeats 400000 in
theorem rzero_c {I : IM} : Fun Try.prog 37 #[] I (fun v J => ∃ k, v = .pointer (some ⟨k, 0, none⟩) ∧ RT J T.zero k) := by
  refine enter_rule 3 [] Try.func37 rfl (by kernel_rfl) ?_
  intro w s
  refine wp_seq ?_
  refine region_rule ?_
  refine ops_rule (C := []) [] [] 1 [] 0 (fun φ1 => [(0, .pointer none)]) (fun φ1 => []) (fun φ1 => []) s trivial (fun φ1 => by kernel_rfl) ?_
  intro φ1 w1 s
  refine ops_done (by kernel_rfl) ?_
  refine wp_seq ?_
  refine region_rule ?_
  refine ops_rule (C := []) [] [] 3 [] 1 (fun φ2 => [(0, .pointer (some ⟨(φ2 0), 0, none⟩)), (2, .pointer (some ⟨(φ2 0), 0, none⟩)), (1, .agg #[.int .i64 0, .pointer none, .pointer none])]) (fun φ2 => [((φ2 0), .cells #[.int .i64 0, .pointer none, .pointer none] 73)]) (fun φ2 => []) s trivial (fun φ2 => by kernel_rfl) ?_
  intro φ2 w2 s
  refine ops_done (by kernel_rfl) ?_
  refine wp_ret ?_
  refine ret_rule (C := []) [((φ2 0), .cells #[.int .i64 0, .pointer none, .pointer none] 73)] [] (.pointer (some ⟨(φ2 0), 0, none⟩)) [] [] s trivial (by kernel_rfl) ?_
  obtain ⟨I3, le3, hk3, s⟩ := s.freezeAt 0 (φ2 0) (.cells #[.int .i64 0, .pointer none, .pointer none] 73) [] (by kernel_rfl) (by kernel_rfl)
  exact ⟨_, _, _, rfl, s, ⟨_, rfl, hk3⟩⟩

set_option maxHeartbeats 1000000 in
theorem rpair_c {I : IM} {l r : T} {kl kr : Nat} (hl : RT I l kl) (hr : RT I r kr) : Fun Try.prog 38 #[.pointer (some ⟨kl, 0, none⟩), .pointer (some ⟨kr, 0, none⟩)] I (fun v J => ∃ k, v = .pointer (some ⟨k, 0, none⟩) ∧ RT J (T.mk l r) k) := by
  refine enter_rule 26 [(0, .pointer (some ⟨kl, 0, none⟩)), (1, .pointer (some ⟨kr, 0, none⟩))] Try.func38 rfl (by kernel_rfl) ?_
  intro w s
  refine wp_seq ?_
  refine region_rule ?_
  refine ops_rule (C := []) [] [] 1 [] 0 (fun φ1 => [(4, .pointer none)]) (fun φ1 => []) (fun φ1 => []) s trivial (fun φ1 => by kernel_rfl) ?_
  intro φ1 w1 s
  refine ops_done (by kernel_rfl) ?_
  refine wp_seq ?_
  refine wp_seq ?_
  rcases Bool.eq_false_or_eq_true (decide ((kindT l) = (kindT r))) with hc4 | hc4
  ·
    obtain ⟨pl5, pr5, hp5⟩ := RT.peek hl
    obtain ⟨pl6, pr6, hp6⟩ := RT.peek hr
    refine draw_rule (C := [(kl, .cells #[.int .i64 ((kindT l : Nat) : Int), .pointer pl5, .pointer pr5] 73), (kr, .cells #[.int .i64 ((kindT r : Nat) : Int), .pointer pl6, .pointer pr6] 73)]) ⟨(fun φ5 xs5 => [.look 0 [] [], .look 0 [] [], .look 0 [] [], .look 0 [.c 0] [kl], .look 0 [] [], .look 0 [] [], .look 0 [] [], .look 0 [.c 1] [kr], .sub 0 [] [] (.bool (((kindT l : Nat) : Int) == ((kindT r : Nat) : Int))), .look 0 [] [], .look 0 [] [], .look 0 [] [], .look 0 [] [], .look 0 [.c 0] [kl], .sub 0 [] [] (.bool (decide (((kindT l : Nat) : Int) < ((2 : Nat) : Int)))), .look 0 [] []]), (fun φ5 xs5 => [.pointer (some ⟨kl, 0, none⟩), .pointer (some ⟨kl, 0, none⟩), .pointer (some ⟨kl, 0, none⟩), .int .i64 ((kindT l : Nat) : Int), .pointer (some ⟨kr, 0, none⟩), .pointer (some ⟨kr, 0, none⟩), .pointer (some ⟨kr, 0, none⟩), .int .i64 ((kindT r : Nat) : Int), .bool true, .bool true, .pointer (some ⟨kl, 0, none⟩), .pointer (some ⟨kl, 0, none⟩), .pointer (some ⟨kl, 0, none⟩), .int .i64 ((kindT l : Nat) : Int), .bool (decide ((kindT l) < 2)), .bool (decide ((kindT l) < 2))]), (fun φ5 xs5 => [[]]), (fun φ5 xs5 => [[default, default, default, default, default, default, default, default, default, default, default, default, default, default, default, default]]), [], [1, 1, 1, 1, 1, 1, 1, 1, 5, 1, 1, 1, 1, 1, 5, 1]⟩ (fun j => ([MP.any, MP.any, MP.any, MP.any, MP.any, MP.any, MP.any, MP.any, MP.any, MP.any, MP.any, MP.any, MP.any, MP.any, MP.any, MP.any] : List MP).getD j MP.any) [] [8, 14] [] (fun φ5 xs5 => []) (fun φ5 xs5 => [(5, .pointer (some ⟨kl, 0, none⟩)), (6, .pointer (some ⟨kl, 0, none⟩)), (7, .pointer (some ⟨kl, 0, none⟩)), (8, .int .i64 ((kindT l : Nat) : Int)), (9, .pointer (some ⟨kr, 0, none⟩)), (10, .pointer (some ⟨kr, 0, none⟩)), (11, .pointer (some ⟨kr, 0, none⟩)), (12, .int .i64 ((kindT r : Nat) : Int)), (13, .bool true), (14, .bool true), (15, .pointer (some ⟨kl, 0, none⟩)), (16, .pointer (some ⟨kl, 0, none⟩)), (17, .pointer (some ⟨kl, 0, none⟩)), (18, .int .i64 ((kindT l : Nat) : Int)), (19, .bool (decide ((kindT l) < 2))), (20, .bool (decide ((kindT l) < 2)))]) (fun φ5 xs5 => []) s ⟨hp5, ⟨hp6, trivial⟩⟩ (by kernel_rfl) (by kernel_rfl) (fun _ _ => by kernel_rfl) (fun _ _ => by kernel_rfl) ⟨fun _ _ => by kernel_rfl, fun _ _ => by kernel_rfl, fun _ _ => by kernel_rfl, fun _ _ => by kernel_rfl⟩ (fun _ _ _ => by kernel_rfl) (fun _ _ => by kernel_rfl) (fun _ _ => by kernel_rfl) (fun _ _ => by kernel_rfl) (fun _ _ => by kernel_rfl) (fun _ _ => by kernel_rfl) ⟨kcast (A := ∀ (φ5 : Nat → Nat) (xs5 : Xs), (.bool (((kindT l : Nat) : Int) == ((kindT r : Nat) : Int)) : Value) = .bool true) (by kernel_rfl) (fun φ5 xs5 => congrArg Value.bool ((nat_eql (a := (kindT l)) (b := (kindT r))).trans (hc4))), ⟨kcast (A := ∀ (φ5 : Nat → Nat) (xs5 : Xs), (.bool (decide (((kindT l : Nat) : Int) < ((2 : Nat) : Int))) : Value) = .bool (decide ((kindT l) < 2))) (by kernel_rfl) (fun φ5 xs5 => congrArg Value.bool ((nat_lss (a := (kindT l)) (b := 2)))), trivial⟩⟩ trivial (by kernel_rfl) trivial ?k5
    case k5 =>
      rintro φ5 xs5 I5 w5 le5 s 
      replace hl := RT.mono le5 hl
      replace hr := RT.mono le5 hr
      replace hp5 := le5 _ _ hp5
      replace hp6 := le5 _ _ hp6
      rcases Bool.eq_false_or_eq_true (decide ((kindT l) < 2)) with hc8 | hc8
      ·
        rw [hc8]
        refine cond_true_rule (b := true) (by kernel_rfl) rfl ?_
        refine wp_seq ?_
        refine region_rule ?_
        refine ops_rule (C := []) [] [] 2 [] 0 (fun φ9 => [(4, .pointer (some ⟨kl, 0, none⟩)), (21, .pointer (some ⟨kl, 0, none⟩))]) (fun φ9 => []) (fun φ9 => []) s trivial (fun φ9 => by kernel_rfl) ?_
        intro φ9 w9 s
        refine ops_done (by kernel_rfl) ?_
        refine wp_ret ?_
        refine ret_rule (C := []) [] [] (.pointer (some ⟨kl, 0, none⟩)) [] [] s trivial (by kernel_rfl) ?_
        exact ⟨_, _, _, rfl, s, ⟨_, rfl, by rw [mk_same (of_decide_eq_true hc4) (of_decide_eq_true hc8)]; exact hl⟩⟩
      ·
        rw [hc8]
        refine cond_false_rule (b := false) (by kernel_rfl) rfl ?_
        refine wp_skip ?_
        refine wp_seq ?_
        refine region_rule ?_
        refine ops_rule (C := []) [] [] 5 [] 1 (fun φ10 => [(4, .pointer (some ⟨(φ10 0), 0, none⟩)), (25, .pointer (some ⟨(φ10 0), 0, none⟩)), (24, .agg #[.int .i64 2, .pointer (some ⟨kl, 0, none⟩), .pointer (some ⟨kr, 0, none⟩)]), (23, .pointer (some ⟨kr, 0, none⟩)), (22, .pointer (some ⟨kl, 0, none⟩))]) (fun φ10 => [((φ10 0), .cells #[.int .i64 2, .pointer (some ⟨kl, 0, none⟩), .pointer (some ⟨kr, 0, none⟩)] 73)]) (fun φ10 => []) s trivial (fun φ10 => by kernel_rfl) ?_
        intro φ10 w10 s
        refine ops_done (by kernel_rfl) ?_
        refine wp_ret ?_
        refine ret_rule (C := []) [((φ10 0), .cells #[.int .i64 2, .pointer (some ⟨kl, 0, none⟩), .pointer (some ⟨kr, 0, none⟩)] 73)] [] (.pointer (some ⟨(φ10 0), 0, none⟩)) [] [] s trivial (by kernel_rfl) ?_
        obtain ⟨I11, le11, hk11, s⟩ := s.freezeAt 0 (φ10 0) (.cells #[.int .i64 2, .pointer (some ⟨kl, 0, none⟩), .pointer (some ⟨kr, 0, none⟩)] 73) [] (by kernel_rfl) (by kernel_rfl)
        replace hl := RT.mono le11 hl
        replace hr := RT.mono le11 hr
        replace hp5 := le11 _ _ hp5
        replace hp6 := le11 _ _ hp6
        exact ⟨_, _, _, rfl, s, ⟨_, rfl, by rw [mk_deep (of_decide_eq_false hc8)]; exact ⟨_, _, hk11, hl, hr⟩⟩⟩
  ·
    obtain ⟨pl12, pr12, hp12⟩ := RT.peek hl
    obtain ⟨pl13, pr13, hp13⟩ := RT.peek hr
    refine draw_rule (C := [(kl, .cells #[.int .i64 ((kindT l : Nat) : Int), .pointer pl12, .pointer pr12] 73), (kr, .cells #[.int .i64 ((kindT r : Nat) : Int), .pointer pl13, .pointer pr13] 73)]) ⟨(fun φ12 xs12 => [.look 0 [] [], .look 0 [] [], .look 0 [] [], .look 0 [.c 0] [kl], .look 0 [] [], .look 0 [] [], .look 0 [] [], .look 0 [.c 1] [kr], .sub 0 [] [] (.bool (((kindT l : Nat) : Int) == ((kindT r : Nat) : Int))), .look 0 [] [], .skip, .skip, .skip, .skip, .skip, .look 0 [] []]), (fun φ12 xs12 => [.pointer (some ⟨kl, 0, none⟩), .pointer (some ⟨kl, 0, none⟩), .pointer (some ⟨kl, 0, none⟩), .int .i64 ((kindT l : Nat) : Int), .pointer (some ⟨kr, 0, none⟩), .pointer (some ⟨kr, 0, none⟩), .pointer (some ⟨kr, 0, none⟩), .int .i64 ((kindT r : Nat) : Int), .bool false, .bool false, undef, undef, undef, undef, undef, .bool false]), (fun φ12 xs12 => [[]]), (fun φ12 xs12 => [[default, default, default, default, default, default, default, default, default, default, default, default, default, default, default, default]]), [], [1, 1, 1, 1, 1, 1, 1, 1, 5, 1, 0, 0, 0, 0, 0, 1]⟩ (fun j => ([MP.any, MP.any, MP.any, MP.any, MP.any, MP.any, MP.any, MP.any, MP.any, MP.any, MP.any, MP.any, MP.any, MP.any, MP.any, MP.any] : List MP).getD j MP.any) [] [8] [] (fun φ12 xs12 => []) (fun φ12 xs12 => [(5, .pointer (some ⟨kl, 0, none⟩)), (6, .pointer (some ⟨kl, 0, none⟩)), (7, .pointer (some ⟨kl, 0, none⟩)), (8, .int .i64 ((kindT l : Nat) : Int)), (9, .pointer (some ⟨kr, 0, none⟩)), (10, .pointer (some ⟨kr, 0, none⟩)), (11, .pointer (some ⟨kr, 0, none⟩)), (12, .int .i64 ((kindT r : Nat) : Int)), (13, .bool false), (14, .bool false), (15, undef), (16, undef), (17, undef), (18, undef), (19, undef), (20, .bool false)]) (fun φ12 xs12 => []) s ⟨hp12, ⟨hp13, trivial⟩⟩ (by kernel_rfl) (by kernel_rfl) (fun _ _ => by kernel_rfl) (fun _ _ => by kernel_rfl) ⟨fun _ _ => by kernel_rfl, fun _ _ => by kernel_rfl, fun _ _ => by kernel_rfl, fun _ _ => by kernel_rfl⟩ (fun _ _ _ => by kernel_rfl) (fun _ _ => by kernel_rfl) (fun _ _ => by kernel_rfl) (fun _ _ => by kernel_rfl) (fun _ _ => by kernel_rfl) (fun _ _ => by kernel_rfl) ⟨kcast (A := ∀ (φ12 : Nat → Nat) (xs12 : Xs), (.bool (((kindT l : Nat) : Int) == ((kindT r : Nat) : Int)) : Value) = .bool false) (by kernel_rfl) (fun φ12 xs12 => congrArg Value.bool ((nat_eql (a := (kindT l)) (b := (kindT r))).trans (hc4))), trivial⟩ trivial (by kernel_rfl) trivial ?k12
    case k12 =>
      rintro φ12 xs12 I12 w12 le12 s 
      replace hl := RT.mono le12 hl
      replace hr := RT.mono le12 hr
      replace hp12 := le12 _ _ hp12
      replace hp13 := le12 _ _ hp13
      refine cond_false_rule (b := false) (by kernel_rfl) rfl ?_
      refine wp_skip ?_
      refine wp_seq ?_
      refine region_rule ?_
      refine ops_rule (C := []) [] [] 5 [] 1 (fun φ15 => [(4, .pointer (some ⟨(φ15 0), 0, none⟩)), (25, .pointer (some ⟨(φ15 0), 0, none⟩)), (24, .agg #[.int .i64 2, .pointer (some ⟨kl, 0, none⟩), .pointer (some ⟨kr, 0, none⟩)]), (23, .pointer (some ⟨kr, 0, none⟩)), (22, .pointer (some ⟨kl, 0, none⟩))]) (fun φ15 => [((φ15 0), .cells #[.int .i64 2, .pointer (some ⟨kl, 0, none⟩), .pointer (some ⟨kr, 0, none⟩)] 73)]) (fun φ15 => []) s trivial (fun φ15 => by kernel_rfl) ?_
      intro φ15 w15 s
      refine ops_done (by kernel_rfl) ?_
      refine wp_ret ?_
      refine ret_rule (C := []) [((φ15 0), .cells #[.int .i64 2, .pointer (some ⟨kl, 0, none⟩), .pointer (some ⟨kr, 0, none⟩)] 73)] [] (.pointer (some ⟨(φ15 0), 0, none⟩)) [] [] s trivial (by kernel_rfl) ?_
      obtain ⟨I16, le16, hk16, s⟩ := s.freezeAt 0 (φ15 0) (.cells #[.int .i64 2, .pointer (some ⟨kl, 0, none⟩), .pointer (some ⟨kr, 0, none⟩)] 73) [] (by kernel_rfl) (by kernel_rfl)
      replace hl := RT.mono le16 hl
      replace hr := RT.mono le16 hr
      replace hp12 := le16 _ _ hp12
      replace hp13 := le16 _ _ hp13
      exact ⟨_, _, _, rfl, s, ⟨_, rfl, by rw [mk_apart (of_decide_eq_false hc4)]; exact ⟨_, _, hk16, hl, hr⟩⟩⟩

end Go.Proofs.Ytgdickihjaomjaa.Ev

/- The document's events; to the program's own. -/
set_option linter.all false
set_option maxRecDepth 100000
namespace Go.Proofs.Ytgdickihjaomjaa.Ev
open Go.RowKit Go.Sep

def T.nf : T → Prop
  | .node l r => l.nf ∧ r.nf ∧ T.mk l r = .node l r
  | _ => True
theorem T.nf_mk {l r : T} (hl : l.nf) (hr : r.nf) : (T.mk l r).nf := by
  have hn : ∀ {a b : T}, T.mk a b = .node a b → a.nf → b.nf → (T.mk a b).nf := fun {a b} h ha hb => by rw [h]; exact ⟨ha, hb, h⟩
  cases l with
  | zero => cases r with
    | zero => trivial
    | one => exact hn rfl hl hr
    | node _ _ => exact hn rfl hl hr
  | one => cases r with
    | zero => exact hn rfl hl hr
    | one => trivial
    | node _ _ => exact hn rfl hl hr
  | node _ _ => exact hn rfl hl hr
def E.nf : E → Prop
  | .node n l r => l.nf ∧ r.nf ∧ E.mk n l r = .node n l r
  | _ => True
theorem E.mk_iff {n : Nat} {l r : E} : E.mk n l r = .node n l r ↔ ¬ (l.isLeaf = true ∧ r.isLeaf = true ∧ l.base = r.base) ∧ min l.base r.base = 0 := by
  unfold E.mk
  constructor
  · intro h
    split at h
    · cases h
    · rename_i hc
      refine ⟨hc, ?_⟩
      have : n + min l.base r.base = n := congrArg E.base h
      omega
  · rintro ⟨hc, hm⟩
    have hdn : ∀ e : E, E.dn 0 e = e := fun e => by cases e <;> rfl
    rw [if_neg hc, hm, hdn, hdn]; rfl
theorem E.dn_nf {m : Nat} {e : E} (h : e.nf) : (E.dn m e).nf := by
  cases e with
  | leaf n => trivial
  | node n l r => exact ⟨h.1, h.2.1, E.mk_iff.2 (E.mk_iff.1 h.2.2)⟩
theorem E.dn_base (m : Nat) (e : E) : (E.dn m e).base = e.base - m := by cases e <;> rfl
theorem E.dn_leaf (m : Nat) (e : E) : (E.dn m e).isLeaf = e.isLeaf := by cases e <;> rfl
theorem E.nf_mk {n : Nat} {l r : E} (hl : l.nf) (hr : r.nf) : (E.mk n l r).nf := by
  have e : E.mk n l r = if l.isLeaf = true ∧ r.isLeaf = true ∧ l.base = r.base then .leaf (n + l.base) else .node (n + min l.base r.base) (E.dn (min l.base r.base) l) (E.dn (min l.base r.base) r) := rfl
  rw [e]
  split
  · trivial
  · rename_i hc
    refine ⟨E.dn_nf hl, E.dn_nf hr, E.mk_iff.2 ⟨?_, ?_⟩⟩
    · rintro ⟨h1, h2, h3⟩
      rw [E.dn_leaf] at h1 h2
      rw [E.dn_base, E.dn_base] at h3
      exact hc ⟨h1, h2, by omega⟩
    · rw [E.dn_base, E.dn_base]; omega

set_option maxHeartbeats 2000000 in
theorem own_step {I : IM} {t : T} {k : Nat} (h : RT I t k) (hnf : t.nf) (hd : t.depth ≤ 16) (ih : ∀ l r, t = .node l r → (∀ {J : IM} {k : Nat}, RT J l k → Fun Try.prog 31 #[.pointer (some ⟨k, 0, none⟩)] J (fun v J => ∃ b p, v = idv b p ∧ TRep J l b p)) ∧ (∀ {J : IM} {k : Nat}, RT J r k → Fun Try.prog 31 #[.pointer (some ⟨k, 0, none⟩)] J (fun v J => ∃ b p, v = idv b p ∧ TRep J r b p))) : Fun Try.prog 31 #[.pointer (some ⟨k, 0, none⟩)] I (fun v J => ∃ b p, v = idv b p ∧ TRep J t b p) := by
  cases t with
  | zero =>
    have hz : RT _ T.zero k := h
    refine enter_rule 30 [(0, .pointer (some ⟨k, 0, none⟩))] Try.func31 rfl (by kernel_rfl) ?_
    intro w s
    refine wp_seq ?_
    refine region_rule ?_
    refine ops_rule (C := []) [] [] 1 [] 1 (fun φ1 => [(2, .pointer (some ⟨(φ1 0), 0, none⟩))]) (fun φ1 => [((φ1 0), .cells #[.bool false, .pointer none] 26)]) (fun φ1 => []) s trivial (fun φ1 => by kernel_rfl) ?_
    intro φ1 w1 s
    refine ops_done (by kernel_rfl) ?_
    refine wp_seq ?_
    refine wp_seq ?_
    refine region_rule ?_
    refine ops_rule (C := [(k, .cells #[.int .i64 0, .pointer none, .pointer none] 73)]) [((φ1 0), .cells #[.bool false, .pointer none] 26)] [] 4 [.c 0] 0 (fun φ2 => [(8, .int .i64 0), (7, .pointer (some ⟨k, 0, none⟩)), (6, .pointer (some ⟨k, 0, none⟩)), (5, .pointer (some ⟨k, 0, none⟩))]) (fun φ2 => [((φ1 0), .cells #[.bool false, .pointer none] 26)]) (fun φ2 => [k]) s ⟨h, trivial⟩ (fun φ2 => by kernel_rfl) ?_
    intro φ2 w2 s
    refine ops_done (by kernel_rfl) ?_
    refine wp_block ?_
    refine wp_seq ?_
    refine region_rule ?_
    refine ops_rule (C := []) [((φ1 0), .cells #[.bool false, .pointer none] 26)] [] 2 [] 0 (fun φ3 => [(9, .bool true), (10, .bool true)]) (fun φ3 => [((φ1 0), .cells #[.bool false, .pointer none] 26)]) (fun φ3 => []) s trivial (fun φ3 => by kernel_rfl) ?_
    intro φ3 w3 s
    refine ops_done (by kernel_rfl) ?_
    refine cond_true_rule (b := true) (by kernel_rfl) rfl ?_
    refine wp_seq ?_
    refine region_rule ?_
    refine call_rule (some 11) s (tzero_c) (by kernel_rfl) ?_
    intro v4 I4 w4 le4 h4 s
    replace hz := RT.mono le4 hz
    replace h := le4 _ _ h
    obtain rfl := h4
    refine ops_rule (C := []) [((φ1 0), .cells #[.bool false, .pointer none] 26)] [] 1 [.o 0, .o 0] 0 (fun φ5 => []) (fun φ5 => [((φ1 0), .cells #[.bool false, .pointer none] 26)]) (fun φ5 => [(φ1 0), (φ1 0)]) s trivial (fun φ5 => by kernel_rfl) ?_
    intro φ5 w5 s
    refine ops_done (by kernel_rfl) ?_
    refine wp_ret ?_
    refine ret_rule (C := []) [((φ1 0), .cells #[.bool false, .pointer none] 26)] [] (.agg #[.bool false, .pointer none]) [.o 0, .o 0] [(φ1 0), (φ1 0)] s trivial (by kernel_rfl) ?_
    exact ⟨_, _, _, rfl, s, ⟨_, _, rfl, rfl, rfl⟩⟩
  | one =>
    have hz : RT _ T.one k := h
    refine enter_rule 30 [(0, .pointer (some ⟨k, 0, none⟩))] Try.func31 rfl (by kernel_rfl) ?_
    intro w s
    refine wp_seq ?_
    refine region_rule ?_
    refine ops_rule (C := []) [] [] 1 [] 1 (fun φ1 => [(2, .pointer (some ⟨(φ1 0), 0, none⟩))]) (fun φ1 => [((φ1 0), .cells #[.bool false, .pointer none] 26)]) (fun φ1 => []) s trivial (fun φ1 => by kernel_rfl) ?_
    intro φ1 w1 s
    refine ops_done (by kernel_rfl) ?_
    refine wp_seq ?_
    refine wp_seq ?_
    refine region_rule ?_
    refine ops_rule (C := [(k, .cells #[.int .i64 1, .pointer none, .pointer none] 73)]) [((φ1 0), .cells #[.bool false, .pointer none] 26)] [] 4 [.c 0] 0 (fun φ2 => [(8, .int .i64 1), (7, .pointer (some ⟨k, 0, none⟩)), (6, .pointer (some ⟨k, 0, none⟩)), (5, .pointer (some ⟨k, 0, none⟩))]) (fun φ2 => [((φ1 0), .cells #[.bool false, .pointer none] 26)]) (fun φ2 => [k]) s ⟨h, trivial⟩ (fun φ2 => by kernel_rfl) ?_
    intro φ2 w2 s
    refine ops_done (by kernel_rfl) ?_
    refine wp_block ?_
    refine wp_seq ?_
    refine region_rule ?_
    refine ops_rule (C := []) [((φ1 0), .cells #[.bool false, .pointer none] 26)] [] 2 [] 0 (fun φ3 => [(9, .bool false), (10, .bool false)]) (fun φ3 => [((φ1 0), .cells #[.bool false, .pointer none] 26)]) (fun φ3 => []) s trivial (fun φ3 => by kernel_rfl) ?_
    intro φ3 w3 s
    refine ops_done (by kernel_rfl) ?_
    refine cond_false_rule (b := false) (by kernel_rfl) rfl ?_
    refine wp_seq ?_
    refine region_rule ?_
    refine ops_rule (C := []) [((φ1 0), .cells #[.bool false, .pointer none] 26)] [] 2 [] 0 (fun φ4 => [(12, .bool true), (13, .bool true)]) (fun φ4 => [((φ1 0), .cells #[.bool false, .pointer none] 26)]) (fun φ4 => []) s trivial (fun φ4 => by kernel_rfl) ?_
    intro φ4 w4 s
    refine ops_done (by kernel_rfl) ?_
    refine cond_true_rule (b := true) (by kernel_rfl) rfl ?_
    refine wp_seq ?_
    refine region_rule ?_
    refine call_rule (some 14) s (tone_c) (by kernel_rfl) ?_
    intro v5 I5 w5 le5 h5 s
    replace hz := RT.mono le5 hz
    replace h := le5 _ _ h
    obtain rfl := h5
    refine ops_rule (C := []) [((φ1 0), .cells #[.bool false, .pointer none] 26)] [] 1 [.o 0, .o 0] 0 (fun φ6 => []) (fun φ6 => [((φ1 0), .cells #[.bool true, .pointer none] 26)]) (fun φ6 => [(φ1 0), (φ1 0)]) s trivial (fun φ6 => by kernel_rfl) ?_
    intro φ6 w6 s
    refine ops_done (by kernel_rfl) ?_
    refine wp_ret ?_
    refine ret_rule (C := []) [((φ1 0), .cells #[.bool true, .pointer none] 26)] [] (.agg #[.bool true, .pointer none]) [.o 0, .o 0] [(φ1 0), (φ1 0)] s trivial (by kernel_rfl) ?_
    exact ⟨_, _, _, rfl, s, ⟨_, _, rfl, rfl, rfl⟩⟩
  | node l r =>
    obtain ⟨kl, kr, hk, hl, hr⟩ := h
    obtain ⟨ihl, ihr⟩ := ih l r rfl
    clear ih
    have hd1 : 1 + max l.depth r.depth ≤ 16 := hd
    refine enter_rule 30 [(0, .pointer (some ⟨k, 0, none⟩))] Try.func31 rfl (by kernel_rfl) ?_
    intro w s
    refine wp_seq ?_
    refine region_rule ?_
    refine ops_rule (C := []) [] [] 1 [] 1 (fun φ1 => [(2, .pointer (some ⟨(φ1 0), 0, none⟩))]) (fun φ1 => [((φ1 0), .cells #[.bool false, .pointer none] 26)]) (fun φ1 => []) s trivial (fun φ1 => by kernel_rfl) ?_
    intro φ1 w1 s
    refine ops_done (by kernel_rfl) ?_
    refine wp_seq ?_
    refine wp_seq ?_
    refine region_rule ?_
    refine ops_rule (C := [(k, .cells #[.int .i64 2, .pointer (some ⟨kl, 0, none⟩), .pointer (some ⟨kr, 0, none⟩)] 73)]) [((φ1 0), .cells #[.bool false, .pointer none] 26)] [] 4 [.c 0] 0 (fun φ2 => [(8, .int .i64 2), (7, .pointer (some ⟨k, 0, none⟩)), (6, .pointer (some ⟨k, 0, none⟩)), (5, .pointer (some ⟨k, 0, none⟩))]) (fun φ2 => [((φ1 0), .cells #[.bool false, .pointer none] 26)]) (fun φ2 => [k]) s ⟨hk, trivial⟩ (fun φ2 => by kernel_rfl) ?_
    intro φ2 w2 s
    refine ops_done (by kernel_rfl) ?_
    refine wp_block ?_
    refine wp_seq ?_
    refine region_rule ?_
    refine ops_rule (C := []) [((φ1 0), .cells #[.bool false, .pointer none] 26)] [] 2 [] 0 (fun φ3 => [(9, .bool false), (10, .bool false)]) (fun φ3 => [((φ1 0), .cells #[.bool false, .pointer none] 26)]) (fun φ3 => []) s trivial (fun φ3 => by kernel_rfl) ?_
    intro φ3 w3 s
    refine ops_done (by kernel_rfl) ?_
    refine cond_false_rule (b := false) (by kernel_rfl) rfl ?_
    refine wp_seq ?_
    refine region_rule ?_
    refine ops_rule (C := []) [((φ1 0), .cells #[.bool false, .pointer none] 26)] [] 2 [] 0 (fun φ4 => [(12, .bool false), (13, .bool false)]) (fun φ4 => [((φ1 0), .cells #[.bool false, .pointer none] 26)]) (fun φ4 => []) s trivial (fun φ4 => by kernel_rfl) ?_
    intro φ4 w4 s
    refine ops_done (by kernel_rfl) ?_
    refine cond_false_rule (b := false) (by kernel_rfl) rfl ?_
    refine wp_skip ?_
    refine wp_seq ?_
    refine draw_rule (C := [(k, .cells #[.int .i64 2, .pointer (some ⟨kl, 0, none⟩), .pointer (some ⟨kr, 0, none⟩)] 73)]) ⟨(fun φ5 xs5 => [.look 0 [] [], .look 0 [] [], .look 0 [] [], .look 0 [.c 0] [k], .call 31 #[.pointer (some ⟨kl, 0, none⟩)], .look 0 [] [], .look 0 [] [], .look 0 [] [], .look 0 [.c 0] [k], .call 31 #[.pointer (some ⟨kr, 0, none⟩)], .call 58 #[.agg #[.bool ((xs5 4).b 0), .pointer ((xs5 4).p 0)], .agg #[.bool ((xs5 9).b 0), .pointer ((xs5 9).p 0)]], .look 0 [] [], .look 0 [] [], .look 0 [] [], .new, .store 0 [.o 1, .o 1] [(φ5 14), (φ5 14)], .look 1 [] []]), (fun φ5 xs5 => [.pointer (some ⟨k, 0, none⟩), .pointer (some ⟨k, 0, none⟩), .pointer (some ⟨k, 1, none⟩), .pointer (some ⟨kl, 0, none⟩), .agg #[.bool ((xs5 4).b 0), .pointer ((xs5 4).p 0)], .pointer (some ⟨k, 0, none⟩), .pointer (some ⟨k, 0, none⟩), .pointer (some ⟨k, 2, none⟩), .pointer (some ⟨kr, 0, none⟩), .agg #[.bool ((xs5 9).b 0), .pointer ((xs5 9).p 0)], .tuple #[.agg #[.bool ((xs5 10).b 0), .pointer ((xs5 10).p 0)], .int .i64 0], .tuple #[.agg #[.bool ((xs5 10).b 0), .pointer ((xs5 10).p 0)], .int .i64 0], .agg #[.bool ((xs5 10).b 0), .pointer ((xs5 10).p 0)], .int .i64 0, .pointer (some ⟨(φ5 14), 0, none⟩), undef, .int .i64 0]), (fun φ5 xs5 => [[((φ1 0), .cells #[.bool false, .pointer none] 26)], [((φ1 0), .cells #[.bool false, .pointer none] 26)]]), (fun φ5 xs5 => [[default, default, default, default, default, default, default, default, default, default, default, default, default, default, .cells #[.bool false, .pointer none] 26, default, default], [default, default, default, default, default, default, default, default, default, default, default, default, default, default, .cells #[.bool ((xs5 10).b 0), .pointer ((xs5 10).p 0)] 26, default, default]]), [15], [1, 1, 1, 1, 3, 1, 1, 1, 1, 3, 3, 1, 1, 1, 2, 4, 1]⟩ (fun j => ([MP.any, MP.any, MP.any, MP.any, ⟨fun x J => TRep J l (x.b 0) (x.p 0), fun le h => TRep.mono le h⟩, MP.any, MP.any, MP.any, MP.any, ⟨fun x J => TRep J r (x.b 0) (x.p 0), fun le h => TRep.mono le h⟩, ⟨fun x J => TRep J (T.mk l r) (x.b 0) (x.p 0), fun le h => TRep.mono le h⟩, MP.any, MP.any, MP.any, MP.any, MP.any, MP.any] : List MP).getD j MP.any) [4, 9, 10] [] [] (fun φ5 xs5 => [[none, none, none, none, none, none, none, none, none, none, none, none, none, none, none, none, none]]) (fun φ5 xs5 => [(16, .pointer (some ⟨k, 0, none⟩)), (17, .pointer (some ⟨k, 0, none⟩)), (18, .pointer (some ⟨k, 1, none⟩)), (19, .pointer (some ⟨kl, 0, none⟩)), (20, .agg #[.bool ((xs5 4).b 0), .pointer ((xs5 4).p 0)]), (21, .pointer (some ⟨k, 0, none⟩)), (22, .pointer (some ⟨k, 0, none⟩)), (23, .pointer (some ⟨k, 2, none⟩)), (24, .pointer (some ⟨kr, 0, none⟩)), (25, .agg #[.bool ((xs5 9).b 0), .pointer ((xs5 9).p 0)]), (26, .tuple #[.agg #[.bool ((xs5 10).b 0), .pointer ((xs5 10).p 0)], .int .i64 0]), (15, .tuple #[.agg #[.bool ((xs5 10).b 0), .pointer ((xs5 10).p 0)], .int .i64 0]), (27, .agg #[.bool ((xs5 10).b 0), .pointer ((xs5 10).p 0)]), (28, .int .i64 0), (3, .pointer (some ⟨(φ5 14), 0, none⟩)), (4, .int .i64 0)]) (fun φ5 xs5 => [((φ1 0), .cells #[.bool false, .pointer none] 26), ((φ5 14), .cells #[.bool ((xs5 10).b 0), .pointer ((xs5 10).p 0)] 26)]) s ⟨hk, trivial⟩ (by kernel_rfl) (by kernel_rfl) (fun _ _ => by kernel_rfl) (fun _ _ => by kernel_rfl) ⟨fun _ _ => by kernel_rfl, fun _ _ => by kernel_rfl, fun _ _ => by kernel_rfl, fun _ _ => by kernel_rfl⟩ (fun _ _ _ => by kernel_rfl) (fun _ _ => by kernel_rfl) (fun _ _ => by kernel_rfl) (fun _ _ => by kernel_rfl) (fun _ _ => by kernel_rfl) (fun _ _ => by kernel_rfl) trivial trivial (by kernel_rfl) ⟨?c5_4, ?c5_9, ?c5_10, trivial⟩ ?k5
    case c5_4 =>
      refine kcast (A := ∀ (φ5 : Nat → Nat) (xs5 : Xs) (J4_5 : IM), I.Le J4_5 → Fun Try.prog 31 #[.pointer (some ⟨kl, 0, none⟩)] J4_5 (fun v J' => ∃ x : UX, v = .agg #[.bool (x.b 0), .pointer (x.p 0)] ∧ (TRep J' l (x.b 0) (x.p 0)))) (by kernel_rfl) ?_
      intro φ5 xs5 J4_5 leJ
      have hl := RT.mono leJ hl
      exact Fun.mono (ihl hl) (fun v J' _ ⟨y0, y1, hv, g0⟩ => ⟨{ UX.d with b := fun j => y0, p := fun j => y1 }, hv, g0⟩)
    case c5_9 =>
      refine kcast (A := ∀ (φ5 : Nat → Nat) (xs5 : Xs) (J9_5 : IM), I.Le J9_5 → (TRep J9_5 l ((xs5 4).b 0) ((xs5 4).p 0)) → Fun Try.prog 31 #[.pointer (some ⟨kr, 0, none⟩)] J9_5 (fun v J' => ∃ x : UX, v = .agg #[.bool (x.b 0), .pointer (x.p 0)] ∧ (TRep J' r (x.b 0) (x.p 0)))) (by kernel_rfl) ?_
      intro φ5 xs5 J9_5 leJ
      rintro h5_4_0
      have hr := RT.mono leJ hr
      exact Fun.mono (ihr hr) (fun v J' _ ⟨y0, y1, hv, g0⟩ => ⟨{ UX.d with b := fun j => y0, p := fun j => y1 }, hv, g0⟩)
    case c5_10 =>
      refine kcast (A := ∀ (φ5 : Nat → Nat) (xs5 : Xs) (J10_5 : IM), I.Le J10_5 → (TRep J10_5 l ((xs5 4).b 0) ((xs5 4).p 0)) → (TRep J10_5 r ((xs5 9).b 0) ((xs5 9).p 0)) → Fun Try.prog 58 #[.agg #[.bool ((xs5 4).b 0), .pointer ((xs5 4).p 0)], .agg #[.bool ((xs5 9).b 0), .pointer ((xs5 9).p 0)]] J10_5 (fun v J' => ∃ x : UX, v = .tuple #[.agg #[.bool (x.b 0), .pointer (x.p 0)], .int .i64 0] ∧ (TRep J' (T.mk l r) (x.b 0) (x.p 0)))) (by kernel_rfl) ?_
      intro φ5 xs5 J10_5 leJ
      rintro h5_4_0 h5_9_0
      exact Fun.mono (pairOk_c h5_4_0 h5_9_0 (by first | omega | (rw [hnf.2.2]; exact hd)) (by first | omega | (rw [hnf.2.2]; exact hd)) (by first | omega | (rw [hnf.2.2]; exact hd))) (fun v J' _ ⟨y0, y1, hv, g0⟩ => ⟨{ UX.d with b := fun j => y0, p := fun j => y1 }, hv, g0⟩)
    case k5 =>
      rintro φ5 xs5 I5 w5 le5 s h5_4_0 h5_9_0 h5_10_0
      replace hl := RT.mono le5 hl
      replace hr := RT.mono le5 hr
      replace hk := le5 _ _ hk
      refine wp_seq ?_
      refine region_rule ?_
      refine ops_rule (C := []) [((φ1 0), .cells #[.bool false, .pointer none] 26), ((φ5 14), .cells #[.bool ((xs5 10).b 0), .pointer ((xs5 10).p 0)] 26)] [] 2 [.o 1, .o 1, .o 0, .o 0] 0 (fun φ6 => [(29, .agg #[.bool ((xs5 10).b 0), .pointer ((xs5 10).p 0)])]) (fun φ6 => [((φ1 0), .cells #[.bool ((xs5 10).b 0), .pointer ((xs5 10).p 0)] 26), ((φ5 14), .cells #[.bool ((xs5 10).b 0), .pointer ((xs5 10).p 0)] 26)]) (fun φ6 => [(φ5 14), (φ5 14), (φ1 0), (φ1 0)]) s trivial (fun φ6 => by kernel_rfl) ?_
      intro φ6 w6 s
      refine ops_done (by kernel_rfl) ?_
      refine wp_ret ?_
      refine ret_rule (C := []) [((φ1 0), .cells #[.bool ((xs5 10).b 0), .pointer ((xs5 10).p 0)] 26), ((φ5 14), .cells #[.bool ((xs5 10).b 0), .pointer ((xs5 10).p 0)] 26)] [] (.agg #[.bool ((xs5 10).b 0), .pointer ((xs5 10).p 0)]) [.o 0, .o 0] [(φ1 0), (φ1 0)] s trivial (by kernel_rfl) ?_
      exact ⟨_, _, _, rfl, s, (by have h9 := h5_10_0; rw [hnf.2.2] at h9; exact ⟨_, _, rfl, h9⟩)⟩

theorem own_c : ∀ (t : T) {I : IM} {k : Nat}, t.nf → t.depth ≤ 16 → RT I t k → Fun Try.prog 31 #[.pointer (some ⟨k, 0, none⟩)] I (fun v J => ∃ b p, v = idv b p ∧ TRep J t b p)
  | .zero, _, _, hn, hd, h => own_step h hn hd (fun l r h => by cases h)
  | .one, _, _, hn, hd, h => own_step h hn hd (fun l r h => by cases h)
  | .node l r, _, _, hn, hd, h => own_step h hn hd (fun l' r' e => by
      cases e
      have hd1 : 1 + max l.depth r.depth ≤ 16 := hd
      exact ⟨fun {J} {k} a => own_c l hn.1 (by omega) a, fun {J} {k} a => own_c r hn.2.1 (by omega) a⟩)

end Go.Proofs.Ytgdickihjaomjaa.Ev

/- The document's Make of ids. -/
set_option linter.all false
set_option maxRecDepth 100000
namespace Go.Proofs.Ytgdickihjaomjaa.Ev
open Go.RowKit Go.Sep

def BSl (I : IM) (l : List UInt8) (v : Value) : Prop := ∃ a cap, v = .slice a l.length cap ∧ l.length ≤ cap ∧ ∀ j x, l[j]? = some x → ∃ b o cs T fr, a = some ⟨b, o, none⟩ ∧ I b = some (.cells cs T fr) ∧ cs[o + j]? = some (.int .u8 ((x.toNat : Nat) : Int))
theorem BSl.mono {I J : IM} (le : I.Le J) {l : List UInt8} {v : Value} (h : BSl I l v) : BSl J l v := by
  obtain ⟨a, cap, hv, hc, hr⟩ := h
  refine ⟨a, cap, hv, hc, fun j x hj => ?_⟩
  obtain ⟨b, o, cs, T, fr, h1, h2, h3⟩ := hr j x hj
  exact ⟨b, o, cs, T, fr, h1, le _ _ h2, h3⟩
theorem bsl_nil (I : IM) : BSl I [] (.slice none 0 0) := ⟨none, 0, rfl, Nat.le_refl _, fun j x h => by simp at h⟩
theorem bsl_cons {I : IM} {x : UInt8} {l : List UInt8} {v : Value} (h : BSl I (x :: l) v) : ∃ b o cap cs T fr, v = .slice (some ⟨b, o, none⟩) (l.length + 1) cap ∧ l.length + 1 ≤ cap ∧ I b = some (.cells cs T fr) ∧ cs[o]? = some (.int .u8 ((x.toNat : Nat) : Int)) ∧
    BSl I l (.slice (if cap = 1 then some ⟨b, o, none⟩ else some ⟨b, o + 1, none⟩) l.length (cap - 1)) := by
  obtain ⟨a, cap, hv, hc, hr⟩ := h
  obtain ⟨b, o, cs, T, fr, h1, h2, h3⟩ := hr 0 x rfl
  subst h1
  refine ⟨b, o, cap, cs, T, fr, hv, hc, h2, h3, _, _, rfl, ?_, fun j y hj => ?_⟩
  · simp only [List.length_cons] at hc; omega
  · obtain ⟨b', o', cs', T', fr', e1, e2, e3⟩ := hr (j + 1) y (by simpa using hj)
    cases e1
    have hcap : ¬ cap = 1 := by
      have := (List.getElem?_eq_some_iff.1 hj).1
      simp only [List.length_cons] at hc; omega
    rw [if_neg hcap]
    exact ⟨b, o + 1, cs', T', fr', rfl, e2, by rw [show o + 1 + j = o + (j + 1) by omega]; exact e3⟩
theorem size5 (w : World) : (sizeOf 5).run Try.prog w = .ok 1 w := by kernel_rfl
theorem under22 : Try.prog.underlying 22 = some (.slice 5) := by kernel_rfl
theorem run_first {w : World} {b o n cap : Nat} : (Instr.indexAt 22 (.slice (some ⟨b, o, none⟩) (n + 1) cap) (.int .i64 0)).run Try.prog w = .ok (.pointer (some ⟨b, o, none⟩)) w := by
  have h : (0 : Int) < (n : Int) + 1 := by omega
  simp [Instr.indexAt, asIntOf, run_underlying under22, size5, h]
  rfl
theorem run_rest {w : World} {b o n cap : Nat} (hc : n + 1 ≤ cap) : (Instr.sliceAt 22 (.slice (some ⟨b, o, none⟩) (n + 1) cap) (some (.int .i64 1)) none none).run Try.prog w = .ok (.slice (if cap = 1 then some ⟨b, o, none⟩ else some ⟨b, o + 1, none⟩) n (cap - 1)) w := by
  have hb : (Instr.sliceBound (.int .i64 1) (n + 1) .sliceB).run Try.prog w = .ok 1 w := run_bound (k := 1) (by omega)
  simp [Instr.sliceAt, Instr.slice, run_underlying under22, Instr.sliceBounds, hb, size5]
  rfl
theorem run_loadB {w : World} {b o : Nat} {cs : Array Value} {T : TypeId} {fr : Nat × Nat} {v : Value} (h : w.heap[b]? = some (.cells cs T fr)) (hv : cs[o]? = some v) : (Instr.loadAt 5 (.pointer (some ⟨b, o, none⟩))).run Try.prog w = .ok v w := by
  have e : (Instr.loadAt 5 (.pointer (some ⟨b, o, none⟩))).run Try.prog w = (load ⟨b, o, none⟩).run Try.prog w := by kernel_rfl
  have hc := run_cell (a := ⟨b, o, none⟩) h rfl rfl
  rw [hv] at hc
  rw [e]; simp only [load, Sem.run, hc]
theorem rt_bit {J : IM} {k x : Nat} (h : J k = some (.cells #[.int .i64 ((x % 2 : Nat) : Int), .pointer none, .pointer none] 73)) : ∃ t : T, t.nf ∧ t.depth = 0 ∧ RT J t k := by
  have : x % 2 = 0 ∨ x % 2 = 1 := by omega
  rcases this with e | e
  · rw [e] at h; exact ⟨.zero, trivial, rfl, h⟩
  · rw [e] at h; exact ⟨.one, trivial, rfl, h⟩

set_option maxHeartbeats 2000000 in
theorem make_step {I : IM} {m : Nat} {xs : List UInt8} {v : Value} (hv : BSl I xs v) (hm9 : m ≤ 100) (ih : ¬ m = 0 → ∀ {J : IM} {xs : List UInt8} {v : Value}, BSl J xs v → Fun Try.prog 30 #[v, .int .i64 ((m - 1 : Nat) : Int)] J (fun v J => ∃ k v' t l', v = .tuple #[.pointer (some ⟨k, 0, none⟩), v'] ∧ (t.nf ∧ t.depth ≤ m - 1) ∧ RT J t k ∧ BSl J l' v')) : Fun Try.prog 30 #[v, .int .i64 ((m : Nat) : Int)] I (fun v J => ∃ k v' t l', v = .tuple #[.pointer (some ⟨k, 0, none⟩), v'] ∧ (t.nf ∧ t.depth ≤ m) ∧ RT J t k ∧ BSl J l' v') := by
  cases xs with
  | nil =>
    obtain ⟨a, cap, rfl, hcap, -⟩ := hv
    simp only [List.length_nil]
    refine enter_rule 49 [(0, .slice a 0 cap), (1, .int .i64 ((m : Nat) : Int))] Try.func30 rfl (by kernel_rfl) ?_
    intro w s
    refine wp_seq ?_
    refine region_rule ?_
    refine ops_rule (C := []) [] [] 2 [] 0 (fun φ1 => [(5, .slice none 0 0), (4, .pointer none)]) (fun φ1 => []) (fun φ1 => []) s trivial (fun φ1 => by kernel_rfl) ?_
    intro φ1 w1 s
    refine ops_done (by kernel_rfl) ?_
    refine wp_seq ?_
    refine wp_seq ?_
    refine region_rule ?_
    refine ops_rule (C := []) [] [] 3 [] 0 (fun φ2 => [(11, .bool true), (10, .int .i64 0), (9, .slice a 0 cap)]) (fun φ2 => []) (fun φ2 => []) s trivial (fun φ2 => by kernel_rfl) ?_
    intro φ2 w2 s
    refine ops_done (by kernel_rfl) ?_
    refine cond_true_rule (b := true) (by kernel_rfl) rfl ?_
    refine wp_seq ?_
    refine region_rule ?_
    refine call_rule (some 12) s (rzero_c) (by kernel_rfl) ?_
    intro v3 I3 w3 le3 h3 s
    obtain ⟨k3, rfl, h3_0⟩ := h3
    refine ops_rule (C := []) [] [] 2 [] 0 (fun φ4 => [(5, .slice none 0 0), (4, .pointer (some ⟨k3, 0, none⟩))]) (fun φ4 => []) (fun φ4 => []) s trivial (fun φ4 => by kernel_rfl) ?_
    intro φ4 w4 s
    refine ops_done (by kernel_rfl) ?_
    refine wp_ret ?_
    refine ret_rule (C := []) [] [] (.tuple #[.pointer (some ⟨k3, 0, none⟩), .slice none 0 0]) [] [] s trivial (by kernel_rfl) ?_
    exact ⟨_, _, _, rfl, s, ⟨_, _, T.zero, [], rfl, ⟨trivial, Nat.zero_le _⟩, h3_0, bsl_nil _⟩⟩
  | cons x l =>
    obtain ⟨b, o, cap, cs, T9, fr, rfl, hcap, hcs, hx, hrest⟩ := bsl_cons hv
    clear hv
    have hx8 : x.toNat < 256 := x.toNat_lt
    refine enter_rule 49 [(0, .slice (some ⟨b, o, none⟩) (l.length + 1) cap), (1, .int .i64 ((m : Nat) : Int))] Try.func30 rfl (by kernel_rfl) ?_
    intro w s
    refine wp_seq ?_
    refine region_rule ?_
    refine ops_rule (C := []) [] [] 2 [] 0 (fun φ1 => [(5, .slice none 0 0), (4, .pointer none)]) (fun φ1 => []) (fun φ1 => []) s trivial (fun φ1 => by kernel_rfl) ?_
    intro φ1 w1 s
    refine ops_done (by kernel_rfl) ?_
    refine wp_seq ?_
    refine wp_seq ?_
    refine region_rule ?_
    refine ops_rule (C := []) [] [] 3 [] 0 (fun φ2 => [(11, .bool ((((l.length + 1) : Nat) : Int) == ((0 : Nat) : Int))), (10, .int .i64 (((l.length + 1) : Nat) : Int)), (9, .slice (some ⟨b, o, none⟩) (l.length + 1) cap)]) (fun φ2 => []) (fun φ2 => []) s trivial (fun φ2 => by kernel_rfl) ?_
    intro φ2 w2 s
    rw [nat_eql (a := (l.length + 1)) (b := 0)]
    refine ops_done (by kernel_rfl) ?_
    rcases Bool.eq_false_or_eq_true (decide ((l.length + 1) = 0)) with hc3 | hc3
    ·
      exact absurd (of_decide_eq_true hc3) (by omega)
    ·
      rw [hc3]
      refine cond_false_rule (b := false) (by kernel_rfl) rfl ?_
      refine wp_skip ?_
      refine wp_seq ?_
      refine region_rule ?_
      refine ops_rule (C := []) [] [] 1 [] 0 (fun φ4 => [(13, .slice (some ⟨b, o, none⟩) (l.length + 1) cap)]) (fun φ4 => []) (fun φ4 => []) s trivial (fun φ4 => by kernel_rfl) ?_
      intro φ4 w4 s
      refine sem_rule (Instr.indexAt 22 (.slice (some ⟨b, o, none⟩) (l.length + 1) cap) (.int .i64 0)) (some 14) (.pointer (some ⟨b, o, none⟩)) (by kernel_rfl) (run_first) ?_
      refine sem_rule (Instr.loadAt 5 (.pointer (some ⟨b, o, none⟩))) (some 15) (.int .u8 ((x.toNat : Nat) : Int)) (by kernel_rfl) (run_loadB (s.sub _ _ hcs) hx) ?_
      refine ops_rule (C := []) [] [] 1 [] 0 (fun φ5 => [(6, .int .u8 ((x.toNat : Nat) : Int))]) (fun φ5 => []) (fun φ5 => []) s trivial (fun φ5 => by kernel_rfl) ?_
      intro φ5 w5 s
      refine ops_done (by kernel_rfl) ?_
      refine wp_seq ?_
      refine region_rule ?_
      refine ops_rule (C := []) [] [] 1 [] 0 (fun φ6 => [(16, .slice (some ⟨b, o, none⟩) (l.length + 1) cap)]) (fun φ6 => []) (fun φ6 => []) s trivial (fun φ6 => by kernel_rfl) ?_
      intro φ6 w6 s
      refine sem_rule (Instr.sliceAt 22 (.slice (some ⟨b, o, none⟩) (l.length + 1) cap) (some (.int .i64 1)) none none) (some 17) (.slice (if cap = 1 then some ⟨b, o, none⟩ else some ⟨b, o + 1, none⟩) l.length (cap - 1)) (by kernel_rfl) (run_rest hcap) ?_
      refine ops_rule (C := []) [] [] 1 [] 0 (fun φ7 => [(0, .slice (if cap = 1 then some ⟨b, o, none⟩ else some ⟨b, o + 1, none⟩) l.length (cap - 1))]) (fun φ7 => []) (fun φ7 => []) s trivial (fun φ7 => by kernel_rfl) ?_
      intro φ7 w7 s
      refine ops_done (by kernel_rfl) ?_
      refine wp_seq ?_
      refine wp_seq ?_
      refine region_rule ?_
      refine ops_rule (C := []) [] [] 3 [] 0 (fun φ8 => [(20, .bool (((m : Nat) : Int) == ((0 : Nat) : Int))), (19, .bool (((m : Nat) : Int) == ((0 : Nat) : Int))), (18, .int .i64 ((m : Nat) : Int))]) (fun φ8 => []) (fun φ8 => []) s trivial (fun φ8 => by kernel_rfl) ?_
      intro φ8 w8 s
      rw [nat_eql (a := m) (b := 0)]
      rcases Bool.eq_false_or_eq_true (decide (m = 0)) with hc9 | hc9
      ·
        rw [hc9]
        refine ops_rule (C := []) [] [] 4 [] 0 (fun φ10 => [(24, .bool true), (23, undef), (22, undef), (21, undef)]) (fun φ10 => []) (fun φ10 => []) s trivial (fun φ10 => by kernel_rfl) ?_
        intro φ10 w10 s
        refine ops_done (by kernel_rfl) ?_
        refine cond_true_rule (b := true) (by kernel_rfl) rfl ?_
        refine wp_seq ?_
        refine region_rule ?_
        refine ops_rule (C := []) [] [] 8 [] 1 (fun φ11 => [(5, .slice (if cap = 1 then some ⟨b, o, none⟩ else some ⟨b, o + 1, none⟩) l.length (cap - 1)), (4, .pointer (some ⟨(φ11 0), 0, none⟩)), (30, .slice (if cap = 1 then some ⟨b, o, none⟩ else some ⟨b, o + 1, none⟩) l.length (cap - 1)), (29, .pointer (some ⟨(φ11 0), 0, none⟩)), (28, .agg #[.int .i64 (IntKind.wrap .i64 (Int.tmod ((x.toNat : Nat) : Int) ((2 : Nat) : Int))), .pointer none, .pointer none]), (27, .int .i64 (IntKind.wrap .i64 (Int.tmod ((x.toNat : Nat) : Int) ((2 : Nat) : Int)))), (26, .int .u8 (Int.tmod ((x.toNat : Nat) : Int) ((2 : Nat) : Int))), (25, .int .u8 ((x.toNat : Nat) : Int))]) (fun φ11 => [((φ11 0), .cells #[.int .i64 (IntKind.wrap .i64 (Int.tmod ((x.toNat : Nat) : Int) ((2 : Nat) : Int))), .pointer none, .pointer none] 73)]) (fun φ11 => []) s trivial (fun φ11 => by kernel_rfl) ?_
        intro φ11 w11 s
        rw [nat_rem (a := x.toNat) (b := 2)] at s ⊢
        rw [nat_wrapI (a := (x.toNat % 2)) (by have hq0 := of_decide_eq_false hc3; have hq1 := of_decide_eq_true hc9; omega)] at s ⊢
        refine ops_done (by kernel_rfl) ?_
        refine wp_ret ?_
        refine ret_rule (C := []) [((φ11 0), .cells #[.int .i64 ((x.toNat % 2 : Nat) : Int), .pointer none, .pointer none] 73)] [] (.tuple #[.pointer (some ⟨(φ11 0), 0, none⟩), .slice (if cap = 1 then some ⟨b, o, none⟩ else some ⟨b, o + 1, none⟩) l.length (cap - 1)]) [] [] s trivial (by kernel_rfl) ?_
        obtain ⟨I12, le12, hk12, s⟩ := s.freezeAt 0 (φ11 0) (.cells #[.int .i64 ((x.toNat % 2 : Nat) : Int), .pointer none, .pointer none] 73) [] (by kernel_rfl) (by kernel_rfl)
        replace hrest := BSl.mono le12 hrest
        replace hcs := le12 _ _ hcs
        obtain ⟨t9, hn9, hd9, ht9⟩ := rt_bit hk12
        exact ⟨_, _, _, rfl, s, ⟨_, _, t9, _, rfl, ⟨hn9, by omega⟩, ht9, hrest⟩⟩
      ·
        rw [hc9]
        refine ops_rule (C := []) [] [] 4 [] 0 (fun φ13 => [(24, .bool (decide ((Int.tmod ((x.toNat : Nat) : Int) ((4 : Nat) : Int)) < ((2 : Nat) : Int)))), (23, .bool (decide ((Int.tmod ((x.toNat : Nat) : Int) ((4 : Nat) : Int)) < ((2 : Nat) : Int)))), (22, .int .u8 (Int.tmod ((x.toNat : Nat) : Int) ((4 : Nat) : Int))), (21, .int .u8 ((x.toNat : Nat) : Int))]) (fun φ13 => []) (fun φ13 => []) s trivial (fun φ13 => by kernel_rfl) ?_
        intro φ13 w13 s
        rw [nat_rem (a := x.toNat) (b := 4)]
        rw [nat_lss (a := (x.toNat % 4)) (b := 2)]
        refine ops_done (by kernel_rfl) ?_
        rcases Bool.eq_false_or_eq_true (decide ((x.toNat % 4) < 2)) with hc14 | hc14
        ·
          rw [hc14]
          refine cond_true_rule (b := true) (by kernel_rfl) rfl ?_
          refine wp_seq ?_
          refine region_rule ?_
          refine ops_rule (C := []) [] [] 8 [] 1 (fun φ15 => [(5, .slice (if cap = 1 then some ⟨b, o, none⟩ else some ⟨b, o + 1, none⟩) l.length (cap - 1)), (4, .pointer (some ⟨(φ15 0), 0, none⟩)), (30, .slice (if cap = 1 then some ⟨b, o, none⟩ else some ⟨b, o + 1, none⟩) l.length (cap - 1)), (29, .pointer (some ⟨(φ15 0), 0, none⟩)), (28, .agg #[.int .i64 (IntKind.wrap .i64 (Int.tmod ((x.toNat : Nat) : Int) ((2 : Nat) : Int))), .pointer none, .pointer none]), (27, .int .i64 (IntKind.wrap .i64 (Int.tmod ((x.toNat : Nat) : Int) ((2 : Nat) : Int)))), (26, .int .u8 (Int.tmod ((x.toNat : Nat) : Int) ((2 : Nat) : Int))), (25, .int .u8 ((x.toNat : Nat) : Int))]) (fun φ15 => [((φ15 0), .cells #[.int .i64 (IntKind.wrap .i64 (Int.tmod ((x.toNat : Nat) : Int) ((2 : Nat) : Int))), .pointer none, .pointer none] 73)]) (fun φ15 => []) s trivial (fun φ15 => by kernel_rfl) ?_
          intro φ15 w15 s
          rw [nat_rem (a := x.toNat) (b := 2)] at s ⊢
          rw [nat_wrapI (a := (x.toNat % 2)) (by have hq0 := of_decide_eq_false hc3; have hq1 := of_decide_eq_false hc9; have hq2 := of_decide_eq_true hc14; omega)] at s ⊢
          refine ops_done (by kernel_rfl) ?_
          refine wp_ret ?_
          refine ret_rule (C := []) [((φ15 0), .cells #[.int .i64 ((x.toNat % 2 : Nat) : Int), .pointer none, .pointer none] 73)] [] (.tuple #[.pointer (some ⟨(φ15 0), 0, none⟩), .slice (if cap = 1 then some ⟨b, o, none⟩ else some ⟨b, o + 1, none⟩) l.length (cap - 1)]) [] [] s trivial (by kernel_rfl) ?_
          obtain ⟨I16, le16, hk16, s⟩ := s.freezeAt 0 (φ15 0) (.cells #[.int .i64 ((x.toNat % 2 : Nat) : Int), .pointer none, .pointer none] 73) [] (by kernel_rfl) (by kernel_rfl)
          replace hrest := BSl.mono le16 hrest
          replace hcs := le16 _ _ hcs
          obtain ⟨t9, hn9, hd9, ht9⟩ := rt_bit hk16
          exact ⟨_, _, _, rfl, s, ⟨_, _, t9, _, rfl, ⟨hn9, by omega⟩, ht9, hrest⟩⟩
        ·
          rw [hc14]
          refine cond_false_rule (b := false) (by kernel_rfl) rfl ?_
          refine wp_skip ?_
          refine wp_seq ?_
          refine region_rule ?_
          refine ops_rule (C := []) [] [] 3 [] 0 (fun φ17 => [(34, .int .i64 (IntKind.wrap .i64 (((m : Nat) : Int) - ((1 : Nat) : Int)))), (33, .int .i64 ((m : Nat) : Int)), (32, .slice (if cap = 1 then some ⟨b, o, none⟩ else some ⟨b, o + 1, none⟩) l.length (cap - 1))]) (fun φ17 => []) (fun φ17 => []) s trivial (fun φ17 => by kernel_rfl) ?_
          intro φ17 w17 s
          rw [nat_subI (a := m) (b := 1) (by have hq0 := of_decide_eq_false hc3; have hq1 := of_decide_eq_false hc9; have hq2 := of_decide_eq_false hc14; omega) (by have hq0 := of_decide_eq_false hc3; have hq1 := of_decide_eq_false hc9; have hq2 := of_decide_eq_false hc14; omega)]
          refine call_rule (some 35) s (ih (of_decide_eq_false hc9) hrest) (by kernel_rfl) ?_
          intro v18 I18 w18 le18 h18 s
          replace hrest := BSl.mono le18 hrest
          replace hcs := le18 _ _ hcs
          obtain ⟨k18, v18, t18, l18, rfl, h18_0, h18_1, h18_2⟩ := h18
          refine ops_rule (C := []) [] [] 5 [] 0 (fun φ19 => [(0, v18), (7, .pointer (some ⟨k18, 0, none⟩)), (37, v18), (36, .pointer (some ⟨k18, 0, none⟩)), (31, .tuple #[.pointer (some ⟨k18, 0, none⟩), v18])]) (fun φ19 => []) (fun φ19 => []) s trivial (fun φ19 => by kernel_rfl) ?_
          intro φ19 w19 s
          refine ops_done (by kernel_rfl) ?_
          refine wp_seq ?_
          refine region_rule ?_
          refine ops_rule (C := []) [] [] 3 [] 0 (fun φ20 => [(41, .int .i64 (IntKind.wrap .i64 (((m : Nat) : Int) - ((1 : Nat) : Int)))), (40, .int .i64 ((m : Nat) : Int)), (39, v18)]) (fun φ20 => []) (fun φ20 => []) s trivial (fun φ20 => by kernel_rfl) ?_
          intro φ20 w20 s
          rw [nat_subI (a := m) (b := 1) (by have hq0 := of_decide_eq_false hc3; have hq1 := of_decide_eq_false hc9; have hq2 := of_decide_eq_false hc14; omega) (by have hq0 := of_decide_eq_false hc3; have hq1 := of_decide_eq_false hc9; have hq2 := of_decide_eq_false hc14; omega)]
          refine call_rule (some 42) s (ih (of_decide_eq_false hc9) h18_2) (by kernel_rfl) ?_
          intro v21 I21 w21 le21 h21 s
          replace hrest := BSl.mono le21 hrest
          replace h18_1 := RT.mono le21 h18_1
          replace h18_2 := BSl.mono le21 h18_2
          replace hcs := le21 _ _ hcs
          obtain ⟨k21, v21, t21, l21, rfl, h21_0, h21_1, h21_2⟩ := h21
          refine ops_rule (C := []) [] [] 5 [] 0 (fun φ22 => [(0, v21), (8, .pointer (some ⟨k21, 0, none⟩)), (44, v21), (43, .pointer (some ⟨k21, 0, none⟩)), (38, .tuple #[.pointer (some ⟨k21, 0, none⟩), v21])]) (fun φ22 => []) (fun φ22 => []) s trivial (fun φ22 => by kernel_rfl) ?_
          intro φ22 w22 s
          refine ops_done (by kernel_rfl) ?_
          refine wp_seq ?_
          refine region_rule ?_
          refine ops_rule (C := []) [] [] 2 [] 0 (fun φ23 => [(46, .pointer (some ⟨k21, 0, none⟩)), (45, .pointer (some ⟨k18, 0, none⟩))]) (fun φ23 => []) (fun φ23 => []) s trivial (fun φ23 => by kernel_rfl) ?_
          intro φ23 w23 s
          refine call_rule (some 47) s (rpair_c h18_1 h21_1) (by kernel_rfl) ?_
          intro v24 I24 w24 le24 h24 s
          replace hrest := BSl.mono le24 hrest
          replace h18_1 := RT.mono le24 h18_1
          replace h18_2 := BSl.mono le24 h18_2
          replace h21_1 := RT.mono le24 h21_1
          replace h21_2 := BSl.mono le24 h21_2
          replace hcs := le24 _ _ hcs
          obtain ⟨k24, rfl, h24_0⟩ := h24
          refine ops_rule (C := []) [] [] 3 [] 0 (fun φ25 => [(5, v21), (4, .pointer (some ⟨k24, 0, none⟩)), (48, v21)]) (fun φ25 => []) (fun φ25 => []) s trivial (fun φ25 => by kernel_rfl) ?_
          intro φ25 w25 s
          refine ops_done (by kernel_rfl) ?_
          refine wp_ret ?_
          refine ret_rule (C := []) [] [] (.tuple #[.pointer (some ⟨k24, 0, none⟩), v21]) [] [] s trivial (by kernel_rfl) ?_
          exact ⟨_, _, _, rfl, s, ⟨_, _, (T.mk t18 t21), _, rfl, ⟨T.nf_mk h18_0.1 h21_0.1, by have hm := of_decide_eq_false hc9; have h1 := T.mk_depth t18 t21; have h2 := h18_0.2; have h3 := h21_0.2; omega⟩, h24_0, h21_2⟩⟩

theorem make_c : ∀ (m : Nat) {I : IM} {xs : List UInt8} {v : Value}, m ≤ 100 → BSl I xs v → Fun Try.prog 30 #[v, .int .i64 ((m : Nat) : Int)] I (fun v J => ∃ k v' t l', v = .tuple #[.pointer (some ⟨k, 0, none⟩), v'] ∧ (t.nf ∧ t.depth ≤ m) ∧ RT J t k ∧ BSl J l' v')
  | 0, _, _, _, h, hv => make_step hv h (fun h => absurd rfl h)
  | m + 1, _, _, _, h, hv => make_step hv h (fun _ {J} {xs} {v} k => make_c m (by omega) k)

end Go.Proofs.Ytgdickihjaomjaa.Ev

/- made: a stamp of bytes, the program's and the document's. -/
set_option linter.all false
set_option maxRecDepth 100000
namespace Go.Proofs.Ytgdickihjaomjaa.Ev
open Go.RowKit Go.Sep

theorem bsl_take {I : IM} {p : List UInt8} {a : Option Addr} {cap : Nat} (h : BSl I p (.slice a p.length cap)) : BSl I (p.take 60) (.slice a (min p.length 60) cap) := by
  obtain ⟨a', cap', hv, hc, hr⟩ := h
  cases hv
  refine ⟨a, cap, by rw [List.length_take, Nat.min_comm], by rw [List.length_take]; omega, fun j x hj => ?_⟩
  rw [List.getElem?_take] at hj
  split at hj
  · exact hr j x hj
  · cases hj
theorem map_add_zero (a : Option Addr) : a.map (·.add 0) = a := by cases a <;> rfl
theorem run_to {w : World} {a : Option Addr} {n h cap : Nat} (h1 : h ≤ cap) : (Instr.sliceAt 22 (.slice a n cap) none (some (.int .i64 ((h : Nat) : Int))) none).run Try.prog w = .ok (.slice a h cap) w := by
  have hb : (Instr.sliceBound (.int .i64 ((h : Nat) : Int)) cap .sliceAcap).run Try.prog w = .ok h w := run_bound h1
  simp [Instr.sliceAt, Instr.slice, run_underlying under22, Instr.sliceBounds, hb, size5]
  intro _
  exact map_add_zero a

end Go.Proofs.Ytgdickihjaomjaa.Ev

/- Joins of stamps; what splitting and joining keep. -/
set_option linter.all false
set_option maxRecDepth 100000
namespace Go.Proofs.Ytgdickihjaomjaa.Ev
open Go.RowKit Go.Sep

theorem isZero_eq {t : T} (h : t.isZero = true) : t = .zero := by cases t <;> simp_all [T.isZero]
theorem cover_self : ∀ t : T, coverT t t = true
  | .zero => rfl
  | .one => rfl
  | .node l r => by show (coverT l l && coverT r r) = true; rw [cover_self l, cover_self r]; rfl
end Go.Proofs.Ytgdickihjaomjaa.Ev

/- Shares as spans: the spans of an id, how wide they are, what two have in common. -/
set_option linter.all false
namespace Go.Proofs.Ytgdickihjaomjaa.Ev
open Go.RowKit Go.Sep
/-- the spans of a part that begins at a and is 2^k wide -/
def spT : T → Nat → Nat → List (Nat × Nat)
  | .zero, _, _ => []
  | .one, a, k => [(a, 2 ^ k)]
  | .node l r, a, k => spT l a (k - 1) ++ spT r (a + 2 ^ (k - 1)) (k - 1)
/-- how many -/
def cntT : T → Nat
  | .zero => 0
  | .one => 1
  | .node l r => cntT l + cntT r
/-- how wide, together -/
def widT : T → Nat → Nat
  | .zero, _ => 0
  | .one, k => 2 ^ k
  | .node l r, k => widT l (k - 1) + widT r (k - 1)
theorem spT_length : ∀ (t : T) (a k : Nat), (spT t a k).length = cntT t
  | .zero, _, _ => rfl
  | .one, _, _ => rfl
  | .node l r, a, k => by simp only [spT, cntT, List.length_append, spT_length l, spT_length r]
def sumW (l : List (Nat × Nat)) : Nat := (l.map (·.2)).sum
theorem sumW_append (l m : List (Nat × Nat)) : sumW (l ++ m) = sumW l + sumW m := by simp [sumW]
theorem sumW_spT : ∀ (t : T) (a k : Nat), sumW (spT t a k) = widT t k
  | .zero, _, _ => rfl
  | .one, _, _ => by simp [sumW, spT, widT]
  | .node l r, a, k => by simp only [spT, widT, sumW_append, sumW_spT l, sumW_spT r]
theorem cntT_le : ∀ (t : T), cntT t ≤ 2 ^ t.depth
  | .zero => by simp [cntT]
  | .one => by simp [cntT, T.depth]
  | .node l r => by
    have h1 := cntT_le l
    have h2 := cntT_le r
    have e : (T.node l r).depth = max l.depth r.depth + 1 := by show 1 + _ = _; omega
    have h3 : 2 ^ l.depth ≤ 2 ^ max l.depth r.depth := Nat.pow_le_pow_right (by omega) (by omega)
    have h4 : 2 ^ r.depth ≤ 2 ^ max l.depth r.depth := Nat.pow_le_pow_right (by omega) (by omega)
    rw [e, Nat.pow_succ]; simp only [cntT]; omega
theorem cntT_small {t : T} (h : t.depth ≤ 8) : cntT t ≤ 256 := by
  have h1 := cntT_le t
  have h2 : 2 ^ t.depth ≤ 2 ^ 8 := Nat.pow_le_pow_right (by omega) h
  omega
theorem T.left_depth (t : T) : t.left.depth ≤ t.depth - 1 := by cases t <;> simp only [T.left, T.depth] <;> omega
theorem T.right_depth (t : T) : t.right.depth ≤ t.depth - 1 := by cases t <;> simp only [T.right, T.depth] <;> omega
theorem wid_half (t : T) (k : Nat) : widT t (k + 1) = widT t.left k + widT t.right k := by
  cases t with
  | zero => rfl
  | one => simp only [widT, T.left, T.right, Nat.pow_succ]; omega
  | node l r => rfl
theorem dep0 {t : T} (h : t.depth ≤ 0) : t = .zero ∨ t = .one := by
  cases t with
  | zero => exact .inl rfl
  | one => exact .inr rfl
  | node l r => simp only [T.depth] at h; omega
theorem wid_le : ∀ (k : Nat) {t : T}, t.depth ≤ k → widT t k ≤ 2 ^ k
  | 0, t, h => by rcases dep0 h with rfl | rfl <;> simp [widT]
  | k + 1, t, h => by
    have l1 := T.left_depth t
    have r1 := T.right_depth t
    have h1 := wid_le k (t := t.left) (by omega)
    have h2 := wid_le k (t := t.right) (by omega)
    rw [wid_half, Nat.pow_succ]; omega
theorem spT_in : ∀ {t : T} {a k : Nat} {s : Nat × Nat}, t.depth ≤ k → s ∈ spT t a k → a ≤ s.1 ∧ s.1 + s.2 ≤ a + 2 ^ k
  | .zero, _, _, _, _, h => by simp [spT] at h
  | .one, _, _, _, _, h => by simp only [spT, List.mem_singleton] at h; subst h; simp
  | .node l r, a, k, s, hd, h => by
    simp only [T.depth] at hd
    have e : 2 ^ k = 2 ^ (k - 1) + 2 ^ (k - 1) := by
      conv => lhs; rw [show k = (k - 1) + 1 by omega]
      rw [Nat.pow_succ]; omega
    simp only [spT, List.mem_append] at h
    rcases h with h | h
    · have := spT_in (by omega) h; omega
    · have := spT_in (by omega) h; omega
/-- the spans as the program holds them -/
def cxs (l : List (Nat × Nat)) : List Value := l.map fun s => .complex .f64 (dF s.1) (dF s.2)
theorem cxs_append (l m : List (Nat × Nat)) : cxs (l ++ m) = cxs l ++ cxs m := List.map_append
theorem cxs_length (l : List (Nat × Nat)) : (cxs l).length = l.length := List.length_map _
end Go.Proofs.Ytgdickihjaomjaa.Ev

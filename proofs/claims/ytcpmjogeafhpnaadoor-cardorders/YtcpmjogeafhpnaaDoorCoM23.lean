/- A field, right or not: the document's. -/
import Derived.Test.YtcpmjogeafhpnaaDoorCoM22
import Derived.Test.YtcpmjogeafhpnaaDoorCoM17
import Derived.Test.YtcpmjogeafhpnaaDoorCoS11
import Derived.Test.YtcpmjogeafhpnaaDoorCoS10
import Derived.Laws.MakeOwn
import Derived.Laws.IdiomStrings
import Derived.Laws.StructEq
set_option linter.all false
set_option maxRecDepth 100000
namespace Go.Proofs.YtcpmjogeafhpnaaDoor.Tx
open Go.RowKit Go.Sep
attribute [local irreducible] Go.wpList Go.Code.wp

set_option maxHeartbeats 4000000 in
theorem refRight_c {I : IM} {z : Int} {A B : List UInt8} (hA : A.length ≤ 1000000) (hB : B.length ≤ 1000000) : Fun Tryd.prog 23 #[.agg #[.int .i64 z, .string ⟨(A).toArray⟩, .string ⟨(B).toArray⟩]] I (fun v J => v = .int .i64 ((rtE z A B : Nat) : Int)) := by
  refine enter_rule 58 [(0, .agg #[.int .i64 z, .string ⟨(A).toArray⟩, .string ⟨(B).toArray⟩])] Tryd.func23 rfl (by kernel_rfl) ?_
  intro w s
  refine wp_seq ?_
  refine region_rule ?_
  refine ops_rule (C := []) [] [] 2 [] 1 (fun φ1 => [(2, .int .i64 0), (1, .pointer (some ⟨(φ1 0), 0, none⟩))]) (fun φ1 => [((φ1 0), .cells #[.int .i64 z, .string ⟨(A).toArray⟩, .string ⟨(B).toArray⟩] 42)]) (fun φ1 => []) s trivial (fun φ1 => by kernel_rfl) ?_
  intro φ1 w1 s
  refine ops_done (by kernel_rfl) ?_
  refine wp_seq ?_
  refine wp_seq ?_
  refine region_rule ?_
  refine ops_rule (C := []) [((φ1 0), .cells #[.int .i64 z, .string ⟨(A).toArray⟩, .string ⟨(B).toArray⟩] 42)] [] 4 [.o 0] 0 (fun φ2 => [(8, .bool (decide (z < ((1 : Nat) : Int)))), (7, .bool (decide (z < ((1 : Nat) : Int)))), (6, .int .i64 z), (5, .pointer (some ⟨(φ1 0), 0, none⟩))]) (fun φ2 => [((φ1 0), .cells #[.int .i64 z, .string ⟨(A).toArray⟩, .string ⟨(B).toArray⟩] 42)]) (fun φ2 => [(φ1 0)]) s trivial (fun φ2 => by kernel_rfl) ?_
  intro φ2 w2 s
  rcases Bool.eq_false_or_eq_true (decide (z < ((1 : Nat) : Int))) with hc3 | hc3
  ·
    rw [hc3]
    refine ops_rule (C := []) [((φ1 0), .cells #[.int .i64 z, .string ⟨(A).toArray⟩, .string ⟨(B).toArray⟩] 42)] [] 4 [] 0 (fun φ4 => [(12, .bool true), (11, undef), (10, undef), (9, undef)]) (fun φ4 => [((φ1 0), .cells #[.int .i64 z, .string ⟨(A).toArray⟩, .string ⟨(B).toArray⟩] 42)]) (fun φ4 => []) s trivial (fun φ4 => by kernel_rfl) ?_
    intro φ4 w4 s
    refine ops_done (by kernel_rfl) ?_
    refine cond_true_rule (b := true) (by kernel_rfl) rfl ?_
    refine wp_seq ?_
    refine region_rule ?_
    refine ops_rule (C := []) [((φ1 0), .cells #[.int .i64 z, .string ⟨(A).toArray⟩, .string ⟨(B).toArray⟩] 42)] [] 1 [] 0 (fun φ5 => [(2, .int .i64 1)]) (fun φ5 => [((φ1 0), .cells #[.int .i64 z, .string ⟨(A).toArray⟩, .string ⟨(B).toArray⟩] 42)]) (fun φ5 => []) s trivial (fun φ5 => by kernel_rfl) ?_
    intro φ5 w5 s
    refine ops_done (by kernel_rfl) ?_
    refine wp_ret ?_
    refine ret_rule (C := []) [((φ1 0), .cells #[.int .i64 z, .string ⟨(A).toArray⟩, .string ⟨(B).toArray⟩] 42)] [] (.int .i64 1) [] [] s trivial (by kernel_rfl) ?_
    exact ⟨_, _, _, rfl, s, (congrArg (fun q : Nat => Value.int .i64 (q : Int)) (rt1 (by have h9 := of_decide_eq_true hc3; omega)).symm)⟩
  ·
    rw [hc3]
    refine ops_rule (C := []) [((φ1 0), .cells #[.int .i64 z, .string ⟨(A).toArray⟩, .string ⟨(B).toArray⟩] 42)] [] 4 [.o 0] 0 (fun φ6 => [(12, .bool (decide (z > ((6 : Nat) : Int)))), (11, .bool (decide (z > ((6 : Nat) : Int)))), (10, .int .i64 z), (9, .pointer (some ⟨(φ1 0), 0, none⟩))]) (fun φ6 => [((φ1 0), .cells #[.int .i64 z, .string ⟨(A).toArray⟩, .string ⟨(B).toArray⟩] 42)]) (fun φ6 => [(φ1 0)]) s trivial (fun φ6 => by kernel_rfl) ?_
    intro φ6 w6 s
    refine ops_done (by kernel_rfl) ?_
    rcases Bool.eq_false_or_eq_true (decide (z > ((6 : Nat) : Int))) with hc7 | hc7
    ·
      rw [hc7]
      refine cond_true_rule (b := true) (by kernel_rfl) rfl ?_
      refine wp_seq ?_
      refine region_rule ?_
      refine ops_rule (C := []) [((φ1 0), .cells #[.int .i64 z, .string ⟨(A).toArray⟩, .string ⟨(B).toArray⟩] 42)] [] 1 [] 0 (fun φ8 => [(2, .int .i64 1)]) (fun φ8 => [((φ1 0), .cells #[.int .i64 z, .string ⟨(A).toArray⟩, .string ⟨(B).toArray⟩] 42)]) (fun φ8 => []) s trivial (fun φ8 => by kernel_rfl) ?_
      intro φ8 w8 s
      refine ops_done (by kernel_rfl) ?_
      refine wp_ret ?_
      refine ret_rule (C := []) [((φ1 0), .cells #[.int .i64 z, .string ⟨(A).toArray⟩, .string ⟨(B).toArray⟩] 42)] [] (.int .i64 1) [] [] s trivial (by kernel_rfl) ?_
      exact ⟨_, _, _, rfl, s, (congrArg (fun q : Nat => Value.int .i64 (q : Int)) (rt1 (by have h8 := of_decide_eq_false hc3; have h9 := of_decide_eq_true hc7; omega)).symm)⟩
    ·
      rw [hc7]
      refine cond_false_rule (b := false) (by kernel_rfl) rfl ?_
      refine wp_skip ?_
      refine wp_seq ?_
      refine wp_seq ?_
      refine region_rule ?_
      refine ops_rule (C := []) [((φ1 0), .cells #[.int .i64 z, .string ⟨(A).toArray⟩, .string ⟨(B).toArray⟩] 42)] [] 2 [.o 0] 0 (fun φ9 => [(14, .string ⟨(A).toArray⟩), (13, .pointer (some ⟨(φ1 0), 1, none⟩))]) (fun φ9 => [((φ1 0), .cells #[.int .i64 z, .string ⟨(A).toArray⟩, .string ⟨(B).toArray⟩] 42)]) (fun φ9 => [(φ1 0)]) s trivial (fun φ9 => by kernel_rfl) ?_
      intro φ9 w9 s
      refine call_rule (some 15) s (refCheck_c (l := A) (mi := 12) hA) (by kernel_rfl) ?_
      intro v10 I10 w10 le10 h10 s
      obtain rfl := h10
      refine ops_rule (C := []) [((φ1 0), .cells #[.int .i64 z, .string ⟨(A).toArray⟩, .string ⟨(B).toArray⟩] 42)] [] 1 [] 0 (fun φ11 => [(3, .int .i64 ((ckE A 12 : Nat) : Int))]) (fun φ11 => [((φ1 0), .cells #[.int .i64 z, .string ⟨(A).toArray⟩, .string ⟨(B).toArray⟩] 42)]) (fun φ11 => []) s trivial (fun φ11 => by kernel_rfl) ?_
      intro φ11 w11 s
      refine ops_done (by kernel_rfl) ?_
      refine wp_seq ?_
      refine region_rule ?_
      refine ops_rule (C := []) [((φ1 0), .cells #[.int .i64 z, .string ⟨(A).toArray⟩, .string ⟨(B).toArray⟩] 42)] [] 2 [] 0 (fun φ12 => [(17, .bool (((ckE A 12 : Nat) : Int) != ((0 : Nat) : Int))), (16, .int .i64 ((ckE A 12 : Nat) : Int))]) (fun φ12 => [((φ1 0), .cells #[.int .i64 z, .string ⟨(A).toArray⟩, .string ⟨(B).toArray⟩] 42)]) (fun φ12 => []) s trivial (fun φ12 => by kernel_rfl) ?_
      intro φ12 w12 s
      rw [nat_neq (a := (ckE A 12)) (b := 0)]
      refine ops_done (by kernel_rfl) ?_
      rcases Bool.eq_false_or_eq_true (decide ((ckE A 12) ≠ 0)) with hc13 | hc13
      ·
        rw [hc13]
        refine cond_true_rule (b := true) (by kernel_rfl) rfl ?_
        refine wp_seq ?_
        refine region_rule ?_
        refine ops_rule (C := []) [((φ1 0), .cells #[.int .i64 z, .string ⟨(A).toArray⟩, .string ⟨(B).toArray⟩] 42)] [] 2 [] 0 (fun φ14 => [(2, .int .i64 ((ckE A 12 : Nat) : Int)), (18, .int .i64 ((ckE A 12 : Nat) : Int))]) (fun φ14 => [((φ1 0), .cells #[.int .i64 z, .string ⟨(A).toArray⟩, .string ⟨(B).toArray⟩] 42)]) (fun φ14 => []) s trivial (fun φ14 => by kernel_rfl) ?_
        intro φ14 w14 s
        refine ops_done (by kernel_rfl) ?_
        refine wp_ret ?_
        refine ret_rule (C := []) [((φ1 0), .cells #[.int .i64 z, .string ⟨(A).toArray⟩, .string ⟨(B).toArray⟩] 42)] [] (.int .i64 ((ckE A 12 : Nat) : Int)) [] [] s trivial (by kernel_rfl) ?_
        exact ⟨_, _, _, rfl, s, (congrArg (fun q : Nat => Value.int .i64 (q : Int)) (rt2 (by have h8 := of_decide_eq_false hc3; have h9 := of_decide_eq_false hc7; omega) (of_decide_eq_true hc13)).symm)⟩
      ·
        rw [hc13]
        refine cond_false_rule (b := false) (by kernel_rfl) rfl ?_
        refine wp_skip ?_
        refine wp_seq ?_
        refine wp_seq ?_
        refine region_rule ?_
        refine ops_rule (C := []) [((φ1 0), .cells #[.int .i64 z, .string ⟨(A).toArray⟩, .string ⟨(B).toArray⟩] 42)] [] 2 [.o 0] 0 (fun φ15 => [(20, .string ⟨(B).toArray⟩), (19, .pointer (some ⟨(φ1 0), 2, none⟩))]) (fun φ15 => [((φ1 0), .cells #[.int .i64 z, .string ⟨(A).toArray⟩, .string ⟨(B).toArray⟩] 42)]) (fun φ15 => [(φ1 0)]) s trivial (fun φ15 => by kernel_rfl) ?_
        intro φ15 w15 s
        refine call_rule (some 21) s (refCheck_c (l := B) (mi := 40) hB) (by kernel_rfl) ?_
        intro v16 I16 w16 le16 h16 s
        obtain rfl := h16
        refine ops_rule (C := []) [((φ1 0), .cells #[.int .i64 z, .string ⟨(A).toArray⟩, .string ⟨(B).toArray⟩] 42)] [] 1 [] 0 (fun φ17 => [(4, .int .i64 ((ckE B 40 : Nat) : Int))]) (fun φ17 => [((φ1 0), .cells #[.int .i64 z, .string ⟨(A).toArray⟩, .string ⟨(B).toArray⟩] 42)]) (fun φ17 => []) s trivial (fun φ17 => by kernel_rfl) ?_
        intro φ17 w17 s
        refine ops_done (by kernel_rfl) ?_
        refine wp_seq ?_
        refine region_rule ?_
        refine ops_rule (C := []) [((φ1 0), .cells #[.int .i64 z, .string ⟨(A).toArray⟩, .string ⟨(B).toArray⟩] 42)] [] 2 [] 0 (fun φ18 => [(23, .bool (((ckE B 40 : Nat) : Int) != ((0 : Nat) : Int))), (22, .int .i64 ((ckE B 40 : Nat) : Int))]) (fun φ18 => [((φ1 0), .cells #[.int .i64 z, .string ⟨(A).toArray⟩, .string ⟨(B).toArray⟩] 42)]) (fun φ18 => []) s trivial (fun φ18 => by kernel_rfl) ?_
        intro φ18 w18 s
        rw [nat_neq (a := (ckE B 40)) (b := 0)]
        refine ops_done (by kernel_rfl) ?_
        rcases Bool.eq_false_or_eq_true (decide ((ckE B 40) ≠ 0)) with hc19 | hc19
        ·
          rw [hc19]
          refine cond_true_rule (b := true) (by kernel_rfl) rfl ?_
          refine wp_seq ?_
          refine region_rule ?_
          refine ops_rule (C := []) [((φ1 0), .cells #[.int .i64 z, .string ⟨(A).toArray⟩, .string ⟨(B).toArray⟩] 42)] [] 2 [] 0 (fun φ20 => [(2, .int .i64 ((ckE B 40 : Nat) : Int)), (24, .int .i64 ((ckE B 40 : Nat) : Int))]) (fun φ20 => [((φ1 0), .cells #[.int .i64 z, .string ⟨(A).toArray⟩, .string ⟨(B).toArray⟩] 42)]) (fun φ20 => []) s trivial (fun φ20 => by kernel_rfl) ?_
          intro φ20 w20 s
          refine ops_done (by kernel_rfl) ?_
          refine wp_ret ?_
          refine ret_rule (C := []) [((φ1 0), .cells #[.int .i64 z, .string ⟨(A).toArray⟩, .string ⟨(B).toArray⟩] 42)] [] (.int .i64 ((ckE B 40 : Nat) : Int)) [] [] s trivial (by kernel_rfl) ?_
          exact ⟨_, _, _, rfl, s, (congrArg (fun q : Nat => Value.int .i64 (q : Int)) (rt3 (by have h8 := of_decide_eq_false hc3; have h9 := of_decide_eq_false hc7; omega) (by have h9 := of_decide_eq_false hc13; omega) (of_decide_eq_true hc19)).symm)⟩
        ·
          rw [hc19]
          refine cond_false_rule (b := false) (by kernel_rfl) rfl ?_
          refine wp_skip ?_
          refine wp_seq ?_
          refine wp_seq ?_
          rcases Bool.eq_false_or_eq_true (decide (B = ([] : List UInt8))) with hc21 | hc21
          ·
            refine draw_rule (C := []) ⟨(fun φ22 xs22 => [.look 0 [] [], .look 0 [.o 0] [(φ1 0)], .ran (binOp .eql 9 (.string ⟨(B).toArray⟩) (.string ⟨(([] : List UInt8)).toArray⟩)), .look 0 [] [], .skip, .skip, .skip, .skip, .skip, .skip, .look 0 [] [], .look 0 [] [], .skip, .skip, .skip, .skip, .skip, .skip, .skip, .skip, .skip, .look 0 [] [], .look 0 [] [], .skip, .skip, .skip, .skip, .skip, .skip, .skip, .skip, .skip, .look 0 [] []]), (fun φ22 xs22 => [.pointer (some ⟨(φ1 0), 2, none⟩), .string ⟨(B).toArray⟩, .bool true, .bool true, undef, undef, undef, undef, undef, undef, .bool true, .bool true, undef, undef, undef, undef, undef, undef, undef, undef, undef, .bool true, .bool true, undef, undef, undef, undef, undef, undef, undef, undef, undef, .bool true]), (fun φ22 xs22 => [[((φ1 0), .cells #[.int .i64 z, .string ⟨(A).toArray⟩, .string ⟨(B).toArray⟩] 42)]]), (fun φ22 xs22 => [[default, default, default, default, default, default, default, default, default, default, default, default, default, default, default, default, default, default, default, default, default, default, default, default, default, default, default, default, default, default, default, default, default]]), [], [1, 1, 6, 1, 0, 0, 0, 0, 0, 0, 1, 1, 0, 0, 0, 0, 0, 0, 0, 0, 0, 1, 1, 0, 0, 0, 0, 0, 0, 0, 0, 0, 1]⟩ (fun j => ([MP.any, MP.any, MP.any, MP.any, MP.any, MP.any, MP.any, MP.any, MP.any, MP.any, MP.any, MP.any, MP.any, MP.any, MP.any, MP.any, MP.any, MP.any, MP.any, MP.any, MP.any, MP.any, MP.any, MP.any, MP.any, MP.any, MP.any, MP.any, MP.any, MP.any, MP.any, MP.any, MP.any] : List MP).getD j MP.any) [] [] [2] (fun φ22 xs22 => []) (fun φ22 xs22 => [(25, .pointer (some ⟨(φ1 0), 2, none⟩)), (26, .string ⟨(B).toArray⟩), (27, .bool true), (28, .bool true), (29, undef), (30, undef), (31, undef), (32, undef), (33, undef), (34, undef), (35, .bool true), (36, .bool true), (37, undef), (38, undef), (39, undef), (40, undef), (41, undef), (42, undef), (43, undef), (44, undef), (45, undef), (46, .bool true), (47, .bool true), (48, undef), (49, undef), (50, undef), (51, undef), (52, undef), (53, undef), (54, undef), (55, undef), (56, undef), (57, .bool true)]) (fun φ22 xs22 => [((φ1 0), .cells #[.int .i64 z, .string ⟨(A).toArray⟩, .string ⟨(B).toArray⟩] 42)]) s trivial (by kernel_rfl) (by kernel_rfl) (fun _ _ => by kernel_rfl) (fun _ _ => by kernel_rfl) ⟨fun _ _ => by kernel_rfl, fun _ _ => by kernel_rfl, fun _ _ => by kernel_rfl, fun _ _ => by kernel_rfl⟩ (fun _ _ _ => by kernel_rfl) (fun _ _ => by kernel_rfl) (fun _ _ => by kernel_rfl) (fun _ _ => by kernel_rfl) (fun _ _ => by kernel_rfl) (fun _ _ => by kernel_rfl) trivial ⟨kcast (A := ∀ (φ22 : Nat → Nat) (xs22 : Xs) (J : IM) (w : World), I16.Le J → J.Sub w → ((binOp .eql 9 (.string ⟨(B).toArray⟩) (.string ⟨(([] : List UInt8)).toArray⟩)) : Sem Value).run Tryd.prog w = .ok (.bool true) w) (by kernel_rfl) (fun φ22 xs22 J w hJ hS => ((run_eqS (x := B) (y := ([] : List UInt8)) : ((binOp .eql 9 (.string ⟨(B).toArray⟩) (.string ⟨(([] : List UInt8)).toArray⟩)) : Sem Value).run Tryd.prog w = .ok (.bool (decide (B = ([] : List UInt8)))) w).trans (congrArg (fun q => Result.ok (Value.bool q) w) hc21))), trivial⟩ (by kernel_rfl) trivial ?k22
            case k22 =>
              rintro φ22 xs22 I22 w22 le22 s 
              refine cond_true_rule (b := true) (by kernel_rfl) rfl ?_
              refine wp_seq ?_
              refine region_rule ?_
              refine ops_rule (C := []) [((φ1 0), .cells #[.int .i64 z, .string ⟨(A).toArray⟩, .string ⟨(B).toArray⟩] 42)] [] 1 [] 0 (fun φ23 => [(2, .int .i64 7)]) (fun φ23 => [((φ1 0), .cells #[.int .i64 z, .string ⟨(A).toArray⟩, .string ⟨(B).toArray⟩] 42)]) (fun φ23 => []) s trivial (fun φ23 => by kernel_rfl) ?_
              intro φ23 w23 s
              refine ops_done (by kernel_rfl) ?_
              refine wp_ret ?_
              refine ret_rule (C := []) [((φ1 0), .cells #[.int .i64 z, .string ⟨(A).toArray⟩, .string ⟨(B).toArray⟩] 42)] [] (.int .i64 7) [] [] s trivial (by kernel_rfl) ?_
              exact ⟨_, _, _, rfl, s, (congrArg (fun q : Nat => Value.int .i64 (q : Int)) (rt4 (by have h8 := of_decide_eq_false hc3; have h9 := of_decide_eq_false hc7; omega) (by have h9 := of_decide_eq_false hc13; omega) (by have h9 := of_decide_eq_false hc19; omega) (by unfold fitsB; simp only [hc21, Bool.not_true, Bool.not_false, Bool.true_and, Bool.and_true, Bool.false_and, Bool.and_false, Bool.true_or, Bool.or_true, Bool.false_or, Bool.or_false])).symm)⟩
          ·
            rcases Bool.eq_false_or_eq_true (decide (fldS B = B)) with hc24 | hc24
            ·
              rcases Bool.eq_false_or_eq_true (z == ((2 : Nat) : Int)) with hc25 | hc25
              ·
                rcases Bool.eq_false_or_eq_true (phone B) with hc26 | hc26
                ·
                  rcases Bool.eq_false_or_eq_true (z == ((3 : Nat) : Int)) with hc27 | hc27
                  ·
                    refine draw_rule (C := []) ⟨(fun φ28 xs28 => [.look 0 [] [], .look 0 [.o 0] [(φ1 0)], .ran (binOp .eql 9 (.string ⟨(B).toArray⟩) (.string ⟨(([] : List UInt8)).toArray⟩)), .look 0 [] [], .look 0 [] [], .look 0 [.o 0] [(φ1 0)], .call 63 #[.string ⟨(B).toArray⟩], .look 0 [] [], .look 0 [.o 0] [(φ1 0)], .ran (binOp .neq 9 (.string ⟨(fldS B).toArray⟩) (.string ⟨(B).toArray⟩)), .look 0 [] [], .look 0 [] [], .look 0 [] [], .look 0 [.o 0] [(φ1 0)], .sub 0 [] [] (.bool (z == ((2 : Nat) : Int))), .look 0 [] [], .look 0 [] [], .look 0 [.o 0] [(φ1 0)], .call 64 #[.string ⟨(B).toArray⟩], .look 0 [] [], .look 0 [] [], .look 0 [] [], .look 0 [] [], .look 0 [] [], .look 0 [.o 0] [(φ1 0)], .sub 0 [] [] (.bool (z == ((3 : Nat) : Int))), .look 0 [] [], .look 0 [] [], .look 0 [.o 0] [(φ1 0)], .call 65 #[.string ⟨(B).toArray⟩], .look 0 [] [], .look 0 [] [], .look 0 [] []]), (fun φ28 xs28 => [.pointer (some ⟨(φ1 0), 2, none⟩), .string ⟨(B).toArray⟩, .bool false, .bool false, .pointer (some ⟨(φ1 0), 2, none⟩), .string ⟨(B).toArray⟩, .string ⟨(fldS B).toArray⟩, .pointer (some ⟨(φ1 0), 2, none⟩), .string ⟨(B).toArray⟩, .bool false, .bool false, .bool false, .pointer (some ⟨(φ1 0), 0, none⟩), .int .i64 z, .bool true, .bool true, .pointer (some ⟨(φ1 0), 2, none⟩), .string ⟨(B).toArray⟩, .bool true, .bool false, .bool false, .bool false, .bool false, .pointer (some ⟨(φ1 0), 0, none⟩), .int .i64 z, .bool true, .bool true, .pointer (some ⟨(φ1 0), 2, none⟩), .string ⟨(B).toArray⟩, .bool (mail B), .bool (!(mail B)), .bool (!(mail B)), .bool (!(mail B))]), (fun φ28 xs28 => [[((φ1 0), .cells #[.int .i64 z, .string ⟨(A).toArray⟩, .string ⟨(B).toArray⟩] 42)]]), (fun φ28 xs28 => [[default, default, default, default, default, default, default, default, default, default, default, default, default, default, default, default, default, default, default, default, default, default, default, default, default, default, default, default, default, default, default, default, default]]), [], [1, 1, 6, 1, 1, 1, 3, 1, 1, 6, 1, 1, 1, 1, 5, 1, 1, 1, 3, 1, 1, 1, 1, 1, 1, 5, 1, 1, 1, 3, 1, 1, 1]⟩ (fun j => ([MP.any, MP.any, MP.any, MP.any, MP.any, MP.any, MP.any, MP.any, MP.any, MP.any, MP.any, MP.any, MP.any, MP.any, MP.any, MP.any, MP.any, MP.any, MP.any, MP.any, MP.any, MP.any, MP.any, MP.any, MP.any, MP.any, MP.any, MP.any, MP.any, MP.any, MP.any, MP.any, MP.any] : List MP).getD j MP.any) [6, 18, 29] [14, 25] [2, 9] (fun φ28 xs28 => []) (fun φ28 xs28 => [(25, .pointer (some ⟨(φ1 0), 2, none⟩)), (26, .string ⟨(B).toArray⟩), (27, .bool false), (28, .bool false), (29, .pointer (some ⟨(φ1 0), 2, none⟩)), (30, .string ⟨(B).toArray⟩), (31, .string ⟨(fldS B).toArray⟩), (32, .pointer (some ⟨(φ1 0), 2, none⟩)), (33, .string ⟨(B).toArray⟩), (34, .bool false), (35, .bool false), (36, .bool false), (37, .pointer (some ⟨(φ1 0), 0, none⟩)), (38, .int .i64 z), (39, .bool true), (40, .bool true), (41, .pointer (some ⟨(φ1 0), 2, none⟩)), (42, .string ⟨(B).toArray⟩), (43, .bool true), (44, .bool false), (45, .bool false), (46, .bool false), (47, .bool false), (48, .pointer (some ⟨(φ1 0), 0, none⟩)), (49, .int .i64 z), (50, .bool true), (51, .bool true), (52, .pointer (some ⟨(φ1 0), 2, none⟩)), (53, .string ⟨(B).toArray⟩), (54, .bool (mail B)), (55, .bool (!(mail B))), (56, .bool (!(mail B))), (57, .bool (!(mail B)))]) (fun φ28 xs28 => [((φ1 0), .cells #[.int .i64 z, .string ⟨(A).toArray⟩, .string ⟨(B).toArray⟩] 42)]) s trivial (by kernel_rfl) (by kernel_rfl) (fun _ _ => by kernel_rfl) (fun _ _ => by kernel_rfl) ⟨fun _ _ => by kernel_rfl, fun _ _ => by kernel_rfl, fun _ _ => by kernel_rfl, fun _ _ => by kernel_rfl⟩ (fun _ _ _ => by kernel_rfl) (fun _ _ => by kernel_rfl) (fun _ _ => by kernel_rfl) (fun _ _ => by kernel_rfl) (fun _ _ => by kernel_rfl) (fun _ _ => by kernel_rfl) ⟨kcast (A := ∀ (φ28 : Nat → Nat) (xs28 : Xs), (.bool (z == ((2 : Nat) : Int)) : Value) = .bool true) (by kernel_rfl) (fun φ28 xs28 => congrArg Value.bool ((hc25))), ⟨kcast (A := ∀ (φ28 : Nat → Nat) (xs28 : Xs), (.bool (z == ((3 : Nat) : Int)) : Value) = .bool true) (by kernel_rfl) (fun φ28 xs28 => congrArg Value.bool ((hc27))), trivial⟩⟩ ⟨kcast (A := ∀ (φ28 : Nat → Nat) (xs28 : Xs) (J : IM) (w : World), I16.Le J → J.Sub w → ((binOp .eql 9 (.string ⟨(B).toArray⟩) (.string ⟨(([] : List UInt8)).toArray⟩)) : Sem Value).run Tryd.prog w = .ok (.bool false) w) (by kernel_rfl) (fun φ28 xs28 J w hJ hS => ((run_eqS (x := B) (y := ([] : List UInt8)) : ((binOp .eql 9 (.string ⟨(B).toArray⟩) (.string ⟨(([] : List UInt8)).toArray⟩)) : Sem Value).run Tryd.prog w = .ok (.bool (decide (B = ([] : List UInt8)))) w).trans (congrArg (fun q => Result.ok (Value.bool q) w) hc21))), ⟨kcast (A := ∀ (φ28 : Nat → Nat) (xs28 : Xs) (J : IM) (w : World), I16.Le J → J.Sub w → ((binOp .neq 9 (.string ⟨(fldS B).toArray⟩) (.string ⟨(B).toArray⟩)) : Sem Value).run Tryd.prog w = .ok (.bool false) w) (by kernel_rfl) (fun φ28 xs28 J w hJ hS => ((run_neS (x := fldS B) (y := B) : ((binOp .neq 9 (.string ⟨(fldS B).toArray⟩) (.string ⟨(B).toArray⟩)) : Sem Value).run Tryd.prog w = .ok (.bool (!(decide (fldS B = B)))) w).trans (congrArg (fun q => Result.ok (Value.bool (!q)) w) hc24))), trivial⟩⟩ (by kernel_rfl) ⟨?c28_6, ?c28_18, ?c28_29, trivial⟩ ?k28
                    case c28_6 =>
                      refine kcast (A := ∀ (φ28 : Nat → Nat) (xs28 : Xs) (J6_28 : IM), I16.Le J6_28 → Fun Tryd.prog 63 #[.string ⟨(B).toArray⟩] J6_28 (fun v J' => ∃ x : UX, v = .string ⟨(fldS B).toArray⟩ ∧ (True))) (by kernel_rfl) ?_
                      intro φ28 xs28 J6_28 leJ
                      exact Fun.mono (refFold_c (l := B) hB) (fun v J' _ h => ⟨UX.d, h, trivial⟩)
                    case c28_18 =>
                      refine kcast (A := ∀ (φ28 : Nat → Nat) (xs28 : Xs) (J18_28 : IM), I16.Le J18_28 → (True) → Fun Tryd.prog 64 #[.string ⟨(B).toArray⟩] J18_28 (fun v J' => ∃ x : UX, v = .bool true ∧ (True))) (by kernel_rfl) ?_
                      intro φ28 xs28 J18_28 leJ
                      rintro _
                      exact Fun.mono (refPhone_c (l := B) hB) (fun v J' _ h => ⟨UX.d, h.trans (congrArg Value.bool hc26), trivial⟩)
                    case c28_29 =>
                      refine kcast (A := ∀ (φ28 : Nat → Nat) (xs28 : Xs) (J29_28 : IM), I16.Le J29_28 → (True) → (True) → Fun Tryd.prog 65 #[.string ⟨(B).toArray⟩] J29_28 (fun v J' => ∃ x : UX, v = .bool (mail B) ∧ (True))) (by kernel_rfl) ?_
                      intro φ28 xs28 J29_28 leJ
                      rintro _ _
                      exact Fun.mono (refMail_c (l := B) hB) (fun v J' _ h => ⟨UX.d, h, trivial⟩)
                    case k28 =>
                      rintro φ28 xs28 I28 w28 le28 s _ _ _
                      rcases Bool.eq_false_or_eq_true (mail B) with hc29 | hc29
                      ·
                        rw [hc29]
                        refine cond_false_rule (b := false) (by kernel_rfl) rfl ?_
                        refine wp_skip ?_
                        refine wp_seq ?_
                        refine region_rule ?_
                        refine ops_rule (C := []) [((φ1 0), .cells #[.int .i64 z, .string ⟨(A).toArray⟩, .string ⟨(B).toArray⟩] 42)] [] 1 [] 0 (fun φ30 => [(2, .int .i64 0)]) (fun φ30 => [((φ1 0), .cells #[.int .i64 z, .string ⟨(A).toArray⟩, .string ⟨(B).toArray⟩] 42)]) (fun φ30 => []) s trivial (fun φ30 => by kernel_rfl) ?_
                        intro φ30 w30 s
                        refine ops_done (by kernel_rfl) ?_
                        refine wp_ret ?_
                        refine ret_rule (C := []) [((φ1 0), .cells #[.int .i64 z, .string ⟨(A).toArray⟩, .string ⟨(B).toArray⟩] 42)] [] (.int .i64 0) [] [] s trivial (by kernel_rfl) ?_
                        have ehc24 : decide (B = fldS B) = true := by rw [← hc24]; exact decide_eq_decide.2 eq_comm
                        have dhc25 : decide (z = 2) = true := by have h9 := hc25; simpa using h9
                        have e3hc25 : decide (z = 3) = false := decide_eq_false (by have h9 := of_decide_eq_true dhc25; omega)
                        have dhc27 : decide (z = 3) = true := by have h9 := hc27; simpa using h9
                        exact ⟨_, _, _, rfl, s, (by exfalso; have h8 := of_decide_eq_true dhc25; have h9 := of_decide_eq_true dhc27; omega)⟩
                      ·
                        rw [hc29]
                        refine cond_true_rule (b := true) (by kernel_rfl) rfl ?_
                        refine wp_seq ?_
                        refine region_rule ?_
                        refine ops_rule (C := []) [((φ1 0), .cells #[.int .i64 z, .string ⟨(A).toArray⟩, .string ⟨(B).toArray⟩] 42)] [] 1 [] 0 (fun φ31 => [(2, .int .i64 7)]) (fun φ31 => [((φ1 0), .cells #[.int .i64 z, .string ⟨(A).toArray⟩, .string ⟨(B).toArray⟩] 42)]) (fun φ31 => []) s trivial (fun φ31 => by kernel_rfl) ?_
                        intro φ31 w31 s
                        refine ops_done (by kernel_rfl) ?_
                        refine wp_ret ?_
                        refine ret_rule (C := []) [((φ1 0), .cells #[.int .i64 z, .string ⟨(A).toArray⟩, .string ⟨(B).toArray⟩] 42)] [] (.int .i64 7) [] [] s trivial (by kernel_rfl) ?_
                        have ehc24 : decide (B = fldS B) = true := by rw [← hc24]; exact decide_eq_decide.2 eq_comm
                        have dhc25 : decide (z = 2) = true := by have h9 := hc25; simpa using h9
                        have e3hc25 : decide (z = 3) = false := decide_eq_false (by have h9 := of_decide_eq_true dhc25; omega)
                        have dhc27 : decide (z = 3) = true := by have h9 := hc27; simpa using h9
                        exact ⟨_, _, _, rfl, s, (by exfalso; have h8 := of_decide_eq_true dhc25; have h9 := of_decide_eq_true dhc27; omega)⟩
                  ·
                    refine draw_rule (C := []) ⟨(fun φ32 xs32 => [.look 0 [] [], .look 0 [.o 0] [(φ1 0)], .ran (binOp .eql 9 (.string ⟨(B).toArray⟩) (.string ⟨(([] : List UInt8)).toArray⟩)), .look 0 [] [], .look 0 [] [], .look 0 [.o 0] [(φ1 0)], .call 63 #[.string ⟨(B).toArray⟩], .look 0 [] [], .look 0 [.o 0] [(φ1 0)], .ran (binOp .neq 9 (.string ⟨(fldS B).toArray⟩) (.string ⟨(B).toArray⟩)), .look 0 [] [], .look 0 [] [], .look 0 [] [], .look 0 [.o 0] [(φ1 0)], .sub 0 [] [] (.bool (z == ((2 : Nat) : Int))), .look 0 [] [], .look 0 [] [], .look 0 [.o 0] [(φ1 0)], .call 64 #[.string ⟨(B).toArray⟩], .look 0 [] [], .look 0 [] [], .look 0 [] [], .look 0 [] [], .look 0 [] [], .look 0 [.o 0] [(φ1 0)], .sub 0 [] [] (.bool (z == ((3 : Nat) : Int))), .look 0 [] [], .skip, .skip, .skip, .skip, .look 0 [] [], .look 0 [] []]), (fun φ32 xs32 => [.pointer (some ⟨(φ1 0), 2, none⟩), .string ⟨(B).toArray⟩, .bool false, .bool false, .pointer (some ⟨(φ1 0), 2, none⟩), .string ⟨(B).toArray⟩, .string ⟨(fldS B).toArray⟩, .pointer (some ⟨(φ1 0), 2, none⟩), .string ⟨(B).toArray⟩, .bool false, .bool false, .bool false, .pointer (some ⟨(φ1 0), 0, none⟩), .int .i64 z, .bool true, .bool true, .pointer (some ⟨(φ1 0), 2, none⟩), .string ⟨(B).toArray⟩, .bool true, .bool false, .bool false, .bool false, .bool false, .pointer (some ⟨(φ1 0), 0, none⟩), .int .i64 z, .bool false, .bool false, undef, undef, undef, undef, .bool false, .bool false]), (fun φ32 xs32 => [[((φ1 0), .cells #[.int .i64 z, .string ⟨(A).toArray⟩, .string ⟨(B).toArray⟩] 42)]]), (fun φ32 xs32 => [[default, default, default, default, default, default, default, default, default, default, default, default, default, default, default, default, default, default, default, default, default, default, default, default, default, default, default, default, default, default, default, default, default]]), [], [1, 1, 6, 1, 1, 1, 3, 1, 1, 6, 1, 1, 1, 1, 5, 1, 1, 1, 3, 1, 1, 1, 1, 1, 1, 5, 1, 0, 0, 0, 0, 1, 1]⟩ (fun j => ([MP.any, MP.any, MP.any, MP.any, MP.any, MP.any, MP.any, MP.any, MP.any, MP.any, MP.any, MP.any, MP.any, MP.any, MP.any, MP.any, MP.any, MP.any, MP.any, MP.any, MP.any, MP.any, MP.any, MP.any, MP.any, MP.any, MP.any, MP.any, MP.any, MP.any, MP.any, MP.any, MP.any] : List MP).getD j MP.any) [6, 18] [14, 25] [2, 9] (fun φ32 xs32 => []) (fun φ32 xs32 => [(25, .pointer (some ⟨(φ1 0), 2, none⟩)), (26, .string ⟨(B).toArray⟩), (27, .bool false), (28, .bool false), (29, .pointer (some ⟨(φ1 0), 2, none⟩)), (30, .string ⟨(B).toArray⟩), (31, .string ⟨(fldS B).toArray⟩), (32, .pointer (some ⟨(φ1 0), 2, none⟩)), (33, .string ⟨(B).toArray⟩), (34, .bool false), (35, .bool false), (36, .bool false), (37, .pointer (some ⟨(φ1 0), 0, none⟩)), (38, .int .i64 z), (39, .bool true), (40, .bool true), (41, .pointer (some ⟨(φ1 0), 2, none⟩)), (42, .string ⟨(B).toArray⟩), (43, .bool true), (44, .bool false), (45, .bool false), (46, .bool false), (47, .bool false), (48, .pointer (some ⟨(φ1 0), 0, none⟩)), (49, .int .i64 z), (50, .bool false), (51, .bool false), (52, undef), (53, undef), (54, undef), (55, undef), (56, .bool false), (57, .bool false)]) (fun φ32 xs32 => [((φ1 0), .cells #[.int .i64 z, .string ⟨(A).toArray⟩, .string ⟨(B).toArray⟩] 42)]) s trivial (by kernel_rfl) (by kernel_rfl) (fun _ _ => by kernel_rfl) (fun _ _ => by kernel_rfl) ⟨fun _ _ => by kernel_rfl, fun _ _ => by kernel_rfl, fun _ _ => by kernel_rfl, fun _ _ => by kernel_rfl⟩ (fun _ _ _ => by kernel_rfl) (fun _ _ => by kernel_rfl) (fun _ _ => by kernel_rfl) (fun _ _ => by kernel_rfl) (fun _ _ => by kernel_rfl) (fun _ _ => by kernel_rfl) ⟨kcast (A := ∀ (φ32 : Nat → Nat) (xs32 : Xs), (.bool (z == ((2 : Nat) : Int)) : Value) = .bool true) (by kernel_rfl) (fun φ32 xs32 => congrArg Value.bool ((hc25))), ⟨kcast (A := ∀ (φ32 : Nat → Nat) (xs32 : Xs), (.bool (z == ((3 : Nat) : Int)) : Value) = .bool false) (by kernel_rfl) (fun φ32 xs32 => congrArg Value.bool ((hc27))), trivial⟩⟩ ⟨kcast (A := ∀ (φ32 : Nat → Nat) (xs32 : Xs) (J : IM) (w : World), I16.Le J → J.Sub w → ((binOp .eql 9 (.string ⟨(B).toArray⟩) (.string ⟨(([] : List UInt8)).toArray⟩)) : Sem Value).run Tryd.prog w = .ok (.bool false) w) (by kernel_rfl) (fun φ32 xs32 J w hJ hS => ((run_eqS (x := B) (y := ([] : List UInt8)) : ((binOp .eql 9 (.string ⟨(B).toArray⟩) (.string ⟨(([] : List UInt8)).toArray⟩)) : Sem Value).run Tryd.prog w = .ok (.bool (decide (B = ([] : List UInt8)))) w).trans (congrArg (fun q => Result.ok (Value.bool q) w) hc21))), ⟨kcast (A := ∀ (φ32 : Nat → Nat) (xs32 : Xs) (J : IM) (w : World), I16.Le J → J.Sub w → ((binOp .neq 9 (.string ⟨(fldS B).toArray⟩) (.string ⟨(B).toArray⟩)) : Sem Value).run Tryd.prog w = .ok (.bool false) w) (by kernel_rfl) (fun φ32 xs32 J w hJ hS => ((run_neS (x := fldS B) (y := B) : ((binOp .neq 9 (.string ⟨(fldS B).toArray⟩) (.string ⟨(B).toArray⟩)) : Sem Value).run Tryd.prog w = .ok (.bool (!(decide (fldS B = B)))) w).trans (congrArg (fun q => Result.ok (Value.bool (!q)) w) hc24))), trivial⟩⟩ (by kernel_rfl) ⟨?c32_6, ?c32_18, trivial⟩ ?k32
                    case c32_6 =>
                      refine kcast (A := ∀ (φ32 : Nat → Nat) (xs32 : Xs) (J6_32 : IM), I16.Le J6_32 → Fun Tryd.prog 63 #[.string ⟨(B).toArray⟩] J6_32 (fun v J' => ∃ x : UX, v = .string ⟨(fldS B).toArray⟩ ∧ (True))) (by kernel_rfl) ?_
                      intro φ32 xs32 J6_32 leJ
                      exact Fun.mono (refFold_c (l := B) hB) (fun v J' _ h => ⟨UX.d, h, trivial⟩)
                    case c32_18 =>
                      refine kcast (A := ∀ (φ32 : Nat → Nat) (xs32 : Xs) (J18_32 : IM), I16.Le J18_32 → (True) → Fun Tryd.prog 64 #[.string ⟨(B).toArray⟩] J18_32 (fun v J' => ∃ x : UX, v = .bool true ∧ (True))) (by kernel_rfl) ?_
                      intro φ32 xs32 J18_32 leJ
                      rintro _
                      exact Fun.mono (refPhone_c (l := B) hB) (fun v J' _ h => ⟨UX.d, h.trans (congrArg Value.bool hc26), trivial⟩)
                    case k32 =>
                      rintro φ32 xs32 I32 w32 le32 s _ _
                      refine cond_false_rule (b := false) (by kernel_rfl) rfl ?_
                      refine wp_skip ?_
                      refine wp_seq ?_
                      refine region_rule ?_
                      refine ops_rule (C := []) [((φ1 0), .cells #[.int .i64 z, .string ⟨(A).toArray⟩, .string ⟨(B).toArray⟩] 42)] [] 1 [] 0 (fun φ33 => [(2, .int .i64 0)]) (fun φ33 => [((φ1 0), .cells #[.int .i64 z, .string ⟨(A).toArray⟩, .string ⟨(B).toArray⟩] 42)]) (fun φ33 => []) s trivial (fun φ33 => by kernel_rfl) ?_
                      intro φ33 w33 s
                      refine ops_done (by kernel_rfl) ?_
                      refine wp_ret ?_
                      refine ret_rule (C := []) [((φ1 0), .cells #[.int .i64 z, .string ⟨(A).toArray⟩, .string ⟨(B).toArray⟩] 42)] [] (.int .i64 0) [] [] s trivial (by kernel_rfl) ?_
                      have ehc24 : decide (B = fldS B) = true := by rw [← hc24]; exact decide_eq_decide.2 eq_comm
                      have dhc25 : decide (z = 2) = true := by have h9 := hc25; simpa using h9
                      have e3hc25 : decide (z = 3) = false := decide_eq_false (by have h9 := of_decide_eq_true dhc25; omega)
                      have dhc27 : decide (z = 3) = false := by have h9 := hc27; simpa using h9
                      exact ⟨_, _, _, rfl, s, (congrArg (fun q : Nat => Value.int .i64 (q : Int)) (rt5 (by have h8 := of_decide_eq_false hc3; have h9 := of_decide_eq_false hc7; omega) (by have h9 := of_decide_eq_false hc13; omega) (by have h9 := of_decide_eq_false hc19; omega) (by unfold fitsB; simp only [hc21, ehc24, dhc25, e3hc25, hc26, dhc27, Bool.not_true, Bool.not_false, Bool.true_and, Bool.and_true, Bool.false_and, Bool.and_false, Bool.true_or, Bool.or_true, Bool.false_or, Bool.or_false])).symm)⟩
                ·
                  refine draw_rule (C := []) ⟨(fun φ34 xs34 => [.look 0 [] [], .look 0 [.o 0] [(φ1 0)], .ran (binOp .eql 9 (.string ⟨(B).toArray⟩) (.string ⟨(([] : List UInt8)).toArray⟩)), .look 0 [] [], .look 0 [] [], .look 0 [.o 0] [(φ1 0)], .call 63 #[.string ⟨(B).toArray⟩], .look 0 [] [], .look 0 [.o 0] [(φ1 0)], .ran (binOp .neq 9 (.string ⟨(fldS B).toArray⟩) (.string ⟨(B).toArray⟩)), .look 0 [] [], .look 0 [] [], .look 0 [] [], .look 0 [.o 0] [(φ1 0)], .sub 0 [] [] (.bool (z == ((2 : Nat) : Int))), .look 0 [] [], .look 0 [] [], .look 0 [.o 0] [(φ1 0)], .call 64 #[.string ⟨(B).toArray⟩], .look 0 [] [], .look 0 [] [], .look 0 [] [], .look 0 [] [], .skip, .skip, .skip, .skip, .skip, .skip, .skip, .skip, .skip, .look 0 [] []]), (fun φ34 xs34 => [.pointer (some ⟨(φ1 0), 2, none⟩), .string ⟨(B).toArray⟩, .bool false, .bool false, .pointer (some ⟨(φ1 0), 2, none⟩), .string ⟨(B).toArray⟩, .string ⟨(fldS B).toArray⟩, .pointer (some ⟨(φ1 0), 2, none⟩), .string ⟨(B).toArray⟩, .bool false, .bool false, .bool false, .pointer (some ⟨(φ1 0), 0, none⟩), .int .i64 z, .bool true, .bool true, .pointer (some ⟨(φ1 0), 2, none⟩), .string ⟨(B).toArray⟩, .bool false, .bool true, .bool true, .bool true, .bool true, undef, undef, undef, undef, undef, undef, undef, undef, undef, .bool true]), (fun φ34 xs34 => [[((φ1 0), .cells #[.int .i64 z, .string ⟨(A).toArray⟩, .string ⟨(B).toArray⟩] 42)]]), (fun φ34 xs34 => [[default, default, default, default, default, default, default, default, default, default, default, default, default, default, default, default, default, default, default, default, default, default, default, default, default, default, default, default, default, default, default, default, default]]), [], [1, 1, 6, 1, 1, 1, 3, 1, 1, 6, 1, 1, 1, 1, 5, 1, 1, 1, 3, 1, 1, 1, 1, 0, 0, 0, 0, 0, 0, 0, 0, 0, 1]⟩ (fun j => ([MP.any, MP.any, MP.any, MP.any, MP.any, MP.any, MP.any, MP.any, MP.any, MP.any, MP.any, MP.any, MP.any, MP.any, MP.any, MP.any, MP.any, MP.any, MP.any, MP.any, MP.any, MP.any, MP.any, MP.any, MP.any, MP.any, MP.any, MP.any, MP.any, MP.any, MP.any, MP.any, MP.any] : List MP).getD j MP.any) [6, 18] [14] [2, 9] (fun φ34 xs34 => []) (fun φ34 xs34 => [(25, .pointer (some ⟨(φ1 0), 2, none⟩)), (26, .string ⟨(B).toArray⟩), (27, .bool false), (28, .bool false), (29, .pointer (some ⟨(φ1 0), 2, none⟩)), (30, .string ⟨(B).toArray⟩), (31, .string ⟨(fldS B).toArray⟩), (32, .pointer (some ⟨(φ1 0), 2, none⟩)), (33, .string ⟨(B).toArray⟩), (34, .bool false), (35, .bool false), (36, .bool false), (37, .pointer (some ⟨(φ1 0), 0, none⟩)), (38, .int .i64 z), (39, .bool true), (40, .bool true), (41, .pointer (some ⟨(φ1 0), 2, none⟩)), (42, .string ⟨(B).toArray⟩), (43, .bool false), (44, .bool true), (45, .bool true), (46, .bool true), (47, .bool true), (48, undef), (49, undef), (50, undef), (51, undef), (52, undef), (53, undef), (54, undef), (55, undef), (56, undef), (57, .bool true)]) (fun φ34 xs34 => [((φ1 0), .cells #[.int .i64 z, .string ⟨(A).toArray⟩, .string ⟨(B).toArray⟩] 42)]) s trivial (by kernel_rfl) (by kernel_rfl) (fun _ _ => by kernel_rfl) (fun _ _ => by kernel_rfl) ⟨fun _ _ => by kernel_rfl, fun _ _ => by kernel_rfl, fun _ _ => by kernel_rfl, fun _ _ => by kernel_rfl⟩ (fun _ _ _ => by kernel_rfl) (fun _ _ => by kernel_rfl) (fun _ _ => by kernel_rfl) (fun _ _ => by kernel_rfl) (fun _ _ => by kernel_rfl) (fun _ _ => by kernel_rfl) ⟨kcast (A := ∀ (φ34 : Nat → Nat) (xs34 : Xs), (.bool (z == ((2 : Nat) : Int)) : Value) = .bool true) (by kernel_rfl) (fun φ34 xs34 => congrArg Value.bool ((hc25))), trivial⟩ ⟨kcast (A := ∀ (φ34 : Nat → Nat) (xs34 : Xs) (J : IM) (w : World), I16.Le J → J.Sub w → ((binOp .eql 9 (.string ⟨(B).toArray⟩) (.string ⟨(([] : List UInt8)).toArray⟩)) : Sem Value).run Tryd.prog w = .ok (.bool false) w) (by kernel_rfl) (fun φ34 xs34 J w hJ hS => ((run_eqS (x := B) (y := ([] : List UInt8)) : ((binOp .eql 9 (.string ⟨(B).toArray⟩) (.string ⟨(([] : List UInt8)).toArray⟩)) : Sem Value).run Tryd.prog w = .ok (.bool (decide (B = ([] : List UInt8)))) w).trans (congrArg (fun q => Result.ok (Value.bool q) w) hc21))), ⟨kcast (A := ∀ (φ34 : Nat → Nat) (xs34 : Xs) (J : IM) (w : World), I16.Le J → J.Sub w → ((binOp .neq 9 (.string ⟨(fldS B).toArray⟩) (.string ⟨(B).toArray⟩)) : Sem Value).run Tryd.prog w = .ok (.bool false) w) (by kernel_rfl) (fun φ34 xs34 J w hJ hS => ((run_neS (x := fldS B) (y := B) : ((binOp .neq 9 (.string ⟨(fldS B).toArray⟩) (.string ⟨(B).toArray⟩)) : Sem Value).run Tryd.prog w = .ok (.bool (!(decide (fldS B = B)))) w).trans (congrArg (fun q => Result.ok (Value.bool (!q)) w) hc24))), trivial⟩⟩ (by kernel_rfl) ⟨?c34_6, ?c34_18, trivial⟩ ?k34
                  case c34_6 =>
                    refine kcast (A := ∀ (φ34 : Nat → Nat) (xs34 : Xs) (J6_34 : IM), I16.Le J6_34 → Fun Tryd.prog 63 #[.string ⟨(B).toArray⟩] J6_34 (fun v J' => ∃ x : UX, v = .string ⟨(fldS B).toArray⟩ ∧ (True))) (by kernel_rfl) ?_
                    intro φ34 xs34 J6_34 leJ
                    exact Fun.mono (refFold_c (l := B) hB) (fun v J' _ h => ⟨UX.d, h, trivial⟩)
                  case c34_18 =>
                    refine kcast (A := ∀ (φ34 : Nat → Nat) (xs34 : Xs) (J18_34 : IM), I16.Le J18_34 → (True) → Fun Tryd.prog 64 #[.string ⟨(B).toArray⟩] J18_34 (fun v J' => ∃ x : UX, v = .bool false ∧ (True))) (by kernel_rfl) ?_
                    intro φ34 xs34 J18_34 leJ
                    rintro _
                    exact Fun.mono (refPhone_c (l := B) hB) (fun v J' _ h => ⟨UX.d, h.trans (congrArg Value.bool hc26), trivial⟩)
                  case k34 =>
                    rintro φ34 xs34 I34 w34 le34 s _ _
                    refine cond_true_rule (b := true) (by kernel_rfl) rfl ?_
                    refine wp_seq ?_
                    refine region_rule ?_
                    refine ops_rule (C := []) [((φ1 0), .cells #[.int .i64 z, .string ⟨(A).toArray⟩, .string ⟨(B).toArray⟩] 42)] [] 1 [] 0 (fun φ35 => [(2, .int .i64 7)]) (fun φ35 => [((φ1 0), .cells #[.int .i64 z, .string ⟨(A).toArray⟩, .string ⟨(B).toArray⟩] 42)]) (fun φ35 => []) s trivial (fun φ35 => by kernel_rfl) ?_
                    intro φ35 w35 s
                    refine ops_done (by kernel_rfl) ?_
                    refine wp_ret ?_
                    refine ret_rule (C := []) [((φ1 0), .cells #[.int .i64 z, .string ⟨(A).toArray⟩, .string ⟨(B).toArray⟩] 42)] [] (.int .i64 7) [] [] s trivial (by kernel_rfl) ?_
                    have ehc24 : decide (B = fldS B) = true := by rw [← hc24]; exact decide_eq_decide.2 eq_comm
                    have dhc25 : decide (z = 2) = true := by have h9 := hc25; simpa using h9
                    have e3hc25 : decide (z = 3) = false := decide_eq_false (by have h9 := of_decide_eq_true dhc25; omega)
                    exact ⟨_, _, _, rfl, s, (congrArg (fun q : Nat => Value.int .i64 (q : Int)) (rt4 (by have h8 := of_decide_eq_false hc3; have h9 := of_decide_eq_false hc7; omega) (by have h9 := of_decide_eq_false hc13; omega) (by have h9 := of_decide_eq_false hc19; omega) (by unfold fitsB; simp only [hc21, ehc24, dhc25, e3hc25, hc26, Bool.not_true, Bool.not_false, Bool.true_and, Bool.and_true, Bool.false_and, Bool.and_false, Bool.true_or, Bool.or_true, Bool.false_or, Bool.or_false])).symm)⟩
              ·
                rcases Bool.eq_false_or_eq_true (z == ((3 : Nat) : Int)) with hc36 | hc36
                ·
                  refine draw_rule (C := []) ⟨(fun φ37 xs37 => [.look 0 [] [], .look 0 [.o 0] [(φ1 0)], .ran (binOp .eql 9 (.string ⟨(B).toArray⟩) (.string ⟨(([] : List UInt8)).toArray⟩)), .look 0 [] [], .look 0 [] [], .look 0 [.o 0] [(φ1 0)], .call 63 #[.string ⟨(B).toArray⟩], .look 0 [] [], .look 0 [.o 0] [(φ1 0)], .ran (binOp .neq 9 (.string ⟨(fldS B).toArray⟩) (.string ⟨(B).toArray⟩)), .look 0 [] [], .look 0 [] [], .look 0 [] [], .look 0 [.o 0] [(φ1 0)], .sub 0 [] [] (.bool (z == ((2 : Nat) : Int))), .look 0 [] [], .skip, .skip, .skip, .skip, .look 0 [] [], .look 0 [] [], .look 0 [] [], .look 0 [] [], .look 0 [.o 0] [(φ1 0)], .sub 0 [] [] (.bool (z == ((3 : Nat) : Int))), .look 0 [] [], .look 0 [] [], .look 0 [.o 0] [(φ1 0)], .call 65 #[.string ⟨(B).toArray⟩], .look 0 [] [], .look 0 [] [], .look 0 [] []]), (fun φ37 xs37 => [.pointer (some ⟨(φ1 0), 2, none⟩), .string ⟨(B).toArray⟩, .bool false, .bool false, .pointer (some ⟨(φ1 0), 2, none⟩), .string ⟨(B).toArray⟩, .string ⟨(fldS B).toArray⟩, .pointer (some ⟨(φ1 0), 2, none⟩), .string ⟨(B).toArray⟩, .bool false, .bool false, .bool false, .pointer (some ⟨(φ1 0), 0, none⟩), .int .i64 z, .bool false, .bool false, undef, undef, undef, undef, .bool false, .bool false, .bool false, .pointer (some ⟨(φ1 0), 0, none⟩), .int .i64 z, .bool true, .bool true, .pointer (some ⟨(φ1 0), 2, none⟩), .string ⟨(B).toArray⟩, .bool (mail B), .bool (!(mail B)), .bool (!(mail B)), .bool (!(mail B))]), (fun φ37 xs37 => [[((φ1 0), .cells #[.int .i64 z, .string ⟨(A).toArray⟩, .string ⟨(B).toArray⟩] 42)]]), (fun φ37 xs37 => [[default, default, default, default, default, default, default, default, default, default, default, default, default, default, default, default, default, default, default, default, default, default, default, default, default, default, default, default, default, default, default, default, default]]), [], [1, 1, 6, 1, 1, 1, 3, 1, 1, 6, 1, 1, 1, 1, 5, 1, 0, 0, 0, 0, 1, 1, 1, 1, 1, 5, 1, 1, 1, 3, 1, 1, 1]⟩ (fun j => ([MP.any, MP.any, MP.any, MP.any, MP.any, MP.any, MP.any, MP.any, MP.any, MP.any, MP.any, MP.any, MP.any, MP.any, MP.any, MP.any, MP.any, MP.any, MP.any, MP.any, MP.any, MP.any, MP.any, MP.any, MP.any, MP.any, MP.any, MP.any, MP.any, MP.any, MP.any, MP.any, MP.any] : List MP).getD j MP.any) [6, 29] [14, 25] [2, 9] (fun φ37 xs37 => []) (fun φ37 xs37 => [(25, .pointer (some ⟨(φ1 0), 2, none⟩)), (26, .string ⟨(B).toArray⟩), (27, .bool false), (28, .bool false), (29, .pointer (some ⟨(φ1 0), 2, none⟩)), (30, .string ⟨(B).toArray⟩), (31, .string ⟨(fldS B).toArray⟩), (32, .pointer (some ⟨(φ1 0), 2, none⟩)), (33, .string ⟨(B).toArray⟩), (34, .bool false), (35, .bool false), (36, .bool false), (37, .pointer (some ⟨(φ1 0), 0, none⟩)), (38, .int .i64 z), (39, .bool false), (40, .bool false), (41, undef), (42, undef), (43, undef), (44, undef), (45, .bool false), (46, .bool false), (47, .bool false), (48, .pointer (some ⟨(φ1 0), 0, none⟩)), (49, .int .i64 z), (50, .bool true), (51, .bool true), (52, .pointer (some ⟨(φ1 0), 2, none⟩)), (53, .string ⟨(B).toArray⟩), (54, .bool (mail B)), (55, .bool (!(mail B))), (56, .bool (!(mail B))), (57, .bool (!(mail B)))]) (fun φ37 xs37 => [((φ1 0), .cells #[.int .i64 z, .string ⟨(A).toArray⟩, .string ⟨(B).toArray⟩] 42)]) s trivial (by kernel_rfl) (by kernel_rfl) (fun _ _ => by kernel_rfl) (fun _ _ => by kernel_rfl) ⟨fun _ _ => by kernel_rfl, fun _ _ => by kernel_rfl, fun _ _ => by kernel_rfl, fun _ _ => by kernel_rfl⟩ (fun _ _ _ => by kernel_rfl) (fun _ _ => by kernel_rfl) (fun _ _ => by kernel_rfl) (fun _ _ => by kernel_rfl) (fun _ _ => by kernel_rfl) (fun _ _ => by kernel_rfl) ⟨kcast (A := ∀ (φ37 : Nat → Nat) (xs37 : Xs), (.bool (z == ((2 : Nat) : Int)) : Value) = .bool false) (by kernel_rfl) (fun φ37 xs37 => congrArg Value.bool ((hc25))), ⟨kcast (A := ∀ (φ37 : Nat → Nat) (xs37 : Xs), (.bool (z == ((3 : Nat) : Int)) : Value) = .bool true) (by kernel_rfl) (fun φ37 xs37 => congrArg Value.bool ((hc36))), trivial⟩⟩ ⟨kcast (A := ∀ (φ37 : Nat → Nat) (xs37 : Xs) (J : IM) (w : World), I16.Le J → J.Sub w → ((binOp .eql 9 (.string ⟨(B).toArray⟩) (.string ⟨(([] : List UInt8)).toArray⟩)) : Sem Value).run Tryd.prog w = .ok (.bool false) w) (by kernel_rfl) (fun φ37 xs37 J w hJ hS => ((run_eqS (x := B) (y := ([] : List UInt8)) : ((binOp .eql 9 (.string ⟨(B).toArray⟩) (.string ⟨(([] : List UInt8)).toArray⟩)) : Sem Value).run Tryd.prog w = .ok (.bool (decide (B = ([] : List UInt8)))) w).trans (congrArg (fun q => Result.ok (Value.bool q) w) hc21))), ⟨kcast (A := ∀ (φ37 : Nat → Nat) (xs37 : Xs) (J : IM) (w : World), I16.Le J → J.Sub w → ((binOp .neq 9 (.string ⟨(fldS B).toArray⟩) (.string ⟨(B).toArray⟩)) : Sem Value).run Tryd.prog w = .ok (.bool false) w) (by kernel_rfl) (fun φ37 xs37 J w hJ hS => ((run_neS (x := fldS B) (y := B) : ((binOp .neq 9 (.string ⟨(fldS B).toArray⟩) (.string ⟨(B).toArray⟩)) : Sem Value).run Tryd.prog w = .ok (.bool (!(decide (fldS B = B)))) w).trans (congrArg (fun q => Result.ok (Value.bool (!q)) w) hc24))), trivial⟩⟩ (by kernel_rfl) ⟨?c37_6, ?c37_29, trivial⟩ ?k37
                  case c37_6 =>
                    refine kcast (A := ∀ (φ37 : Nat → Nat) (xs37 : Xs) (J6_37 : IM), I16.Le J6_37 → Fun Tryd.prog 63 #[.string ⟨(B).toArray⟩] J6_37 (fun v J' => ∃ x : UX, v = .string ⟨(fldS B).toArray⟩ ∧ (True))) (by kernel_rfl) ?_
                    intro φ37 xs37 J6_37 leJ
                    exact Fun.mono (refFold_c (l := B) hB) (fun v J' _ h => ⟨UX.d, h, trivial⟩)
                  case c37_29 =>
                    refine kcast (A := ∀ (φ37 : Nat → Nat) (xs37 : Xs) (J29_37 : IM), I16.Le J29_37 → (True) → Fun Tryd.prog 65 #[.string ⟨(B).toArray⟩] J29_37 (fun v J' => ∃ x : UX, v = .bool (mail B) ∧ (True))) (by kernel_rfl) ?_
                    intro φ37 xs37 J29_37 leJ
                    rintro _
                    exact Fun.mono (refMail_c (l := B) hB) (fun v J' _ h => ⟨UX.d, h, trivial⟩)
                  case k37 =>
                    rintro φ37 xs37 I37 w37 le37 s _ _
                    rcases Bool.eq_false_or_eq_true (mail B) with hc38 | hc38
                    ·
                      rw [hc38]
                      refine cond_false_rule (b := false) (by kernel_rfl) rfl ?_
                      refine wp_skip ?_
                      refine wp_seq ?_
                      refine region_rule ?_
                      refine ops_rule (C := []) [((φ1 0), .cells #[.int .i64 z, .string ⟨(A).toArray⟩, .string ⟨(B).toArray⟩] 42)] [] 1 [] 0 (fun φ39 => [(2, .int .i64 0)]) (fun φ39 => [((φ1 0), .cells #[.int .i64 z, .string ⟨(A).toArray⟩, .string ⟨(B).toArray⟩] 42)]) (fun φ39 => []) s trivial (fun φ39 => by kernel_rfl) ?_
                      intro φ39 w39 s
                      refine ops_done (by kernel_rfl) ?_
                      refine wp_ret ?_
                      refine ret_rule (C := []) [((φ1 0), .cells #[.int .i64 z, .string ⟨(A).toArray⟩, .string ⟨(B).toArray⟩] 42)] [] (.int .i64 0) [] [] s trivial (by kernel_rfl) ?_
                      have ehc24 : decide (B = fldS B) = true := by rw [← hc24]; exact decide_eq_decide.2 eq_comm
                      have dhc25 : decide (z = 2) = false := by have h9 := hc25; simpa using h9
                      have dhc36 : decide (z = 3) = true := by have h9 := hc36; simpa using h9
                      exact ⟨_, _, _, rfl, s, (congrArg (fun q : Nat => Value.int .i64 (q : Int)) (rt5 (by have h8 := of_decide_eq_false hc3; have h9 := of_decide_eq_false hc7; omega) (by have h9 := of_decide_eq_false hc13; omega) (by have h9 := of_decide_eq_false hc19; omega) (by unfold fitsB; simp only [hc21, ehc24, dhc25, dhc36, hc38, Bool.not_true, Bool.not_false, Bool.true_and, Bool.and_true, Bool.false_and, Bool.and_false, Bool.true_or, Bool.or_true, Bool.false_or, Bool.or_false])).symm)⟩
                    ·
                      rw [hc38]
                      refine cond_true_rule (b := true) (by kernel_rfl) rfl ?_
                      refine wp_seq ?_
                      refine region_rule ?_
                      refine ops_rule (C := []) [((φ1 0), .cells #[.int .i64 z, .string ⟨(A).toArray⟩, .string ⟨(B).toArray⟩] 42)] [] 1 [] 0 (fun φ40 => [(2, .int .i64 7)]) (fun φ40 => [((φ1 0), .cells #[.int .i64 z, .string ⟨(A).toArray⟩, .string ⟨(B).toArray⟩] 42)]) (fun φ40 => []) s trivial (fun φ40 => by kernel_rfl) ?_
                      intro φ40 w40 s
                      refine ops_done (by kernel_rfl) ?_
                      refine wp_ret ?_
                      refine ret_rule (C := []) [((φ1 0), .cells #[.int .i64 z, .string ⟨(A).toArray⟩, .string ⟨(B).toArray⟩] 42)] [] (.int .i64 7) [] [] s trivial (by kernel_rfl) ?_
                      have ehc24 : decide (B = fldS B) = true := by rw [← hc24]; exact decide_eq_decide.2 eq_comm
                      have dhc25 : decide (z = 2) = false := by have h9 := hc25; simpa using h9
                      have dhc36 : decide (z = 3) = true := by have h9 := hc36; simpa using h9
                      exact ⟨_, _, _, rfl, s, (congrArg (fun q : Nat => Value.int .i64 (q : Int)) (rt4 (by have h8 := of_decide_eq_false hc3; have h9 := of_decide_eq_false hc7; omega) (by have h9 := of_decide_eq_false hc13; omega) (by have h9 := of_decide_eq_false hc19; omega) (by unfold fitsB; simp only [hc21, ehc24, dhc25, dhc36, hc38, Bool.not_true, Bool.not_false, Bool.true_and, Bool.and_true, Bool.false_and, Bool.and_false, Bool.true_or, Bool.or_true, Bool.false_or, Bool.or_false])).symm)⟩
                ·
                  refine draw_rule (C := []) ⟨(fun φ41 xs41 => [.look 0 [] [], .look 0 [.o 0] [(φ1 0)], .ran (binOp .eql 9 (.string ⟨(B).toArray⟩) (.string ⟨(([] : List UInt8)).toArray⟩)), .look 0 [] [], .look 0 [] [], .look 0 [.o 0] [(φ1 0)], .call 63 #[.string ⟨(B).toArray⟩], .look 0 [] [], .look 0 [.o 0] [(φ1 0)], .ran (binOp .neq 9 (.string ⟨(fldS B).toArray⟩) (.string ⟨(B).toArray⟩)), .look 0 [] [], .look 0 [] [], .look 0 [] [], .look 0 [.o 0] [(φ1 0)], .sub 0 [] [] (.bool (z == ((2 : Nat) : Int))), .look 0 [] [], .skip, .skip, .skip, .skip, .look 0 [] [], .look 0 [] [], .look 0 [] [], .look 0 [] [], .look 0 [.o 0] [(φ1 0)], .sub 0 [] [] (.bool (z == ((3 : Nat) : Int))), .look 0 [] [], .skip, .skip, .skip, .skip, .look 0 [] [], .look 0 [] []]), (fun φ41 xs41 => [.pointer (some ⟨(φ1 0), 2, none⟩), .string ⟨(B).toArray⟩, .bool false, .bool false, .pointer (some ⟨(φ1 0), 2, none⟩), .string ⟨(B).toArray⟩, .string ⟨(fldS B).toArray⟩, .pointer (some ⟨(φ1 0), 2, none⟩), .string ⟨(B).toArray⟩, .bool false, .bool false, .bool false, .pointer (some ⟨(φ1 0), 0, none⟩), .int .i64 z, .bool false, .bool false, undef, undef, undef, undef, .bool false, .bool false, .bool false, .pointer (some ⟨(φ1 0), 0, none⟩), .int .i64 z, .bool false, .bool false, undef, undef, undef, undef, .bool false, .bool false]), (fun φ41 xs41 => [[((φ1 0), .cells #[.int .i64 z, .string ⟨(A).toArray⟩, .string ⟨(B).toArray⟩] 42)]]), (fun φ41 xs41 => [[default, default, default, default, default, default, default, default, default, default, default, default, default, default, default, default, default, default, default, default, default, default, default, default, default, default, default, default, default, default, default, default, default]]), [], [1, 1, 6, 1, 1, 1, 3, 1, 1, 6, 1, 1, 1, 1, 5, 1, 0, 0, 0, 0, 1, 1, 1, 1, 1, 5, 1, 0, 0, 0, 0, 1, 1]⟩ (fun j => ([MP.any, MP.any, MP.any, MP.any, MP.any, MP.any, MP.any, MP.any, MP.any, MP.any, MP.any, MP.any, MP.any, MP.any, MP.any, MP.any, MP.any, MP.any, MP.any, MP.any, MP.any, MP.any, MP.any, MP.any, MP.any, MP.any, MP.any, MP.any, MP.any, MP.any, MP.any, MP.any, MP.any] : List MP).getD j MP.any) [6] [14, 25] [2, 9] (fun φ41 xs41 => []) (fun φ41 xs41 => [(25, .pointer (some ⟨(φ1 0), 2, none⟩)), (26, .string ⟨(B).toArray⟩), (27, .bool false), (28, .bool false), (29, .pointer (some ⟨(φ1 0), 2, none⟩)), (30, .string ⟨(B).toArray⟩), (31, .string ⟨(fldS B).toArray⟩), (32, .pointer (some ⟨(φ1 0), 2, none⟩)), (33, .string ⟨(B).toArray⟩), (34, .bool false), (35, .bool false), (36, .bool false), (37, .pointer (some ⟨(φ1 0), 0, none⟩)), (38, .int .i64 z), (39, .bool false), (40, .bool false), (41, undef), (42, undef), (43, undef), (44, undef), (45, .bool false), (46, .bool false), (47, .bool false), (48, .pointer (some ⟨(φ1 0), 0, none⟩)), (49, .int .i64 z), (50, .bool false), (51, .bool false), (52, undef), (53, undef), (54, undef), (55, undef), (56, .bool false), (57, .bool false)]) (fun φ41 xs41 => [((φ1 0), .cells #[.int .i64 z, .string ⟨(A).toArray⟩, .string ⟨(B).toArray⟩] 42)]) s trivial (by kernel_rfl) (by kernel_rfl) (fun _ _ => by kernel_rfl) (fun _ _ => by kernel_rfl) ⟨fun _ _ => by kernel_rfl, fun _ _ => by kernel_rfl, fun _ _ => by kernel_rfl, fun _ _ => by kernel_rfl⟩ (fun _ _ _ => by kernel_rfl) (fun _ _ => by kernel_rfl) (fun _ _ => by kernel_rfl) (fun _ _ => by kernel_rfl) (fun _ _ => by kernel_rfl) (fun _ _ => by kernel_rfl) ⟨kcast (A := ∀ (φ41 : Nat → Nat) (xs41 : Xs), (.bool (z == ((2 : Nat) : Int)) : Value) = .bool false) (by kernel_rfl) (fun φ41 xs41 => congrArg Value.bool ((hc25))), ⟨kcast (A := ∀ (φ41 : Nat → Nat) (xs41 : Xs), (.bool (z == ((3 : Nat) : Int)) : Value) = .bool false) (by kernel_rfl) (fun φ41 xs41 => congrArg Value.bool ((hc36))), trivial⟩⟩ ⟨kcast (A := ∀ (φ41 : Nat → Nat) (xs41 : Xs) (J : IM) (w : World), I16.Le J → J.Sub w → ((binOp .eql 9 (.string ⟨(B).toArray⟩) (.string ⟨(([] : List UInt8)).toArray⟩)) : Sem Value).run Tryd.prog w = .ok (.bool false) w) (by kernel_rfl) (fun φ41 xs41 J w hJ hS => ((run_eqS (x := B) (y := ([] : List UInt8)) : ((binOp .eql 9 (.string ⟨(B).toArray⟩) (.string ⟨(([] : List UInt8)).toArray⟩)) : Sem Value).run Tryd.prog w = .ok (.bool (decide (B = ([] : List UInt8)))) w).trans (congrArg (fun q => Result.ok (Value.bool q) w) hc21))), ⟨kcast (A := ∀ (φ41 : Nat → Nat) (xs41 : Xs) (J : IM) (w : World), I16.Le J → J.Sub w → ((binOp .neq 9 (.string ⟨(fldS B).toArray⟩) (.string ⟨(B).toArray⟩)) : Sem Value).run Tryd.prog w = .ok (.bool false) w) (by kernel_rfl) (fun φ41 xs41 J w hJ hS => ((run_neS (x := fldS B) (y := B) : ((binOp .neq 9 (.string ⟨(fldS B).toArray⟩) (.string ⟨(B).toArray⟩)) : Sem Value).run Tryd.prog w = .ok (.bool (!(decide (fldS B = B)))) w).trans (congrArg (fun q => Result.ok (Value.bool (!q)) w) hc24))), trivial⟩⟩ (by kernel_rfl) ⟨?c41_6, trivial⟩ ?k41
                  case c41_6 =>
                    refine kcast (A := ∀ (φ41 : Nat → Nat) (xs41 : Xs) (J6_41 : IM), I16.Le J6_41 → Fun Tryd.prog 63 #[.string ⟨(B).toArray⟩] J6_41 (fun v J' => ∃ x : UX, v = .string ⟨(fldS B).toArray⟩ ∧ (True))) (by kernel_rfl) ?_
                    intro φ41 xs41 J6_41 leJ
                    exact Fun.mono (refFold_c (l := B) hB) (fun v J' _ h => ⟨UX.d, h, trivial⟩)
                  case k41 =>
                    rintro φ41 xs41 I41 w41 le41 s _
                    refine cond_false_rule (b := false) (by kernel_rfl) rfl ?_
                    refine wp_skip ?_
                    refine wp_seq ?_
                    refine region_rule ?_
                    refine ops_rule (C := []) [((φ1 0), .cells #[.int .i64 z, .string ⟨(A).toArray⟩, .string ⟨(B).toArray⟩] 42)] [] 1 [] 0 (fun φ42 => [(2, .int .i64 0)]) (fun φ42 => [((φ1 0), .cells #[.int .i64 z, .string ⟨(A).toArray⟩, .string ⟨(B).toArray⟩] 42)]) (fun φ42 => []) s trivial (fun φ42 => by kernel_rfl) ?_
                    intro φ42 w42 s
                    refine ops_done (by kernel_rfl) ?_
                    refine wp_ret ?_
                    refine ret_rule (C := []) [((φ1 0), .cells #[.int .i64 z, .string ⟨(A).toArray⟩, .string ⟨(B).toArray⟩] 42)] [] (.int .i64 0) [] [] s trivial (by kernel_rfl) ?_
                    have ehc24 : decide (B = fldS B) = true := by rw [← hc24]; exact decide_eq_decide.2 eq_comm
                    have dhc25 : decide (z = 2) = false := by have h9 := hc25; simpa using h9
                    have dhc36 : decide (z = 3) = false := by have h9 := hc36; simpa using h9
                    exact ⟨_, _, _, rfl, s, (congrArg (fun q : Nat => Value.int .i64 (q : Int)) (rt5 (by have h8 := of_decide_eq_false hc3; have h9 := of_decide_eq_false hc7; omega) (by have h9 := of_decide_eq_false hc13; omega) (by have h9 := of_decide_eq_false hc19; omega) (by unfold fitsB; simp only [hc21, ehc24, dhc25, dhc36, Bool.not_true, Bool.not_false, Bool.true_and, Bool.and_true, Bool.false_and, Bool.and_false, Bool.true_or, Bool.or_true, Bool.false_or, Bool.or_false])).symm)⟩
            ·
              refine draw_rule (C := []) ⟨(fun φ43 xs43 => [.look 0 [] [], .look 0 [.o 0] [(φ1 0)], .ran (binOp .eql 9 (.string ⟨(B).toArray⟩) (.string ⟨(([] : List UInt8)).toArray⟩)), .look 0 [] [], .look 0 [] [], .look 0 [.o 0] [(φ1 0)], .call 63 #[.string ⟨(B).toArray⟩], .look 0 [] [], .look 0 [.o 0] [(φ1 0)], .ran (binOp .neq 9 (.string ⟨(fldS B).toArray⟩) (.string ⟨(B).toArray⟩)), .look 0 [] [], .look 0 [] [], .skip, .skip, .skip, .skip, .skip, .skip, .skip, .skip, .skip, .look 0 [] [], .look 0 [] [], .skip, .skip, .skip, .skip, .skip, .skip, .skip, .skip, .skip, .look 0 [] []]), (fun φ43 xs43 => [.pointer (some ⟨(φ1 0), 2, none⟩), .string ⟨(B).toArray⟩, .bool false, .bool false, .pointer (some ⟨(φ1 0), 2, none⟩), .string ⟨(B).toArray⟩, .string ⟨(fldS B).toArray⟩, .pointer (some ⟨(φ1 0), 2, none⟩), .string ⟨(B).toArray⟩, .bool true, .bool true, .bool true, undef, undef, undef, undef, undef, undef, undef, undef, undef, .bool true, .bool true, undef, undef, undef, undef, undef, undef, undef, undef, undef, .bool true]), (fun φ43 xs43 => [[((φ1 0), .cells #[.int .i64 z, .string ⟨(A).toArray⟩, .string ⟨(B).toArray⟩] 42)]]), (fun φ43 xs43 => [[default, default, default, default, default, default, default, default, default, default, default, default, default, default, default, default, default, default, default, default, default, default, default, default, default, default, default, default, default, default, default, default, default]]), [], [1, 1, 6, 1, 1, 1, 3, 1, 1, 6, 1, 1, 0, 0, 0, 0, 0, 0, 0, 0, 0, 1, 1, 0, 0, 0, 0, 0, 0, 0, 0, 0, 1]⟩ (fun j => ([MP.any, MP.any, MP.any, MP.any, MP.any, MP.any, MP.any, MP.any, MP.any, MP.any, MP.any, MP.any, MP.any, MP.any, MP.any, MP.any, MP.any, MP.any, MP.any, MP.any, MP.any, MP.any, MP.any, MP.any, MP.any, MP.any, MP.any, MP.any, MP.any, MP.any, MP.any, MP.any, MP.any] : List MP).getD j MP.any) [6] [] [2, 9] (fun φ43 xs43 => []) (fun φ43 xs43 => [(25, .pointer (some ⟨(φ1 0), 2, none⟩)), (26, .string ⟨(B).toArray⟩), (27, .bool false), (28, .bool false), (29, .pointer (some ⟨(φ1 0), 2, none⟩)), (30, .string ⟨(B).toArray⟩), (31, .string ⟨(fldS B).toArray⟩), (32, .pointer (some ⟨(φ1 0), 2, none⟩)), (33, .string ⟨(B).toArray⟩), (34, .bool true), (35, .bool true), (36, .bool true), (37, undef), (38, undef), (39, undef), (40, undef), (41, undef), (42, undef), (43, undef), (44, undef), (45, undef), (46, .bool true), (47, .bool true), (48, undef), (49, undef), (50, undef), (51, undef), (52, undef), (53, undef), (54, undef), (55, undef), (56, undef), (57, .bool true)]) (fun φ43 xs43 => [((φ1 0), .cells #[.int .i64 z, .string ⟨(A).toArray⟩, .string ⟨(B).toArray⟩] 42)]) s trivial (by kernel_rfl) (by kernel_rfl) (fun _ _ => by kernel_rfl) (fun _ _ => by kernel_rfl) ⟨fun _ _ => by kernel_rfl, fun _ _ => by kernel_rfl, fun _ _ => by kernel_rfl, fun _ _ => by kernel_rfl⟩ (fun _ _ _ => by kernel_rfl) (fun _ _ => by kernel_rfl) (fun _ _ => by kernel_rfl) (fun _ _ => by kernel_rfl) (fun _ _ => by kernel_rfl) (fun _ _ => by kernel_rfl) trivial ⟨kcast (A := ∀ (φ43 : Nat → Nat) (xs43 : Xs) (J : IM) (w : World), I16.Le J → J.Sub w → ((binOp .eql 9 (.string ⟨(B).toArray⟩) (.string ⟨(([] : List UInt8)).toArray⟩)) : Sem Value).run Tryd.prog w = .ok (.bool false) w) (by kernel_rfl) (fun φ43 xs43 J w hJ hS => ((run_eqS (x := B) (y := ([] : List UInt8)) : ((binOp .eql 9 (.string ⟨(B).toArray⟩) (.string ⟨(([] : List UInt8)).toArray⟩)) : Sem Value).run Tryd.prog w = .ok (.bool (decide (B = ([] : List UInt8)))) w).trans (congrArg (fun q => Result.ok (Value.bool q) w) hc21))), ⟨kcast (A := ∀ (φ43 : Nat → Nat) (xs43 : Xs) (J : IM) (w : World), I16.Le J → J.Sub w → ((binOp .neq 9 (.string ⟨(fldS B).toArray⟩) (.string ⟨(B).toArray⟩)) : Sem Value).run Tryd.prog w = .ok (.bool true) w) (by kernel_rfl) (fun φ43 xs43 J w hJ hS => ((run_neS (x := fldS B) (y := B) : ((binOp .neq 9 (.string ⟨(fldS B).toArray⟩) (.string ⟨(B).toArray⟩)) : Sem Value).run Tryd.prog w = .ok (.bool (!(decide (fldS B = B)))) w).trans (congrArg (fun q => Result.ok (Value.bool (!q)) w) hc24))), trivial⟩⟩ (by kernel_rfl) ⟨?c43_6, trivial⟩ ?k43
              case c43_6 =>
                refine kcast (A := ∀ (φ43 : Nat → Nat) (xs43 : Xs) (J6_43 : IM), I16.Le J6_43 → Fun Tryd.prog 63 #[.string ⟨(B).toArray⟩] J6_43 (fun v J' => ∃ x : UX, v = .string ⟨(fldS B).toArray⟩ ∧ (True))) (by kernel_rfl) ?_
                intro φ43 xs43 J6_43 leJ
                exact Fun.mono (refFold_c (l := B) hB) (fun v J' _ h => ⟨UX.d, h, trivial⟩)
              case k43 =>
                rintro φ43 xs43 I43 w43 le43 s _
                refine cond_true_rule (b := true) (by kernel_rfl) rfl ?_
                refine wp_seq ?_
                refine region_rule ?_
                refine ops_rule (C := []) [((φ1 0), .cells #[.int .i64 z, .string ⟨(A).toArray⟩, .string ⟨(B).toArray⟩] 42)] [] 1 [] 0 (fun φ44 => [(2, .int .i64 7)]) (fun φ44 => [((φ1 0), .cells #[.int .i64 z, .string ⟨(A).toArray⟩, .string ⟨(B).toArray⟩] 42)]) (fun φ44 => []) s trivial (fun φ44 => by kernel_rfl) ?_
                intro φ44 w44 s
                refine ops_done (by kernel_rfl) ?_
                refine wp_ret ?_
                refine ret_rule (C := []) [((φ1 0), .cells #[.int .i64 z, .string ⟨(A).toArray⟩, .string ⟨(B).toArray⟩] 42)] [] (.int .i64 7) [] [] s trivial (by kernel_rfl) ?_
                have ehc24 : decide (B = fldS B) = false := by rw [← hc24]; exact decide_eq_decide.2 eq_comm
                exact ⟨_, _, _, rfl, s, (congrArg (fun q : Nat => Value.int .i64 (q : Int)) (rt4 (by have h8 := of_decide_eq_false hc3; have h9 := of_decide_eq_false hc7; omega) (by have h9 := of_decide_eq_false hc13; omega) (by have h9 := of_decide_eq_false hc19; omega) (by unfold fitsB; simp only [hc21, ehc24, Bool.not_true, Bool.not_false, Bool.true_and, Bool.and_true, Bool.false_and, Bool.and_false, Bool.true_or, Bool.or_true, Bool.false_or, Bool.or_false])).symm)⟩

end Go.Proofs.YtcpmjogeafhpnaaDoor.Tx
/- Slices of fields, and of ints. -/
set_option linter.all false
set_option maxRecDepth 100000
namespace Go.Proofs.YtcpmjogeafhpnaaDoor
open Go.RowKit Go.Sep
structure Fe where
  k : Int
  a : List UInt8
  v : List UInt8
def Fe.z : Fe := ⟨0, [], []⟩
def fc (x : Fe) : List Value := [.int .i64 x.k, .string ⟨x.a.toArray⟩, .string ⟨x.v.toArray⟩]
def fcs (L : List Fe) : List Value := L.flatMap fc
theorem fcs_append (l m : List Fe) : fcs (l ++ m) = fcs l ++ fcs m := List.flatMap_append
theorem fcs_length : ∀ l : List Fe, (fcs l).length = l.length * 3
  | [] => rfl
  | s :: l => by
    have := fcs_length l
    have e : fcs (s :: l) = fc s ++ fcs l := rfl
    rw [e, List.length_append, this]; simp only [fc, List.length_cons, List.length_nil]; omega
theorem fcs_at : ∀ {L : List Fe} {i : Nat} {x : Fe}, L[i]? = some x → (fcs L)[i * 3]? = some (.int .i64 x.k) ∧ (fcs L)[i * 3 + 1]? = some (.string ⟨x.a.toArray⟩) ∧ (fcs L)[i * 3 + 2]? = some (.string ⟨x.v.toArray⟩)
  | [], _, _, h => by simp at h
  | s :: L, 0, x, h => by
    simp only [List.getElem?_cons_zero, Option.some.injEq] at h
    subst h
    exact ⟨rfl, rfl, rfl⟩
  | s :: L, i + 1, x, h => by
    have := fcs_at (L := L) (i := i) (x := x) (by simpa using h)
    have e : fcs (s :: L) = fc s ++ fcs L := rfl
    have hl : (fc s).length = 3 := rfl
    rw [e, List.getElem?_append_right (by omega), List.getElem?_append_right (by omega), List.getElem?_append_right (by omega), hl,
      show (i + 1) * 3 - 3 = i * 3 by omega, show (i + 1) * 3 + 1 - 3 = i * 3 + 1 by omega, show (i + 1) * 3 + 2 - 3 = i * 3 + 2 by omega]
    exact this
/-- v is a slice of these fields, never written -/
def FSl (I : IM) (L : List Fe) (v : Value) : Prop := ∃ a cap, v = .slice a L.length cap ∧ L.length ≤ cap ∧ ∀ (j : Nat) (x : Fe), L[j]? = some x → ∃ (b o : Nat) (cs : Array Value) (T : TypeId) (fr : Nat × Nat), a = some ⟨b, o, none⟩ ∧ I b = some (.cells cs T fr) ∧ cs[o + j * 3]? = some (.int .i64 x.k) ∧ cs[o + j * 3 + 1]? = some (.string ⟨x.a.toArray⟩) ∧ cs[o + j * 3 + 2]? = some (.string ⟨x.v.toArray⟩)
theorem FSl.mono {I J : IM} (le : I.Le J) {L : List Fe} {v : Value} (h : FSl I L v) : FSl J L v := by
  obtain ⟨a, cap, hv, hc, hr⟩ := h
  refine ⟨a, cap, hv, hc, fun j x hj => ?_⟩
  obtain ⟨b, o, cs, T, fr, h1, h2, h3⟩ := hr j x hj
  exact ⟨b, o, cs, T, fr, h1, le _ _ h2, h3⟩
theorem FSl.open {I : IM} {L : List Fe} {v : Value} (h : FSl I L v) : ∃ a c, v = .slice a L.length c ∧ L.length ≤ c ∧ FSl I L (.slice a L.length c) := by
  obtain ⟨a, c, rfl, hc, hr⟩ := h
  exact ⟨a, c, rfl, hc, a, c, rfl, hc, hr⟩
theorem fsl_nil (I : IM) : FSl I [] (.slice none 0 0) := ⟨none, 0, rfl, Nat.le_refl _, fun j x h => by simp at h⟩
theorem FSl.cap {I : IM} {L : List Fe} {a : Option Addr} {n c : Nat} (h : FSl I L (.slice a n c)) : n = L.length ∧ L.length ≤ c := by
  obtain ⟨a', c', hv, hc, _⟩ := h
  cases hv; exact ⟨rfl, hc⟩
theorem fe_getD {L : List Fe} {i : Nat} (h : i < L.length) : L[i]? = some (L.getD i Fe.z) := by simp [h]
theorem under22s : Tryd.prog.underlying 22 = some (.slice 39) := by kernel_rfl
theorem size39s (w : World) : (sizeOf 39).run Tryd.prog w = .ok 3 w := by kernel_rfl
theorem fsl_idx22 {I : IM} {w : World} {L : List Fe} {a : Option Addr} {n c i : Nat} (h : FSl I L (.slice a n c)) (hi : i < L.length) :
    (Instr.indexAt 22 (.slice a n c) (.int .i64 ((i : Nat) : Int))).run Tryd.prog w = .ok (.pointer (pAt a (i * 3))) w := by
  obtain ⟨a', c', hv, hc, hr⟩ := h
  cases hv
  obtain ⟨b, o, cs, T, fr, rfl, h2, h3, h4⟩ := hr i _ (fe_getD hi)
  have h2 : (i : Int) < (L.length : Int) := by omega
  simp [Instr.indexAt, asIntOf, run_underlying under22s, size39s, h2, pAt]
  intro h3; omega
theorem fsl_ld39 {I : IM} {w : World} (hS : I.Sub w) {L : List Fe} {a : Option Addr} {n c i : Nat} (h : FSl I L (.slice a n c)) (hi : i < L.length) :
    (Instr.loadAt 39 (.pointer (pAt a (i * 3)))).run Tryd.prog w = .ok (.agg #[.int .i64 (L.getD i Fe.z).k, .string ⟨(L.getD i Fe.z).a.toArray⟩, .string ⟨(L.getD i Fe.z).v.toArray⟩]) w := by
  obtain ⟨a', c', hv, hc, hr⟩ := h
  cases hv
  obtain ⟨b, o, cs, T, fr, rfl, h2, h3, h4, h5⟩ := hr i _ (fe_getD hi)
  rw [show pAt (some ⟨b, o, none⟩) (i * 3) = some ⟨b, o + i * 3, none⟩ from congrArg some (addr_addO b o (i * 3))]
  have c1 := run_cell (a := ⟨b, o + i * 3, none⟩) (hS _ _ h2) rfl rfl
  have c2 := run_cell (a := ⟨b, o + i * 3 + 1, none⟩) (hS _ _ h2) rfl rfl
  have c3 := run_cell (a := ⟨b, o + i * 3 + 2, none⟩) (hS _ _ h2) rfl rfl
  rw [h3] at c1
  rw [h4] at c2
  rw [h5] at c3
  have e : (Instr.loadAt 39 (.pointer (some ⟨b, o + i * 3, none⟩))).run Tryd.prog w = ((do pure (.agg (← loadCells ⟨b, o + i * 3, none⟩ 3))) : Sem Value).run Tryd.prog w := by kernel_rfl
  have l1 : (load ⟨b, o + i * 3, none⟩).run Tryd.prog w = .ok (.int .i64 (L.getD i Fe.z).k) w := by simp only [load, Sem.run, c1]
  have l2 : (load ⟨b, o + i * 3 + 1, none⟩).run Tryd.prog w = .ok (.string ⟨(L.getD i Fe.z).a.toArray⟩) w := by simp only [load, Sem.run, c2]
  have l3 : (load ⟨b, o + i * 3 + 2, none⟩).run Tryd.prog w = .ok (.string ⟨(L.getD i Fe.z).v.toArray⟩) w := by simp only [load, Sem.run, c3]
  have a1 : (⟨b, o + i * 3, none⟩ : Addr).add 0 = ⟨b, o + i * 3, none⟩ := rfl
  have a2 : (⟨b, o + i * 3, none⟩ : Addr).add 1 = ⟨b, o + i * 3 + 1, none⟩ := rfl
  have a3 : (⟨b, o + i * 3, none⟩ : Addr).add (1 + 1) = ⟨b, o + i * 3 + 2, none⟩ := rfl
  rw [e]
  simp only [loadCells, loadCellsFrom, Sem.run_bind, Sem.run_pure, a1, a2, a3, Nat.zero_add, l1, l2, l3, Result.andThen_ok]
  rfl
theorem freeze_row39 {w0 : World} {I0 : IM} {m : List Nat} {I : IM} {w : World} {H F : List OB} {L : List Fe} {v : Value} {n : Nat} (s : St w0 I0 m I w (H ++ F)) (h : RowH 39 3 v n (fcs L) F) :
    ∃ I', I.Le I' ∧ FSl I' L v ∧ St w0 I0 m I' w H := by
  have hl : L.length = n := by have := h.1; rw [fcs_length] at this; omega
  rcases h.2 with ⟨rfl, rfl, rfl⟩ | ⟨g, cap, cur, rfl, rfl, hnc, hcm, hcs, ht⟩
  · have : L = [] := List.eq_nil_of_length_eq_zero hl
    subst this
    exact ⟨I, IM.Le.refl I, fsl_nil I, by simpa using s⟩
  · have s2 := (s.perm (H' := (g, .cells cur 39) :: H) (by exact List.perm_append_comm))
    refine ⟨_, IM.le_add (s2.free (g, .cells cur 39) (by simp)) _, ?_, s2.freeze⟩
    refine ⟨some ⟨g, 0, none⟩, cap, congrArg (fun q => Value.slice (some ⟨g, 0, none⟩) q cap) hl.symm, by omega, fun j x hj => ⟨g, 0, cur, 39, (0, 0), rfl, IM.add_self _ _ _, ?_⟩⟩
    have hh := fcs_at hj
    rw [← ht, List.getElem?_take, List.getElem?_take, List.getElem?_take] at hh
    have hj2 := (List.getElem?_eq_some_iff.1 hj).1
    rw [if_pos (by omega), if_pos (by omega), if_pos (by omega)] at hh
    rw [Nat.zero_add]
    simpa using hh
theorem under30s : Tryd.prog.underlying 30 = some (.slice 42) := by kernel_rfl
theorem size42s (w : World) : (sizeOf 42).run Tryd.prog w = .ok 3 w := by kernel_rfl
theorem fsl_idx30 {I : IM} {w : World} {L : List Fe} {a : Option Addr} {n c i : Nat} (h : FSl I L (.slice a n c)) (hi : i < L.length) :
    (Instr.indexAt 30 (.slice a n c) (.int .i64 ((i : Nat) : Int))).run Tryd.prog w = .ok (.pointer (pAt a (i * 3))) w := by
  obtain ⟨a', c', hv, hc, hr⟩ := h
  cases hv
  obtain ⟨b, o, cs, T, fr, rfl, h2, h3, h4⟩ := hr i _ (fe_getD hi)
  have h2 : (i : Int) < (L.length : Int) := by omega
  simp [Instr.indexAt, asIntOf, run_underlying under30s, size42s, h2, pAt]
  intro h3; omega
theorem fsl_ld42 {I : IM} {w : World} (hS : I.Sub w) {L : List Fe} {a : Option Addr} {n c i : Nat} (h : FSl I L (.slice a n c)) (hi : i < L.length) :
    (Instr.loadAt 42 (.pointer (pAt a (i * 3)))).run Tryd.prog w = .ok (.agg #[.int .i64 (L.getD i Fe.z).k, .string ⟨(L.getD i Fe.z).a.toArray⟩, .string ⟨(L.getD i Fe.z).v.toArray⟩]) w := by
  obtain ⟨a', c', hv, hc, hr⟩ := h
  cases hv
  obtain ⟨b, o, cs, T, fr, rfl, h2, h3, h4, h5⟩ := hr i _ (fe_getD hi)
  rw [show pAt (some ⟨b, o, none⟩) (i * 3) = some ⟨b, o + i * 3, none⟩ from congrArg some (addr_addO b o (i * 3))]
  have c1 := run_cell (a := ⟨b, o + i * 3, none⟩) (hS _ _ h2) rfl rfl
  have c2 := run_cell (a := ⟨b, o + i * 3 + 1, none⟩) (hS _ _ h2) rfl rfl
  have c3 := run_cell (a := ⟨b, o + i * 3 + 2, none⟩) (hS _ _ h2) rfl rfl
  rw [h3] at c1
  rw [h4] at c2
  rw [h5] at c3
  have e : (Instr.loadAt 42 (.pointer (some ⟨b, o + i * 3, none⟩))).run Tryd.prog w = ((do pure (.agg (← loadCells ⟨b, o + i * 3, none⟩ 3))) : Sem Value).run Tryd.prog w := by kernel_rfl
  have l1 : (load ⟨b, o + i * 3, none⟩).run Tryd.prog w = .ok (.int .i64 (L.getD i Fe.z).k) w := by simp only [load, Sem.run, c1]
  have l2 : (load ⟨b, o + i * 3 + 1, none⟩).run Tryd.prog w = .ok (.string ⟨(L.getD i Fe.z).a.toArray⟩) w := by simp only [load, Sem.run, c2]
  have l3 : (load ⟨b, o + i * 3 + 2, none⟩).run Tryd.prog w = .ok (.string ⟨(L.getD i Fe.z).v.toArray⟩) w := by simp only [load, Sem.run, c3]
  have a1 : (⟨b, o + i * 3, none⟩ : Addr).add 0 = ⟨b, o + i * 3, none⟩ := rfl
  have a2 : (⟨b, o + i * 3, none⟩ : Addr).add 1 = ⟨b, o + i * 3 + 1, none⟩ := rfl
  have a3 : (⟨b, o + i * 3, none⟩ : Addr).add (1 + 1) = ⟨b, o + i * 3 + 2, none⟩ := rfl
  rw [e]
  simp only [loadCells, loadCellsFrom, Sem.run_bind, Sem.run_pure, a1, a2, a3, Nat.zero_add, l1, l2, l3, Result.andThen_ok]
  rfl
theorem freeze_row42 {w0 : World} {I0 : IM} {m : List Nat} {I : IM} {w : World} {H F : List OB} {L : List Fe} {v : Value} {n : Nat} (s : St w0 I0 m I w (H ++ F)) (h : RowH 42 3 v n (fcs L) F) :
    ∃ I', I.Le I' ∧ FSl I' L v ∧ St w0 I0 m I' w H := by
  have hl : L.length = n := by have := h.1; rw [fcs_length] at this; omega
  rcases h.2 with ⟨rfl, rfl, rfl⟩ | ⟨g, cap, cur, rfl, rfl, hnc, hcm, hcs, ht⟩
  · have : L = [] := List.eq_nil_of_length_eq_zero hl
    subst this
    exact ⟨I, IM.Le.refl I, fsl_nil I, by simpa using s⟩
  · have s2 := (s.perm (H' := (g, .cells cur 42) :: H) (by exact List.perm_append_comm))
    refine ⟨_, IM.le_add (s2.free (g, .cells cur 42) (by simp)) _, ?_, s2.freeze⟩
    refine ⟨some ⟨g, 0, none⟩, cap, congrArg (fun q => Value.slice (some ⟨g, 0, none⟩) q cap) hl.symm, by omega, fun j x hj => ⟨g, 0, cur, 42, (0, 0), rfl, IM.add_self _ _ _, ?_⟩⟩
    have hh := fcs_at hj
    rw [← ht, List.getElem?_take, List.getElem?_take, List.getElem?_take] at hh
    have hj2 := (List.getElem?_eq_some_iff.1 hj).1
    rw [if_pos (by omega), if_pos (by omega), if_pos (by omega)] at hh
    rw [Nat.zero_add]
    simpa using hh
/-- v is a slice of these ints, never written -/
def KSl (I : IM) (K : List Nat) (v : Value) : Prop := ∃ a cap, v = .slice a K.length cap ∧ K.length ≤ cap ∧ ∀ (j : Nat) (x : Nat), K[j]? = some x → ∃ (b o : Nat) (cs : Array Value) (T : TypeId) (fr : Nat × Nat), a = some ⟨b, o, none⟩ ∧ I b = some (.cells cs T fr) ∧ cs[o + j]? = some (.int .i64 ((x : Nat) : Int))
theorem KSl.mono {I J : IM} (le : I.Le J) {L : List Nat} {v : Value} (h : KSl I L v) : KSl J L v := by
  obtain ⟨a, cap, hv, hc, hr⟩ := h
  refine ⟨a, cap, hv, hc, fun j x hj => ?_⟩
  obtain ⟨b, o, cs, T, fr, h1, h2, h3⟩ := hr j x hj
  exact ⟨b, o, cs, T, fr, h1, le _ _ h2, h3⟩
theorem KSl.open {I : IM} {L : List Nat} {v : Value} (h : KSl I L v) : ∃ a c, v = .slice a L.length c ∧ L.length ≤ c ∧ KSl I L (.slice a L.length c) := by
  obtain ⟨a, c, rfl, hc, hr⟩ := h
  exact ⟨a, c, rfl, hc, a, c, rfl, hc, hr⟩
theorem KSl.cap {I : IM} {L : List Nat} {a : Option Addr} {n c : Nat} (h : KSl I L (.slice a n c)) : n = L.length ∧ L.length ≤ c := by
  obtain ⟨a', c', hv, hc, _⟩ := h
  cases hv; exact ⟨rfl, hc⟩
end Go.Proofs.YtcpmjogeafhpnaaDoor
/- Lists of fields and kinds are read. -/
set_option linter.all false
set_option maxRecDepth 100000
namespace Go.Proofs.YtcpmjogeafhpnaaDoor
open Go.RowKit Go.Sep
attribute [local irreducible] Go.wpList Go.Code.wp

theorem row39_snoc {v : Value} {n : Nat} {Fs : List Fe} {x : Fe} {F : List OB} (h : RowH 39 3 v (n + 1) (fcs Fs ++ [.int .i64 x.k, .string ⟨x.a.toArray⟩, .string ⟨x.v.toArray⟩]) F) (hn : n = Fs.length) : RowH 39 3 v (Fs ++ [x]).length (fcs (Fs ++ [x])) F := by
  subst hn
  rw [fcs_append, List.length_append]
  exact h
end Go.Proofs.YtcpmjogeafhpnaaDoor
/- The document: fields are read. -/
set_option linter.all false
set_option maxRecDepth 100000
namespace Go.Proofs.YtcpmjogeafhpnaaDoor
open Go.RowKit Go.Sep
attribute [local irreducible] Go.wpList Go.Code.wp

theorem drop_at {P : List UInt8} {at0 d : Nat} (hd : d ≤ (P.drop at0).length) (hat : at0 ≤ P.length) : (P.drop at0).drop d = P.drop (at0 + d) ∧ at0 + d ≤ P.length := by
  rw [List.drop_drop]
  rw [List.length_drop] at hd
  exact ⟨rfl, by omega⟩
theorem row42_snoc {v : Value} {n : Nat} {Fs : List Fe} {x : Fe} {F : List OB} (h : RowH 42 3 v (n + 1) (fcs Fs ++ [.int .i64 x.k, .string ⟨x.a.toArray⟩, .string ⟨x.v.toArray⟩]) F) (hn : n = Fs.length) : RowH 42 3 v (Fs ++ [x]).length (fcs (Fs ++ [x])) F := by
  subst hn
  rw [fcs_append, List.length_append]
  exact h
end Go.Proofs.YtcpmjogeafhpnaaDoor
/- Fields copied, compared. -/
set_option linter.all false
set_option maxRecDepth 100000
namespace Go.Proofs.YtcpmjogeafhpnaaDoor
open Go.RowKit Go.Sep
attribute [local irreducible] Go.wpList Go.Code.wp

theorem fe_take {L : List Fe} {i : Nat} (h : i < L.length) : L.take (i + 1) = L.take i ++ [L.getD i Fe.z] := by
  rw [List.take_add_one]; simp [h]
theorem eqF_int {P : Program} {w : World} {d : Nat} {t : TypeId} {k : Int} (h : P.underlying t = some (.int .i64)) : (Op.equalIn (d + 1) t (.int .i64 k) (.int .i64 k)).run P w = .ok true w := by
  unfold Op.equalIn
  simp [run_underlying h]
theorem eqF_str {P : Program} {w : World} {d : Nat} {t : TypeId} {a : ByteArray} (h : P.underlying t = some .string) : (Op.equalIn (d + 1) t (.string a) (.string a)).run P w = .ok true w := by
  rw [run_equalIn_string _ _ _ _ _ h]; simp

theorem eqFe42 {w : World} {d : Nat} {k : Int} {a b : ByteArray} : (Op.equalIn (d + 1 + 1) 42 (.agg #[.int .i64 k, .string a, .string b]) (.agg #[.int .i64 k, .string a, .string b])).run Tryd.prog w = .ok true w := by
  have p0 : ∀ w, (part 3 #[Value.int IntKind.i64 k, Value.string a, Value.string b] 0).run Tryd.prog w = .ok (.int .i64 k) w := fun w => by kernel_rfl
  have p1 : ∀ w, (part 9 #[Value.int IntKind.i64 k, Value.string a, Value.string b] 1).run Tryd.prog w = .ok (.string a) w := fun w => by kernel_rfl
  have p2 : ∀ w, (part 9 #[Value.int IntKind.i64 k, Value.string a, Value.string b] 2).run Tryd.prog w = .ok (.string b) w := fun w => by kernel_rfl
  have s : ∀ w, (program).run Tryd.prog w = .ok Tryd.prog w := fun w => rfl
  have h : Tryd.prog.stoodInHeld 42 = false := by kernel_rfl
  unfold Op.equalIn
  simp [run_underlying Tryd.underlying42, p0, p1, p2, eqF_int Tryd.underlying3, eqF_str Tryd.underlying9]
theorem run_neG42 {w : World} {x y : Operand} {k : Int} {a b : ByteArray} : (eqGuard .neq 42 x y (.agg #[.int .i64 k, .string a, .string b]) (.agg #[.int .i64 k, .string a, .string b])).run Tryd.prog w = .ok () w := by kernel_rfl
theorem run_neFe42 {w : World} {x y : Operand} {k : Int} {a b : ByteArray} : (do eqGuard .neq 42 x y (.agg #[.int .i64 k, .string a, .string b]) (.agg #[.int .i64 k, .string a, .string b]); binOp .neq 42 (.agg #[.int .i64 k, .string a, .string b]) (.agg #[.int .i64 k, .string a, .string b]) : Sem Value).run Tryd.prog w = .ok (.bool false) w := by
  rw [Sem.run_bind, run_neG42]
  show (binOp .neq 42 (.agg #[.int .i64 k, .string a, .string b]) (.agg #[.int .i64 k, .string a, .string b])).run Tryd.prog w = _
  have h : (binOp .neq 42 (.agg #[.int .i64 k, .string a, .string b]) (.agg #[.int .i64 k, .string a, .string b])).run Tryd.prog w = ((Op.equalIn (9998 + 1 + 1) 42 (.agg #[.int .i64 k, .string a, .string b]) (.agg #[.int .i64 k, .string a, .string b])) >>= fun r => pure (.bool (!r))).run Tryd.prog w := by kernel_rfl
  rw [h, Sem.run_bind, eqFe42]; rfl

set_option maxHeartbeats 2000000 in
theorem sameF_c {I : IM} {L : List Fe} {a0 a1 : Option Addr} {c0 c1 : Nat} (h0 : FSl I L (.slice a0 L.length c0)) (h1 : FSl I L (.slice a1 L.length c1)) (hl : L.length ≤ 1000) : Fun Tryd.prog 18 #[.slice a0 L.length c0, .slice a1 L.length c1] I (fun v J => v = .bool true) := by
  refine enter_rule 26 [(0, .slice a0 L.length c0), (1, .slice a1 L.length c1)] Tryd.func18 rfl (by kernel_rfl) ?_
  intro w s
  refine wp_seq ?_
  refine region_rule ?_
  refine ops_rule (C := []) [] [] 1 [] 0 (fun φ1 => [(4, .bool false)]) (fun φ1 => []) (fun φ1 => []) s trivial (fun φ1 => by kernel_rfl) ?_
  intro φ1 w1 s
  refine ops_done (by kernel_rfl) ?_
  refine wp_seq ?_
  refine wp_seq ?_
  refine region_rule ?_
  refine ops_rule (C := []) [] [] 5 [] 0 (fun φ2 => [(10, .bool (((L.length : Nat) : Int) != ((L.length : Nat) : Int))), (9, .int .i64 ((L.length : Nat) : Int)), (8, .slice a1 L.length c1), (7, .int .i64 ((L.length : Nat) : Int)), (6, .slice a0 L.length c0)]) (fun φ2 => []) (fun φ2 => []) s trivial (fun φ2 => by kernel_rfl) ?_
  intro φ2 w2 s
  rw [(nat_neq (a := L.length) (b := L.length)).trans (decide_eq_false (fun q => q rfl))]
  refine ops_done (by kernel_rfl) ?_
  refine cond_false_rule (b := false) (by kernel_rfl) rfl ?_
  refine wp_skip ?_
  refine wp_seq ?_
  refine wp_seq ?_
  refine region_rule ?_
  refine ops_rule (C := []) [] [] 3 [] 0 (fun φ3 => [(13, .int .i64 0), (12, .int .i64 ((L.length : Nat) : Int)), (11, .slice a0 L.length c0)]) (fun φ3 => []) (fun φ3 => []) s trivial (fun φ3 => by kernel_rfl) ?_
  intro φ3 w3 s
  refine ops_done (by kernel_rfl) ?_
  refine wp_block ?_
  have hle4 := IM.Le.refl I
  refine loop_rule (fun (x : Nat) => [(0, .slice a0 L.length c0), (1, .slice a1 L.length c1), (4, .bool false), (11, .slice a0 L.length c0), (12, .int .i64 ((L.length : Nat) : Int)), (13, .int .i64 ((x : Nat) : Int))]) (fun (x : Nat) => []) (fun m (x : Nat) J => IM.Le I J ∧ x + m = L.length) (L.length) 0 s (by kernel_rfl) List.Sublist.slnil ⟨IM.Le.refl _, Nat.zero_add _⟩ ?_
  rintro m5 i5 I5 w5 ev5 s ⟨le5, hi5_0⟩
  try dsimp only at s hi5_0 ⊢
  replace h0 := FSl.mono le5 h0
  replace h1 := FSl.mono le5 h1
  replace hle4 := leMono le5 hle4
  refine wp_seq ?_
  refine region_rule ?_
  refine ops_rule (C := []) [] [] 1 [] 0 (fun φ6 => [(14, .bool (decide (((i5 : Nat) : Int) < ((L.length : Nat) : Int))))]) (fun φ6 => []) (fun φ6 => []) s trivial (fun φ6 => by kernel_rfl) ?_
  intro φ6 w6 s
  rw [nat_lss (a := i5) (b := L.length)]
  refine ops_done (by kernel_rfl) ?_
  refine wp_seq ?_
  rcases Bool.eq_false_or_eq_true (decide (i5 < L.length)) with hc7 | hc7
  ·
    rw [hc7]
    refine cond_true_rule (b := true) (by kernel_rfl) rfl ?_
    refine wp_skip ?_
    refine wp_seq ?_
    refine wp_block ?_
    refine wp_seq ?_
    refine region_rule ?_
    refine ops_rule (C := []) [] [] 2 [] 0 (fun φ8 => [(5, .int .i64 ((i5 : Nat) : Int)), (15, .int .i64 ((i5 : Nat) : Int))]) (fun φ8 => []) (fun φ8 => []) s trivial (fun φ8 => by kernel_rfl) ?_
    intro φ8 w8 s
    refine ops_done (by kernel_rfl) ?_
    refine wp_seq ?_
    refine draw_rule (C := []) ⟨(fun φ9 xs9 => [.look 0 [] [], .look 0 [] [], .ran (Instr.indexAt 30 (.slice a0 L.length c0) (.int .i64 ((i5 : Nat) : Int))), .ran (Instr.loadAt 42 (.pointer (pAt a0 (i5 * 3)))), .look 0 [] [], .look 0 [] [], .ran (Instr.indexAt 30 (.slice a1 L.length c1) (.int .i64 ((i5 : Nat) : Int))), .ran (Instr.loadAt 42 (.pointer (pAt a1 (i5 * 3)))), .ran (do eqGuard .neq 42 (.tmp 19) (.tmp 23) (.agg #[.int .i64 ((List.getD L i5 Fe.z).k), .string ⟨((List.getD L i5 Fe.z).a).toArray⟩, .string ⟨((List.getD L i5 Fe.z).v).toArray⟩]) (.agg #[.int .i64 ((List.getD L i5 Fe.z).k), .string ⟨((List.getD L i5 Fe.z).a).toArray⟩, .string ⟨((List.getD L i5 Fe.z).v).toArray⟩]); binOp .neq 42 (.agg #[.int .i64 ((List.getD L i5 Fe.z).k), .string ⟨((List.getD L i5 Fe.z).a).toArray⟩, .string ⟨((List.getD L i5 Fe.z).v).toArray⟩]) (.agg #[.int .i64 ((List.getD L i5 Fe.z).k), .string ⟨((List.getD L i5 Fe.z).a).toArray⟩, .string ⟨((List.getD L i5 Fe.z).v).toArray⟩]))]), (fun φ9 xs9 => [.slice a0 L.length c0, .int .i64 ((i5 : Nat) : Int), .pointer (pAt a0 (i5 * 3)), .agg #[.int .i64 ((List.getD L i5 Fe.z).k), .string ⟨((List.getD L i5 Fe.z).a).toArray⟩, .string ⟨((List.getD L i5 Fe.z).v).toArray⟩], .slice a1 L.length c1, .int .i64 ((i5 : Nat) : Int), .pointer (pAt a1 (i5 * 3)), .agg #[.int .i64 ((List.getD L i5 Fe.z).k), .string ⟨((List.getD L i5 Fe.z).a).toArray⟩, .string ⟨((List.getD L i5 Fe.z).v).toArray⟩], .bool false]), (fun φ9 xs9 => [[]]), (fun φ9 xs9 => [[default, default, default, default, default, default, default, default, default]]), [], [1, 1, 6, 6, 1, 1, 6, 6, 6]⟩ (fun j => ([MP.any, MP.any, MP.any, MP.any, MP.any, MP.any, MP.any, MP.any, MP.any] : List MP).getD j MP.any) [] [] [2, 3, 6, 7, 8] (fun φ9 xs9 => []) (fun φ9 xs9 => [(16, .slice a0 L.length c0), (17, .int .i64 ((i5 : Nat) : Int)), (18, .pointer (pAt a0 (i5 * 3))), (19, .agg #[.int .i64 ((List.getD L i5 Fe.z).k), .string ⟨((List.getD L i5 Fe.z).a).toArray⟩, .string ⟨((List.getD L i5 Fe.z).v).toArray⟩]), (20, .slice a1 L.length c1), (21, .int .i64 ((i5 : Nat) : Int)), (22, .pointer (pAt a1 (i5 * 3))), (23, .agg #[.int .i64 ((List.getD L i5 Fe.z).k), .string ⟨((List.getD L i5 Fe.z).a).toArray⟩, .string ⟨((List.getD L i5 Fe.z).v).toArray⟩]), (24, .bool false)]) (fun φ9 xs9 => []) s trivial (by kernel_rfl) (by kernel_rfl) (fun _ _ => by kernel_rfl) (fun _ _ => by kernel_rfl) ⟨fun _ _ => by kernel_rfl, fun _ _ => by kernel_rfl, fun _ _ => by kernel_rfl, fun _ _ => by kernel_rfl⟩ (fun _ _ _ => by kernel_rfl) (fun _ _ => by kernel_rfl) (fun _ _ => by kernel_rfl) (fun _ _ => by kernel_rfl) (fun _ _ => by kernel_rfl) (fun _ _ => by kernel_rfl) trivial ⟨kcast (A := ∀ (φ9 : Nat → Nat) (xs9 : Xs) (J : IM) (w : World), I5.Le J → J.Sub w → ((Instr.indexAt 30 (.slice a0 L.length c0) (.int .i64 ((i5 : Nat) : Int))) : Sem Value).run Tryd.prog w = .ok (.pointer (pAt a0 (i5 * 3))) w) (by kernel_rfl) (fun φ9 xs9 J w hJ hS => fsl_idx30 (FSl.mono hJ h0) (by have e8 := hi5_0; have hq0 := of_decide_eq_true hc7; omega)), ⟨kcast (A := ∀ (φ9 : Nat → Nat) (xs9 : Xs) (J : IM) (w : World), I5.Le J → J.Sub w → ((Instr.loadAt 42 (.pointer (pAt a0 (i5 * 3)))) : Sem Value).run Tryd.prog w = .ok (.agg #[.int .i64 ((List.getD L i5 Fe.z).k), .string ⟨((List.getD L i5 Fe.z).a).toArray⟩, .string ⟨((List.getD L i5 Fe.z).v).toArray⟩]) w) (by kernel_rfl) (fun φ9 xs9 J w hJ hS => fsl_ld42 hS (FSl.mono hJ h0) (by have e8 := hi5_0; have hq0 := of_decide_eq_true hc7; omega)), ⟨kcast (A := ∀ (φ9 : Nat → Nat) (xs9 : Xs) (J : IM) (w : World), I5.Le J → J.Sub w → ((Instr.indexAt 30 (.slice a1 L.length c1) (.int .i64 ((i5 : Nat) : Int))) : Sem Value).run Tryd.prog w = .ok (.pointer (pAt a1 (i5 * 3))) w) (by kernel_rfl) (fun φ9 xs9 J w hJ hS => fsl_idx30 (FSl.mono hJ h1) (by have e8 := hi5_0; have hq0 := of_decide_eq_true hc7; omega)), ⟨kcast (A := ∀ (φ9 : Nat → Nat) (xs9 : Xs) (J : IM) (w : World), I5.Le J → J.Sub w → ((Instr.loadAt 42 (.pointer (pAt a1 (i5 * 3)))) : Sem Value).run Tryd.prog w = .ok (.agg #[.int .i64 ((List.getD L i5 Fe.z).k), .string ⟨((List.getD L i5 Fe.z).a).toArray⟩, .string ⟨((List.getD L i5 Fe.z).v).toArray⟩]) w) (by kernel_rfl) (fun φ9 xs9 J w hJ hS => fsl_ld42 hS (FSl.mono hJ h1) (by have e8 := hi5_0; have hq0 := of_decide_eq_true hc7; omega)), ⟨kcast (A := ∀ (φ9 : Nat → Nat) (xs9 : Xs) (J : IM) (w : World), I5.Le J → J.Sub w → ((do eqGuard .neq 42 (.tmp 19) (.tmp 23) (.agg #[.int .i64 ((List.getD L i5 Fe.z).k), .string ⟨((List.getD L i5 Fe.z).a).toArray⟩, .string ⟨((List.getD L i5 Fe.z).v).toArray⟩]) (.agg #[.int .i64 ((List.getD L i5 Fe.z).k), .string ⟨((List.getD L i5 Fe.z).a).toArray⟩, .string ⟨((List.getD L i5 Fe.z).v).toArray⟩]); binOp .neq 42 (.agg #[.int .i64 ((List.getD L i5 Fe.z).k), .string ⟨((List.getD L i5 Fe.z).a).toArray⟩, .string ⟨((List.getD L i5 Fe.z).v).toArray⟩]) (.agg #[.int .i64 ((List.getD L i5 Fe.z).k), .string ⟨((List.getD L i5 Fe.z).a).toArray⟩, .string ⟨((List.getD L i5 Fe.z).v).toArray⟩])) : Sem Value).run Tryd.prog w = .ok (.bool false) w) (by kernel_rfl) (fun φ9 xs9 J w hJ hS => run_neFe42), trivial⟩⟩⟩⟩⟩ (by kernel_rfl) trivial ?k9
    case k9 =>
      rintro φ9 xs9 I9 w9 le9 s 
      replace h0 := FSl.mono le9 h0
      replace h1 := FSl.mono le9 h1
      replace hle4 := leMono le9 hle4
      refine cond_false_rule (b := false) (by kernel_rfl) rfl ?_
      refine wp_skip ?_
      refine region_rule ?_
      refine ops_rule (C := []) [] [] 2 [] 0 (fun φ10 => [(13, .int .i64 (IntKind.wrap .i64 (((i5 : Nat) : Int) + ((1 : Nat) : Int)))), (25, .int .i64 (IntKind.wrap .i64 (((i5 : Nat) : Int) + ((1 : Nat) : Int))))]) (fun φ10 => []) (fun φ10 => []) s trivial (fun φ10 => by kernel_rfl) ?_
      intro φ10 w10 s
      rw [nat_addI (a := i5) (b := 1) (by have e8 := hi5_0; have hq0 := of_decide_eq_true hc7; omega)]
      refine ops_done (by kernel_rfl) ?_
      exact ⟨⟨m5 - 1, i5 + 1, _, _, _, by have hq0 := of_decide_eq_true hc7; have := hi5_0; omega, rfl, s, List.Sublist.slnil, by kernel_rfl, hle4, by have hq0 := of_decide_eq_true hc7; have := hi5_0; show i5 + 1 + (m5 - 1) = L.length; omega⟩⟩
  ·
    rw [hc7]
    refine cond_false_rule (b := false) (by kernel_rfl) rfl ?_
    refine wp_exit ?_
    refine wp_seq ?_
    refine region_rule ?_
    refine ops_rule (C := []) [] [] 1 [] 0 (fun φ11 => [(4, .bool true)]) (fun φ11 => []) (fun φ11 => []) s trivial (fun φ11 => by kernel_rfl) ?_
    intro φ11 w11 s
    refine ops_done (by kernel_rfl) ?_
    refine wp_ret ?_
    refine ret_rule (C := []) [] [] (.bool true) [] [] s trivial (by kernel_rfl) ?_
    exact ⟨_, _, _, rfl, s, rfl⟩

end Go.Proofs.YtcpmjogeafhpnaaDoor
/- The order of texts and of fields. -/
set_option linter.all false
set_option maxRecDepth 100000
namespace Go.Proofs.YtcpmjogeafhpnaaDoor.Tx
open Go.RowKit Go.Sep Go.Lib Go.Op
theorem lst_toList (l : List UInt8) : (⟨l.toArray⟩ : ByteArray).toList = l := by rw [ByteArray.toList_eq]
theorem run_ltS {w : World} {t : TypeId} {x y : List UInt8} : (binOp .lss t (.string ⟨x.toArray⟩) (.string ⟨y.toArray⟩)).run Tryd.prog w = .ok (.bool (bytesLess x y)) w := by
  show (Op.stringOp .lss _ _).run Tryd.prog w = _
  unfold Op.stringOp
  simp only [lst_toList]; rfl
theorem run_gtS {w : World} {t : TypeId} {x y : List UInt8} : (binOp .gtr t (.string ⟨x.toArray⟩) (.string ⟨y.toArray⟩)).run Tryd.prog w = .ok (.bool (!(bytesLess x y || decide (x = y)))) w := by
  show (Op.stringOp .gtr _ _).run Tryd.prog w = _
  unfold Op.stringOp
  simp only [lst_toList]
  rw [Bool.beq_eq_decide_eq]; rfl
/-- one way or the other, or the same -/
theorem bL_irr : ∀ x : List UInt8, bytesLess x x = false
  | [] => rfl
  | a :: x => by simp [bytesLess, bL_irr x]
theorem bL_tot : ∀ x y : List UInt8, bytesLess x y = true ∨ x = y ∨ bytesLess y x = true
  | [], [] => .inr (.inl rfl)
  | [], _ :: _ => .inl rfl
  | _ :: _, [] => .inr (.inr rfl)
  | a :: x, b :: y => by
    rcases bL_tot x y with h | h | h
    · by_cases e : a = b
      · subst e; left; simp [bytesLess, h]
      · have : a.toNat ≠ b.toNat := fun q => e (UInt8.toNat_inj.1 q)
        simp only [bytesLess]
        by_cases q : a < b
        · left; simp [q]
        · right; right
          have : b < a := by rw [UInt8.lt_iff_toNat_lt] at q ⊢; omega
          simp [this]
    · subst h
      by_cases e : a = b
      · subst e; right; left; rfl
      · have : a.toNat ≠ b.toNat := fun q => e (UInt8.toNat_inj.1 q)
        simp only [bytesLess]
        by_cases q : a < b
        · left; simp [q]
        · right; right
          have : b < a := by rw [UInt8.lt_iff_toNat_lt] at q ⊢; omega
          simp [this]
    · by_cases e : a = b
      · subst e; right; right; simp [bytesLess, h]
      · have : a.toNat ≠ b.toNat := fun q => e (UInt8.toNat_inj.1 q)
        simp only [bytesLess]
        by_cases q : a < b
        · left; simp [q]
        · right; right
          have : b < a := by rw [UInt8.lt_iff_toNat_lt] at q ⊢; omega
          simp [this]
theorem bL_trans : ∀ {x y z : List UInt8}, bytesLess x y = true → bytesLess y z = true → bytesLess x z = true
  | _, [], _, h, _ => by simp [bytesLess] at h
  | _, _ :: _, [], _, h => by simp [bytesLess] at h
  | [], _ :: _, _ :: _, _, _ => rfl
  | a :: x, b :: y, c :: z, h1, h2 => by
    simp only [bytesLess, Bool.or_eq_true, decide_eq_true_eq, Bool.and_eq_true, beq_iff_eq] at h1 h2 ⊢
    rcases h1 with h1 | ⟨rfl, h1⟩ <;> rcases h2 with h2 | ⟨rfl, h2⟩
    · left; rw [UInt8.lt_iff_toNat_lt] at *; omega
    · exact .inl h1
    · exact .inl h2
    · exact .inr ⟨rfl, bL_trans h1 h2⟩
def cmI (a b : Int) : Int := if a < b then -1 else if b < a then 1 else 0
def cmS (a b : List UInt8) : Int := if bytesLess a b = true then -1 else if a = b then 0 else 1
/-- which field goes ahead -/
def ordF (k : Int) (a v : List UInt8) (k' : Int) (a' v' : List UInt8) : Int := if cmI k k' ≠ 0 then cmI k k' else if cmS a a' ≠ 0 then cmS a a' else cmS v v'
def lesF (k : Int) (a v : List UInt8) (k' : Int) (a' v' : List UInt8) : Bool := if k ≠ k' then decide (k < k') else if a ≠ a' then bytesLess a a' else bytesLess v v'
theorem ord_les {k k' : Int} {a v a' v' : List UInt8} : decide (ordF k a v k' a' v' < 0) = lesF k a v k' a' v' := by
  unfold ordF lesF cmI cmS
  by_cases h : k = k'
  · subst h
    by_cases g : a = a'
    · subst g
      simp only [Int.lt_irrefl, if_false, bL_irr, ne_eq, not_true_eq_false]
      by_cases e : bytesLess v v' = true
      · simp [e]
      · simp only [if_neg e]
        by_cases q : v = v' <;> simp [q, e]
        · subst q; simpa using e
    · simp only [Int.lt_irrefl, if_false, ne_eq, not_true_eq_false, g, not_false_eq_true, if_true]
      by_cases e : bytesLess a a' = true <;> simp [e]
  · have : k < k' ∨ k' < k := by omega
    rcases this with q | q
    · simp [q, h]
    · have : ¬ k < k' := by omega
      simp [q, h, this]
theorem les_irr {k : Int} {a v : List UInt8} : lesF k a v k a v = false := by simp [lesF, bL_irr]
theorem les_trans {k k' k'' : Int} {a v a' v' a'' v'' : List UInt8} (h1 : lesF k a v k' a' v' = true) (h2 : lesF k' a' v' k'' a'' v'' = true) : lesF k a v k'' a'' v'' = true := by
  unfold lesF at *
  by_cases e1 : k = k'
  · subst e1
    by_cases e2 : k = k''
    · subst e2
      simp only [ne_eq, not_true_eq_false, if_false] at *
      by_cases f1 : a = a'
      · subst f1
        by_cases f2 : a = a''
        · subst f2
          simp only [not_true_eq_false, if_false] at *
          exact bL_trans h1 h2
        · simp only [f2, not_true_eq_false, if_false, not_false_eq_true, if_true] at *; exact h2
      · by_cases f2 : a' = a''
        · subst f2
          simp only [f1, not_true_eq_false, if_false, not_false_eq_true, if_true] at *; exact h1
        · simp only [f1, f2, not_false_eq_true, if_true] at h1 h2
          have h3 := bL_trans h1 h2
          have f3 : ¬ a = a'' := fun q => by subst q; rw [bL_irr] at h3; cases h3
          simp only [f3, not_false_eq_true, if_true]; exact h3
    · simpa [e2] using h2
  · have q1 : k < k' := by simpa [e1] using h1
    by_cases e2 : k' = k''
    · subst e2; simp [e1, q1]
    · have q2 : k' < k'' := by simpa [e2] using h2
      have : k ≠ k'' := by omega
      simp only [this, ne_eq, not_false_eq_true, if_true]; exact decide_eq_true (by omega)
end Go.Proofs.YtcpmjogeafhpnaaDoor.Tx
/- Fields are put in order: the program's. -/
set_option linter.all false
set_option maxRecDepth 100000
namespace Go.Proofs.YtcpmjogeafhpnaaDoor.Tx
open Go.RowKit Go.Sep
attribute [local irreducible] Go.wpList Go.Code.wp

theorem run_neS_same {w : World} {x : List UInt8} : (binOp .neq 9 (.string ⟨x.toArray⟩) (.string ⟨x.toArray⟩)).run Tryd.prog w = .ok (.bool false) w := by
  rw [run_neS, decide_eq_true rfl]; rfl
theorem run_neI {w : World} {z : Int} : (binOp .neq 3 (.int .i64 z) (.int .i64 z)).run Tryd.prog w = .ok (.bool false) w := by
  have e : (binOp .neq 3 (.int .i64 z) (.int .i64 z)).run Tryd.prog w = .ok (.bool (!(decide (z = z)))) w := by kernel_rfl
  rw [e, decide_eq_true rfl]; rfl

set_option maxHeartbeats 1000000 in
theorem nanI_c {I : IM} {z : Int} : Fun Tryd.prog 126 #[.int .i64 z] I (fun v J => v = .bool false) := by
  refine enter_rule 6 [(0, .int .i64 z)] Tryd.func126 rfl (by kernel_rfl) ?_
  intro w s
  refine wp_seq ?_
  refine region_rule ?_
  refine ops_rule (C := []) [] [] 1 [] 0 (fun φ1 => [(2, .bool false)]) (fun φ1 => []) (fun φ1 => []) s trivial (fun φ1 => by kernel_rfl) ?_
  intro φ1 w1 s
  refine ops_done (by kernel_rfl) ?_
  refine wp_seq ?_
  refine region_rule ?_
  refine ops_rule (C := []) [] [] 2 [] 0 (fun φ2 => [(4, .int .i64 z), (3, .int .i64 z)]) (fun φ2 => []) (fun φ2 => []) s trivial (fun φ2 => by kernel_rfl) ?_
  intro φ2 w2 s
  refine sem_rule (binOp .neq 3 (.int .i64 z) (.int .i64 z)) (some 5) (.bool false) (by kernel_rfl) (run_neI) ?_
  refine ops_rule (C := []) [] [] 1 [] 0 (fun φ3 => [(2, .bool false)]) (fun φ3 => []) (fun φ3 => []) s trivial (fun φ3 => by kernel_rfl) ?_
  intro φ3 w3 s
  refine ops_done (by kernel_rfl) ?_
  refine wp_ret ?_
  refine ret_rule (C := []) [] [] (.bool false) [] [] s trivial (by kernel_rfl) ?_
  exact ⟨_, _, _, rfl, s, rfl⟩

set_option maxHeartbeats 1000000 in
theorem nanS_c {I : IM} {x : List UInt8} : Fun Tryd.prog 127 #[.string ⟨(x).toArray⟩] I (fun v J => v = .bool false) := by
  refine enter_rule 6 [(0, .string ⟨(x).toArray⟩)] Tryd.func127 rfl (by kernel_rfl) ?_
  intro w s
  refine wp_seq ?_
  refine region_rule ?_
  refine ops_rule (C := []) [] [] 1 [] 0 (fun φ1 => [(2, .bool false)]) (fun φ1 => []) (fun φ1 => []) s trivial (fun φ1 => by kernel_rfl) ?_
  intro φ1 w1 s
  refine ops_done (by kernel_rfl) ?_
  refine wp_seq ?_
  refine region_rule ?_
  refine ops_rule (C := []) [] [] 2 [] 0 (fun φ2 => [(4, .string ⟨(x).toArray⟩), (3, .string ⟨(x).toArray⟩)]) (fun φ2 => []) (fun φ2 => []) s trivial (fun φ2 => by kernel_rfl) ?_
  intro φ2 w2 s
  refine sem_rule (binOp .neq 9 (.string ⟨(x).toArray⟩) (.string ⟨(x).toArray⟩)) (some 5) (.bool false) (by kernel_rfl) (run_neS_same) ?_
  refine ops_rule (C := []) [] [] 1 [] 0 (fun φ3 => [(2, .bool false)]) (fun φ3 => []) (fun φ3 => []) s trivial (fun φ3 => by kernel_rfl) ?_
  intro φ3 w3 s
  refine ops_done (by kernel_rfl) ?_
  refine wp_ret ?_
  refine ret_rule (C := []) [] [] (.bool false) [] [] s trivial (by kernel_rfl) ?_
  exact ⟨_, _, _, rfl, s, rfl⟩

set_option maxHeartbeats 1000000 in
theorem cmpI_c {I : IM} {z u : Int} : Fun Tryd.prog 105 #[.int .i64 z, .int .i64 u] I (fun v J => v = .int .i64 (cmI z u)) := by
  refine enter_rule 20 [(0, .int .i64 z), (1, .int .i64 u)] Tryd.func105 rfl (by kernel_rfl) ?_
  intro w s
  refine wp_seq ?_
  refine region_rule ?_
  refine ops_rule (C := []) [] [] 1 [] 0 (fun φ1 => [(4, .int .i64 0)]) (fun φ1 => []) (fun φ1 => []) s trivial (fun φ1 => by kernel_rfl) ?_
  intro φ1 w1 s
  refine ops_done (by kernel_rfl) ?_
  refine wp_seq ?_
  refine region_rule ?_
  refine ops_rule (C := []) [] [] 1 [] 0 (fun φ2 => [(7, .int .i64 z)]) (fun φ2 => []) (fun φ2 => []) s trivial (fun φ2 => by kernel_rfl) ?_
  intro φ2 w2 s
  refine call_rule (some 8) s (nanI_c (z := z)) (by kernel_rfl) ?_
  intro v3 I3 w3 le3 h3 s
  obtain rfl := h3
  refine ops_rule (C := []) [] [] 1 [] 0 (fun φ4 => [(5, .bool false)]) (fun φ4 => []) (fun φ4 => []) s trivial (fun φ4 => by kernel_rfl) ?_
  intro φ4 w4 s
  refine ops_done (by kernel_rfl) ?_
  refine wp_seq ?_
  refine region_rule ?_
  refine ops_rule (C := []) [] [] 1 [] 0 (fun φ5 => [(9, .int .i64 u)]) (fun φ5 => []) (fun φ5 => []) s trivial (fun φ5 => by kernel_rfl) ?_
  intro φ5 w5 s
  refine call_rule (some 10) s (nanI_c (z := u)) (by kernel_rfl) ?_
  intro v6 I6 w6 le6 h6 s
  obtain rfl := h6
  refine ops_rule (C := []) [] [] 1 [] 0 (fun φ7 => [(6, .bool false)]) (fun φ7 => []) (fun φ7 => []) s trivial (fun φ7 => by kernel_rfl) ?_
  intro φ7 w7 s
  refine ops_done (by kernel_rfl) ?_
  refine wp_seq ?_
  refine wp_seq ?_
  refine region_rule ?_
  refine ops_rule (C := []) [] [] 1 [] 0 (fun φ8 => [(11, .bool false)]) (fun φ8 => []) (fun φ8 => []) s trivial (fun φ8 => by kernel_rfl) ?_
  intro φ8 w8 s
  refine ops_done (by kernel_rfl) ?_
  refine cond_false_rule (b := false) (by kernel_rfl) rfl ?_
  refine wp_skip ?_
  refine wp_seq ?_
  refine wp_seq ?_
  refine region_rule ?_
  refine ops_rule (C := []) [] [] 1 [] 0 (fun φ9 => [(13, .bool false)]) (fun φ9 => []) (fun φ9 => []) s trivial (fun φ9 => by kernel_rfl) ?_
  intro φ9 w9 s
  refine ops_done (by kernel_rfl) ?_
  refine cond_false_rule (b := false) (by kernel_rfl) rfl ?_
  refine wp_skip ?_
  refine wp_seq ?_
  refine wp_seq ?_
  refine region_rule ?_
  refine ops_rule (C := []) [] [] 3 [] 0 (fun φ10 => [(16, .bool (decide (z < u))), (15, .int .i64 u), (14, .int .i64 z)]) (fun φ10 => []) (fun φ10 => []) s trivial (fun φ10 => by kernel_rfl) ?_
  intro φ10 w10 s
  refine ops_done (by kernel_rfl) ?_
  rcases Bool.eq_false_or_eq_true (decide (z < u)) with hc11 | hc11
  ·
    rw [hc11]
    refine cond_true_rule (b := true) (by kernel_rfl) rfl ?_
    refine wp_seq ?_
    refine region_rule ?_
    refine ops_rule (C := []) [] [] 1 [] 0 (fun φ12 => [(4, .int .i64 (-1))]) (fun φ12 => []) (fun φ12 => []) s trivial (fun φ12 => by kernel_rfl) ?_
    intro φ12 w12 s
    refine ops_done (by kernel_rfl) ?_
    refine wp_ret ?_
    refine ret_rule (C := []) [] [] (.int .i64 (-1)) [] [] s trivial (by kernel_rfl) ?_
    exact ⟨_, _, _, rfl, s, (congrArg (Value.int .i64) (by have hq0 := of_decide_eq_true hc11; unfold cmI; rw [if_pos (by omega)]))⟩
  ·
    rw [hc11]
    refine cond_false_rule (b := false) (by kernel_rfl) rfl ?_
    refine wp_skip ?_
    refine wp_seq ?_
    refine wp_seq ?_
    refine region_rule ?_
    refine ops_rule (C := []) [] [] 3 [] 0 (fun φ13 => [(19, .bool (decide (z > u))), (18, .int .i64 u), (17, .int .i64 z)]) (fun φ13 => []) (fun φ13 => []) s trivial (fun φ13 => by kernel_rfl) ?_
    intro φ13 w13 s
    refine ops_done (by kernel_rfl) ?_
    rcases Bool.eq_false_or_eq_true (decide (z > u)) with hc14 | hc14
    ·
      rw [hc14]
      refine cond_true_rule (b := true) (by kernel_rfl) rfl ?_
      refine wp_seq ?_
      refine region_rule ?_
      refine ops_rule (C := []) [] [] 1 [] 0 (fun φ15 => [(4, .int .i64 1)]) (fun φ15 => []) (fun φ15 => []) s trivial (fun φ15 => by kernel_rfl) ?_
      intro φ15 w15 s
      refine ops_done (by kernel_rfl) ?_
      refine wp_ret ?_
      refine ret_rule (C := []) [] [] (.int .i64 1) [] [] s trivial (by kernel_rfl) ?_
      exact ⟨_, _, _, rfl, s, (congrArg (Value.int .i64) (by have hq0 := of_decide_eq_false hc11; have hq1 := of_decide_eq_true hc14; unfold cmI; rw [if_neg (by omega), if_pos (by omega)]))⟩
    ·
      rw [hc14]
      refine cond_false_rule (b := false) (by kernel_rfl) rfl ?_
      refine wp_skip ?_
      refine wp_seq ?_
      refine region_rule ?_
      refine ops_rule (C := []) [] [] 1 [] 0 (fun φ16 => [(4, .int .i64 0)]) (fun φ16 => []) (fun φ16 => []) s trivial (fun φ16 => by kernel_rfl) ?_
      intro φ16 w16 s
      refine ops_done (by kernel_rfl) ?_
      refine wp_ret ?_
      refine ret_rule (C := []) [] [] (.int .i64 0) [] [] s trivial (by kernel_rfl) ?_
      exact ⟨_, _, _, rfl, s, (congrArg (Value.int .i64) (by have hq0 := of_decide_eq_false hc11; have hq1 := of_decide_eq_false hc14; unfold cmI; rw [if_neg (by omega), if_neg (by omega)]))⟩

set_option maxHeartbeats 1000000 in
theorem cmpS_c {I : IM} {x y : List UInt8} : Fun Tryd.prog 106 #[.string ⟨(x).toArray⟩, .string ⟨(y).toArray⟩] I (fun v J => v = .int .i64 (cmS x y)) := by
  refine enter_rule 20 [(0, .string ⟨(x).toArray⟩), (1, .string ⟨(y).toArray⟩)] Tryd.func106 rfl (by kernel_rfl) ?_
  intro w s
  refine wp_seq ?_
  refine region_rule ?_
  refine ops_rule (C := []) [] [] 1 [] 0 (fun φ1 => [(4, .int .i64 0)]) (fun φ1 => []) (fun φ1 => []) s trivial (fun φ1 => by kernel_rfl) ?_
  intro φ1 w1 s
  refine ops_done (by kernel_rfl) ?_
  refine wp_seq ?_
  refine region_rule ?_
  refine ops_rule (C := []) [] [] 1 [] 0 (fun φ2 => [(7, .string ⟨(x).toArray⟩)]) (fun φ2 => []) (fun φ2 => []) s trivial (fun φ2 => by kernel_rfl) ?_
  intro φ2 w2 s
  refine call_rule (some 8) s (nanS_c (x := x)) (by kernel_rfl) ?_
  intro v3 I3 w3 le3 h3 s
  obtain rfl := h3
  refine ops_rule (C := []) [] [] 1 [] 0 (fun φ4 => [(5, .bool false)]) (fun φ4 => []) (fun φ4 => []) s trivial (fun φ4 => by kernel_rfl) ?_
  intro φ4 w4 s
  refine ops_done (by kernel_rfl) ?_
  refine wp_seq ?_
  refine region_rule ?_
  refine ops_rule (C := []) [] [] 1 [] 0 (fun φ5 => [(9, .string ⟨(y).toArray⟩)]) (fun φ5 => []) (fun φ5 => []) s trivial (fun φ5 => by kernel_rfl) ?_
  intro φ5 w5 s
  refine call_rule (some 10) s (nanS_c (x := y)) (by kernel_rfl) ?_
  intro v6 I6 w6 le6 h6 s
  obtain rfl := h6
  refine ops_rule (C := []) [] [] 1 [] 0 (fun φ7 => [(6, .bool false)]) (fun φ7 => []) (fun φ7 => []) s trivial (fun φ7 => by kernel_rfl) ?_
  intro φ7 w7 s
  refine ops_done (by kernel_rfl) ?_
  refine wp_seq ?_
  refine wp_seq ?_
  refine region_rule ?_
  refine ops_rule (C := []) [] [] 1 [] 0 (fun φ8 => [(11, .bool false)]) (fun φ8 => []) (fun φ8 => []) s trivial (fun φ8 => by kernel_rfl) ?_
  intro φ8 w8 s
  refine ops_done (by kernel_rfl) ?_
  refine cond_false_rule (b := false) (by kernel_rfl) rfl ?_
  refine wp_skip ?_
  refine wp_seq ?_
  refine wp_seq ?_
  refine region_rule ?_
  refine ops_rule (C := []) [] [] 1 [] 0 (fun φ9 => [(13, .bool false)]) (fun φ9 => []) (fun φ9 => []) s trivial (fun φ9 => by kernel_rfl) ?_
  intro φ9 w9 s
  refine ops_done (by kernel_rfl) ?_
  refine cond_false_rule (b := false) (by kernel_rfl) rfl ?_
  refine wp_skip ?_
  refine wp_seq ?_
  refine wp_seq ?_
  refine region_rule ?_
  refine ops_rule (C := []) [] [] 2 [] 0 (fun φ10 => [(15, .string ⟨(y).toArray⟩), (14, .string ⟨(x).toArray⟩)]) (fun φ10 => []) (fun φ10 => []) s trivial (fun φ10 => by kernel_rfl) ?_
  intro φ10 w10 s
  refine sem_rule (binOp .lss 9 (.string ⟨(x).toArray⟩) (.string ⟨(y).toArray⟩)) (some 16) (.bool (Go.Op.bytesLess x y)) (by kernel_rfl) (run_ltS (x := x) (y := y)) ?_
  refine ops_done (by kernel_rfl) ?_
  rcases Bool.eq_false_or_eq_true (Go.Op.bytesLess x y) with hc11 | hc11
  ·
    rw [hc11]
    refine cond_true_rule (b := true) (by kernel_rfl) rfl ?_
    refine wp_seq ?_
    refine region_rule ?_
    refine ops_rule (C := []) [] [] 1 [] 0 (fun φ12 => [(4, .int .i64 (-1))]) (fun φ12 => []) (fun φ12 => []) s trivial (fun φ12 => by kernel_rfl) ?_
    intro φ12 w12 s
    refine ops_done (by kernel_rfl) ?_
    refine wp_ret ?_
    refine ret_rule (C := []) [] [] (.int .i64 (-1)) [] [] s trivial (by kernel_rfl) ?_
    exact ⟨_, _, _, rfl, s, (congrArg (Value.int .i64) (by unfold cmS; rw [if_pos hc11]))⟩
  ·
    rw [hc11]
    refine cond_false_rule (b := false) (by kernel_rfl) rfl ?_
    refine wp_skip ?_
    refine wp_seq ?_
    refine wp_seq ?_
    refine region_rule ?_
    refine ops_rule (C := []) [] [] 2 [] 0 (fun φ13 => [(18, .string ⟨(y).toArray⟩), (17, .string ⟨(x).toArray⟩)]) (fun φ13 => []) (fun φ13 => []) s trivial (fun φ13 => by kernel_rfl) ?_
    intro φ13 w13 s
    refine sem_rule (binOp .gtr 9 (.string ⟨(x).toArray⟩) (.string ⟨(y).toArray⟩)) (some 19) (.bool (!(Go.Op.bytesLess x y || decide (x = y)))) (by kernel_rfl) (run_gtS (x := x) (y := y)) ?_
    refine ops_done (by kernel_rfl) ?_
    rcases Bool.eq_false_or_eq_true (Go.Op.bytesLess x y || decide (x = y)) with hc14 | hc14
    ·
      rw [hc14]
      refine cond_false_rule (b := false) (by kernel_rfl) rfl ?_
      refine wp_skip ?_
      refine wp_seq ?_
      refine region_rule ?_
      refine ops_rule (C := []) [] [] 1 [] 0 (fun φ15 => [(4, .int .i64 0)]) (fun φ15 => []) (fun φ15 => []) s trivial (fun φ15 => by kernel_rfl) ?_
      intro φ15 w15 s
      refine ops_done (by kernel_rfl) ?_
      refine wp_ret ?_
      refine ret_rule (C := []) [] [] (.int .i64 0) [] [] s trivial (by kernel_rfl) ?_
      exact ⟨_, _, _, rfl, s, (congrArg (Value.int .i64) (by unfold cmS; rw [if_neg (by rw [hc11]; decide)]; have h9 := hc14; rw [hc11] at h9; simp at h9; simp [h9]))⟩
    ·
      rw [hc14]
      refine cond_true_rule (b := true) (by kernel_rfl) rfl ?_
      refine wp_seq ?_
      refine region_rule ?_
      refine ops_rule (C := []) [] [] 1 [] 0 (fun φ16 => [(4, .int .i64 1)]) (fun φ16 => []) (fun φ16 => []) s trivial (fun φ16 => by kernel_rfl) ?_
      intro φ16 w16 s
      refine ops_done (by kernel_rfl) ?_
      refine wp_ret ?_
      refine ret_rule (C := []) [] [] (.int .i64 1) [] [] s trivial (by kernel_rfl) ?_
      exact ⟨_, _, _, rfl, s, (congrArg (Value.int .i64) (by unfold cmS; rw [if_neg (by rw [hc11]; decide)]; have h9 := hc14; rw [hc11] at h9; simp at h9; simp [h9]))⟩

set_option maxHeartbeats 1000000 in
theorem order_c {I : IM} {k k' : Int} {A B A' B' : List UInt8} : Fun Tryd.prog 72 #[.agg #[.int .i64 k, .string ⟨(A).toArray⟩, .string ⟨(B).toArray⟩], .agg #[.int .i64 k', .string ⟨(A').toArray⟩, .string ⟨(B').toArray⟩]] I (fun v J => v = .int .i64 (ordF k A B k' A' B')) := by
  refine enter_rule 28 [(0, .agg #[.int .i64 k, .string ⟨(A).toArray⟩, .string ⟨(B).toArray⟩]), (1, .agg #[.int .i64 k', .string ⟨(A').toArray⟩, .string ⟨(B').toArray⟩])] Tryd.func72 rfl (by kernel_rfl) ?_
  intro w s
  refine wp_seq ?_
  refine region_rule ?_
  refine ops_rule (C := []) [] [] 3 [] 2 (fun φ1 => [(4, .int .i64 0), (3, .pointer (some ⟨(φ1 1), 0, none⟩)), (2, .pointer (some ⟨(φ1 0), 0, none⟩))]) (fun φ1 => [((φ1 0), .cells #[.int .i64 k, .string ⟨(A).toArray⟩, .string ⟨(B).toArray⟩] 39), ((φ1 1), .cells #[.int .i64 k', .string ⟨(A').toArray⟩, .string ⟨(B').toArray⟩] 39)]) (fun φ1 => []) s trivial (fun φ1 => by kernel_rfl) ?_
  intro φ1 w1 s
  refine ops_done (by kernel_rfl) ?_
  refine wp_seq ?_
  refine wp_seq ?_
  refine region_rule ?_
  refine ops_rule (C := []) [((φ1 0), .cells #[.int .i64 k, .string ⟨(A).toArray⟩, .string ⟨(B).toArray⟩] 39), ((φ1 1), .cells #[.int .i64 k', .string ⟨(A').toArray⟩, .string ⟨(B').toArray⟩] 39)] [] 4 [.o 0, .o 1] 0 (fun φ2 => [(10, .int .i64 k'), (9, .pointer (some ⟨(φ1 1), 0, none⟩)), (8, .int .i64 k), (7, .pointer (some ⟨(φ1 0), 0, none⟩))]) (fun φ2 => [((φ1 0), .cells #[.int .i64 k, .string ⟨(A).toArray⟩, .string ⟨(B).toArray⟩] 39), ((φ1 1), .cells #[.int .i64 k', .string ⟨(A').toArray⟩, .string ⟨(B').toArray⟩] 39)]) (fun φ2 => [(φ1 0), (φ1 1)]) s trivial (fun φ2 => by kernel_rfl) ?_
  intro φ2 w2 s
  refine call_rule (some 11) s (cmpI_c (z := k) (u := k')) (by kernel_rfl) ?_
  intro v3 I3 w3 le3 h3 s
  obtain rfl := h3
  refine ops_rule (C := []) [((φ1 0), .cells #[.int .i64 k, .string ⟨(A).toArray⟩, .string ⟨(B).toArray⟩] 39), ((φ1 1), .cells #[.int .i64 k', .string ⟨(A').toArray⟩, .string ⟨(B').toArray⟩] 39)] [] 1 [] 0 (fun φ4 => [(5, .int .i64 (cmI k k'))]) (fun φ4 => [((φ1 0), .cells #[.int .i64 k, .string ⟨(A).toArray⟩, .string ⟨(B).toArray⟩] 39), ((φ1 1), .cells #[.int .i64 k', .string ⟨(A').toArray⟩, .string ⟨(B').toArray⟩] 39)]) (fun φ4 => []) s trivial (fun φ4 => by kernel_rfl) ?_
  intro φ4 w4 s
  refine ops_done (by kernel_rfl) ?_
  refine wp_seq ?_
  refine region_rule ?_
  refine ops_rule (C := []) [((φ1 0), .cells #[.int .i64 k, .string ⟨(A).toArray⟩, .string ⟨(B).toArray⟩] 39), ((φ1 1), .cells #[.int .i64 k', .string ⟨(A').toArray⟩, .string ⟨(B').toArray⟩] 39)] [] 2 [] 0 (fun φ5 => [(13, .bool ((cmI k k') != ((0 : Nat) : Int))), (12, .int .i64 (cmI k k'))]) (fun φ5 => [((φ1 0), .cells #[.int .i64 k, .string ⟨(A).toArray⟩, .string ⟨(B).toArray⟩] 39), ((φ1 1), .cells #[.int .i64 k', .string ⟨(A').toArray⟩, .string ⟨(B').toArray⟩] 39)]) (fun φ5 => []) s trivial (fun φ5 => by kernel_rfl) ?_
  intro φ5 w5 s
  refine ops_done (by kernel_rfl) ?_
  rcases Bool.eq_false_or_eq_true ((cmI k k') != ((0 : Nat) : Int)) with hc6 | hc6
  ·
    rw [hc6]
    refine cond_true_rule (b := true) (by kernel_rfl) rfl ?_
    refine wp_seq ?_
    refine region_rule ?_
    refine ops_rule (C := []) [((φ1 0), .cells #[.int .i64 k, .string ⟨(A).toArray⟩, .string ⟨(B).toArray⟩] 39), ((φ1 1), .cells #[.int .i64 k', .string ⟨(A').toArray⟩, .string ⟨(B').toArray⟩] 39)] [] 2 [] 0 (fun φ7 => [(4, .int .i64 (cmI k k')), (14, .int .i64 (cmI k k'))]) (fun φ7 => [((φ1 0), .cells #[.int .i64 k, .string ⟨(A).toArray⟩, .string ⟨(B).toArray⟩] 39), ((φ1 1), .cells #[.int .i64 k', .string ⟨(A').toArray⟩, .string ⟨(B').toArray⟩] 39)]) (fun φ7 => []) s trivial (fun φ7 => by kernel_rfl) ?_
    intro φ7 w7 s
    refine ops_done (by kernel_rfl) ?_
    refine wp_ret ?_
    refine ret_rule (C := []) [((φ1 0), .cells #[.int .i64 k, .string ⟨(A).toArray⟩, .string ⟨(B).toArray⟩] 39), ((φ1 1), .cells #[.int .i64 k', .string ⟨(A').toArray⟩, .string ⟨(B').toArray⟩] 39)] [] (.int .i64 (cmI k k')) [] [] s trivial (by kernel_rfl) ?_
    exact ⟨_, _, _, rfl, s, (congrArg (Value.int .i64) (by unfold ordF; rw [if_pos (by have h9 := hc6; simpa using h9)]))⟩
  ·
    rw [hc6]
    refine cond_false_rule (b := false) (by kernel_rfl) rfl ?_
    refine wp_skip ?_
    refine wp_seq ?_
    refine wp_seq ?_
    refine region_rule ?_
    refine ops_rule (C := []) [((φ1 0), .cells #[.int .i64 k, .string ⟨(A).toArray⟩, .string ⟨(B).toArray⟩] 39), ((φ1 1), .cells #[.int .i64 k', .string ⟨(A').toArray⟩, .string ⟨(B').toArray⟩] 39)] [] 4 [.o 0, .o 1] 0 (fun φ8 => [(18, .string ⟨(A').toArray⟩), (17, .pointer (some ⟨(φ1 1), 1, none⟩)), (16, .string ⟨(A).toArray⟩), (15, .pointer (some ⟨(φ1 0), 1, none⟩))]) (fun φ8 => [((φ1 0), .cells #[.int .i64 k, .string ⟨(A).toArray⟩, .string ⟨(B).toArray⟩] 39), ((φ1 1), .cells #[.int .i64 k', .string ⟨(A').toArray⟩, .string ⟨(B').toArray⟩] 39)]) (fun φ8 => [(φ1 0), (φ1 1)]) s trivial (fun φ8 => by kernel_rfl) ?_
    intro φ8 w8 s
    refine call_rule (some 19) s (cmpS_c (x := A) (y := A')) (by kernel_rfl) ?_
    intro v9 I9 w9 le9 h9 s
    obtain rfl := h9
    refine ops_rule (C := []) [((φ1 0), .cells #[.int .i64 k, .string ⟨(A).toArray⟩, .string ⟨(B).toArray⟩] 39), ((φ1 1), .cells #[.int .i64 k', .string ⟨(A').toArray⟩, .string ⟨(B').toArray⟩] 39)] [] 1 [] 0 (fun φ10 => [(6, .int .i64 (cmS A A'))]) (fun φ10 => [((φ1 0), .cells #[.int .i64 k, .string ⟨(A).toArray⟩, .string ⟨(B).toArray⟩] 39), ((φ1 1), .cells #[.int .i64 k', .string ⟨(A').toArray⟩, .string ⟨(B').toArray⟩] 39)]) (fun φ10 => []) s trivial (fun φ10 => by kernel_rfl) ?_
    intro φ10 w10 s
    refine ops_done (by kernel_rfl) ?_
    refine wp_seq ?_
    refine region_rule ?_
    refine ops_rule (C := []) [((φ1 0), .cells #[.int .i64 k, .string ⟨(A).toArray⟩, .string ⟨(B).toArray⟩] 39), ((φ1 1), .cells #[.int .i64 k', .string ⟨(A').toArray⟩, .string ⟨(B').toArray⟩] 39)] [] 2 [] 0 (fun φ11 => [(21, .bool ((cmS A A') != ((0 : Nat) : Int))), (20, .int .i64 (cmS A A'))]) (fun φ11 => [((φ1 0), .cells #[.int .i64 k, .string ⟨(A).toArray⟩, .string ⟨(B).toArray⟩] 39), ((φ1 1), .cells #[.int .i64 k', .string ⟨(A').toArray⟩, .string ⟨(B').toArray⟩] 39)]) (fun φ11 => []) s trivial (fun φ11 => by kernel_rfl) ?_
    intro φ11 w11 s
    refine ops_done (by kernel_rfl) ?_
    rcases Bool.eq_false_or_eq_true ((cmS A A') != ((0 : Nat) : Int)) with hc12 | hc12
    ·
      rw [hc12]
      refine cond_true_rule (b := true) (by kernel_rfl) rfl ?_
      refine wp_seq ?_
      refine region_rule ?_
      refine ops_rule (C := []) [((φ1 0), .cells #[.int .i64 k, .string ⟨(A).toArray⟩, .string ⟨(B).toArray⟩] 39), ((φ1 1), .cells #[.int .i64 k', .string ⟨(A').toArray⟩, .string ⟨(B').toArray⟩] 39)] [] 2 [] 0 (fun φ13 => [(4, .int .i64 (cmS A A')), (22, .int .i64 (cmS A A'))]) (fun φ13 => [((φ1 0), .cells #[.int .i64 k, .string ⟨(A).toArray⟩, .string ⟨(B).toArray⟩] 39), ((φ1 1), .cells #[.int .i64 k', .string ⟨(A').toArray⟩, .string ⟨(B').toArray⟩] 39)]) (fun φ13 => []) s trivial (fun φ13 => by kernel_rfl) ?_
      intro φ13 w13 s
      refine ops_done (by kernel_rfl) ?_
      refine wp_ret ?_
      refine ret_rule (C := []) [((φ1 0), .cells #[.int .i64 k, .string ⟨(A).toArray⟩, .string ⟨(B).toArray⟩] 39), ((φ1 1), .cells #[.int .i64 k', .string ⟨(A').toArray⟩, .string ⟨(B').toArray⟩] 39)] [] (.int .i64 (cmS A A')) [] [] s trivial (by kernel_rfl) ?_
      exact ⟨_, _, _, rfl, s, (congrArg (Value.int .i64) (by unfold ordF; rw [if_neg (by have h9 := hc6; simpa using h9), if_pos (by have h9 := hc12; simpa using h9)]))⟩
    ·
      rw [hc12]
      refine cond_false_rule (b := false) (by kernel_rfl) rfl ?_
      refine wp_skip ?_
      refine wp_seq ?_
      refine region_rule ?_
      refine ops_rule (C := []) [((φ1 0), .cells #[.int .i64 k, .string ⟨(A).toArray⟩, .string ⟨(B).toArray⟩] 39), ((φ1 1), .cells #[.int .i64 k', .string ⟨(A').toArray⟩, .string ⟨(B').toArray⟩] 39)] [] 4 [.o 0, .o 1] 0 (fun φ14 => [(26, .string ⟨(B').toArray⟩), (25, .pointer (some ⟨(φ1 1), 2, none⟩)), (24, .string ⟨(B).toArray⟩), (23, .pointer (some ⟨(φ1 0), 2, none⟩))]) (fun φ14 => [((φ1 0), .cells #[.int .i64 k, .string ⟨(A).toArray⟩, .string ⟨(B).toArray⟩] 39), ((φ1 1), .cells #[.int .i64 k', .string ⟨(A').toArray⟩, .string ⟨(B').toArray⟩] 39)]) (fun φ14 => [(φ1 0), (φ1 1)]) s trivial (fun φ14 => by kernel_rfl) ?_
      intro φ14 w14 s
      refine call_rule (some 27) s (cmpS_c (x := B) (y := B')) (by kernel_rfl) ?_
      intro v15 I15 w15 le15 h15 s
      obtain rfl := h15
      refine ops_rule (C := []) [((φ1 0), .cells #[.int .i64 k, .string ⟨(A).toArray⟩, .string ⟨(B).toArray⟩] 39), ((φ1 1), .cells #[.int .i64 k', .string ⟨(A').toArray⟩, .string ⟨(B').toArray⟩] 39)] [] 1 [] 0 (fun φ16 => [(4, .int .i64 (cmS B B'))]) (fun φ16 => [((φ1 0), .cells #[.int .i64 k, .string ⟨(A).toArray⟩, .string ⟨(B).toArray⟩] 39), ((φ1 1), .cells #[.int .i64 k', .string ⟨(A').toArray⟩, .string ⟨(B').toArray⟩] 39)]) (fun φ16 => []) s trivial (fun φ16 => by kernel_rfl) ?_
      intro φ16 w16 s
      refine ops_done (by kernel_rfl) ?_
      refine wp_ret ?_
      refine ret_rule (C := []) [((φ1 0), .cells #[.int .i64 k, .string ⟨(A).toArray⟩, .string ⟨(B).toArray⟩] 39), ((φ1 1), .cells #[.int .i64 k', .string ⟨(A').toArray⟩, .string ⟨(B').toArray⟩] 39)] [] (.int .i64 (cmS B B')) [] [] s trivial (by kernel_rfl) ?_
      exact ⟨_, _, _, rfl, s, (congrArg (Value.int .i64) (by unfold ordF; rw [if_neg (by have h9 := hc6; simpa using h9), if_neg (by have h9 := hc12; simpa using h9)]))⟩

set_option maxHeartbeats 1000000 in
theorem less_c {I : IM} {k k' : Int} {A B A' B' : List UInt8} : Fun Tryd.prog 34 #[.agg #[.int .i64 k, .string ⟨(A).toArray⟩, .string ⟨(B).toArray⟩], .agg #[.int .i64 k', .string ⟨(A').toArray⟩, .string ⟨(B').toArray⟩]] I (fun v J => v = .bool (lesF k A B k' A' B')) := by
  refine enter_rule 9 [(0, .agg #[.int .i64 k, .string ⟨(A).toArray⟩, .string ⟨(B).toArray⟩]), (1, .agg #[.int .i64 k', .string ⟨(A').toArray⟩, .string ⟨(B').toArray⟩])] Tryd.func34 rfl (by kernel_rfl) ?_
  intro w s
  refine wp_seq ?_
  refine region_rule ?_
  refine ops_rule (C := []) [] [] 3 [] 2 (fun φ1 => [(4, .bool false), (3, .pointer (some ⟨(φ1 1), 0, none⟩)), (2, .pointer (some ⟨(φ1 0), 0, none⟩))]) (fun φ1 => [((φ1 0), .cells #[.int .i64 k, .string ⟨(A).toArray⟩, .string ⟨(B).toArray⟩] 39), ((φ1 1), .cells #[.int .i64 k', .string ⟨(A').toArray⟩, .string ⟨(B').toArray⟩] 39)]) (fun φ1 => []) s trivial (fun φ1 => by kernel_rfl) ?_
  intro φ1 w1 s
  refine ops_done (by kernel_rfl) ?_
  refine wp_seq ?_
  refine region_rule ?_
  refine ops_rule (C := []) [((φ1 0), .cells #[.int .i64 k, .string ⟨(A).toArray⟩, .string ⟨(B).toArray⟩] 39), ((φ1 1), .cells #[.int .i64 k', .string ⟨(A').toArray⟩, .string ⟨(B').toArray⟩] 39)] [] 2 [.o 0, .o 0, .o 0, .o 1, .o 1, .o 1] 0 (fun φ2 => [(6, .agg #[.int .i64 k', .string ⟨(A').toArray⟩, .string ⟨(B').toArray⟩]), (5, .agg #[.int .i64 k, .string ⟨(A).toArray⟩, .string ⟨(B).toArray⟩])]) (fun φ2 => [((φ1 0), .cells #[.int .i64 k, .string ⟨(A).toArray⟩, .string ⟨(B).toArray⟩] 39), ((φ1 1), .cells #[.int .i64 k', .string ⟨(A').toArray⟩, .string ⟨(B').toArray⟩] 39)]) (fun φ2 => [(φ1 0), (φ1 0), (φ1 0), (φ1 1), (φ1 1), (φ1 1)]) s trivial (fun φ2 => by kernel_rfl) ?_
  intro φ2 w2 s
  refine call_rule (some 7) s (order_c (k := k) (A := A) (B := B) (k' := k') (A' := A') (B' := B')) (by kernel_rfl) ?_
  intro v3 I3 w3 le3 h3 s
  obtain rfl := h3
  refine ops_rule (C := []) [((φ1 0), .cells #[.int .i64 k, .string ⟨(A).toArray⟩, .string ⟨(B).toArray⟩] 39), ((φ1 1), .cells #[.int .i64 k', .string ⟨(A').toArray⟩, .string ⟨(B').toArray⟩] 39)] [] 2 [] 0 (fun φ4 => [(4, .bool (decide ((ordF k A B k' A' B') < ((0 : Nat) : Int)))), (8, .bool (decide ((ordF k A B k' A' B') < ((0 : Nat) : Int))))]) (fun φ4 => [((φ1 0), .cells #[.int .i64 k, .string ⟨(A).toArray⟩, .string ⟨(B).toArray⟩] 39), ((φ1 1), .cells #[.int .i64 k', .string ⟨(A').toArray⟩, .string ⟨(B').toArray⟩] 39)]) (fun φ4 => []) s trivial (fun φ4 => by kernel_rfl) ?_
  intro φ4 w4 s
  refine ops_done (by kernel_rfl) ?_
  refine wp_ret ?_
  refine ret_rule (C := []) [((φ1 0), .cells #[.int .i64 k, .string ⟨(A).toArray⟩, .string ⟨(B).toArray⟩] 39), ((φ1 1), .cells #[.int .i64 k', .string ⟨(A').toArray⟩, .string ⟨(B').toArray⟩] 39)] [] (.bool (decide ((ordF k A B k' A' B') < ((0 : Nat) : Int)))) [] [] s trivial (by kernel_rfl) ?_
  exact ⟨_, _, _, rfl, s, (congrArg Value.bool (by rw [← ord_les]; simp))⟩

end Go.Proofs.YtcpmjogeafhpnaaDoor.Tx
/- Fields are put in order: the document's. -/
set_option linter.all false
set_option maxRecDepth 100000
namespace Go.Proofs.YtcpmjogeafhpnaaDoor.Tx
open Go.RowKit Go.Sep
attribute [local irreducible] Go.wpList Go.Code.wp

theorem bL_go {x y : List UInt8} {i : Nat} (hx : i < x.length) (hy : i < y.length) (e : (x.getD i 0).toNat = (y.getD i 0).toNat) (h : Go.Op.bytesLess x y = Go.Op.bytesLess (x.drop i) (y.drop i)) : Go.Op.bytesLess x y = Go.Op.bytesLess (x.drop (i + 1)) (y.drop (i + 1)) := by
  rw [h, drop_at hx, drop_at hy, UInt8.toNat_inj.1 e]
  have : ∀ b : UInt8, ¬ b < b := fun b q => by rw [UInt8.lt_iff_toNat_lt] at q; omega
  simp [Go.Op.bytesLess, this]
theorem bL_ne {x y : List UInt8} {i : Nat} (hx : i < x.length) (hy : i < y.length) (e : (x.getD i 0).toNat ≠ (y.getD i 0).toNat) (h : Go.Op.bytesLess x y = Go.Op.bytesLess (x.drop i) (y.drop i)) : Go.Op.bytesLess x y = decide ((x.getD i 0).toNat < (y.getD i 0).toNat) := by
  rw [h, drop_at hx, drop_at hy]
  have q : (x.getD i 0 == y.getD i 0) = false := by
    rw [beq_eq_false_iff_ne]; exact fun q => e (by rw [q])
  simp only [Go.Op.bytesLess, q, Bool.false_and, Bool.or_false]
  exact decide_eq_decide.2 UInt8.lt_iff_toNat_lt
theorem bL_end {x y : List UInt8} {i : Nat} (hx : i ≤ x.length) (hy : i ≤ y.length) (he : ¬ (i < x.length ∧ i < y.length)) (h : Go.Op.bytesLess x y = Go.Op.bytesLess (x.drop i) (y.drop i)) : Go.Op.bytesLess x y = decide (x.length < y.length) := by
  by_cases q : i < y.length
  · have ex : i = x.length := by omega
    rw [h, ex, List.drop_length]
    rw [drop_at (l := y) (i := x.length) (by omega), decide_eq_true (by omega)]; rfl
  · have ey : i = y.length := by omega
    rw [h, ey, List.drop_length, decide_eq_false (by omega)]
    cases x.drop y.length <;> rfl

set_option maxHeartbeats 2000000 in
theorem before_c {I : IM} {xx y : List UInt8} (hx : xx.length ≤ 1000000) (hy : y.length ≤ 1000000) : Fun Tryd.prog 73 #[.string ⟨(xx).toArray⟩, .string ⟨(y).toArray⟩] I (fun v J => v = .bool (Go.Op.bytesLess xx y)) := by
  refine enter_rule 37 [(0, .string ⟨(xx).toArray⟩), (1, .string ⟨(y).toArray⟩)] Tryd.func73 rfl (by kernel_rfl) ?_
  intro w s
  refine wp_seq ?_
  refine region_rule ?_
  refine ops_rule (C := []) [] [] 1 [] 0 (fun φ1 => [(4, .bool false)]) (fun φ1 => []) (fun φ1 => []) s trivial (fun φ1 => by kernel_rfl) ?_
  intro φ1 w1 s
  refine ops_done (by kernel_rfl) ?_
  refine wp_seq ?_
  refine wp_seq ?_
  refine region_rule ?_
  refine ops_rule (C := []) [] [] 1 [] 0 (fun φ2 => [(5, .int .i64 0)]) (fun φ2 => []) (fun φ2 => []) s trivial (fun φ2 => by kernel_rfl) ?_
  intro φ2 w2 s
  refine ops_done (by kernel_rfl) ?_
  refine wp_block ?_
  have hle3 := IM.Le.refl I
  refine loop_rule (fun (x : Nat) => [(0, .string ⟨(xx).toArray⟩), (1, .string ⟨(y).toArray⟩), (4, .bool false), (5, .int .i64 ((x : Nat) : Int))]) (fun (x : Nat) => []) (fun m (x : Nat) J => IM.Le I J ∧ List.length xx ≤ x + m ∧ Go.Op.bytesLess xx y = Go.Op.bytesLess (xx.drop x) (y.drop x) ∧ x ≤ xx.length ∧ x ≤ y.length) (xx.length) 0 s (by kernel_rfl) List.Sublist.slnil ⟨IM.Le.refl _, by omega, rfl, Nat.zero_le _, Nat.zero_le _⟩ ?_
  rintro m4 i4 I4 w4 ev4 s ⟨le4, hi4_0, hi4_1, hi4_2, hi4_3⟩
  try dsimp only at s hi4_0 hi4_1 hi4_2 hi4_3 ⊢
  replace hle3 := leMono le4 hle3
  refine wp_seq ?_
  refine wp_seq ?_
  refine region_rule ?_
  refine ops_rule (C := []) [] [] 5 [] 0 (fun φ5 => [(10, .bool (decide (((i4 : Nat) : Int) < ((xx.length : Nat) : Int)))), (9, .bool (decide (((i4 : Nat) : Int) < ((xx.length : Nat) : Int)))), (8, .int .i64 ((xx.length : Nat) : Int)), (7, .string ⟨(xx).toArray⟩), (6, .int .i64 ((i4 : Nat) : Int))]) (fun φ5 => []) (fun φ5 => []) s trivial (fun φ5 => by kernel_rfl) ?_
  intro φ5 w5 s
  rw [nat_lss (a := i4) (b := xx.length)]
  rcases Bool.eq_false_or_eq_true (decide (i4 < xx.length)) with hc6 | hc6
  ·
    rw [hc6]
    refine ops_rule (C := []) [] [] 5 [] 0 (fun φ7 => [(15, .bool (decide (((i4 : Nat) : Int) < ((y.length : Nat) : Int)))), (14, .bool (decide (((i4 : Nat) : Int) < ((y.length : Nat) : Int)))), (13, .int .i64 ((y.length : Nat) : Int)), (12, .string ⟨(y).toArray⟩), (11, .int .i64 ((i4 : Nat) : Int))]) (fun φ7 => []) (fun φ7 => []) s trivial (fun φ7 => by kernel_rfl) ?_
    intro φ7 w7 s
    rw [nat_lss (a := i4) (b := y.length)]
    refine ops_done (by kernel_rfl) ?_
    rcases Bool.eq_false_or_eq_true (decide (i4 < y.length)) with hc8 | hc8
    ·
      rw [hc8]
      refine cond_true_rule (b := true) (by kernel_rfl) rfl ?_
      refine wp_skip ?_
      refine wp_seq ?_
      refine wp_block ?_
      refine wp_seq ?_
      refine draw_rule (C := []) ⟨(fun φ9 xs9 => [.look 0 [] [], .look 0 [] [], .ran (Instr.index 9 (.string ⟨(xx).toArray⟩) (.int .i64 ((i4 : Nat) : Int))), .look 0 [] [], .look 0 [] [], .ran (Instr.index 9 (.string ⟨(y).toArray⟩) (.int .i64 ((i4 : Nat) : Int))), .sub 0 [] [] (.bool ((((xx.getD i4 0).toNat : Nat) : Int) != (((y.getD i4 0).toNat : Nat) : Int)))]), (fun φ9 xs9 => [.string ⟨(xx).toArray⟩, .int .i64 ((i4 : Nat) : Int), .int .u8 (((xx.getD i4 0).toNat : Nat) : Int), .string ⟨(y).toArray⟩, .int .i64 ((i4 : Nat) : Int), .int .u8 (((y.getD i4 0).toNat : Nat) : Int), .bool (decide (((xx.getD i4 0).toNat) ≠ ((y.getD i4 0).toNat)))]), (fun φ9 xs9 => [[]]), (fun φ9 xs9 => [[default, default, default, default, default, default, default]]), [], [1, 1, 6, 1, 1, 6, 5]⟩ (fun j => ([MP.any, MP.any, MP.any, MP.any, MP.any, MP.any, MP.any] : List MP).getD j MP.any) [] [6] [2, 5] (fun φ9 xs9 => []) (fun φ9 xs9 => [(18, .string ⟨(xx).toArray⟩), (19, .int .i64 ((i4 : Nat) : Int)), (20, .int .u8 (((xx.getD i4 0).toNat : Nat) : Int)), (21, .string ⟨(y).toArray⟩), (22, .int .i64 ((i4 : Nat) : Int)), (23, .int .u8 (((y.getD i4 0).toNat : Nat) : Int)), (24, .bool (decide (((xx.getD i4 0).toNat) ≠ ((y.getD i4 0).toNat))))]) (fun φ9 xs9 => []) s trivial (by kernel_rfl) (by kernel_rfl) (fun _ _ => by kernel_rfl) (fun _ _ => by kernel_rfl) ⟨fun _ _ => by kernel_rfl, fun _ _ => by kernel_rfl, fun _ _ => by kernel_rfl, fun _ _ => by kernel_rfl⟩ (fun _ _ _ => by kernel_rfl) (fun _ _ => by kernel_rfl) (fun _ _ => by kernel_rfl) (fun _ _ => by kernel_rfl) (fun _ _ => by kernel_rfl) (fun _ _ => by kernel_rfl) ⟨kcast (A := ∀ (φ9 : Nat → Nat) (xs9 : Xs), (.bool ((((xx.getD i4 0).toNat : Nat) : Int) != (((y.getD i4 0).toNat : Nat) : Int)) : Value) = .bool (decide (((xx.getD i4 0).toNat) ≠ ((y.getD i4 0).toNat)))) (by kernel_rfl) (fun φ9 xs9 => congrArg Value.bool ((nat_neq (a := ((xx.getD i4 0).toNat)) (b := ((y.getD i4 0).toNat))))), trivial⟩ ⟨kcast (A := ∀ (φ9 : Nat → Nat) (xs9 : Xs) (J : IM) (w : World), I4.Le J → J.Sub w → ((Instr.index 9 (.string ⟨(xx).toArray⟩) (.int .i64 ((i4 : Nat) : Int))) : Sem Value).run Tryd.prog w = .ok (.int .u8 (((xx.getD i4 0).toNat : Nat) : Int)) w) (by kernel_rfl) (fun φ9 xs9 J w hJ hS => run_idxK (s := xx) (i := i4) (by have hz0 := hi4_2; have hz1 := hi4_3;  have hq0 := of_decide_eq_true hc6; have hq1 := of_decide_eq_true hc8; (try simp only [List.length_drop, List.length_take, List.length_append, List.length_cons, List.length_nil]); omega)), ⟨kcast (A := ∀ (φ9 : Nat → Nat) (xs9 : Xs) (J : IM) (w : World), I4.Le J → J.Sub w → ((Instr.index 9 (.string ⟨(y).toArray⟩) (.int .i64 ((i4 : Nat) : Int))) : Sem Value).run Tryd.prog w = .ok (.int .u8 (((y.getD i4 0).toNat : Nat) : Int)) w) (by kernel_rfl) (fun φ9 xs9 J w hJ hS => run_idxK (s := y) (i := i4) (by have hz0 := hi4_2; have hz1 := hi4_3;  have hq0 := of_decide_eq_true hc6; have hq1 := of_decide_eq_true hc8; (try simp only [List.length_drop, List.length_take, List.length_append, List.length_cons, List.length_nil]); omega)), trivial⟩⟩ (by kernel_rfl) trivial ?k9
      case k9 =>
        rintro φ9 xs9 I9 w9 le9 s 
        replace hle3 := leMono le9 hle3
        rcases Bool.eq_false_or_eq_true (decide (((xx.getD i4 0).toNat) ≠ ((y.getD i4 0).toNat))) with hc10 | hc10
        ·
          rw [hc10]
          refine cond_true_rule (b := true) (by kernel_rfl) rfl ?_
          refine wp_seq ?_
          refine draw_rule (C := []) ⟨(fun φ11 xs11 => [.look 0 [] [], .look 0 [] [], .ran (Instr.index 9 (.string ⟨(xx).toArray⟩) (.int .i64 ((i4 : Nat) : Int))), .look 0 [] [], .look 0 [] [], .ran (Instr.index 9 (.string ⟨(y).toArray⟩) (.int .i64 ((i4 : Nat) : Int))), .sub 0 [] [] (.bool (decide ((((xx.getD i4 0).toNat : Nat) : Int) < (((y.getD i4 0).toNat : Nat) : Int)))), .look 0 [] []]), (fun φ11 xs11 => [.string ⟨(xx).toArray⟩, .int .i64 ((i4 : Nat) : Int), .int .u8 (((xx.getD i4 0).toNat : Nat) : Int), .string ⟨(y).toArray⟩, .int .i64 ((i4 : Nat) : Int), .int .u8 (((y.getD i4 0).toNat : Nat) : Int), .bool (decide (((xx.getD i4 0).toNat) < ((y.getD i4 0).toNat))), .bool (decide (((xx.getD i4 0).toNat) < ((y.getD i4 0).toNat)))]), (fun φ11 xs11 => [[]]), (fun φ11 xs11 => [[default, default, default, default, default, default, default, default]]), [], [1, 1, 6, 1, 1, 6, 5, 1]⟩ (fun j => ([MP.any, MP.any, MP.any, MP.any, MP.any, MP.any, MP.any, MP.any] : List MP).getD j MP.any) [] [6] [2, 5] (fun φ11 xs11 => []) (fun φ11 xs11 => [(25, .string ⟨(xx).toArray⟩), (26, .int .i64 ((i4 : Nat) : Int)), (27, .int .u8 (((xx.getD i4 0).toNat : Nat) : Int)), (28, .string ⟨(y).toArray⟩), (29, .int .i64 ((i4 : Nat) : Int)), (30, .int .u8 (((y.getD i4 0).toNat : Nat) : Int)), (31, .bool (decide (((xx.getD i4 0).toNat) < ((y.getD i4 0).toNat)))), (4, .bool (decide (((xx.getD i4 0).toNat) < ((y.getD i4 0).toNat))))]) (fun φ11 xs11 => []) s trivial (by kernel_rfl) (by kernel_rfl) (fun _ _ => by kernel_rfl) (fun _ _ => by kernel_rfl) ⟨fun _ _ => by kernel_rfl, fun _ _ => by kernel_rfl, fun _ _ => by kernel_rfl, fun _ _ => by kernel_rfl⟩ (fun _ _ _ => by kernel_rfl) (fun _ _ => by kernel_rfl) (fun _ _ => by kernel_rfl) (fun _ _ => by kernel_rfl) (fun _ _ => by kernel_rfl) (fun _ _ => by kernel_rfl) ⟨kcast (A := ∀ (φ11 : Nat → Nat) (xs11 : Xs), (.bool (decide ((((xx.getD i4 0).toNat : Nat) : Int) < (((y.getD i4 0).toNat : Nat) : Int))) : Value) = .bool (decide (((xx.getD i4 0).toNat) < ((y.getD i4 0).toNat)))) (by kernel_rfl) (fun φ11 xs11 => congrArg Value.bool ((nat_lss (a := ((xx.getD i4 0).toNat)) (b := ((y.getD i4 0).toNat))))), trivial⟩ ⟨kcast (A := ∀ (φ11 : Nat → Nat) (xs11 : Xs) (J : IM) (w : World), I9.Le J → J.Sub w → ((Instr.index 9 (.string ⟨(xx).toArray⟩) (.int .i64 ((i4 : Nat) : Int))) : Sem Value).run Tryd.prog w = .ok (.int .u8 (((xx.getD i4 0).toNat : Nat) : Int)) w) (by kernel_rfl) (fun φ11 xs11 J w hJ hS => run_idxK (s := xx) (i := i4) (by have hz0 := hi4_2; have hz1 := hi4_3;  have hq0 := of_decide_eq_true hc6; have hq1 := of_decide_eq_true hc8; have hq2 := of_decide_eq_true hc10; (try simp only [List.length_drop, List.length_take, List.length_append, List.length_cons, List.length_nil]); omega)), ⟨kcast (A := ∀ (φ11 : Nat → Nat) (xs11 : Xs) (J : IM) (w : World), I9.Le J → J.Sub w → ((Instr.index 9 (.string ⟨(y).toArray⟩) (.int .i64 ((i4 : Nat) : Int))) : Sem Value).run Tryd.prog w = .ok (.int .u8 (((y.getD i4 0).toNat : Nat) : Int)) w) (by kernel_rfl) (fun φ11 xs11 J w hJ hS => run_idxK (s := y) (i := i4) (by have hz0 := hi4_2; have hz1 := hi4_3;  have hq0 := of_decide_eq_true hc6; have hq1 := of_decide_eq_true hc8; have hq2 := of_decide_eq_true hc10; (try simp only [List.length_drop, List.length_take, List.length_append, List.length_cons, List.length_nil]); omega)), trivial⟩⟩ (by kernel_rfl) trivial ?k11
          case k11 =>
            rintro φ11 xs11 I11 w11 le11 s 
            replace hle3 := leMono le11 hle3
            refine wp_ret ?_
            refine ret_rule (C := []) [] [] (.bool (decide (((xx.getD i4 0).toNat) < ((y.getD i4 0).toNat)))) [] [] s trivial (by kernel_rfl) ?_
            exact ⟨_, _, _, rfl, s, (congrArg Value.bool (bL_ne (by have hq0 := of_decide_eq_true hc6; have hq1 := of_decide_eq_true hc8; have hq2 := of_decide_eq_true hc10; omega) (by have hq0 := of_decide_eq_true hc6; have hq1 := of_decide_eq_true hc8; have hq2 := of_decide_eq_true hc10; omega) (by have hq0 := of_decide_eq_true hc6; have hq1 := of_decide_eq_true hc8; have hq2 := of_decide_eq_true hc10; omega) hi4_1).symm)⟩
        ·
          rw [hc10]
          refine cond_false_rule (b := false) (by kernel_rfl) rfl ?_
          refine wp_skip ?_
          refine region_rule ?_
          refine ops_rule (C := []) [] [] 3 [] 0 (fun φ12 => [(5, .int .i64 (IntKind.wrap .i64 (((i4 : Nat) : Int) + ((1 : Nat) : Int)))), (17, .int .i64 (IntKind.wrap .i64 (((i4 : Nat) : Int) + ((1 : Nat) : Int)))), (16, .int .i64 ((i4 : Nat) : Int))]) (fun φ12 => []) (fun φ12 => []) s trivial (fun φ12 => by kernel_rfl) ?_
          intro φ12 w12 s
          rw [nat_addI (a := i4) (b := 1) (by have hz0 := hi4_2; have hz1 := hi4_3;  have hq0 := of_decide_eq_true hc6; have hq1 := of_decide_eq_true hc8; have hq2 := of_decide_eq_false hc10; omega)]
          refine ops_done (by kernel_rfl) ?_
          exact ⟨⟨m4 - 1, i4 + 1, _, _, _, by have hq0 := of_decide_eq_true hc6; have hq1 := of_decide_eq_true hc8; have hq2 := of_decide_eq_false hc10; omega, rfl, s, List.Sublist.slnil, by kernel_rfl, hle3, by have hq0 := of_decide_eq_true hc6; have hq1 := of_decide_eq_true hc8; have hq2 := of_decide_eq_false hc10; show xx.length ≤ i4 + 1 + (m4 - 1); omega, bL_go (by have hq0 := of_decide_eq_true hc6; have hq1 := of_decide_eq_true hc8; have hq2 := of_decide_eq_false hc10; omega) (by have hq0 := of_decide_eq_true hc6; have hq1 := of_decide_eq_true hc8; have hq2 := of_decide_eq_false hc10; omega) (by have hq0 := of_decide_eq_true hc6; have hq1 := of_decide_eq_true hc8; have hq2 := of_decide_eq_false hc10; omega) hi4_1, by have hq0 := of_decide_eq_true hc6; have hq1 := of_decide_eq_true hc8; have hq2 := of_decide_eq_false hc10; show i4 + 1 ≤ xx.length; omega, by have hq0 := of_decide_eq_true hc6; have hq1 := of_decide_eq_true hc8; have hq2 := of_decide_eq_false hc10; show i4 + 1 ≤ y.length; omega⟩⟩
    ·
      rw [hc8]
      refine cond_false_rule (b := false) (by kernel_rfl) rfl ?_
      refine wp_exit ?_
      refine wp_seq ?_
      refine region_rule ?_
      refine ops_rule (C := []) [] [] 6 [] 0 (fun φ13 => [(4, .bool (decide (((xx.length : Nat) : Int) < ((y.length : Nat) : Int)))), (36, .bool (decide (((xx.length : Nat) : Int) < ((y.length : Nat) : Int)))), (35, .int .i64 ((y.length : Nat) : Int)), (34, .string ⟨(y).toArray⟩), (33, .int .i64 ((xx.length : Nat) : Int)), (32, .string ⟨(xx).toArray⟩)]) (fun φ13 => []) (fun φ13 => []) s trivial (fun φ13 => by kernel_rfl) ?_
      intro φ13 w13 s
      rw [nat_lss (a := xx.length) (b := y.length)]
      refine ops_done (by kernel_rfl) ?_
      refine wp_ret ?_
      refine ret_rule (C := []) [] [] (.bool (decide (xx.length < y.length))) [] [] s trivial (by kernel_rfl) ?_
      exact ⟨_, _, _, rfl, s, (congrArg Value.bool (bL_end hi4_2 hi4_3 (by have hq0 := of_decide_eq_true hc6; have hq1 := of_decide_eq_false hc8; omega) hi4_1).symm)⟩
  ·
    rw [hc6]
    refine ops_rule (C := []) [] [] 5 [] 0 (fun φ14 => [(15, .bool false), (14, undef), (13, undef), (12, undef), (11, undef)]) (fun φ14 => []) (fun φ14 => []) s trivial (fun φ14 => by kernel_rfl) ?_
    intro φ14 w14 s
    refine ops_done (by kernel_rfl) ?_
    refine cond_false_rule (b := false) (by kernel_rfl) rfl ?_
    refine wp_exit ?_
    refine wp_seq ?_
    refine region_rule ?_
    refine ops_rule (C := []) [] [] 6 [] 0 (fun φ15 => [(4, .bool (decide (((xx.length : Nat) : Int) < ((y.length : Nat) : Int)))), (36, .bool (decide (((xx.length : Nat) : Int) < ((y.length : Nat) : Int)))), (35, .int .i64 ((y.length : Nat) : Int)), (34, .string ⟨(y).toArray⟩), (33, .int .i64 ((xx.length : Nat) : Int)), (32, .string ⟨(xx).toArray⟩)]) (fun φ15 => []) (fun φ15 => []) s trivial (fun φ15 => by kernel_rfl) ?_
    intro φ15 w15 s
    rw [nat_lss (a := xx.length) (b := y.length)]
    refine ops_done (by kernel_rfl) ?_
    refine wp_ret ?_
    refine ret_rule (C := []) [] [] (.bool (decide (xx.length < y.length))) [] [] s trivial (by kernel_rfl) ?_
    exact ⟨_, _, _, rfl, s, (congrArg Value.bool (bL_end hi4_2 hi4_3 (by have hq0 := of_decide_eq_false hc6; omega) hi4_1).symm)⟩

set_option maxHeartbeats 2000000 in
theorem refLess_c {I : IM} {k k' : Int} {A B A' B' : List UInt8} (hA : A.length ≤ 1000000) (hB : B.length ≤ 1000000) (hA' : A'.length ≤ 1000000) (hB' : B'.length ≤ 1000000) : Fun Tryd.prog 35 #[.agg #[.int .i64 k, .string ⟨(A).toArray⟩, .string ⟨(B).toArray⟩], .agg #[.int .i64 k', .string ⟨(A').toArray⟩, .string ⟨(B').toArray⟩]] I (fun v J => v = .bool (lesF k A B k' A' B')) := by
  refine enter_rule 30 [(0, .agg #[.int .i64 k, .string ⟨(A).toArray⟩, .string ⟨(B).toArray⟩]), (1, .agg #[.int .i64 k', .string ⟨(A').toArray⟩, .string ⟨(B').toArray⟩])] Tryd.func35 rfl (by kernel_rfl) ?_
  intro w s
  refine wp_seq ?_
  refine region_rule ?_
  refine ops_rule (C := []) [] [] 3 [] 2 (fun φ1 => [(4, .bool false), (3, .pointer (some ⟨(φ1 1), 0, none⟩)), (2, .pointer (some ⟨(φ1 0), 0, none⟩))]) (fun φ1 => [((φ1 0), .cells #[.int .i64 k, .string ⟨(A).toArray⟩, .string ⟨(B).toArray⟩] 42), ((φ1 1), .cells #[.int .i64 k', .string ⟨(A').toArray⟩, .string ⟨(B').toArray⟩] 42)]) (fun φ1 => []) s trivial (fun φ1 => by kernel_rfl) ?_
  intro φ1 w1 s
  refine ops_done (by kernel_rfl) ?_
  refine wp_seq ?_
  refine wp_seq ?_
  refine region_rule ?_
  refine ops_rule (C := []) [((φ1 0), .cells #[.int .i64 k, .string ⟨(A).toArray⟩, .string ⟨(B).toArray⟩] 42), ((φ1 1), .cells #[.int .i64 k', .string ⟨(A').toArray⟩, .string ⟨(B').toArray⟩] 42)] [] 5 [.o 0, .o 1] 0 (fun φ2 => [(9, .bool (k != k')), (8, .int .i64 k'), (7, .pointer (some ⟨(φ1 1), 0, none⟩)), (6, .int .i64 k), (5, .pointer (some ⟨(φ1 0), 0, none⟩))]) (fun φ2 => [((φ1 0), .cells #[.int .i64 k, .string ⟨(A).toArray⟩, .string ⟨(B).toArray⟩] 42), ((φ1 1), .cells #[.int .i64 k', .string ⟨(A').toArray⟩, .string ⟨(B').toArray⟩] 42)]) (fun φ2 => [(φ1 0), (φ1 1)]) s trivial (fun φ2 => by kernel_rfl) ?_
  intro φ2 w2 s
  refine ops_done (by kernel_rfl) ?_
  rcases Bool.eq_false_or_eq_true (k != k') with hc3 | hc3
  ·
    rw [hc3]
    refine cond_true_rule (b := true) (by kernel_rfl) rfl ?_
    refine wp_seq ?_
    refine region_rule ?_
    refine ops_rule (C := []) [((φ1 0), .cells #[.int .i64 k, .string ⟨(A).toArray⟩, .string ⟨(B).toArray⟩] 42), ((φ1 1), .cells #[.int .i64 k', .string ⟨(A').toArray⟩, .string ⟨(B').toArray⟩] 42)] [] 6 [.o 0, .o 1] 0 (fun φ4 => [(4, .bool (decide (k < k'))), (14, .bool (decide (k < k'))), (13, .int .i64 k'), (12, .pointer (some ⟨(φ1 1), 0, none⟩)), (11, .int .i64 k), (10, .pointer (some ⟨(φ1 0), 0, none⟩))]) (fun φ4 => [((φ1 0), .cells #[.int .i64 k, .string ⟨(A).toArray⟩, .string ⟨(B).toArray⟩] 42), ((φ1 1), .cells #[.int .i64 k', .string ⟨(A').toArray⟩, .string ⟨(B').toArray⟩] 42)]) (fun φ4 => [(φ1 0), (φ1 1)]) s trivial (fun φ4 => by kernel_rfl) ?_
    intro φ4 w4 s
    refine ops_done (by kernel_rfl) ?_
    refine wp_ret ?_
    refine ret_rule (C := []) [((φ1 0), .cells #[.int .i64 k, .string ⟨(A).toArray⟩, .string ⟨(B).toArray⟩] 42), ((φ1 1), .cells #[.int .i64 k', .string ⟨(A').toArray⟩, .string ⟨(B').toArray⟩] 42)] [] (.bool (decide (k < k'))) [] [] s trivial (by kernel_rfl) ?_
    exact ⟨_, _, _, rfl, s, (congrArg Value.bool (by unfold lesF; rw [if_pos (by have h9 := hc3; simpa using h9)]))⟩
  ·
    rw [hc3]
    refine cond_false_rule (b := false) (by kernel_rfl) rfl ?_
    refine wp_skip ?_
    refine wp_seq ?_
    refine wp_seq ?_
    refine region_rule ?_
    refine ops_rule (C := []) [((φ1 0), .cells #[.int .i64 k, .string ⟨(A).toArray⟩, .string ⟨(B).toArray⟩] 42), ((φ1 1), .cells #[.int .i64 k', .string ⟨(A').toArray⟩, .string ⟨(B').toArray⟩] 42)] [] 4 [.o 0, .o 1] 0 (fun φ5 => [(18, .string ⟨(A').toArray⟩), (17, .pointer (some ⟨(φ1 1), 1, none⟩)), (16, .string ⟨(A).toArray⟩), (15, .pointer (some ⟨(φ1 0), 1, none⟩))]) (fun φ5 => [((φ1 0), .cells #[.int .i64 k, .string ⟨(A).toArray⟩, .string ⟨(B).toArray⟩] 42), ((φ1 1), .cells #[.int .i64 k', .string ⟨(A').toArray⟩, .string ⟨(B').toArray⟩] 42)]) (fun φ5 => [(φ1 0), (φ1 1)]) s trivial (fun φ5 => by kernel_rfl) ?_
    intro φ5 w5 s
    refine sem_rule (binOp .neq 9 (.string ⟨(A).toArray⟩) (.string ⟨(A').toArray⟩)) (some 19) (.bool (!(decide (A = A')))) (by kernel_rfl) (run_neS (x := A) (y := A')) ?_
    refine ops_done (by kernel_rfl) ?_
    rcases Bool.eq_false_or_eq_true (decide (A = A')) with hc6 | hc6
    ·
      rw [hc6]
      refine cond_false_rule (b := false) (by kernel_rfl) rfl ?_
      refine wp_skip ?_
      refine wp_seq ?_
      refine region_rule ?_
      refine ops_rule (C := []) [((φ1 0), .cells #[.int .i64 k, .string ⟨(A).toArray⟩, .string ⟨(B).toArray⟩] 42), ((φ1 1), .cells #[.int .i64 k', .string ⟨(A').toArray⟩, .string ⟨(B').toArray⟩] 42)] [] 4 [.o 0, .o 1] 0 (fun φ7 => [(28, .string ⟨(B').toArray⟩), (27, .pointer (some ⟨(φ1 1), 2, none⟩)), (26, .string ⟨(B).toArray⟩), (25, .pointer (some ⟨(φ1 0), 2, none⟩))]) (fun φ7 => [((φ1 0), .cells #[.int .i64 k, .string ⟨(A).toArray⟩, .string ⟨(B).toArray⟩] 42), ((φ1 1), .cells #[.int .i64 k', .string ⟨(A').toArray⟩, .string ⟨(B').toArray⟩] 42)]) (fun φ7 => [(φ1 0), (φ1 1)]) s trivial (fun φ7 => by kernel_rfl) ?_
      intro φ7 w7 s
      refine call_rule (some 29) s (before_c (xx := B) (y := B') hB hB') (by kernel_rfl) ?_
      intro v8 I8 w8 le8 h8 s
      obtain rfl := h8
      refine ops_rule (C := []) [((φ1 0), .cells #[.int .i64 k, .string ⟨(A).toArray⟩, .string ⟨(B).toArray⟩] 42), ((φ1 1), .cells #[.int .i64 k', .string ⟨(A').toArray⟩, .string ⟨(B').toArray⟩] 42)] [] 1 [] 0 (fun φ9 => [(4, .bool (Go.Op.bytesLess B B'))]) (fun φ9 => [((φ1 0), .cells #[.int .i64 k, .string ⟨(A).toArray⟩, .string ⟨(B).toArray⟩] 42), ((φ1 1), .cells #[.int .i64 k', .string ⟨(A').toArray⟩, .string ⟨(B').toArray⟩] 42)]) (fun φ9 => []) s trivial (fun φ9 => by kernel_rfl) ?_
      intro φ9 w9 s
      refine ops_done (by kernel_rfl) ?_
      refine wp_ret ?_
      refine ret_rule (C := []) [((φ1 0), .cells #[.int .i64 k, .string ⟨(A).toArray⟩, .string ⟨(B).toArray⟩] 42), ((φ1 1), .cells #[.int .i64 k', .string ⟨(A').toArray⟩, .string ⟨(B').toArray⟩] 42)] [] (.bool (Go.Op.bytesLess B B')) [] [] s trivial (by kernel_rfl) ?_
      exact ⟨_, _, _, rfl, s, (congrArg Value.bool (by unfold lesF; rw [if_neg (by have h9 := hc3; simpa using h9), if_neg (by have h9 := hc6; simpa using h9)]))⟩
    ·
      rw [hc6]
      refine cond_true_rule (b := true) (by kernel_rfl) rfl ?_
      refine wp_seq ?_
      refine region_rule ?_
      refine ops_rule (C := []) [((φ1 0), .cells #[.int .i64 k, .string ⟨(A).toArray⟩, .string ⟨(B).toArray⟩] 42), ((φ1 1), .cells #[.int .i64 k', .string ⟨(A').toArray⟩, .string ⟨(B').toArray⟩] 42)] [] 4 [.o 0, .o 1] 0 (fun φ10 => [(23, .string ⟨(A').toArray⟩), (22, .pointer (some ⟨(φ1 1), 1, none⟩)), (21, .string ⟨(A).toArray⟩), (20, .pointer (some ⟨(φ1 0), 1, none⟩))]) (fun φ10 => [((φ1 0), .cells #[.int .i64 k, .string ⟨(A).toArray⟩, .string ⟨(B).toArray⟩] 42), ((φ1 1), .cells #[.int .i64 k', .string ⟨(A').toArray⟩, .string ⟨(B').toArray⟩] 42)]) (fun φ10 => [(φ1 0), (φ1 1)]) s trivial (fun φ10 => by kernel_rfl) ?_
      intro φ10 w10 s
      refine call_rule (some 24) s (before_c (xx := A) (y := A') hA hA') (by kernel_rfl) ?_
      intro v11 I11 w11 le11 h11 s
      obtain rfl := h11
      refine ops_rule (C := []) [((φ1 0), .cells #[.int .i64 k, .string ⟨(A).toArray⟩, .string ⟨(B).toArray⟩] 42), ((φ1 1), .cells #[.int .i64 k', .string ⟨(A').toArray⟩, .string ⟨(B').toArray⟩] 42)] [] 1 [] 0 (fun φ12 => [(4, .bool (Go.Op.bytesLess A A'))]) (fun φ12 => [((φ1 0), .cells #[.int .i64 k, .string ⟨(A).toArray⟩, .string ⟨(B).toArray⟩] 42), ((φ1 1), .cells #[.int .i64 k', .string ⟨(A').toArray⟩, .string ⟨(B').toArray⟩] 42)]) (fun φ12 => []) s trivial (fun φ12 => by kernel_rfl) ?_
      intro φ12 w12 s
      refine ops_done (by kernel_rfl) ?_
      refine wp_ret ?_
      refine ret_rule (C := []) [((φ1 0), .cells #[.int .i64 k, .string ⟨(A).toArray⟩, .string ⟨(B).toArray⟩] 42), ((φ1 1), .cells #[.int .i64 k', .string ⟨(A').toArray⟩, .string ⟨(B').toArray⟩] 42)] [] (.bool (Go.Op.bytesLess A A')) [] [] s trivial (by kernel_rfl) ?_
      exact ⟨_, _, _, rfl, s, (congrArg Value.bool (by unfold lesF; rw [if_neg (by have h9 := hc3; simpa using h9), if_pos (by have h9 := hc6; simpa using h9)]))⟩

end Go.Proofs.YtcpmjogeafhpnaaDoor.Tx

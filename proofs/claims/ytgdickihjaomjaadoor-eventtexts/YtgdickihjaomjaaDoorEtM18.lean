/- The document's example of layer 2. -/
import Derived.Test.YtgdickihjaomjaaDoorEtP28
import Derived.Test.YtgdickihjaomjaaDoorEtS10
set_option linter.all false
set_option maxRecDepth 100000
namespace Go.Proofs.YtgdickihjaomjaaDoor
open Go.RowKit Go.Sep
attribute [local irreducible] Go.wpList Go.Code.wp

set_option maxHeartbeats 1000000 in
theorem buildL0_c {I : IM} : Fun Tryd.prog 77 #[.string ⟨#[50, 44, 48, 41]⟩] I (fun v J => v = .tuple #[.agg #[.int .u64 2, .pointer none], .string ⟨#[44, 48, 41]⟩, .int .i64 0]) := by
  refine enter_rule 79 [(0, .string ⟨#[50, 44, 48, 41]⟩)] Tryd.func77 rfl (by kernel_rfl) ?_
  intro w s
  refine wp_seq ?_
  refine region_rule ?_
  refine ops_rule (C := []) [] [] 3 [] 1 (fun φ1 => [(4, .int .i64 0), (3, .string ⟨#[]⟩), (2, .pointer (some ⟨(φ1 0), 0, none⟩))]) (fun φ1 => [((φ1 0), .cells #[.int .u64 0, .pointer none] 27)]) (fun φ1 => []) s trivial (fun φ1 => by kernel_rfl) ?_
  intro φ1 w1 s
  refine ops_done (by kernel_rfl) ?_
  refine wp_seq ?_
  refine wp_seq ?_
  refine region_rule ?_
  refine ops_rule (C := []) [((φ1 0), .cells #[.int .u64 0, .pointer none] 27)] [] 1 [] 0 (fun φ2 => [(18, .string ⟨#[50, 44, 48, 41]⟩)]) (fun φ2 => [((φ1 0), .cells #[.int .u64 0, .pointer none] 27)]) (fun φ2 => []) s trivial (fun φ2 => by kernel_rfl) ?_
  intro φ2 w2 s
  refine sem_rule (Instr.index 9 (.string ⟨#[50, 44, 48, 41]⟩) (.int .i64 ((0 : Nat) : Int))) (some 19) (.int .u8 50) (by kernel_rfl) (run_idxK (s := [50, 44, 48, 41]) (i := 0) (c := 50) under9 (by decide) (by kernel_rfl)) ?_
  refine ops_rule (C := []) [((φ1 0), .cells #[.int .u64 0, .pointer none] 27)] [] 1 [] 0 (fun φ3 => [(20, .bool true)]) (fun φ3 => [((φ1 0), .cells #[.int .u64 0, .pointer none] 27)]) (fun φ3 => []) s trivial (fun φ3 => by kernel_rfl) ?_
  intro φ3 w3 s
  refine ops_done (by kernel_rfl) ?_
  refine cond_true_rule (b := true) (by kernel_rfl) rfl ?_
  refine wp_seq ?_
  refine region_rule ?_
  refine ops_rule (C := []) [((φ1 0), .cells #[.int .u64 0, .pointer none] 27)] [] 1 [] 0 (fun φ4 => [(22, .string ⟨#[50, 44, 48, 41]⟩)]) (fun φ4 => [((φ1 0), .cells #[.int .u64 0, .pointer none] 27)]) (fun φ4 => []) s trivial (fun φ4 => by kernel_rfl) ?_
  intro φ4 w4 s
  refine call_rule (some 23) s (number_k (ss := [50, 44, 48, 41]) (a := 2) (b := 1) (c := true) (by decide) (by kernel_rfl)) (by kernel_rfl) ?_
  intro v5 I5 w5 le5 h5 s
  obtain rfl := h5
  refine ops_rule (C := []) [((φ1 0), .cells #[.int .u64 0, .pointer none] 27)] [] 7 [] 0 (fun φ6 => [(7, .bool true), (6, .int .i64 1), (5, .int .u64 2), (26, .bool true), (25, .int .i64 1), (24, .int .u64 2), (21, .tuple #[.int .u64 2, .int .i64 1, .bool true])]) (fun φ6 => [((φ1 0), .cells #[.int .u64 0, .pointer none] 27)]) (fun φ6 => []) s trivial (fun φ6 => by kernel_rfl) ?_
  intro φ6 w6 s
  refine ops_done (by kernel_rfl) ?_
  refine wp_seq ?_
  refine region_rule ?_
  refine ops_rule (C := []) [((φ1 0), .cells #[.int .u64 0, .pointer none] 27)] [] 1 [] 0 (fun φ7 => [(28, .int .u64 2)]) (fun φ7 => [((φ1 0), .cells #[.int .u64 0, .pointer none] 27)]) (fun φ7 => []) s trivial (fun φ7 => by kernel_rfl) ?_
  intro φ7 w7 s
  refine call_rule (some 29) s (leafOk_c (n := 2) (by omega)) (by kernel_rfl) ?_
  intro v8 I8 w8 le8 h8 s
  obtain rfl := h8
  refine ops_rule (C := []) [((φ1 0), .cells #[.int .u64 0, .pointer none] 27)] [] 6 [.o 1, .o 1] 1 (fun φ9 => [(9, .int .i64 0), (8, .pointer (some ⟨(φ9 0), 0, none⟩)), (31, .int .i64 0), (30, .agg #[.int .u64 2, .pointer none]), (27, .tuple #[.agg #[.int .u64 2, .pointer none], .int .i64 0])]) (fun φ9 => [((φ1 0), .cells #[.int .u64 0, .pointer none] 27), ((φ9 0), .cells #[.int .u64 2, .pointer none] 27)]) (fun φ9 => [(φ9 0), (φ9 0)]) s trivial (fun φ9 => by kernel_rfl) ?_
  intro φ9 w9 s
  refine ops_done (by kernel_rfl) ?_
  refine wp_seq ?_
  refine draw_rule (C := []) ⟨(fun φ10 xs10 => [.look 0 [.o 1, .o 1] [(φ9 0), (φ9 0)], .look 0 [] [], .look 0 [] [], .ran (Instr.sliceAt 9 (.string ⟨#[50, 44, 48, 41]⟩) (some (.int .i64 ((1 : Nat) : Int))) none none), .look 0 [] [], .store 0 [.o 0, .o 0] [(φ1 0), (φ1 0)], .look 1 [] [], .look 1 [] []]), (fun φ10 xs10 => [.agg #[.int .u64 2, .pointer none], .string ⟨#[50, 44, 48, 41]⟩, .int .i64 1, .string ⟨#[44, 48, 41]⟩, .int .i64 0, undef, .string ⟨#[44, 48, 41]⟩, .int .i64 0]), (fun φ10 xs10 => [[((φ1 0), .cells #[.int .u64 0, .pointer none] 27), ((φ9 0), .cells #[.int .u64 2, .pointer none] 27)], [((φ1 0), .cells #[.int .u64 2, .pointer none] 27), ((φ9 0), .cells #[.int .u64 2, .pointer none] 27)]]), (fun φ10 xs10 => [[default, default, default, default, default, default, default, default], [default, default, default, default, default, default, default, default]]), [5], [1, 1, 1, 6, 1, 4, 1, 1]⟩ (fun j => ([MP.any, MP.any, MP.any, MP.any, MP.any, MP.any, MP.any, MP.any] : List MP).getD j MP.any) [] [] [3] (fun φ10 xs10 => [[none, none, none, none, none, none, none, none]]) (fun φ10 xs10 => [(32, .agg #[.int .u64 2, .pointer none]), (33, .string ⟨#[50, 44, 48, 41]⟩), (34, .int .i64 1), (35, .string ⟨#[44, 48, 41]⟩), (36, .int .i64 0), (3, .string ⟨#[44, 48, 41]⟩), (4, .int .i64 0)]) (fun φ10 xs10 => [((φ1 0), .cells #[.int .u64 2, .pointer none] 27), ((φ9 0), .cells #[.int .u64 2, .pointer none] 27)]) s trivial (by kernel_rfl) (by kernel_rfl) (fun _ _ => by kernel_rfl) (fun _ _ => by kernel_rfl) ⟨fun _ _ => by kernel_rfl, fun _ _ => by kernel_rfl, fun _ _ => by kernel_rfl, fun _ _ => by kernel_rfl⟩ (fun _ _ _ => by kernel_rfl) (fun _ _ => by kernel_rfl) (fun _ _ => by kernel_rfl) (fun _ _ => by kernel_rfl) (fun _ _ => by kernel_rfl) (fun _ _ => by kernel_rfl) trivial ⟨kcast (A := ∀ (φ10 : Nat → Nat) (xs10 : Xs) (J : IM) (w : World), I8.Le J → J.Sub w → ((Instr.sliceAt 9 (.string ⟨#[50, 44, 48, 41]⟩) (some (.int .i64 ((1 : Nat) : Int))) none none) : Sem Value).run Tryd.prog w = .ok (.string ⟨#[44, 48, 41]⟩) w) (by kernel_rfl) (fun φ10 xs10 J w hJ hS => run_dropK (s := [50, 44, 48, 41]) (s' := [44, 48, 41]) (lo := 1) under9 (by decide) (by kernel_rfl)), trivial⟩ (by kernel_rfl) trivial ?k10
  case k10 =>
    rintro φ10 xs10 I10 w10 le10 s 
    refine wp_ret ?_
    refine ret_rule (C := []) [((φ1 0), .cells #[.int .u64 2, .pointer none] 27), ((φ9 0), .cells #[.int .u64 2, .pointer none] 27)] [] (.tuple #[.agg #[.int .u64 2, .pointer none], .string ⟨#[44, 48, 41]⟩, .int .i64 0]) [.o 0, .o 0] [(φ1 0), (φ1 0)] s trivial (by kernel_rfl) ?_
    exact ⟨_, _, _, rfl, s, rfl⟩

set_option maxHeartbeats 1000000 in
theorem buildL1_c {I : IM} : Fun Tryd.prog 77 #[.string ⟨#[48, 41]⟩] I (fun v J => v = .tuple #[.agg #[.int .u64 0, .pointer none], .string ⟨#[41]⟩, .int .i64 0]) := by
  refine enter_rule 79 [(0, .string ⟨#[48, 41]⟩)] Tryd.func77 rfl (by kernel_rfl) ?_
  intro w s
  refine wp_seq ?_
  refine region_rule ?_
  refine ops_rule (C := []) [] [] 3 [] 1 (fun φ1 => [(4, .int .i64 0), (3, .string ⟨#[]⟩), (2, .pointer (some ⟨(φ1 0), 0, none⟩))]) (fun φ1 => [((φ1 0), .cells #[.int .u64 0, .pointer none] 27)]) (fun φ1 => []) s trivial (fun φ1 => by kernel_rfl) ?_
  intro φ1 w1 s
  refine ops_done (by kernel_rfl) ?_
  refine wp_seq ?_
  refine wp_seq ?_
  refine region_rule ?_
  refine ops_rule (C := []) [((φ1 0), .cells #[.int .u64 0, .pointer none] 27)] [] 1 [] 0 (fun φ2 => [(18, .string ⟨#[48, 41]⟩)]) (fun φ2 => [((φ1 0), .cells #[.int .u64 0, .pointer none] 27)]) (fun φ2 => []) s trivial (fun φ2 => by kernel_rfl) ?_
  intro φ2 w2 s
  refine sem_rule (Instr.index 9 (.string ⟨#[48, 41]⟩) (.int .i64 ((0 : Nat) : Int))) (some 19) (.int .u8 48) (by kernel_rfl) (run_idxK (s := [48, 41]) (i := 0) (c := 48) under9 (by decide) (by kernel_rfl)) ?_
  refine ops_rule (C := []) [((φ1 0), .cells #[.int .u64 0, .pointer none] 27)] [] 1 [] 0 (fun φ3 => [(20, .bool true)]) (fun φ3 => [((φ1 0), .cells #[.int .u64 0, .pointer none] 27)]) (fun φ3 => []) s trivial (fun φ3 => by kernel_rfl) ?_
  intro φ3 w3 s
  refine ops_done (by kernel_rfl) ?_
  refine cond_true_rule (b := true) (by kernel_rfl) rfl ?_
  refine wp_seq ?_
  refine region_rule ?_
  refine ops_rule (C := []) [((φ1 0), .cells #[.int .u64 0, .pointer none] 27)] [] 1 [] 0 (fun φ4 => [(22, .string ⟨#[48, 41]⟩)]) (fun φ4 => [((φ1 0), .cells #[.int .u64 0, .pointer none] 27)]) (fun φ4 => []) s trivial (fun φ4 => by kernel_rfl) ?_
  intro φ4 w4 s
  refine call_rule (some 23) s (number_k (ss := [48, 41]) (a := 0) (b := 1) (c := true) (by decide) (by kernel_rfl)) (by kernel_rfl) ?_
  intro v5 I5 w5 le5 h5 s
  obtain rfl := h5
  refine ops_rule (C := []) [((φ1 0), .cells #[.int .u64 0, .pointer none] 27)] [] 7 [] 0 (fun φ6 => [(7, .bool true), (6, .int .i64 1), (5, .int .u64 0), (26, .bool true), (25, .int .i64 1), (24, .int .u64 0), (21, .tuple #[.int .u64 0, .int .i64 1, .bool true])]) (fun φ6 => [((φ1 0), .cells #[.int .u64 0, .pointer none] 27)]) (fun φ6 => []) s trivial (fun φ6 => by kernel_rfl) ?_
  intro φ6 w6 s
  refine ops_done (by kernel_rfl) ?_
  refine wp_seq ?_
  refine region_rule ?_
  refine ops_rule (C := []) [((φ1 0), .cells #[.int .u64 0, .pointer none] 27)] [] 1 [] 0 (fun φ7 => [(28, .int .u64 0)]) (fun φ7 => [((φ1 0), .cells #[.int .u64 0, .pointer none] 27)]) (fun φ7 => []) s trivial (fun φ7 => by kernel_rfl) ?_
  intro φ7 w7 s
  refine call_rule (some 29) s (leafOk_c (n := 0) (by omega)) (by kernel_rfl) ?_
  intro v8 I8 w8 le8 h8 s
  obtain rfl := h8
  refine ops_rule (C := []) [((φ1 0), .cells #[.int .u64 0, .pointer none] 27)] [] 6 [.o 1, .o 1] 1 (fun φ9 => [(9, .int .i64 0), (8, .pointer (some ⟨(φ9 0), 0, none⟩)), (31, .int .i64 0), (30, .agg #[.int .u64 0, .pointer none]), (27, .tuple #[.agg #[.int .u64 0, .pointer none], .int .i64 0])]) (fun φ9 => [((φ1 0), .cells #[.int .u64 0, .pointer none] 27), ((φ9 0), .cells #[.int .u64 0, .pointer none] 27)]) (fun φ9 => [(φ9 0), (φ9 0)]) s trivial (fun φ9 => by kernel_rfl) ?_
  intro φ9 w9 s
  refine ops_done (by kernel_rfl) ?_
  refine wp_seq ?_
  refine draw_rule (C := []) ⟨(fun φ10 xs10 => [.look 0 [.o 1, .o 1] [(φ9 0), (φ9 0)], .look 0 [] [], .look 0 [] [], .ran (Instr.sliceAt 9 (.string ⟨#[48, 41]⟩) (some (.int .i64 ((1 : Nat) : Int))) none none), .look 0 [] [], .store 0 [.o 0, .o 0] [(φ1 0), (φ1 0)], .look 1 [] [], .look 1 [] []]), (fun φ10 xs10 => [.agg #[.int .u64 0, .pointer none], .string ⟨#[48, 41]⟩, .int .i64 1, .string ⟨#[41]⟩, .int .i64 0, undef, .string ⟨#[41]⟩, .int .i64 0]), (fun φ10 xs10 => [[((φ1 0), .cells #[.int .u64 0, .pointer none] 27), ((φ9 0), .cells #[.int .u64 0, .pointer none] 27)], [((φ1 0), .cells #[.int .u64 0, .pointer none] 27), ((φ9 0), .cells #[.int .u64 0, .pointer none] 27)]]), (fun φ10 xs10 => [[default, default, default, default, default, default, default, default], [default, default, default, default, default, default, default, default]]), [5], [1, 1, 1, 6, 1, 4, 1, 1]⟩ (fun j => ([MP.any, MP.any, MP.any, MP.any, MP.any, MP.any, MP.any, MP.any] : List MP).getD j MP.any) [] [] [3] (fun φ10 xs10 => [[none, none, none, none, none, none, none, none]]) (fun φ10 xs10 => [(32, .agg #[.int .u64 0, .pointer none]), (33, .string ⟨#[48, 41]⟩), (34, .int .i64 1), (35, .string ⟨#[41]⟩), (36, .int .i64 0), (3, .string ⟨#[41]⟩), (4, .int .i64 0)]) (fun φ10 xs10 => [((φ1 0), .cells #[.int .u64 0, .pointer none] 27), ((φ9 0), .cells #[.int .u64 0, .pointer none] 27)]) s trivial (by kernel_rfl) (by kernel_rfl) (fun _ _ => by kernel_rfl) (fun _ _ => by kernel_rfl) ⟨fun _ _ => by kernel_rfl, fun _ _ => by kernel_rfl, fun _ _ => by kernel_rfl, fun _ _ => by kernel_rfl⟩ (fun _ _ _ => by kernel_rfl) (fun _ _ => by kernel_rfl) (fun _ _ => by kernel_rfl) (fun _ _ => by kernel_rfl) (fun _ _ => by kernel_rfl) (fun _ _ => by kernel_rfl) trivial ⟨kcast (A := ∀ (φ10 : Nat → Nat) (xs10 : Xs) (J : IM) (w : World), I8.Le J → J.Sub w → ((Instr.sliceAt 9 (.string ⟨#[48, 41]⟩) (some (.int .i64 ((1 : Nat) : Int))) none none) : Sem Value).run Tryd.prog w = .ok (.string ⟨#[41]⟩) w) (by kernel_rfl) (fun φ10 xs10 J w hJ hS => run_dropK (s := [48, 41]) (s' := [41]) (lo := 1) under9 (by decide) (by kernel_rfl)), trivial⟩ (by kernel_rfl) trivial ?k10
  case k10 =>
    rintro φ10 xs10 I10 w10 le10 s 
    refine wp_ret ?_
    refine ret_rule (C := []) [((φ1 0), .cells #[.int .u64 0, .pointer none] 27), ((φ9 0), .cells #[.int .u64 0, .pointer none] 27)] [] (.tuple #[.agg #[.int .u64 0, .pointer none], .string ⟨#[41]⟩, .int .i64 0]) [.o 0, .o 0] [(φ1 0), (φ1 0)] s trivial (by kernel_rfl) ?_
    exact ⟨_, _, _, rfl, s, rfl⟩

set_option maxHeartbeats 1000000 in
theorem build0_c {I : IM} : Fun Tryd.prog 77 #[.string ⟨#[40, 49, 44, 50, 44, 48, 41]⟩] I (fun v J => ∃ b p, v = .tuple #[evv b p, .string ⟨#[]⟩, .int .i64 0] ∧ ERep J (E.node 1 (E.leaf 2) (E.leaf 0)) b p) := by
  refine enter_rule 79 [(0, .string ⟨#[40, 49, 44, 50, 44, 48, 41]⟩)] Tryd.func77 rfl (by kernel_rfl) ?_
  intro w s
  refine wp_seq ?_
  refine region_rule ?_
  refine ops_rule (C := []) [] [] 3 [] 1 (fun φ1 => [(4, .int .i64 0), (3, .string ⟨#[]⟩), (2, .pointer (some ⟨(φ1 0), 0, none⟩))]) (fun φ1 => [((φ1 0), .cells #[.int .u64 0, .pointer none] 27)]) (fun φ1 => []) s trivial (fun φ1 => by kernel_rfl) ?_
  intro φ1 w1 s
  refine ops_done (by kernel_rfl) ?_
  refine wp_seq ?_
  refine wp_seq ?_
  refine region_rule ?_
  refine ops_rule (C := []) [((φ1 0), .cells #[.int .u64 0, .pointer none] 27)] [] 1 [] 0 (fun φ2 => [(18, .string ⟨#[40, 49, 44, 50, 44, 48, 41]⟩)]) (fun φ2 => [((φ1 0), .cells #[.int .u64 0, .pointer none] 27)]) (fun φ2 => []) s trivial (fun φ2 => by kernel_rfl) ?_
  intro φ2 w2 s
  refine sem_rule (Instr.index 9 (.string ⟨#[40, 49, 44, 50, 44, 48, 41]⟩) (.int .i64 ((0 : Nat) : Int))) (some 19) (.int .u8 40) (by kernel_rfl) (run_idxK (s := [40, 49, 44, 50, 44, 48, 41]) (i := 0) (c := 40) under9 (by decide) (by kernel_rfl)) ?_
  refine ops_rule (C := []) [((φ1 0), .cells #[.int .u64 0, .pointer none] 27)] [] 1 [] 0 (fun φ3 => [(20, .bool false)]) (fun φ3 => [((φ1 0), .cells #[.int .u64 0, .pointer none] 27)]) (fun φ3 => []) s trivial (fun φ3 => by kernel_rfl) ?_
  intro φ3 w3 s
  refine ops_done (by kernel_rfl) ?_
  refine cond_false_rule (b := false) (by kernel_rfl) rfl ?_
  refine wp_skip ?_
  refine wp_seq ?_
  refine region_rule ?_
  refine ops_rule (C := []) [((φ1 0), .cells #[.int .u64 0, .pointer none] 27)] [] 1 [] 0 (fun φ4 => [(38, .string ⟨#[40, 49, 44, 50, 44, 48, 41]⟩)]) (fun φ4 => [((φ1 0), .cells #[.int .u64 0, .pointer none] 27)]) (fun φ4 => []) s trivial (fun φ4 => by kernel_rfl) ?_
  intro φ4 w4 s
  refine sem_rule (Instr.sliceAt 9 (.string ⟨#[40, 49, 44, 50, 44, 48, 41]⟩) (some (.int .i64 ((1 : Nat) : Int))) none none) (some 39) (.string ⟨#[49, 44, 50, 44, 48, 41]⟩) (by kernel_rfl) (run_dropK (s := [40, 49, 44, 50, 44, 48, 41]) (s' := [49, 44, 50, 44, 48, 41]) (lo := 1) under9 (by decide) (by kernel_rfl)) ?_
  refine call_rule (some 40) s (number_k (ss := [49, 44, 50, 44, 48, 41]) (a := 1) (b := 1) (c := true) (by decide) (by kernel_rfl)) (by kernel_rfl) ?_
  intro v5 I5 w5 le5 h5 s
  obtain rfl := h5
  refine ops_rule (C := []) [((φ1 0), .cells #[.int .u64 0, .pointer none] 27)] [] 7 [] 0 (fun φ6 => [(12, .bool true), (11, .int .i64 1), (10, .int .u64 1), (43, .bool true), (42, .int .i64 1), (41, .int .u64 1), (37, .tuple #[.int .u64 1, .int .i64 1, .bool true])]) (fun φ6 => [((φ1 0), .cells #[.int .u64 0, .pointer none] 27)]) (fun φ6 => []) s trivial (fun φ6 => by kernel_rfl) ?_
  intro φ6 w6 s
  refine ops_done (by kernel_rfl) ?_
  refine wp_seq ?_
  refine region_rule ?_
  refine ops_rule (C := []) [((φ1 0), .cells #[.int .u64 0, .pointer none] 27)] [] 3 [] 0 (fun φ7 => [(47, .int .i64 3), (46, .int .i64 1), (45, .string ⟨#[40, 49, 44, 50, 44, 48, 41]⟩)]) (fun φ7 => [((φ1 0), .cells #[.int .u64 0, .pointer none] 27)]) (fun φ7 => []) s trivial (fun φ7 => by kernel_rfl) ?_
  intro φ7 w7 s
  refine sem_rule (Instr.sliceAt 9 (.string ⟨#[40, 49, 44, 50, 44, 48, 41]⟩) (some (.int .i64 ((3 : Nat) : Int))) none none) (some 48) (.string ⟨#[50, 44, 48, 41]⟩) (by kernel_rfl) (run_dropK (s := [40, 49, 44, 50, 44, 48, 41]) (s' := [50, 44, 48, 41]) (lo := 3) under9 (by decide) (by kernel_rfl)) ?_
  refine call_rule (some 49) s (buildL0_c (I := I5)) (by kernel_rfl) ?_
  intro v8 I8 w8 le8 h8 s
  obtain rfl := h8
  refine ops_rule (C := []) [((φ1 0), .cells #[.int .u64 0, .pointer none] 27)] [] 8 [.o 1, .o 1] 1 (fun φ9 => [(15, .int .i64 0), (14, .string ⟨#[44, 48, 41]⟩), (13, .pointer (some ⟨(φ9 0), 0, none⟩)), (52, .int .i64 0), (51, .string ⟨#[44, 48, 41]⟩), (50, .agg #[.int .u64 2, .pointer none]), (44, .tuple #[.agg #[.int .u64 2, .pointer none], .string ⟨#[44, 48, 41]⟩, .int .i64 0])]) (fun φ9 => [((φ1 0), .cells #[.int .u64 0, .pointer none] 27), ((φ9 0), .cells #[.int .u64 2, .pointer none] 27)]) (fun φ9 => [(φ9 0), (φ9 0)]) s trivial (fun φ9 => by kernel_rfl) ?_
  intro φ9 w9 s
  refine ops_done (by kernel_rfl) ?_
  refine wp_seq ?_
  refine wp_seq ?_
  refine region_rule ?_
  refine ops_rule (C := []) [((φ1 0), .cells #[.int .u64 0, .pointer none] 27), ((φ9 0), .cells #[.int .u64 2, .pointer none] 27)] [] 2 [] 0 (fun φ10 => [(54, .bool false), (53, .int .i64 0)]) (fun φ10 => [((φ1 0), .cells #[.int .u64 0, .pointer none] 27), ((φ9 0), .cells #[.int .u64 2, .pointer none] 27)]) (fun φ10 => []) s trivial (fun φ10 => by kernel_rfl) ?_
  intro φ10 w10 s
  refine ops_done (by kernel_rfl) ?_
  refine cond_false_rule (b := false) (by kernel_rfl) rfl ?_
  refine wp_skip ?_
  refine wp_seq ?_
  refine region_rule ?_
  refine ops_rule (C := []) [((φ1 0), .cells #[.int .u64 0, .pointer none] 27), ((φ9 0), .cells #[.int .u64 2, .pointer none] 27)] [] 1 [] 0 (fun φ11 => [(58, .string ⟨#[44, 48, 41]⟩)]) (fun φ11 => [((φ1 0), .cells #[.int .u64 0, .pointer none] 27), ((φ9 0), .cells #[.int .u64 2, .pointer none] 27)]) (fun φ11 => []) s trivial (fun φ11 => by kernel_rfl) ?_
  intro φ11 w11 s
  refine sem_rule (Instr.sliceAt 9 (.string ⟨#[44, 48, 41]⟩) (some (.int .i64 ((1 : Nat) : Int))) none none) (some 59) (.string ⟨#[48, 41]⟩) (by kernel_rfl) (run_dropK (s := [44, 48, 41]) (s' := [48, 41]) (lo := 1) under9 (by decide) (by kernel_rfl)) ?_
  refine call_rule (some 60) s (buildL1_c (I := I8)) (by kernel_rfl) ?_
  intro v12 I12 w12 le12 h12 s
  obtain rfl := h12
  refine ops_rule (C := []) [((φ1 0), .cells #[.int .u64 0, .pointer none] 27), ((φ9 0), .cells #[.int .u64 2, .pointer none] 27)] [] 8 [.o 2, .o 2] 1 (fun φ13 => [(15, .int .i64 0), (14, .string ⟨#[41]⟩), (16, .pointer (some ⟨(φ13 0), 0, none⟩)), (63, .int .i64 0), (62, .string ⟨#[41]⟩), (61, .agg #[.int .u64 0, .pointer none]), (57, .tuple #[.agg #[.int .u64 0, .pointer none], .string ⟨#[41]⟩, .int .i64 0])]) (fun φ13 => [((φ1 0), .cells #[.int .u64 0, .pointer none] 27), ((φ9 0), .cells #[.int .u64 2, .pointer none] 27), ((φ13 0), .cells #[.int .u64 0, .pointer none] 27)]) (fun φ13 => [(φ13 0), (φ13 0)]) s trivial (fun φ13 => by kernel_rfl) ?_
  intro φ13 w13 s
  refine ops_done (by kernel_rfl) ?_
  refine wp_seq ?_
  refine wp_seq ?_
  refine region_rule ?_
  refine ops_rule (C := []) [((φ1 0), .cells #[.int .u64 0, .pointer none] 27), ((φ9 0), .cells #[.int .u64 2, .pointer none] 27), ((φ13 0), .cells #[.int .u64 0, .pointer none] 27)] [] 2 [] 0 (fun φ14 => [(65, .bool false), (64, .int .i64 0)]) (fun φ14 => [((φ1 0), .cells #[.int .u64 0, .pointer none] 27), ((φ9 0), .cells #[.int .u64 2, .pointer none] 27), ((φ13 0), .cells #[.int .u64 0, .pointer none] 27)]) (fun φ14 => []) s trivial (fun φ14 => by kernel_rfl) ?_
  intro φ14 w14 s
  refine ops_done (by kernel_rfl) ?_
  refine cond_false_rule (b := false) (by kernel_rfl) rfl ?_
  refine wp_skip ?_
  refine wp_seq ?_
  refine region_rule ?_
  refine ops_rule (C := []) [((φ1 0), .cells #[.int .u64 0, .pointer none] 27), ((φ9 0), .cells #[.int .u64 2, .pointer none] 27), ((φ13 0), .cells #[.int .u64 0, .pointer none] 27)] [] 3 [.o 1, .o 1, .o 2, .o 2] 0 (fun φ15 => [(71, .agg #[.int .u64 0, .pointer none]), (70, .agg #[.int .u64 2, .pointer none]), (69, .int .u64 1)]) (fun φ15 => [((φ1 0), .cells #[.int .u64 0, .pointer none] 27), ((φ9 0), .cells #[.int .u64 2, .pointer none] 27), ((φ13 0), .cells #[.int .u64 0, .pointer none] 27)]) (fun φ15 => [(φ9 0), (φ9 0), (φ13 0), (φ13 0)]) s trivial (fun φ15 => by kernel_rfl) ?_
  intro φ15 w15 s
  refine call_rule (some 72) s (nodeOk9_c (n := 1) (l := (E.leaf 2)) (r := (E.leaf 0)) (by kernel_rfl) (by decide) (by decide) (ERep.lf _ 2) (ERep.lf _ 0)) (by kernel_rfl) ?_
  intro v16 I16 w16 le16 h16 s
  obtain ⟨b16, p16, rfl, h16_0⟩ := h16
  refine ops_rule (C := []) [((φ1 0), .cells #[.int .u64 0, .pointer none] 27), ((φ9 0), .cells #[.int .u64 2, .pointer none] 27), ((φ13 0), .cells #[.int .u64 0, .pointer none] 27)] [] 6 [.o 3, .o 3] 1 (fun φ17 => [(15, .int .i64 0), (17, .pointer (some ⟨(φ17 0), 0, none⟩)), (74, .int .i64 0), (73, .agg #[.int .u64 ((b16 : Nat) : Int), .pointer p16]), (68, .tuple #[.agg #[.int .u64 ((b16 : Nat) : Int), .pointer p16], .int .i64 0])]) (fun φ17 => [((φ1 0), .cells #[.int .u64 0, .pointer none] 27), ((φ9 0), .cells #[.int .u64 2, .pointer none] 27), ((φ13 0), .cells #[.int .u64 0, .pointer none] 27), ((φ17 0), .cells #[.int .u64 ((b16 : Nat) : Int), .pointer p16] 27)]) (fun φ17 => [(φ17 0), (φ17 0)]) s trivial (fun φ17 => by kernel_rfl) ?_
  intro φ17 w17 s
  refine ops_done (by kernel_rfl) ?_
  refine wp_seq ?_
  refine draw_rule (C := []) ⟨(fun φ18 xs18 => [.look 0 [.o 3, .o 3] [(φ17 0), (φ17 0)], .look 0 [] [], .ran (Instr.sliceAt 9 (.string ⟨#[41]⟩) (some (.int .i64 ((1 : Nat) : Int))) none none), .look 0 [] [], .store 0 [.o 0, .o 0] [(φ1 0), (φ1 0)], .look 1 [] [], .look 1 [] []]), (fun φ18 xs18 => [.agg #[.int .u64 ((b16 : Nat) : Int), .pointer p16], .string ⟨#[41]⟩, .string ⟨#[]⟩, .int .i64 0, undef, .string ⟨#[]⟩, .int .i64 0]), (fun φ18 xs18 => [[((φ1 0), .cells #[.int .u64 0, .pointer none] 27), ((φ9 0), .cells #[.int .u64 2, .pointer none] 27), ((φ13 0), .cells #[.int .u64 0, .pointer none] 27), ((φ17 0), .cells #[.int .u64 ((b16 : Nat) : Int), .pointer p16] 27)], [((φ1 0), .cells #[.int .u64 ((b16 : Nat) : Int), .pointer p16] 27), ((φ9 0), .cells #[.int .u64 2, .pointer none] 27), ((φ13 0), .cells #[.int .u64 0, .pointer none] 27), ((φ17 0), .cells #[.int .u64 ((b16 : Nat) : Int), .pointer p16] 27)]]), (fun φ18 xs18 => [[default, default, default, default, default, default, default], [default, default, default, default, default, default, default]]), [4], [1, 1, 6, 1, 4, 1, 1]⟩ (fun j => ([MP.any, MP.any, MP.any, MP.any, MP.any, MP.any, MP.any] : List MP).getD j MP.any) [] [] [2] (fun φ18 xs18 => [[none, none, none, none, none, none, none]]) (fun φ18 xs18 => [(75, .agg #[.int .u64 ((b16 : Nat) : Int), .pointer p16]), (76, .string ⟨#[41]⟩), (77, .string ⟨#[]⟩), (78, .int .i64 0), (3, .string ⟨#[]⟩), (4, .int .i64 0)]) (fun φ18 xs18 => [((φ1 0), .cells #[.int .u64 ((b16 : Nat) : Int), .pointer p16] 27), ((φ9 0), .cells #[.int .u64 2, .pointer none] 27), ((φ13 0), .cells #[.int .u64 0, .pointer none] 27), ((φ17 0), .cells #[.int .u64 ((b16 : Nat) : Int), .pointer p16] 27)]) s trivial (by kernel_rfl) (by kernel_rfl) (fun _ _ => by kernel_rfl) (fun _ _ => by kernel_rfl) ⟨fun _ _ => by kernel_rfl, fun _ _ => by kernel_rfl, fun _ _ => by kernel_rfl, fun _ _ => by kernel_rfl⟩ (fun _ _ _ => by kernel_rfl) (fun _ _ => by kernel_rfl) (fun _ _ => by kernel_rfl) (fun _ _ => by kernel_rfl) (fun _ _ => by kernel_rfl) (fun _ _ => by kernel_rfl) trivial ⟨kcast (A := ∀ (φ18 : Nat → Nat) (xs18 : Xs) (J : IM) (w : World), I16.Le J → J.Sub w → ((Instr.sliceAt 9 (.string ⟨#[41]⟩) (some (.int .i64 ((1 : Nat) : Int))) none none) : Sem Value).run Tryd.prog w = .ok (.string ⟨#[]⟩) w) (by kernel_rfl) (fun φ18 xs18 J w hJ hS => run_dropK (s := [41]) (s' := []) (lo := 1) under9 (by decide) (by kernel_rfl)), trivial⟩ (by kernel_rfl) trivial ?k18
  case k18 =>
    rintro φ18 xs18 I18 w18 le18 s 
    replace h16_0 := ERep.mono le18 h16_0
    refine wp_ret ?_
    refine ret_rule (C := []) [((φ1 0), .cells #[.int .u64 ((b16 : Nat) : Int), .pointer p16] 27), ((φ9 0), .cells #[.int .u64 2, .pointer none] 27), ((φ13 0), .cells #[.int .u64 0, .pointer none] 27), ((φ17 0), .cells #[.int .u64 ((b16 : Nat) : Int), .pointer p16] 27)] [] (.tuple #[.agg #[.int .u64 ((b16 : Nat) : Int), .pointer p16], .string ⟨#[]⟩, .int .i64 0]) [.o 0, .o 0] [(φ1 0), (φ1 0)] s trivial (by kernel_rfl) ?_
    exact ⟨_, _, _, rfl, s, ⟨_, _, rfl, h16_0⟩⟩

set_option maxHeartbeats 1000000 in
theorem buildL2_c {I : IM} : Fun Tryd.prog 77 #[.string ⟨#[48, 44, 52, 41]⟩] I (fun v J => v = .tuple #[.agg #[.int .u64 0, .pointer none], .string ⟨#[44, 52, 41]⟩, .int .i64 0]) := by
  refine enter_rule 79 [(0, .string ⟨#[48, 44, 52, 41]⟩)] Tryd.func77 rfl (by kernel_rfl) ?_
  intro w s
  refine wp_seq ?_
  refine region_rule ?_
  refine ops_rule (C := []) [] [] 3 [] 1 (fun φ1 => [(4, .int .i64 0), (3, .string ⟨#[]⟩), (2, .pointer (some ⟨(φ1 0), 0, none⟩))]) (fun φ1 => [((φ1 0), .cells #[.int .u64 0, .pointer none] 27)]) (fun φ1 => []) s trivial (fun φ1 => by kernel_rfl) ?_
  intro φ1 w1 s
  refine ops_done (by kernel_rfl) ?_
  refine wp_seq ?_
  refine wp_seq ?_
  refine region_rule ?_
  refine ops_rule (C := []) [((φ1 0), .cells #[.int .u64 0, .pointer none] 27)] [] 1 [] 0 (fun φ2 => [(18, .string ⟨#[48, 44, 52, 41]⟩)]) (fun φ2 => [((φ1 0), .cells #[.int .u64 0, .pointer none] 27)]) (fun φ2 => []) s trivial (fun φ2 => by kernel_rfl) ?_
  intro φ2 w2 s
  refine sem_rule (Instr.index 9 (.string ⟨#[48, 44, 52, 41]⟩) (.int .i64 ((0 : Nat) : Int))) (some 19) (.int .u8 48) (by kernel_rfl) (run_idxK (s := [48, 44, 52, 41]) (i := 0) (c := 48) under9 (by decide) (by kernel_rfl)) ?_
  refine ops_rule (C := []) [((φ1 0), .cells #[.int .u64 0, .pointer none] 27)] [] 1 [] 0 (fun φ3 => [(20, .bool true)]) (fun φ3 => [((φ1 0), .cells #[.int .u64 0, .pointer none] 27)]) (fun φ3 => []) s trivial (fun φ3 => by kernel_rfl) ?_
  intro φ3 w3 s
  refine ops_done (by kernel_rfl) ?_
  refine cond_true_rule (b := true) (by kernel_rfl) rfl ?_
  refine wp_seq ?_
  refine region_rule ?_
  refine ops_rule (C := []) [((φ1 0), .cells #[.int .u64 0, .pointer none] 27)] [] 1 [] 0 (fun φ4 => [(22, .string ⟨#[48, 44, 52, 41]⟩)]) (fun φ4 => [((φ1 0), .cells #[.int .u64 0, .pointer none] 27)]) (fun φ4 => []) s trivial (fun φ4 => by kernel_rfl) ?_
  intro φ4 w4 s
  refine call_rule (some 23) s (number_k (ss := [48, 44, 52, 41]) (a := 0) (b := 1) (c := true) (by decide) (by kernel_rfl)) (by kernel_rfl) ?_
  intro v5 I5 w5 le5 h5 s
  obtain rfl := h5
  refine ops_rule (C := []) [((φ1 0), .cells #[.int .u64 0, .pointer none] 27)] [] 7 [] 0 (fun φ6 => [(7, .bool true), (6, .int .i64 1), (5, .int .u64 0), (26, .bool true), (25, .int .i64 1), (24, .int .u64 0), (21, .tuple #[.int .u64 0, .int .i64 1, .bool true])]) (fun φ6 => [((φ1 0), .cells #[.int .u64 0, .pointer none] 27)]) (fun φ6 => []) s trivial (fun φ6 => by kernel_rfl) ?_
  intro φ6 w6 s
  refine ops_done (by kernel_rfl) ?_
  refine wp_seq ?_
  refine region_rule ?_
  refine ops_rule (C := []) [((φ1 0), .cells #[.int .u64 0, .pointer none] 27)] [] 1 [] 0 (fun φ7 => [(28, .int .u64 0)]) (fun φ7 => [((φ1 0), .cells #[.int .u64 0, .pointer none] 27)]) (fun φ7 => []) s trivial (fun φ7 => by kernel_rfl) ?_
  intro φ7 w7 s
  refine call_rule (some 29) s (leafOk_c (n := 0) (by omega)) (by kernel_rfl) ?_
  intro v8 I8 w8 le8 h8 s
  obtain rfl := h8
  refine ops_rule (C := []) [((φ1 0), .cells #[.int .u64 0, .pointer none] 27)] [] 6 [.o 1, .o 1] 1 (fun φ9 => [(9, .int .i64 0), (8, .pointer (some ⟨(φ9 0), 0, none⟩)), (31, .int .i64 0), (30, .agg #[.int .u64 0, .pointer none]), (27, .tuple #[.agg #[.int .u64 0, .pointer none], .int .i64 0])]) (fun φ9 => [((φ1 0), .cells #[.int .u64 0, .pointer none] 27), ((φ9 0), .cells #[.int .u64 0, .pointer none] 27)]) (fun φ9 => [(φ9 0), (φ9 0)]) s trivial (fun φ9 => by kernel_rfl) ?_
  intro φ9 w9 s
  refine ops_done (by kernel_rfl) ?_
  refine wp_seq ?_
  refine draw_rule (C := []) ⟨(fun φ10 xs10 => [.look 0 [.o 1, .o 1] [(φ9 0), (φ9 0)], .look 0 [] [], .look 0 [] [], .ran (Instr.sliceAt 9 (.string ⟨#[48, 44, 52, 41]⟩) (some (.int .i64 ((1 : Nat) : Int))) none none), .look 0 [] [], .store 0 [.o 0, .o 0] [(φ1 0), (φ1 0)], .look 1 [] [], .look 1 [] []]), (fun φ10 xs10 => [.agg #[.int .u64 0, .pointer none], .string ⟨#[48, 44, 52, 41]⟩, .int .i64 1, .string ⟨#[44, 52, 41]⟩, .int .i64 0, undef, .string ⟨#[44, 52, 41]⟩, .int .i64 0]), (fun φ10 xs10 => [[((φ1 0), .cells #[.int .u64 0, .pointer none] 27), ((φ9 0), .cells #[.int .u64 0, .pointer none] 27)], [((φ1 0), .cells #[.int .u64 0, .pointer none] 27), ((φ9 0), .cells #[.int .u64 0, .pointer none] 27)]]), (fun φ10 xs10 => [[default, default, default, default, default, default, default, default], [default, default, default, default, default, default, default, default]]), [5], [1, 1, 1, 6, 1, 4, 1, 1]⟩ (fun j => ([MP.any, MP.any, MP.any, MP.any, MP.any, MP.any, MP.any, MP.any] : List MP).getD j MP.any) [] [] [3] (fun φ10 xs10 => [[none, none, none, none, none, none, none, none]]) (fun φ10 xs10 => [(32, .agg #[.int .u64 0, .pointer none]), (33, .string ⟨#[48, 44, 52, 41]⟩), (34, .int .i64 1), (35, .string ⟨#[44, 52, 41]⟩), (36, .int .i64 0), (3, .string ⟨#[44, 52, 41]⟩), (4, .int .i64 0)]) (fun φ10 xs10 => [((φ1 0), .cells #[.int .u64 0, .pointer none] 27), ((φ9 0), .cells #[.int .u64 0, .pointer none] 27)]) s trivial (by kernel_rfl) (by kernel_rfl) (fun _ _ => by kernel_rfl) (fun _ _ => by kernel_rfl) ⟨fun _ _ => by kernel_rfl, fun _ _ => by kernel_rfl, fun _ _ => by kernel_rfl, fun _ _ => by kernel_rfl⟩ (fun _ _ _ => by kernel_rfl) (fun _ _ => by kernel_rfl) (fun _ _ => by kernel_rfl) (fun _ _ => by kernel_rfl) (fun _ _ => by kernel_rfl) (fun _ _ => by kernel_rfl) trivial ⟨kcast (A := ∀ (φ10 : Nat → Nat) (xs10 : Xs) (J : IM) (w : World), I8.Le J → J.Sub w → ((Instr.sliceAt 9 (.string ⟨#[48, 44, 52, 41]⟩) (some (.int .i64 ((1 : Nat) : Int))) none none) : Sem Value).run Tryd.prog w = .ok (.string ⟨#[44, 52, 41]⟩) w) (by kernel_rfl) (fun φ10 xs10 J w hJ hS => run_dropK (s := [48, 44, 52, 41]) (s' := [44, 52, 41]) (lo := 1) under9 (by decide) (by kernel_rfl)), trivial⟩ (by kernel_rfl) trivial ?k10
  case k10 =>
    rintro φ10 xs10 I10 w10 le10 s 
    refine wp_ret ?_
    refine ret_rule (C := []) [((φ1 0), .cells #[.int .u64 0, .pointer none] 27), ((φ9 0), .cells #[.int .u64 0, .pointer none] 27)] [] (.tuple #[.agg #[.int .u64 0, .pointer none], .string ⟨#[44, 52, 41]⟩, .int .i64 0]) [.o 0, .o 0] [(φ1 0), (φ1 0)] s trivial (by kernel_rfl) ?_
    exact ⟨_, _, _, rfl, s, rfl⟩

set_option maxHeartbeats 1000000 in
theorem buildL3_c {I : IM} : Fun Tryd.prog 77 #[.string ⟨#[52, 41]⟩] I (fun v J => v = .tuple #[.agg #[.int .u64 4, .pointer none], .string ⟨#[41]⟩, .int .i64 0]) := by
  refine enter_rule 79 [(0, .string ⟨#[52, 41]⟩)] Tryd.func77 rfl (by kernel_rfl) ?_
  intro w s
  refine wp_seq ?_
  refine region_rule ?_
  refine ops_rule (C := []) [] [] 3 [] 1 (fun φ1 => [(4, .int .i64 0), (3, .string ⟨#[]⟩), (2, .pointer (some ⟨(φ1 0), 0, none⟩))]) (fun φ1 => [((φ1 0), .cells #[.int .u64 0, .pointer none] 27)]) (fun φ1 => []) s trivial (fun φ1 => by kernel_rfl) ?_
  intro φ1 w1 s
  refine ops_done (by kernel_rfl) ?_
  refine wp_seq ?_
  refine wp_seq ?_
  refine region_rule ?_
  refine ops_rule (C := []) [((φ1 0), .cells #[.int .u64 0, .pointer none] 27)] [] 1 [] 0 (fun φ2 => [(18, .string ⟨#[52, 41]⟩)]) (fun φ2 => [((φ1 0), .cells #[.int .u64 0, .pointer none] 27)]) (fun φ2 => []) s trivial (fun φ2 => by kernel_rfl) ?_
  intro φ2 w2 s
  refine sem_rule (Instr.index 9 (.string ⟨#[52, 41]⟩) (.int .i64 ((0 : Nat) : Int))) (some 19) (.int .u8 52) (by kernel_rfl) (run_idxK (s := [52, 41]) (i := 0) (c := 52) under9 (by decide) (by kernel_rfl)) ?_
  refine ops_rule (C := []) [((φ1 0), .cells #[.int .u64 0, .pointer none] 27)] [] 1 [] 0 (fun φ3 => [(20, .bool true)]) (fun φ3 => [((φ1 0), .cells #[.int .u64 0, .pointer none] 27)]) (fun φ3 => []) s trivial (fun φ3 => by kernel_rfl) ?_
  intro φ3 w3 s
  refine ops_done (by kernel_rfl) ?_
  refine cond_true_rule (b := true) (by kernel_rfl) rfl ?_
  refine wp_seq ?_
  refine region_rule ?_
  refine ops_rule (C := []) [((φ1 0), .cells #[.int .u64 0, .pointer none] 27)] [] 1 [] 0 (fun φ4 => [(22, .string ⟨#[52, 41]⟩)]) (fun φ4 => [((φ1 0), .cells #[.int .u64 0, .pointer none] 27)]) (fun φ4 => []) s trivial (fun φ4 => by kernel_rfl) ?_
  intro φ4 w4 s
  refine call_rule (some 23) s (number_k (ss := [52, 41]) (a := 4) (b := 1) (c := true) (by decide) (by kernel_rfl)) (by kernel_rfl) ?_
  intro v5 I5 w5 le5 h5 s
  obtain rfl := h5
  refine ops_rule (C := []) [((φ1 0), .cells #[.int .u64 0, .pointer none] 27)] [] 7 [] 0 (fun φ6 => [(7, .bool true), (6, .int .i64 1), (5, .int .u64 4), (26, .bool true), (25, .int .i64 1), (24, .int .u64 4), (21, .tuple #[.int .u64 4, .int .i64 1, .bool true])]) (fun φ6 => [((φ1 0), .cells #[.int .u64 0, .pointer none] 27)]) (fun φ6 => []) s trivial (fun φ6 => by kernel_rfl) ?_
  intro φ6 w6 s
  refine ops_done (by kernel_rfl) ?_
  refine wp_seq ?_
  refine region_rule ?_
  refine ops_rule (C := []) [((φ1 0), .cells #[.int .u64 0, .pointer none] 27)] [] 1 [] 0 (fun φ7 => [(28, .int .u64 4)]) (fun φ7 => [((φ1 0), .cells #[.int .u64 0, .pointer none] 27)]) (fun φ7 => []) s trivial (fun φ7 => by kernel_rfl) ?_
  intro φ7 w7 s
  refine call_rule (some 29) s (leafOk_c (n := 4) (by omega)) (by kernel_rfl) ?_
  intro v8 I8 w8 le8 h8 s
  obtain rfl := h8
  refine ops_rule (C := []) [((φ1 0), .cells #[.int .u64 0, .pointer none] 27)] [] 6 [.o 1, .o 1] 1 (fun φ9 => [(9, .int .i64 0), (8, .pointer (some ⟨(φ9 0), 0, none⟩)), (31, .int .i64 0), (30, .agg #[.int .u64 4, .pointer none]), (27, .tuple #[.agg #[.int .u64 4, .pointer none], .int .i64 0])]) (fun φ9 => [((φ1 0), .cells #[.int .u64 0, .pointer none] 27), ((φ9 0), .cells #[.int .u64 4, .pointer none] 27)]) (fun φ9 => [(φ9 0), (φ9 0)]) s trivial (fun φ9 => by kernel_rfl) ?_
  intro φ9 w9 s
  refine ops_done (by kernel_rfl) ?_
  refine wp_seq ?_
  refine draw_rule (C := []) ⟨(fun φ10 xs10 => [.look 0 [.o 1, .o 1] [(φ9 0), (φ9 0)], .look 0 [] [], .look 0 [] [], .ran (Instr.sliceAt 9 (.string ⟨#[52, 41]⟩) (some (.int .i64 ((1 : Nat) : Int))) none none), .look 0 [] [], .store 0 [.o 0, .o 0] [(φ1 0), (φ1 0)], .look 1 [] [], .look 1 [] []]), (fun φ10 xs10 => [.agg #[.int .u64 4, .pointer none], .string ⟨#[52, 41]⟩, .int .i64 1, .string ⟨#[41]⟩, .int .i64 0, undef, .string ⟨#[41]⟩, .int .i64 0]), (fun φ10 xs10 => [[((φ1 0), .cells #[.int .u64 0, .pointer none] 27), ((φ9 0), .cells #[.int .u64 4, .pointer none] 27)], [((φ1 0), .cells #[.int .u64 4, .pointer none] 27), ((φ9 0), .cells #[.int .u64 4, .pointer none] 27)]]), (fun φ10 xs10 => [[default, default, default, default, default, default, default, default], [default, default, default, default, default, default, default, default]]), [5], [1, 1, 1, 6, 1, 4, 1, 1]⟩ (fun j => ([MP.any, MP.any, MP.any, MP.any, MP.any, MP.any, MP.any, MP.any] : List MP).getD j MP.any) [] [] [3] (fun φ10 xs10 => [[none, none, none, none, none, none, none, none]]) (fun φ10 xs10 => [(32, .agg #[.int .u64 4, .pointer none]), (33, .string ⟨#[52, 41]⟩), (34, .int .i64 1), (35, .string ⟨#[41]⟩), (36, .int .i64 0), (3, .string ⟨#[41]⟩), (4, .int .i64 0)]) (fun φ10 xs10 => [((φ1 0), .cells #[.int .u64 4, .pointer none] 27), ((φ9 0), .cells #[.int .u64 4, .pointer none] 27)]) s trivial (by kernel_rfl) (by kernel_rfl) (fun _ _ => by kernel_rfl) (fun _ _ => by kernel_rfl) ⟨fun _ _ => by kernel_rfl, fun _ _ => by kernel_rfl, fun _ _ => by kernel_rfl, fun _ _ => by kernel_rfl⟩ (fun _ _ _ => by kernel_rfl) (fun _ _ => by kernel_rfl) (fun _ _ => by kernel_rfl) (fun _ _ => by kernel_rfl) (fun _ _ => by kernel_rfl) (fun _ _ => by kernel_rfl) trivial ⟨kcast (A := ∀ (φ10 : Nat → Nat) (xs10 : Xs) (J : IM) (w : World), I8.Le J → J.Sub w → ((Instr.sliceAt 9 (.string ⟨#[52, 41]⟩) (some (.int .i64 ((1 : Nat) : Int))) none none) : Sem Value).run Tryd.prog w = .ok (.string ⟨#[41]⟩) w) (by kernel_rfl) (fun φ10 xs10 J w hJ hS => run_dropK (s := [52, 41]) (s' := [41]) (lo := 1) under9 (by decide) (by kernel_rfl)), trivial⟩ (by kernel_rfl) trivial ?k10
  case k10 =>
    rintro φ10 xs10 I10 w10 le10 s 
    refine wp_ret ?_
    refine ret_rule (C := []) [((φ1 0), .cells #[.int .u64 4, .pointer none] 27), ((φ9 0), .cells #[.int .u64 4, .pointer none] 27)] [] (.tuple #[.agg #[.int .u64 4, .pointer none], .string ⟨#[41]⟩, .int .i64 0]) [.o 0, .o 0] [(φ1 0), (φ1 0)] s trivial (by kernel_rfl) ?_
    exact ⟨_, _, _, rfl, s, rfl⟩

set_option maxHeartbeats 1000000 in
theorem build1_c {I : IM} : Fun Tryd.prog 77 #[.string ⟨#[40, 48, 44, 48, 44, 52, 41]⟩] I (fun v J => ∃ b p, v = .tuple #[evv b p, .string ⟨#[]⟩, .int .i64 0] ∧ ERep J (E.node 0 (E.leaf 0) (E.leaf 4)) b p) := by
  refine enter_rule 79 [(0, .string ⟨#[40, 48, 44, 48, 44, 52, 41]⟩)] Tryd.func77 rfl (by kernel_rfl) ?_
  intro w s
  refine wp_seq ?_
  refine region_rule ?_
  refine ops_rule (C := []) [] [] 3 [] 1 (fun φ1 => [(4, .int .i64 0), (3, .string ⟨#[]⟩), (2, .pointer (some ⟨(φ1 0), 0, none⟩))]) (fun φ1 => [((φ1 0), .cells #[.int .u64 0, .pointer none] 27)]) (fun φ1 => []) s trivial (fun φ1 => by kernel_rfl) ?_
  intro φ1 w1 s
  refine ops_done (by kernel_rfl) ?_
  refine wp_seq ?_
  refine wp_seq ?_
  refine region_rule ?_
  refine ops_rule (C := []) [((φ1 0), .cells #[.int .u64 0, .pointer none] 27)] [] 1 [] 0 (fun φ2 => [(18, .string ⟨#[40, 48, 44, 48, 44, 52, 41]⟩)]) (fun φ2 => [((φ1 0), .cells #[.int .u64 0, .pointer none] 27)]) (fun φ2 => []) s trivial (fun φ2 => by kernel_rfl) ?_
  intro φ2 w2 s
  refine sem_rule (Instr.index 9 (.string ⟨#[40, 48, 44, 48, 44, 52, 41]⟩) (.int .i64 ((0 : Nat) : Int))) (some 19) (.int .u8 40) (by kernel_rfl) (run_idxK (s := [40, 48, 44, 48, 44, 52, 41]) (i := 0) (c := 40) under9 (by decide) (by kernel_rfl)) ?_
  refine ops_rule (C := []) [((φ1 0), .cells #[.int .u64 0, .pointer none] 27)] [] 1 [] 0 (fun φ3 => [(20, .bool false)]) (fun φ3 => [((φ1 0), .cells #[.int .u64 0, .pointer none] 27)]) (fun φ3 => []) s trivial (fun φ3 => by kernel_rfl) ?_
  intro φ3 w3 s
  refine ops_done (by kernel_rfl) ?_
  refine cond_false_rule (b := false) (by kernel_rfl) rfl ?_
  refine wp_skip ?_
  refine wp_seq ?_
  refine region_rule ?_
  refine ops_rule (C := []) [((φ1 0), .cells #[.int .u64 0, .pointer none] 27)] [] 1 [] 0 (fun φ4 => [(38, .string ⟨#[40, 48, 44, 48, 44, 52, 41]⟩)]) (fun φ4 => [((φ1 0), .cells #[.int .u64 0, .pointer none] 27)]) (fun φ4 => []) s trivial (fun φ4 => by kernel_rfl) ?_
  intro φ4 w4 s
  refine sem_rule (Instr.sliceAt 9 (.string ⟨#[40, 48, 44, 48, 44, 52, 41]⟩) (some (.int .i64 ((1 : Nat) : Int))) none none) (some 39) (.string ⟨#[48, 44, 48, 44, 52, 41]⟩) (by kernel_rfl) (run_dropK (s := [40, 48, 44, 48, 44, 52, 41]) (s' := [48, 44, 48, 44, 52, 41]) (lo := 1) under9 (by decide) (by kernel_rfl)) ?_
  refine call_rule (some 40) s (number_k (ss := [48, 44, 48, 44, 52, 41]) (a := 0) (b := 1) (c := true) (by decide) (by kernel_rfl)) (by kernel_rfl) ?_
  intro v5 I5 w5 le5 h5 s
  obtain rfl := h5
  refine ops_rule (C := []) [((φ1 0), .cells #[.int .u64 0, .pointer none] 27)] [] 7 [] 0 (fun φ6 => [(12, .bool true), (11, .int .i64 1), (10, .int .u64 0), (43, .bool true), (42, .int .i64 1), (41, .int .u64 0), (37, .tuple #[.int .u64 0, .int .i64 1, .bool true])]) (fun φ6 => [((φ1 0), .cells #[.int .u64 0, .pointer none] 27)]) (fun φ6 => []) s trivial (fun φ6 => by kernel_rfl) ?_
  intro φ6 w6 s
  refine ops_done (by kernel_rfl) ?_
  refine wp_seq ?_
  refine region_rule ?_
  refine ops_rule (C := []) [((φ1 0), .cells #[.int .u64 0, .pointer none] 27)] [] 3 [] 0 (fun φ7 => [(47, .int .i64 3), (46, .int .i64 1), (45, .string ⟨#[40, 48, 44, 48, 44, 52, 41]⟩)]) (fun φ7 => [((φ1 0), .cells #[.int .u64 0, .pointer none] 27)]) (fun φ7 => []) s trivial (fun φ7 => by kernel_rfl) ?_
  intro φ7 w7 s
  refine sem_rule (Instr.sliceAt 9 (.string ⟨#[40, 48, 44, 48, 44, 52, 41]⟩) (some (.int .i64 ((3 : Nat) : Int))) none none) (some 48) (.string ⟨#[48, 44, 52, 41]⟩) (by kernel_rfl) (run_dropK (s := [40, 48, 44, 48, 44, 52, 41]) (s' := [48, 44, 52, 41]) (lo := 3) under9 (by decide) (by kernel_rfl)) ?_
  refine call_rule (some 49) s (buildL2_c (I := I5)) (by kernel_rfl) ?_
  intro v8 I8 w8 le8 h8 s
  obtain rfl := h8
  refine ops_rule (C := []) [((φ1 0), .cells #[.int .u64 0, .pointer none] 27)] [] 8 [.o 1, .o 1] 1 (fun φ9 => [(15, .int .i64 0), (14, .string ⟨#[44, 52, 41]⟩), (13, .pointer (some ⟨(φ9 0), 0, none⟩)), (52, .int .i64 0), (51, .string ⟨#[44, 52, 41]⟩), (50, .agg #[.int .u64 0, .pointer none]), (44, .tuple #[.agg #[.int .u64 0, .pointer none], .string ⟨#[44, 52, 41]⟩, .int .i64 0])]) (fun φ9 => [((φ1 0), .cells #[.int .u64 0, .pointer none] 27), ((φ9 0), .cells #[.int .u64 0, .pointer none] 27)]) (fun φ9 => [(φ9 0), (φ9 0)]) s trivial (fun φ9 => by kernel_rfl) ?_
  intro φ9 w9 s
  refine ops_done (by kernel_rfl) ?_
  refine wp_seq ?_
  refine wp_seq ?_
  refine region_rule ?_
  refine ops_rule (C := []) [((φ1 0), .cells #[.int .u64 0, .pointer none] 27), ((φ9 0), .cells #[.int .u64 0, .pointer none] 27)] [] 2 [] 0 (fun φ10 => [(54, .bool false), (53, .int .i64 0)]) (fun φ10 => [((φ1 0), .cells #[.int .u64 0, .pointer none] 27), ((φ9 0), .cells #[.int .u64 0, .pointer none] 27)]) (fun φ10 => []) s trivial (fun φ10 => by kernel_rfl) ?_
  intro φ10 w10 s
  refine ops_done (by kernel_rfl) ?_
  refine cond_false_rule (b := false) (by kernel_rfl) rfl ?_
  refine wp_skip ?_
  refine wp_seq ?_
  refine region_rule ?_
  refine ops_rule (C := []) [((φ1 0), .cells #[.int .u64 0, .pointer none] 27), ((φ9 0), .cells #[.int .u64 0, .pointer none] 27)] [] 1 [] 0 (fun φ11 => [(58, .string ⟨#[44, 52, 41]⟩)]) (fun φ11 => [((φ1 0), .cells #[.int .u64 0, .pointer none] 27), ((φ9 0), .cells #[.int .u64 0, .pointer none] 27)]) (fun φ11 => []) s trivial (fun φ11 => by kernel_rfl) ?_
  intro φ11 w11 s
  refine sem_rule (Instr.sliceAt 9 (.string ⟨#[44, 52, 41]⟩) (some (.int .i64 ((1 : Nat) : Int))) none none) (some 59) (.string ⟨#[52, 41]⟩) (by kernel_rfl) (run_dropK (s := [44, 52, 41]) (s' := [52, 41]) (lo := 1) under9 (by decide) (by kernel_rfl)) ?_
  refine call_rule (some 60) s (buildL3_c (I := I8)) (by kernel_rfl) ?_
  intro v12 I12 w12 le12 h12 s
  obtain rfl := h12
  refine ops_rule (C := []) [((φ1 0), .cells #[.int .u64 0, .pointer none] 27), ((φ9 0), .cells #[.int .u64 0, .pointer none] 27)] [] 8 [.o 2, .o 2] 1 (fun φ13 => [(15, .int .i64 0), (14, .string ⟨#[41]⟩), (16, .pointer (some ⟨(φ13 0), 0, none⟩)), (63, .int .i64 0), (62, .string ⟨#[41]⟩), (61, .agg #[.int .u64 4, .pointer none]), (57, .tuple #[.agg #[.int .u64 4, .pointer none], .string ⟨#[41]⟩, .int .i64 0])]) (fun φ13 => [((φ1 0), .cells #[.int .u64 0, .pointer none] 27), ((φ9 0), .cells #[.int .u64 0, .pointer none] 27), ((φ13 0), .cells #[.int .u64 4, .pointer none] 27)]) (fun φ13 => [(φ13 0), (φ13 0)]) s trivial (fun φ13 => by kernel_rfl) ?_
  intro φ13 w13 s
  refine ops_done (by kernel_rfl) ?_
  refine wp_seq ?_
  refine wp_seq ?_
  refine region_rule ?_
  refine ops_rule (C := []) [((φ1 0), .cells #[.int .u64 0, .pointer none] 27), ((φ9 0), .cells #[.int .u64 0, .pointer none] 27), ((φ13 0), .cells #[.int .u64 4, .pointer none] 27)] [] 2 [] 0 (fun φ14 => [(65, .bool false), (64, .int .i64 0)]) (fun φ14 => [((φ1 0), .cells #[.int .u64 0, .pointer none] 27), ((φ9 0), .cells #[.int .u64 0, .pointer none] 27), ((φ13 0), .cells #[.int .u64 4, .pointer none] 27)]) (fun φ14 => []) s trivial (fun φ14 => by kernel_rfl) ?_
  intro φ14 w14 s
  refine ops_done (by kernel_rfl) ?_
  refine cond_false_rule (b := false) (by kernel_rfl) rfl ?_
  refine wp_skip ?_
  refine wp_seq ?_
  refine region_rule ?_
  refine ops_rule (C := []) [((φ1 0), .cells #[.int .u64 0, .pointer none] 27), ((φ9 0), .cells #[.int .u64 0, .pointer none] 27), ((φ13 0), .cells #[.int .u64 4, .pointer none] 27)] [] 3 [.o 1, .o 1, .o 2, .o 2] 0 (fun φ15 => [(71, .agg #[.int .u64 4, .pointer none]), (70, .agg #[.int .u64 0, .pointer none]), (69, .int .u64 0)]) (fun φ15 => [((φ1 0), .cells #[.int .u64 0, .pointer none] 27), ((φ9 0), .cells #[.int .u64 0, .pointer none] 27), ((φ13 0), .cells #[.int .u64 4, .pointer none] 27)]) (fun φ15 => [(φ9 0), (φ9 0), (φ13 0), (φ13 0)]) s trivial (fun φ15 => by kernel_rfl) ?_
  intro φ15 w15 s
  refine call_rule (some 72) s (nodeOk9_c (n := 0) (l := (E.leaf 0)) (r := (E.leaf 4)) (by kernel_rfl) (by decide) (by decide) (ERep.lf _ 0) (ERep.lf _ 4)) (by kernel_rfl) ?_
  intro v16 I16 w16 le16 h16 s
  obtain ⟨b16, p16, rfl, h16_0⟩ := h16
  refine ops_rule (C := []) [((φ1 0), .cells #[.int .u64 0, .pointer none] 27), ((φ9 0), .cells #[.int .u64 0, .pointer none] 27), ((φ13 0), .cells #[.int .u64 4, .pointer none] 27)] [] 6 [.o 3, .o 3] 1 (fun φ17 => [(15, .int .i64 0), (17, .pointer (some ⟨(φ17 0), 0, none⟩)), (74, .int .i64 0), (73, .agg #[.int .u64 ((b16 : Nat) : Int), .pointer p16]), (68, .tuple #[.agg #[.int .u64 ((b16 : Nat) : Int), .pointer p16], .int .i64 0])]) (fun φ17 => [((φ1 0), .cells #[.int .u64 0, .pointer none] 27), ((φ9 0), .cells #[.int .u64 0, .pointer none] 27), ((φ13 0), .cells #[.int .u64 4, .pointer none] 27), ((φ17 0), .cells #[.int .u64 ((b16 : Nat) : Int), .pointer p16] 27)]) (fun φ17 => [(φ17 0), (φ17 0)]) s trivial (fun φ17 => by kernel_rfl) ?_
  intro φ17 w17 s
  refine ops_done (by kernel_rfl) ?_
  refine wp_seq ?_
  refine draw_rule (C := []) ⟨(fun φ18 xs18 => [.look 0 [.o 3, .o 3] [(φ17 0), (φ17 0)], .look 0 [] [], .ran (Instr.sliceAt 9 (.string ⟨#[41]⟩) (some (.int .i64 ((1 : Nat) : Int))) none none), .look 0 [] [], .store 0 [.o 0, .o 0] [(φ1 0), (φ1 0)], .look 1 [] [], .look 1 [] []]), (fun φ18 xs18 => [.agg #[.int .u64 ((b16 : Nat) : Int), .pointer p16], .string ⟨#[41]⟩, .string ⟨#[]⟩, .int .i64 0, undef, .string ⟨#[]⟩, .int .i64 0]), (fun φ18 xs18 => [[((φ1 0), .cells #[.int .u64 0, .pointer none] 27), ((φ9 0), .cells #[.int .u64 0, .pointer none] 27), ((φ13 0), .cells #[.int .u64 4, .pointer none] 27), ((φ17 0), .cells #[.int .u64 ((b16 : Nat) : Int), .pointer p16] 27)], [((φ1 0), .cells #[.int .u64 ((b16 : Nat) : Int), .pointer p16] 27), ((φ9 0), .cells #[.int .u64 0, .pointer none] 27), ((φ13 0), .cells #[.int .u64 4, .pointer none] 27), ((φ17 0), .cells #[.int .u64 ((b16 : Nat) : Int), .pointer p16] 27)]]), (fun φ18 xs18 => [[default, default, default, default, default, default, default], [default, default, default, default, default, default, default]]), [4], [1, 1, 6, 1, 4, 1, 1]⟩ (fun j => ([MP.any, MP.any, MP.any, MP.any, MP.any, MP.any, MP.any] : List MP).getD j MP.any) [] [] [2] (fun φ18 xs18 => [[none, none, none, none, none, none, none]]) (fun φ18 xs18 => [(75, .agg #[.int .u64 ((b16 : Nat) : Int), .pointer p16]), (76, .string ⟨#[41]⟩), (77, .string ⟨#[]⟩), (78, .int .i64 0), (3, .string ⟨#[]⟩), (4, .int .i64 0)]) (fun φ18 xs18 => [((φ1 0), .cells #[.int .u64 ((b16 : Nat) : Int), .pointer p16] 27), ((φ9 0), .cells #[.int .u64 0, .pointer none] 27), ((φ13 0), .cells #[.int .u64 4, .pointer none] 27), ((φ17 0), .cells #[.int .u64 ((b16 : Nat) : Int), .pointer p16] 27)]) s trivial (by kernel_rfl) (by kernel_rfl) (fun _ _ => by kernel_rfl) (fun _ _ => by kernel_rfl) ⟨fun _ _ => by kernel_rfl, fun _ _ => by kernel_rfl, fun _ _ => by kernel_rfl, fun _ _ => by kernel_rfl⟩ (fun _ _ _ => by kernel_rfl) (fun _ _ => by kernel_rfl) (fun _ _ => by kernel_rfl) (fun _ _ => by kernel_rfl) (fun _ _ => by kernel_rfl) (fun _ _ => by kernel_rfl) trivial ⟨kcast (A := ∀ (φ18 : Nat → Nat) (xs18 : Xs) (J : IM) (w : World), I16.Le J → J.Sub w → ((Instr.sliceAt 9 (.string ⟨#[41]⟩) (some (.int .i64 ((1 : Nat) : Int))) none none) : Sem Value).run Tryd.prog w = .ok (.string ⟨#[]⟩) w) (by kernel_rfl) (fun φ18 xs18 J w hJ hS => run_dropK (s := [41]) (s' := []) (lo := 1) under9 (by decide) (by kernel_rfl)), trivial⟩ (by kernel_rfl) trivial ?k18
  case k18 =>
    rintro φ18 xs18 I18 w18 le18 s 
    replace h16_0 := ERep.mono le18 h16_0
    refine wp_ret ?_
    refine ret_rule (C := []) [((φ1 0), .cells #[.int .u64 ((b16 : Nat) : Int), .pointer p16] 27), ((φ9 0), .cells #[.int .u64 0, .pointer none] 27), ((φ13 0), .cells #[.int .u64 4, .pointer none] 27), ((φ17 0), .cells #[.int .u64 ((b16 : Nat) : Int), .pointer p16] 27)] [] (.tuple #[.agg #[.int .u64 ((b16 : Nat) : Int), .pointer p16], .string ⟨#[]⟩, .int .i64 0]) [.o 0, .o 0] [(φ1 0), (φ1 0)] s trivial (by kernel_rfl) ?_
    exact ⟨_, _, _, rfl, s, ⟨_, _, rfl, h16_0⟩⟩

set_option maxHeartbeats 1000000 in
theorem parse0_c {I : IM} : Fun Tryd.prog 31 #[.string ⟨#[40, 49, 44, 50, 44, 48, 41]⟩] I (fun v J => ∃ b p, v = .tuple #[evv b p, .int .i64 0] ∧ ERep J (E.node 1 (E.leaf 2) (E.leaf 0)) b p) := by
  refine enter_rule 28 [(0, .string ⟨#[40, 49, 44, 50, 44, 48, 41]⟩)] Tryd.func31 rfl (by kernel_rfl) ?_
  intro w s
  refine wp_seq ?_
  refine region_rule ?_
  refine ops_rule (C := []) [] [] 2 [] 1 (fun φ1 => [(3, .int .i64 0), (2, .pointer (some ⟨(φ1 0), 0, none⟩))]) (fun φ1 => [((φ1 0), .cells #[.int .u64 0, .pointer none] 27)]) (fun φ1 => []) s trivial (fun φ1 => by kernel_rfl) ?_
  intro φ1 w1 s
  refine ops_done (by kernel_rfl) ?_
  refine wp_seq ?_
  refine region_rule ?_
  refine ops_rule (C := []) [((φ1 0), .cells #[.int .u64 0, .pointer none] 27)] [] 1 [] 0 (fun φ2 => [(10, .string ⟨#[40, 49, 44, 50, 44, 48, 41]⟩)]) (fun φ2 => [((φ1 0), .cells #[.int .u64 0, .pointer none] 27)]) (fun φ2 => []) s trivial (fun φ2 => by kernel_rfl) ?_
  intro φ2 w2 s
  refine call_rule (some 11) s (scan0_c (I := I)) (by kernel_rfl) ?_
  intro v3 I3 w3 le3 h3 s
  obtain rfl := h3
  refine ops_rule (C := []) [((φ1 0), .cells #[.int .u64 0, .pointer none] 27)] [] 5 [] 0 (fun φ4 => [(5, .bool true), (4, .int .i64 1), (13, .bool true), (12, .int .i64 1), (9, .tuple #[.int .i64 1, .bool true])]) (fun φ4 => [((φ1 0), .cells #[.int .u64 0, .pointer none] 27)]) (fun φ4 => []) s trivial (fun φ4 => by kernel_rfl) ?_
  intro φ4 w4 s
  refine ops_done (by kernel_rfl) ?_
  refine wp_seq ?_
  refine wp_seq ?_
  refine region_rule ?_
  refine ops_rule (C := []) [((φ1 0), .cells #[.int .u64 0, .pointer none] 27)] [] 2 [] 0 (fun φ5 => [(15, .bool false), (14, .bool true)]) (fun φ5 => [((φ1 0), .cells #[.int .u64 0, .pointer none] 27)]) (fun φ5 => []) s trivial (fun φ5 => by kernel_rfl) ?_
  intro φ5 w5 s
  refine ops_done (by kernel_rfl) ?_
  refine cond_false_rule (b := false) (by kernel_rfl) rfl ?_
  refine wp_skip ?_
  refine wp_seq ?_
  refine wp_seq ?_
  refine region_rule ?_
  refine ops_rule (C := []) [((φ1 0), .cells #[.int .u64 0, .pointer none] 27)] [] 2 [] 0 (fun φ6 => [(18, .bool false), (17, .int .i64 1)]) (fun φ6 => [((φ1 0), .cells #[.int .u64 0, .pointer none] 27)]) (fun φ6 => []) s trivial (fun φ6 => by kernel_rfl) ?_
  intro φ6 w6 s
  refine ops_done (by kernel_rfl) ?_
  refine cond_false_rule (b := false) (by kernel_rfl) rfl ?_
  refine wp_skip ?_
  refine wp_seq ?_
  refine region_rule ?_
  refine ops_rule (C := []) [((φ1 0), .cells #[.int .u64 0, .pointer none] 27)] [] 1 [] 0 (fun φ7 => [(21, .string ⟨#[40, 49, 44, 50, 44, 48, 41]⟩)]) (fun φ7 => [((φ1 0), .cells #[.int .u64 0, .pointer none] 27)]) (fun φ7 => []) s trivial (fun φ7 => by kernel_rfl) ?_
  intro φ7 w7 s
  refine call_rule (some 22) s (build0_c (I := I3)) (by kernel_rfl) ?_
  intro v8 I8 w8 le8 h8 s
  obtain ⟨b8, p8, rfl, h8_0⟩ := h8
  refine ops_rule (C := []) [((φ1 0), .cells #[.int .u64 0, .pointer none] 27)] [] 8 [.o 1, .o 1] 1 (fun φ9 => [(8, .int .i64 0), (7, .string ⟨#[]⟩), (6, .pointer (some ⟨(φ9 0), 0, none⟩)), (25, .int .i64 0), (24, .string ⟨#[]⟩), (23, .agg #[.int .u64 ((b8 : Nat) : Int), .pointer p8]), (20, .tuple #[.agg #[.int .u64 ((b8 : Nat) : Int), .pointer p8], .string ⟨#[]⟩, .int .i64 0])]) (fun φ9 => [((φ1 0), .cells #[.int .u64 0, .pointer none] 27), ((φ9 0), .cells #[.int .u64 ((b8 : Nat) : Int), .pointer p8] 27)]) (fun φ9 => [(φ9 0), (φ9 0)]) s trivial (fun φ9 => by kernel_rfl) ?_
  intro φ9 w9 s
  refine ops_done (by kernel_rfl) ?_
  refine wp_seq ?_
  refine region_rule ?_
  refine ops_rule (C := []) [((φ1 0), .cells #[.int .u64 0, .pointer none] 27), ((φ9 0), .cells #[.int .u64 ((b8 : Nat) : Int), .pointer p8] 27)] [] 4 [.o 1, .o 1, .o 0, .o 0] 0 (fun φ10 => [(3, .int .i64 0), (27, .int .i64 0), (26, .agg #[.int .u64 ((b8 : Nat) : Int), .pointer p8])]) (fun φ10 => [((φ1 0), .cells #[.int .u64 ((b8 : Nat) : Int), .pointer p8] 27), ((φ9 0), .cells #[.int .u64 ((b8 : Nat) : Int), .pointer p8] 27)]) (fun φ10 => [(φ9 0), (φ9 0), (φ1 0), (φ1 0)]) s trivial (fun φ10 => by kernel_rfl) ?_
  intro φ10 w10 s
  refine ops_done (by kernel_rfl) ?_
  refine wp_ret ?_
  refine ret_rule (C := []) [((φ1 0), .cells #[.int .u64 ((b8 : Nat) : Int), .pointer p8] 27), ((φ9 0), .cells #[.int .u64 ((b8 : Nat) : Int), .pointer p8] 27)] [] (.tuple #[.agg #[.int .u64 ((b8 : Nat) : Int), .pointer p8], .int .i64 0]) [.o 0, .o 0] [(φ1 0), (φ1 0)] s trivial (by kernel_rfl) ?_
  exact ⟨_, _, _, rfl, s, ⟨_, _, rfl, h8_0⟩⟩

set_option maxHeartbeats 1000000 in
theorem parse1_c {I : IM} : Fun Tryd.prog 31 #[.string ⟨#[40, 48, 44, 48, 44, 52, 41]⟩] I (fun v J => ∃ b p, v = .tuple #[evv b p, .int .i64 0] ∧ ERep J (E.node 0 (E.leaf 0) (E.leaf 4)) b p) := by
  refine enter_rule 28 [(0, .string ⟨#[40, 48, 44, 48, 44, 52, 41]⟩)] Tryd.func31 rfl (by kernel_rfl) ?_
  intro w s
  refine wp_seq ?_
  refine region_rule ?_
  refine ops_rule (C := []) [] [] 2 [] 1 (fun φ1 => [(3, .int .i64 0), (2, .pointer (some ⟨(φ1 0), 0, none⟩))]) (fun φ1 => [((φ1 0), .cells #[.int .u64 0, .pointer none] 27)]) (fun φ1 => []) s trivial (fun φ1 => by kernel_rfl) ?_
  intro φ1 w1 s
  refine ops_done (by kernel_rfl) ?_
  refine wp_seq ?_
  refine region_rule ?_
  refine ops_rule (C := []) [((φ1 0), .cells #[.int .u64 0, .pointer none] 27)] [] 1 [] 0 (fun φ2 => [(10, .string ⟨#[40, 48, 44, 48, 44, 52, 41]⟩)]) (fun φ2 => [((φ1 0), .cells #[.int .u64 0, .pointer none] 27)]) (fun φ2 => []) s trivial (fun φ2 => by kernel_rfl) ?_
  intro φ2 w2 s
  refine call_rule (some 11) s (scan1_c (I := I)) (by kernel_rfl) ?_
  intro v3 I3 w3 le3 h3 s
  obtain rfl := h3
  refine ops_rule (C := []) [((φ1 0), .cells #[.int .u64 0, .pointer none] 27)] [] 5 [] 0 (fun φ4 => [(5, .bool true), (4, .int .i64 1), (13, .bool true), (12, .int .i64 1), (9, .tuple #[.int .i64 1, .bool true])]) (fun φ4 => [((φ1 0), .cells #[.int .u64 0, .pointer none] 27)]) (fun φ4 => []) s trivial (fun φ4 => by kernel_rfl) ?_
  intro φ4 w4 s
  refine ops_done (by kernel_rfl) ?_
  refine wp_seq ?_
  refine wp_seq ?_
  refine region_rule ?_
  refine ops_rule (C := []) [((φ1 0), .cells #[.int .u64 0, .pointer none] 27)] [] 2 [] 0 (fun φ5 => [(15, .bool false), (14, .bool true)]) (fun φ5 => [((φ1 0), .cells #[.int .u64 0, .pointer none] 27)]) (fun φ5 => []) s trivial (fun φ5 => by kernel_rfl) ?_
  intro φ5 w5 s
  refine ops_done (by kernel_rfl) ?_
  refine cond_false_rule (b := false) (by kernel_rfl) rfl ?_
  refine wp_skip ?_
  refine wp_seq ?_
  refine wp_seq ?_
  refine region_rule ?_
  refine ops_rule (C := []) [((φ1 0), .cells #[.int .u64 0, .pointer none] 27)] [] 2 [] 0 (fun φ6 => [(18, .bool false), (17, .int .i64 1)]) (fun φ6 => [((φ1 0), .cells #[.int .u64 0, .pointer none] 27)]) (fun φ6 => []) s trivial (fun φ6 => by kernel_rfl) ?_
  intro φ6 w6 s
  refine ops_done (by kernel_rfl) ?_
  refine cond_false_rule (b := false) (by kernel_rfl) rfl ?_
  refine wp_skip ?_
  refine wp_seq ?_
  refine region_rule ?_
  refine ops_rule (C := []) [((φ1 0), .cells #[.int .u64 0, .pointer none] 27)] [] 1 [] 0 (fun φ7 => [(21, .string ⟨#[40, 48, 44, 48, 44, 52, 41]⟩)]) (fun φ7 => [((φ1 0), .cells #[.int .u64 0, .pointer none] 27)]) (fun φ7 => []) s trivial (fun φ7 => by kernel_rfl) ?_
  intro φ7 w7 s
  refine call_rule (some 22) s (build1_c (I := I3)) (by kernel_rfl) ?_
  intro v8 I8 w8 le8 h8 s
  obtain ⟨b8, p8, rfl, h8_0⟩ := h8
  refine ops_rule (C := []) [((φ1 0), .cells #[.int .u64 0, .pointer none] 27)] [] 8 [.o 1, .o 1] 1 (fun φ9 => [(8, .int .i64 0), (7, .string ⟨#[]⟩), (6, .pointer (some ⟨(φ9 0), 0, none⟩)), (25, .int .i64 0), (24, .string ⟨#[]⟩), (23, .agg #[.int .u64 ((b8 : Nat) : Int), .pointer p8]), (20, .tuple #[.agg #[.int .u64 ((b8 : Nat) : Int), .pointer p8], .string ⟨#[]⟩, .int .i64 0])]) (fun φ9 => [((φ1 0), .cells #[.int .u64 0, .pointer none] 27), ((φ9 0), .cells #[.int .u64 ((b8 : Nat) : Int), .pointer p8] 27)]) (fun φ9 => [(φ9 0), (φ9 0)]) s trivial (fun φ9 => by kernel_rfl) ?_
  intro φ9 w9 s
  refine ops_done (by kernel_rfl) ?_
  refine wp_seq ?_
  refine region_rule ?_
  refine ops_rule (C := []) [((φ1 0), .cells #[.int .u64 0, .pointer none] 27), ((φ9 0), .cells #[.int .u64 ((b8 : Nat) : Int), .pointer p8] 27)] [] 4 [.o 1, .o 1, .o 0, .o 0] 0 (fun φ10 => [(3, .int .i64 0), (27, .int .i64 0), (26, .agg #[.int .u64 ((b8 : Nat) : Int), .pointer p8])]) (fun φ10 => [((φ1 0), .cells #[.int .u64 ((b8 : Nat) : Int), .pointer p8] 27), ((φ9 0), .cells #[.int .u64 ((b8 : Nat) : Int), .pointer p8] 27)]) (fun φ10 => [(φ9 0), (φ9 0), (φ1 0), (φ1 0)]) s trivial (fun φ10 => by kernel_rfl) ?_
  intro φ10 w10 s
  refine ops_done (by kernel_rfl) ?_
  refine wp_ret ?_
  refine ret_rule (C := []) [((φ1 0), .cells #[.int .u64 ((b8 : Nat) : Int), .pointer p8] 27), ((φ9 0), .cells #[.int .u64 ((b8 : Nat) : Int), .pointer p8] 27)] [] (.tuple #[.agg #[.int .u64 ((b8 : Nat) : Int), .pointer p8], .int .i64 0]) [.o 0, .o 0] [(φ1 0), (φ1 0)] s trivial (by kernel_rfl) ?_
  exact ⟨_, _, _, rfl, s, ⟨_, _, rfl, h8_0⟩⟩

theorem joinK3_c {I : IM} {b1 b2 : Nat} {p1 p2 : Option Addr} (h1 : ERep I (E.node 1 (E.leaf 2) (E.leaf 0)) b1 p1) (h2 : ERep I (E.node 0 (E.leaf 0) (E.leaf 4)) b2 p2) : Fun Tryd.prog 28 #[evv b1 p1, evv b2 p2] I (fun v J => ∃ b p, v = evv b p ∧ ERep J (E.node 3 (E.leaf 0) (E.leaf 1)) b p) := by
  have h := joinF_c 64 (by omega) (by decide) (by decide) (by decide) (by decide) h1 h2
  rw [(by kernel_rfl : joinF 64 (E.node 1 (E.leaf 2) (E.leaf 0)) (E.node 0 (E.leaf 0) (E.leaf 4)) = (E.node 3 (E.leaf 0) (E.leaf 1)))] at h; exact h

set_option maxHeartbeats 2000000 in
theorem awakeE_c {I : IM} (hT : Tab I) : Fun Tryd.prog 16 #[] I (fun v J => v = .bool true) := by
  refine enter_rule 26 [] Tryd.func16 rfl (by kernel_rfl) ?_
  intro w s
  refine wp_seq ?_
  refine region_rule ?_
  refine ops_rule (C := []) [] [] 1 [] 0 (fun φ1 => [(0, .bool false)]) (fun φ1 => []) (fun φ1 => []) s trivial (fun φ1 => by kernel_rfl) ?_
  intro φ1 w1 s
  refine ops_done (by kernel_rfl) ?_
  refine wp_seq ?_
  refine region_rule ?_
  refine call_rule (some 6) s (parse0_c (I := I)) (by kernel_rfl) ?_
  intro v2 I2 w2 le2 h2 s
  replace hT := Tab.mono le2 hT
  obtain ⟨b2, p2, rfl, h2_0⟩ := h2
  refine ops_rule (C := []) [] [] 6 [.o 0, .o 0] 1 (fun φ3 => [(2, .int .i64 0), (1, .pointer (some ⟨(φ3 0), 0, none⟩)), (8, .int .i64 0), (7, .agg #[.int .u64 ((b2 : Nat) : Int), .pointer p2]), (5, .tuple #[.agg #[.int .u64 ((b2 : Nat) : Int), .pointer p2], .int .i64 0])]) (fun φ3 => [((φ3 0), .cells #[.int .u64 ((b2 : Nat) : Int), .pointer p2] 27)]) (fun φ3 => [(φ3 0), (φ3 0)]) s trivial (fun φ3 => by kernel_rfl) ?_
  intro φ3 w3 s
  refine ops_done (by kernel_rfl) ?_
  refine wp_seq ?_
  refine region_rule ?_
  refine call_rule (some 10) s (parse1_c (I := I2)) (by kernel_rfl) ?_
  intro v4 I4 w4 le4 h4 s
  replace hT := Tab.mono le4 hT
  replace h2_0 := ERep.mono le4 h2_0
  obtain ⟨b4, p4, rfl, h4_0⟩ := h4
  refine ops_rule (C := []) [((φ3 0), .cells #[.int .u64 ((b2 : Nat) : Int), .pointer p2] 27)] [] 6 [.o 1, .o 1] 1 (fun φ5 => [(4, .int .i64 0), (3, .pointer (some ⟨(φ5 0), 0, none⟩)), (12, .int .i64 0), (11, .agg #[.int .u64 ((b4 : Nat) : Int), .pointer p4]), (9, .tuple #[.agg #[.int .u64 ((b4 : Nat) : Int), .pointer p4], .int .i64 0])]) (fun φ5 => [((φ3 0), .cells #[.int .u64 ((b2 : Nat) : Int), .pointer p2] 27), ((φ5 0), .cells #[.int .u64 ((b4 : Nat) : Int), .pointer p4] 27)]) (fun φ5 => [(φ5 0), (φ5 0)]) s trivial (fun φ5 => by kernel_rfl) ?_
  intro φ5 w5 s
  refine ops_done (by kernel_rfl) ?_
  refine wp_seq ?_
  refine region_rule ?_
  refine ops_rule (C := []) [((φ3 0), .cells #[.int .u64 ((b2 : Nat) : Int), .pointer p2] 27), ((φ5 0), .cells #[.int .u64 ((b4 : Nat) : Int), .pointer p4] 27)] [] 9 [.o 0, .o 0, .o 1, .o 1] 0 (fun φ6 => [(21, .agg #[.int .u64 ((b4 : Nat) : Int), .pointer p4]), (20, .agg #[.int .u64 ((b2 : Nat) : Int), .pointer p2]), (19, .bool true), (18, .bool true), (17, .bool true), (16, .int .i64 0), (15, .bool true), (14, .bool true), (13, .int .i64 0)]) (fun φ6 => [((φ3 0), .cells #[.int .u64 ((b2 : Nat) : Int), .pointer p2] 27), ((φ5 0), .cells #[.int .u64 ((b4 : Nat) : Int), .pointer p4] 27)]) (fun φ6 => [(φ3 0), (φ3 0), (φ5 0), (φ5 0)]) s trivial (fun φ6 => by kernel_rfl) ?_
  intro φ6 w6 s
  refine call_rule (some 22) s (joinK3_c h2_0 h4_0) (by kernel_rfl) ?_
  intro v7 I7 w7 le7 h7 s
  replace hT := Tab.mono le7 hT
  replace h2_0 := ERep.mono le7 h2_0
  replace h4_0 := ERep.mono le7 h4_0
  obtain ⟨b7, p7, rfl, h7_0⟩ := h7
  refine call_rule (some 23) s (textK_c (t := (E.node 3 (E.leaf 0) (E.leaf 1))) (l := [40, 51, 44, 48, 44, 49, 41]) (by kernel_rfl) hT h7_0 (by decide) (by decide)) (by kernel_rfl) ?_
  intro v8 I8 w8 le8 h8 s
  replace hT := Tab.mono le8 hT
  replace h2_0 := ERep.mono le8 h2_0
  replace h4_0 := ERep.mono le8 h4_0
  replace h7_0 := ERep.mono le8 h7_0
  obtain rfl := h8
  refine ops_rule (C := []) [((φ3 0), .cells #[.int .u64 ((b2 : Nat) : Int), .pointer p2] 27), ((φ5 0), .cells #[.int .u64 ((b4 : Nat) : Int), .pointer p4] 27)] [] 3 [] 0 (fun φ9 => [(0, .bool true), (25, .bool true), (24, .bool true)]) (fun φ9 => [((φ3 0), .cells #[.int .u64 ((b2 : Nat) : Int), .pointer p2] 27), ((φ5 0), .cells #[.int .u64 ((b4 : Nat) : Int), .pointer p4] 27)]) (fun φ9 => []) s trivial (fun φ9 => by kernel_rfl) ?_
  intro φ9 w9 s
  refine ops_done (by kernel_rfl) ?_
  refine wp_ret ?_
  refine ret_rule (C := []) [((φ3 0), .cells #[.int .u64 ((b2 : Nat) : Int), .pointer p2] 27), ((φ5 0), .cells #[.int .u64 ((b4 : Nat) : Int), .pointer p4] 27)] [] (.bool true) [] [] s trivial (by kernel_rfl) ?_
  exact ⟨_, _, _, rfl, s, rfl⟩

end Go.Proofs.YtgdickihjaomjaaDoor
/- like of layer 2. -/
set_option linter.all false
set_option maxRecDepth 100000
namespace Go.Proofs.YtgdickihjaomjaaDoor
open Go.RowKit Go.Sep
attribute [local irreducible] Go.wpList Go.Code.wp
theorem rminL_c {I : IM} {e : E} {k : Nat} (hn : e.nf) (ht : e.top < 18446744073709551616) (h : RE I e k) : Fun Tryd.prog 71 #[.pointer (some ⟨k, 0, none⟩)] I (fun v J => v = .int .u64 ((e.base : Nat) : Int)) := by
  have h1 := rmin_c e h ht
  rw [E.min_base hn] at h1; exact h1

end Go.Proofs.YtgdickihjaomjaaDoor
/- Of any two trees: at most, and joined, place by place; texts tell trees apart. -/
set_option linter.all false
set_option maxRecDepth 100000
namespace Go.Proofs.YtgdickihjaomjaaDoor
open Go.RowKit Go.Sep
attribute [local irreducible] Go.wpList Go.Code.wp
def isDg (c : UInt8) : Prop := 48 ≤ c.toNat ∧ c.toNat ≤ 57
def valD (l : List UInt8) : Nat := l.foldl (fun a c => a * 10 + (c.toNat - 48)) 0
theorem leMono9 {A I J : IM} (le : I.Le J) (h : A.Le I) : A.Le J := h.trans le

end Go.Proofs.YtgdickihjaomjaaDoor

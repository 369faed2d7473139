/- DiskNil. -/
import Derived.Test.YtccjlkjadnghgaaDnD4
set_option linter.all false
set_option maxRecDepth 100000
namespace Go.Proofs.Ytccjlkjadnghgaa
open Go.RowKit Go.Sep
attribute [local irreducible] Go.wpList Go.Code.wp

set_option maxHeartbeats 400000 in
theorem eqNN_c {I : IM} : Fun Try.prog 40 #[.map none, .map none, .func (.func 18) #[] #[]] I (fun v J => v = .bool true) := by
  refine enter_rule 38 [(0, .map none), (1, .map none), (2, .func (.func 18) #[] #[])] Try.func40 rfl (by kernel_rfl) ?_
  intro w s
  refine wp_seq ?_
  refine region_rule ?_
  refine ops_rule (C := []) [] [] 1 [] 0 (fun φ1 => [(6, .bool false)]) (fun φ1 => []) (fun φ1 => []) s trivial (fun φ1 => by kernel_rfl) ?_
  intro φ1 w1 s
  refine ops_done (by kernel_rfl) ?_
  refine wp_seq ?_
  refine wp_seq ?_
  refine region_rule ?_
  refine ops_rule (C := []) [] [] 5 [] 0 (fun φ2 => [(15, .bool false), (14, .int .i64 0), (13, .map none), (12, .int .i64 0), (11, .map none)]) (fun φ2 => []) (fun φ2 => []) s trivial (fun φ2 => by kernel_rfl) ?_
  intro φ2 w2 s
  refine ops_done (by kernel_rfl) ?_
  refine cond_false_rule (b := false) (by kernel_rfl) rfl ?_
  refine wp_skip ?_
  refine wp_seq ?_
  refine wp_seq ?_
  refine region_rule ?_
  refine ops_rule (C := []) [] [] 2 [] 1 (fun φ3 => [(17, .pointer (some ⟨(φ3 0), 0, none⟩)), (16, .map none)]) (fun φ3 => [((φ3 0), .mapIter none 0 #[] 0)]) (fun φ3 => []) s trivial (fun φ3 => by kernel_rfl) ?_
  intro φ3 w3 s
  refine ops_done (by kernel_rfl) ?_
  refine wp_block ?_
  refine Go.wp_loop_rounds 1 ?_
  refine rounds_step (n := 0) ?_
  refine wp_seq ?_
  refine region_rule ?_
  refine ops_rule (C := []) [((φ3 0), .mapIter none 0 #[] 0)] [] 2 [.o 0] 0 (fun φ4 => [(19, .bool false), (18, .tuple #[.bool false])]) (fun φ4 => [((φ3 0), .mapIter none 0 #[] 0)]) (fun φ4 => [(φ3 0)]) s trivial (fun φ4 => by kernel_rfl) ?_
  intro φ4 w4 s
  refine ops_done (by kernel_rfl) ?_
  refine wp_seq ?_
  refine cond_false_rule (b := false) (by kernel_rfl) rfl ?_
  refine wp_exit ?_
  refine wp_seq ?_
  refine region_rule ?_
  refine ops_rule (C := []) [((φ3 0), .mapIter none 0 #[] 0)] [] 1 [] 0 (fun φ5 => [(6, .bool true)]) (fun φ5 => [((φ3 0), .mapIter none 0 #[] 0)]) (fun φ5 => []) s trivial (fun φ5 => by kernel_rfl) ?_
  intro φ5 w5 s
  refine ops_done (by kernel_rfl) ?_
  refine wp_ret ?_
  refine ret_rule (C := []) [((φ3 0), .mapIter none 0 #[] 0)] [] (.bool true) [] [] s trivial (by kernel_rfl) ?_
  exact ⟨_, _, _, rfl, s, rfl⟩

set_option maxHeartbeats 400000 in
theorem eqNE_c {I : IM} {m : Nat} (hm : I m = some (.map #[] 0)) : Fun Try.prog 40 #[.map none, .map (some m), .func (.func 18) #[] #[]] I (fun v J => v = .bool true) := by
  refine enter_rule 38 [(0, .map none), (1, .map (some m)), (2, .func (.func 18) #[] #[])] Try.func40 rfl (by kernel_rfl) ?_
  intro w s
  refine wp_seq ?_
  refine region_rule ?_
  refine ops_rule (C := []) [] [] 1 [] 0 (fun φ1 => [(6, .bool false)]) (fun φ1 => []) (fun φ1 => []) s trivial (fun φ1 => by kernel_rfl) ?_
  intro φ1 w1 s
  refine ops_done (by kernel_rfl) ?_
  refine wp_seq ?_
  refine wp_seq ?_
  refine region_rule ?_
  refine ops_rule (C := [(m, .map #[] 0)]) [] [] 5 [.c 0] 0 (fun φ2 => [(15, .bool false), (14, .int .i64 0), (13, .map (some m)), (12, .int .i64 0), (11, .map none)]) (fun φ2 => []) (fun φ2 => [m]) s ⟨hm, trivial⟩ (fun φ2 => by kernel_rfl) ?_
  intro φ2 w2 s
  refine ops_done (by kernel_rfl) ?_
  refine cond_false_rule (b := false) (by kernel_rfl) rfl ?_
  refine wp_skip ?_
  refine wp_seq ?_
  refine wp_seq ?_
  refine region_rule ?_
  refine ops_rule (C := []) [] [] 2 [] 1 (fun φ3 => [(17, .pointer (some ⟨(φ3 0), 0, none⟩)), (16, .map none)]) (fun φ3 => [((φ3 0), .mapIter none 0 #[] 0)]) (fun φ3 => []) s trivial (fun φ3 => by kernel_rfl) ?_
  intro φ3 w3 s
  refine ops_done (by kernel_rfl) ?_
  refine wp_block ?_
  refine Go.wp_loop_rounds 1 ?_
  refine rounds_step (n := 0) ?_
  refine wp_seq ?_
  refine region_rule ?_
  refine ops_rule (C := []) [((φ3 0), .mapIter none 0 #[] 0)] [] 2 [.o 0] 0 (fun φ4 => [(19, .bool false), (18, .tuple #[.bool false])]) (fun φ4 => [((φ3 0), .mapIter none 0 #[] 0)]) (fun φ4 => [(φ3 0)]) s trivial (fun φ4 => by kernel_rfl) ?_
  intro φ4 w4 s
  refine ops_done (by kernel_rfl) ?_
  refine wp_seq ?_
  refine cond_false_rule (b := false) (by kernel_rfl) rfl ?_
  refine wp_exit ?_
  refine wp_seq ?_
  refine region_rule ?_
  refine ops_rule (C := []) [((φ3 0), .mapIter none 0 #[] 0)] [] 1 [] 0 (fun φ5 => [(6, .bool true)]) (fun φ5 => [((φ3 0), .mapIter none 0 #[] 0)]) (fun φ5 => []) s trivial (fun φ5 => by kernel_rfl) ?_
  intro φ5 w5 s
  refine ops_done (by kernel_rfl) ?_
  refine wp_ret ?_
  refine ret_rule (C := []) [((φ3 0), .mapIter none 0 #[] 0)] [] (.bool true) [] [] s trivial (by kernel_rfl) ?_
  exact ⟨_, _, _, rfl, s, rfl⟩

set_option maxHeartbeats 400000 in
theorem allN_c {I : IM} : Fun Try.prog 41 #[.pointer none] I (fun v J => v = .map none) := by
  refine enter_rule 9 [(0, .pointer none)] Try.func41 rfl (by kernel_rfl) ?_
  intro w s
  refine wp_seq ?_
  refine region_rule ?_
  refine ops_rule (C := []) [] [] 1 [] 0 (fun φ1 => [(2, .map none)]) (fun φ1 => []) (fun φ1 => []) s trivial (fun φ1 => by kernel_rfl) ?_
  intro φ1 w1 s
  refine ops_done (by kernel_rfl) ?_
  refine wp_seq ?_
  refine wp_seq ?_
  refine region_rule ?_
  refine ops_rule (C := []) [] [] 2 [] 0 (fun φ2 => [(4, .bool true), (3, .pointer none)]) (fun φ2 => []) (fun φ2 => []) s trivial (fun φ2 => by kernel_rfl) ?_
  intro φ2 w2 s
  refine ops_done (by kernel_rfl) ?_
  refine cond_true_rule (b := true) (by kernel_rfl) rfl ?_
  refine wp_seq ?_
  refine region_rule ?_
  refine ops_rule (C := []) [] [] 1 [] 0 (fun φ3 => [(2, .map none)]) (fun φ3 => []) (fun φ3 => []) s trivial (fun φ3 => by kernel_rfl) ?_
  intro φ3 w3 s
  refine ops_done (by kernel_rfl) ?_
  refine wp_ret ?_
  refine ret_rule (C := []) [] [] (.map none) [] [] s trivial (by kernel_rfl) ?_
  exact ⟨_, _, _, rfl, s, rfl⟩

set_option maxHeartbeats 400000 in
theorem allD_c {I : IM} {d m : Nat} {R : Int} (hd : I d = some (.cells #[.map (some m), .int .i64 R, .int .i64 0, .bool false, .bool false, .int .i64 0, .int .i64 0] 70)) : Fun Try.prog 41 #[.pointer (some ⟨d, 0, none⟩)] I (fun v J => v = .map (some m)) := by
  refine enter_rule 9 [(0, .pointer (some ⟨d, 0, none⟩))] Try.func41 rfl (by kernel_rfl) ?_
  intro w s
  refine wp_seq ?_
  refine region_rule ?_
  refine ops_rule (C := []) [] [] 1 [] 0 (fun φ1 => [(2, .map none)]) (fun φ1 => []) (fun φ1 => []) s trivial (fun φ1 => by kernel_rfl) ?_
  intro φ1 w1 s
  refine ops_done (by kernel_rfl) ?_
  refine wp_seq ?_
  refine wp_seq ?_
  refine region_rule ?_
  refine ops_rule (C := []) [] [] 2 [] 0 (fun φ2 => [(4, .bool false), (3, .pointer (some ⟨d, 0, none⟩))]) (fun φ2 => []) (fun φ2 => []) s trivial (fun φ2 => by kernel_rfl) ?_
  intro φ2 w2 s
  refine ops_done (by kernel_rfl) ?_
  refine cond_false_rule (b := false) (by kernel_rfl) rfl ?_
  refine wp_skip ?_
  refine wp_seq ?_
  refine region_rule ?_
  refine ops_rule (C := [(d, .cells #[.map (some m), .int .i64 R, .int .i64 0, .bool false, .bool false, .int .i64 0, .int .i64 0] 70)]) [] [] 5 [.c 0] 0 (fun φ3 => [(2, .map (some m)), (8, .map (some m)), (7, .pointer (some ⟨d, 0, none⟩)), (6, .pointer (some ⟨d, 0, none⟩)), (5, .pointer (some ⟨d, 0, none⟩))]) (fun φ3 => []) (fun φ3 => [d]) s ⟨hd, trivial⟩ (fun φ3 => by kernel_rfl) ?_
  intro φ3 w3 s
  refine ops_done (by kernel_rfl) ?_
  refine wp_ret ?_
  refine ret_rule (C := []) [] [] (.map (some m)) [] [] s trivial (by kernel_rfl) ?_
  exact ⟨_, _, _, rfl, s, rfl⟩

set_option maxHeartbeats 400000 in
theorem roomZ_c {I : IM} {d m : Nat} {R : Int} (hd : I d = some (.cells #[.map (some m), .int .i64 R, .int .i64 0, .bool false, .bool false, .int .i64 0, .int .i64 0] 70)) : Fun Try.prog 32 #[.pointer (some ⟨d, 0, none⟩)] I (fun v J => v = .int .i64 R) := by
  refine enter_rule 9 [(0, .pointer (some ⟨d, 0, none⟩))] Try.func32 rfl (by kernel_rfl) ?_
  intro w s
  refine wp_seq ?_
  refine region_rule ?_
  refine ops_rule (C := []) [] [] 1 [] 0 (fun φ1 => [(2, .int .i64 0)]) (fun φ1 => []) (fun φ1 => []) s trivial (fun φ1 => by kernel_rfl) ?_
  intro φ1 w1 s
  refine ops_done (by kernel_rfl) ?_
  refine wp_seq ?_
  refine wp_seq ?_
  refine region_rule ?_
  refine ops_rule (C := []) [] [] 2 [] 0 (fun φ2 => [(4, .bool false), (3, .pointer (some ⟨d, 0, none⟩))]) (fun φ2 => []) (fun φ2 => []) s trivial (fun φ2 => by kernel_rfl) ?_
  intro φ2 w2 s
  refine ops_done (by kernel_rfl) ?_
  refine cond_false_rule (b := false) (by kernel_rfl) rfl ?_
  refine wp_skip ?_
  refine wp_seq ?_
  refine region_rule ?_
  refine ops_rule (C := [(d, .cells #[.map (some m), .int .i64 R, .int .i64 0, .bool false, .bool false, .int .i64 0, .int .i64 0] 70)]) [] [] 5 [.c 0] 0 (fun φ3 => [(2, .int .i64 R), (8, .int .i64 R), (7, .pointer (some ⟨d, 1, none⟩)), (6, .pointer (some ⟨d, 0, none⟩)), (5, .pointer (some ⟨d, 0, none⟩))]) (fun φ3 => []) (fun φ3 => [d]) s ⟨hd, trivial⟩ (fun φ3 => by kernel_rfl) ?_
  intro φ3 w3 s
  refine ops_done (by kernel_rfl) ?_
  refine wp_ret ?_
  refine ret_rule (C := []) [] [] (.int .i64 R) [] [] s trivial (by kernel_rfl) ?_
  exact ⟨_, _, _, rfl, s, rfl⟩

set_option maxHeartbeats 400000 in
theorem sameNN_c {I : IM} : Fun Try.prog 25 #[.pointer none, .pointer none] I (fun v J => v = .bool true) := by
  refine enter_rule 10 [(0, .pointer none), (1, .pointer none)] Try.func25 rfl (by kernel_rfl) ?_
  intro w s
  refine wp_seq ?_
  refine region_rule ?_
  refine ops_rule (C := []) [] [] 1 [] 0 (fun φ1 => [(4, .bool false)]) (fun φ1 => []) (fun φ1 => []) s trivial (fun φ1 => by kernel_rfl) ?_
  intro φ1 w1 s
  refine ops_done (by kernel_rfl) ?_
  refine wp_seq ?_
  refine region_rule ?_
  refine ops_rule (C := []) [] [] 1 [] 0 (fun φ2 => [(5, .pointer none)]) (fun φ2 => []) (fun φ2 => []) s trivial (fun φ2 => by kernel_rfl) ?_
  intro φ2 w2 s
  refine call_rule (some 6) s (allN_c) (by kernel_rfl) ?_
  intro v3 I3 w3 le3 h3 s
  obtain rfl := h3
  refine ops_rule (C := []) [] [] 1 [] 0 (fun φ4 => [(7, .pointer none)]) (fun φ4 => []) (fun φ4 => []) s trivial (fun φ4 => by kernel_rfl) ?_
  intro φ4 w4 s
  refine call_rule (some 8) s (allN_c) (by kernel_rfl) ?_
  intro v5 I5 w5 le5 h5 s
  obtain rfl := h5
  refine call_rule (some 9) s (eqNN_c) (by kernel_rfl) ?_
  intro v6 I6 w6 le6 h6 s
  obtain rfl := h6
  refine ops_rule (C := []) [] [] 1 [] 0 (fun φ7 => [(4, .bool true)]) (fun φ7 => []) (fun φ7 => []) s trivial (fun φ7 => by kernel_rfl) ?_
  intro φ7 w7 s
  refine ops_done (by kernel_rfl) ?_
  refine wp_ret ?_
  refine ret_rule (C := []) [] [] (.bool true) [] [] s trivial (by kernel_rfl) ?_
  exact ⟨_, _, _, rfl, s, rfl⟩

set_option maxHeartbeats 400000 in
theorem sameND_c {I : IM} {d m : Nat} {R : Int} (hd : I d = some (.cells #[.map (some m), .int .i64 R, .int .i64 0, .bool false, .bool false, .int .i64 0, .int .i64 0] 70)) (hm : I m = some (.map #[] 0)) : Fun Try.prog 25 #[.pointer none, .pointer (some ⟨d, 0, none⟩)] I (fun v J => v = .bool true) := by
  refine enter_rule 10 [(0, .pointer none), (1, .pointer (some ⟨d, 0, none⟩))] Try.func25 rfl (by kernel_rfl) ?_
  intro w s
  refine wp_seq ?_
  refine region_rule ?_
  refine ops_rule (C := []) [] [] 1 [] 0 (fun φ1 => [(4, .bool false)]) (fun φ1 => []) (fun φ1 => []) s trivial (fun φ1 => by kernel_rfl) ?_
  intro φ1 w1 s
  refine ops_done (by kernel_rfl) ?_
  refine wp_seq ?_
  refine region_rule ?_
  refine ops_rule (C := []) [] [] 1 [] 0 (fun φ2 => [(5, .pointer none)]) (fun φ2 => []) (fun φ2 => []) s trivial (fun φ2 => by kernel_rfl) ?_
  intro φ2 w2 s
  refine call_rule (some 6) s (allN_c) (by kernel_rfl) ?_
  intro v3 I3 w3 le3 h3 s
  replace hd := le3 _ _ hd
  replace hm := le3 _ _ hm
  obtain rfl := h3
  refine ops_rule (C := []) [] [] 1 [] 0 (fun φ4 => [(7, .pointer (some ⟨d, 0, none⟩))]) (fun φ4 => []) (fun φ4 => []) s trivial (fun φ4 => by kernel_rfl) ?_
  intro φ4 w4 s
  refine call_rule (some 8) s (allD_c hd) (by kernel_rfl) ?_
  intro v5 I5 w5 le5 h5 s
  replace hd := le5 _ _ hd
  replace hm := le5 _ _ hm
  obtain rfl := h5
  refine call_rule (some 9) s (eqNE_c hm) (by kernel_rfl) ?_
  intro v6 I6 w6 le6 h6 s
  replace hd := le6 _ _ hd
  replace hm := le6 _ _ hm
  obtain rfl := h6
  refine ops_rule (C := []) [] [] 1 [] 0 (fun φ7 => [(4, .bool true)]) (fun φ7 => []) (fun φ7 => []) s trivial (fun φ7 => by kernel_rfl) ?_
  intro φ7 w7 s
  refine ops_done (by kernel_rfl) ?_
  refine wp_ret ?_
  refine ret_rule (C := []) [] [] (.bool true) [] [] s trivial (by kernel_rfl) ?_
  exact ⟨_, _, _, rfl, s, rfl⟩

set_option maxHeartbeats 400000 in
theorem fullN_c {I : IM} {on : Bool} : Fun Try.prog 28 #[.pointer none, .bool on] I (fun v J => v = .tuple #[]) := by
  refine enter_rule 10 [(0, .pointer none), (1, .bool on)] Try.func28 rfl (by kernel_rfl) ?_
  intro w s
  refine wp_seq ?_
  refine region_rule ?_
  refine ops_rule (C := []) [] [] 2 [] 0 (fun φ1 => [(5, .bool false), (4, .pointer none)]) (fun φ1 => []) (fun φ1 => []) s trivial (fun φ1 => by kernel_rfl) ?_
  intro φ1 w1 s
  refine ops_done (by kernel_rfl) ?_
  refine cond_false_rule (b := false) (by kernel_rfl) rfl ?_
  refine wp_skip ?_
  refine end_rule (C := []) [] [] (.tuple #[]) [] [] s trivial (by kernel_rfl) ?_
  exact ⟨_, _, _, rfl, s, rfl⟩

set_option maxHeartbeats 400000 in
theorem armN_c {I : IM} {z y : Int} : Fun Try.prog 15 #[.pointer none, .int .i64 z, .int .i64 y] I (fun v J => v = .tuple #[]) := by
  refine enter_rule 20 [(0, .pointer none), (1, .int .i64 z), (2, .int .i64 y)] Try.func15 rfl (by kernel_rfl) ?_
  intro w s
  refine wp_seq ?_
  refine region_rule ?_
  refine ops_rule (C := []) [] [] 2 [] 0 (fun φ1 => [(7, .bool false), (6, .pointer none)]) (fun φ1 => []) (fun φ1 => []) s trivial (fun φ1 => by kernel_rfl) ?_
  intro φ1 w1 s
  refine ops_done (by kernel_rfl) ?_
  refine cond_false_rule (b := false) (by kernel_rfl) rfl ?_
  refine wp_skip ?_
  refine end_rule (C := []) [] [] (.tuple #[]) [] [] s trivial (by kernel_rfl) ?_
  exact ⟨_, _, _, rfl, s, rfl⟩

set_option maxHeartbeats 400000 in
theorem offN_c {I : IM} : Fun Try.prog 29 #[.pointer none] I (fun v J => v = .tuple #[]) := by
  refine enter_rule 8 [(0, .pointer none)] Try.func29 rfl (by kernel_rfl) ?_
  intro w s
  refine wp_seq ?_
  refine region_rule ?_
  refine ops_rule (C := []) [] [] 2 [] 0 (fun φ1 => [(3, .bool false), (2, .pointer none)]) (fun φ1 => []) (fun φ1 => []) s trivial (fun φ1 => by kernel_rfl) ?_
  intro φ1 w1 s
  refine ops_done (by kernel_rfl) ?_
  refine cond_false_rule (b := false) (by kernel_rfl) rfl ?_
  refine wp_skip ?_
  refine end_rule (C := []) [] [] (.tuple #[]) [] [] s trivial (by kernel_rfl) ?_
  exact ⟨_, _, _, rfl, s, rfl⟩

set_option maxHeartbeats 400000 in
theorem onN_c {I : IM} : Fun Try.prog 20 #[.pointer none] I (fun v J => v = .tuple #[]) := by
  refine enter_rule 8 [(0, .pointer none)] Try.func20 rfl (by kernel_rfl) ?_
  intro w s
  refine wp_seq ?_
  refine region_rule ?_
  refine ops_rule (C := []) [] [] 2 [] 0 (fun φ1 => [(3, .bool false), (2, .pointer none)]) (fun φ1 => []) (fun φ1 => []) s trivial (fun φ1 => by kernel_rfl) ?_
  intro φ1 w1 s
  refine ops_done (by kernel_rfl) ?_
  refine cond_false_rule (b := false) (by kernel_rfl) rfl ?_
  refine wp_skip ?_
  refine end_rule (C := []) [] [] (.tuple #[]) [] [] s trivial (by kernel_rfl) ?_
  exact ⟨_, _, _, rfl, s, rfl⟩

set_option maxHeartbeats 400000 in
theorem readN_c {I : IM} {k : Nat} : Fun Try.prog 13 #[.pointer none, .int .u64 ((k : Nat) : Int)] I (fun v J => v = .tuple #[.slice none 0 0, .bool false]) := by
  refine enter_rule 21 [(0, .pointer none), (1, .int .u64 ((k : Nat) : Int))] Try.func13 rfl (by kernel_rfl) ?_
  intro w s
  refine wp_seq ?_
  refine region_rule ?_
  refine ops_rule (C := []) [] [] 2 [] 0 (fun φ1 => [(5, .bool false), (4, .slice none 0 0)]) (fun φ1 => []) (fun φ1 => []) s trivial (fun φ1 => by kernel_rfl) ?_
  intro φ1 w1 s
  refine ops_done (by kernel_rfl) ?_
  refine wp_seq ?_
  refine wp_seq ?_
  refine region_rule ?_
  refine ops_rule (C := []) [] [] 2 [] 0 (fun φ2 => [(7, .bool true), (6, .pointer none)]) (fun φ2 => []) (fun φ2 => []) s trivial (fun φ2 => by kernel_rfl) ?_
  intro φ2 w2 s
  refine ops_done (by kernel_rfl) ?_
  refine cond_true_rule (b := true) (by kernel_rfl) rfl ?_
  refine wp_seq ?_
  refine region_rule ?_
  refine ops_rule (C := []) [] [] 2 [] 0 (fun φ3 => [(5, .bool false), (4, .slice none 0 0)]) (fun φ3 => []) (fun φ3 => []) s trivial (fun φ3 => by kernel_rfl) ?_
  intro φ3 w3 s
  refine ops_done (by kernel_rfl) ?_
  refine wp_ret ?_
  refine ret_rule (C := []) [] [] (.tuple #[.slice none 0 0, .bool false]) [] [] s trivial (by kernel_rfl) ?_
  exact ⟨_, _, _, rfl, s, rfl⟩

set_option maxHeartbeats 400000 in
theorem dropN_c {I : IM} {k : Nat} : Fun Try.prog 30 #[.pointer none, .int .u64 ((k : Nat) : Int)] I (fun v J => v = .int .i64 2) := by
  refine enter_rule 57 [(0, .pointer none), (1, .int .u64 ((k : Nat) : Int))] Try.func30 rfl (by kernel_rfl) ?_
  intro w s
  refine wp_seq ?_
  refine region_rule ?_
  refine ops_rule (C := []) [] [] 1 [] 0 (fun φ1 => [(4, .int .i64 0)]) (fun φ1 => []) (fun φ1 => []) s trivial (fun φ1 => by kernel_rfl) ?_
  intro φ1 w1 s
  refine ops_done (by kernel_rfl) ?_
  refine wp_seq ?_
  refine wp_block ?_
  refine wp_seq ?_
  refine region_rule ?_
  refine ops_rule (C := []) [] [] 3 [] 0 (fun φ2 => [(6, .bool true), (8, .bool true), (7, .pointer none)]) (fun φ2 => []) (fun φ2 => []) s trivial (fun φ2 => by kernel_rfl) ?_
  intro φ2 w2 s
  refine ops_done (by kernel_rfl) ?_
  refine cond_true_rule (b := true) (by kernel_rfl) rfl ?_
  refine wp_seq ?_
  refine region_rule ?_
  refine ops_rule (C := []) [] [] 1 [] 0 (fun φ3 => [(4, .int .i64 2)]) (fun φ3 => []) (fun φ3 => []) s trivial (fun φ3 => by kernel_rfl) ?_
  intro φ3 w3 s
  refine ops_done (by kernel_rfl) ?_
  refine wp_ret ?_
  refine ret_rule (C := []) [] [] (.int .i64 2) [] [] s trivial (by kernel_rfl) ?_
  exact ⟨_, _, _, rfl, s, rfl⟩

set_option maxHeartbeats 400000 in
theorem segsN_c {I : IM} : Fun Try.prog 31 #[.pointer none] I (fun v J => v = .slice none 0 0) := by
  refine enter_rule 11 [(0, .pointer none)] Try.func31 rfl (by kernel_rfl) ?_
  intro w s
  refine wp_seq ?_
  refine region_rule ?_
  refine ops_rule (C := []) [] [] 1 [] 0 (fun φ1 => [(2, .slice none 0 0)]) (fun φ1 => []) (fun φ1 => []) s trivial (fun φ1 => by kernel_rfl) ?_
  intro φ1 w1 s
  refine ops_done (by kernel_rfl) ?_
  refine wp_seq ?_
  refine wp_seq ?_
  refine region_rule ?_
  refine ops_rule (C := []) [] [] 2 [] 0 (fun φ2 => [(4, .bool true), (3, .pointer none)]) (fun φ2 => []) (fun φ2 => []) s trivial (fun φ2 => by kernel_rfl) ?_
  intro φ2 w2 s
  refine ops_done (by kernel_rfl) ?_
  refine cond_true_rule (b := true) (by kernel_rfl) rfl ?_
  refine wp_seq ?_
  refine region_rule ?_
  refine ops_rule (C := []) [] [] 1 [] 0 (fun φ3 => [(2, .slice none 0 0)]) (fun φ3 => []) (fun φ3 => []) s trivial (fun φ3 => by kernel_rfl) ?_
  intro φ3 w3 s
  refine ops_done (by kernel_rfl) ?_
  refine wp_ret ?_
  refine ret_rule (C := []) [] [] (.slice none 0 0) [] [] s trivial (by kernel_rfl) ?_
  exact ⟨_, _, _, rfl, s, rfl⟩

set_option maxHeartbeats 400000 in
theorem usedN_c {I : IM} : Fun Try.prog 22 #[.pointer none] I (fun v J => v = .int .i64 0) := by
  refine enter_rule 9 [(0, .pointer none)] Try.func22 rfl (by kernel_rfl) ?_
  intro w s
  refine wp_seq ?_
  refine region_rule ?_
  refine ops_rule (C := []) [] [] 1 [] 0 (fun φ1 => [(2, .int .i64 0)]) (fun φ1 => []) (fun φ1 => []) s trivial (fun φ1 => by kernel_rfl) ?_
  intro φ1 w1 s
  refine ops_done (by kernel_rfl) ?_
  refine wp_seq ?_
  refine wp_seq ?_
  refine region_rule ?_
  refine ops_rule (C := []) [] [] 2 [] 0 (fun φ2 => [(4, .bool true), (3, .pointer none)]) (fun φ2 => []) (fun φ2 => []) s trivial (fun φ2 => by kernel_rfl) ?_
  intro φ2 w2 s
  refine ops_done (by kernel_rfl) ?_
  refine cond_true_rule (b := true) (by kernel_rfl) rfl ?_
  refine wp_seq ?_
  refine region_rule ?_
  refine ops_rule (C := []) [] [] 1 [] 0 (fun φ3 => [(2, .int .i64 0)]) (fun φ3 => []) (fun φ3 => []) s trivial (fun φ3 => by kernel_rfl) ?_
  intro φ3 w3 s
  refine ops_done (by kernel_rfl) ?_
  refine wp_ret ?_
  refine ret_rule (C := []) [] [] (.int .i64 0) [] [] s trivial (by kernel_rfl) ?_
  exact ⟨_, _, _, rfl, s, rfl⟩

set_option maxHeartbeats 400000 in
theorem roomN_c {I : IM} : Fun Try.prog 32 #[.pointer none] I (fun v J => v = .int .i64 0) := by
  refine enter_rule 9 [(0, .pointer none)] Try.func32 rfl (by kernel_rfl) ?_
  intro w s
  refine wp_seq ?_
  refine region_rule ?_
  refine ops_rule (C := []) [] [] 1 [] 0 (fun φ1 => [(2, .int .i64 0)]) (fun φ1 => []) (fun φ1 => []) s trivial (fun φ1 => by kernel_rfl) ?_
  intro φ1 w1 s
  refine ops_done (by kernel_rfl) ?_
  refine wp_seq ?_
  refine wp_seq ?_
  refine region_rule ?_
  refine ops_rule (C := []) [] [] 2 [] 0 (fun φ2 => [(4, .bool true), (3, .pointer none)]) (fun φ2 => []) (fun φ2 => []) s trivial (fun φ2 => by kernel_rfl) ?_
  intro φ2 w2 s
  refine ops_done (by kernel_rfl) ?_
  refine cond_true_rule (b := true) (by kernel_rfl) rfl ?_
  refine wp_seq ?_
  refine region_rule ?_
  refine ops_rule (C := []) [] [] 1 [] 0 (fun φ3 => [(2, .int .i64 0)]) (fun φ3 => []) (fun φ3 => []) s trivial (fun φ3 => by kernel_rfl) ?_
  intro φ3 w3 s
  refine ops_done (by kernel_rfl) ?_
  refine wp_ret ?_
  refine ret_rule (C := []) [] [] (.int .i64 0) [] [] s trivial (by kernel_rfl) ?_
  exact ⟨_, _, _, rfl, s, rfl⟩

set_option maxHeartbeats 400000 in
theorem armedN_c {I : IM} : Fun Try.prog 21 #[.pointer none] I (fun v J => v = .int .i64 0) := by
  refine enter_rule 10 [(0, .pointer none)] Try.func21 rfl (by kernel_rfl) ?_
  intro w s
  refine wp_seq ?_
  refine region_rule ?_
  refine ops_rule (C := []) [] [] 1 [] 0 (fun φ1 => [(2, .int .i64 0)]) (fun φ1 => []) (fun φ1 => []) s trivial (fun φ1 => by kernel_rfl) ?_
  intro φ1 w1 s
  refine ops_done (by kernel_rfl) ?_
  refine wp_seq ?_
  refine wp_seq ?_
  refine region_rule ?_
  refine ops_rule (C := []) [] [] 2 [] 0 (fun φ2 => [(4, .bool true), (3, .pointer none)]) (fun φ2 => []) (fun φ2 => []) s trivial (fun φ2 => by kernel_rfl) ?_
  intro φ2 w2 s
  refine ops_done (by kernel_rfl) ?_
  refine cond_true_rule (b := true) (by kernel_rfl) rfl ?_
  refine wp_seq ?_
  refine region_rule ?_
  refine ops_rule (C := []) [] [] 1 [] 0 (fun φ3 => [(2, .int .i64 0)]) (fun φ3 => []) (fun φ3 => []) s trivial (fun φ3 => by kernel_rfl) ?_
  intro φ3 w3 s
  refine ops_done (by kernel_rfl) ?_
  refine wp_ret ?_
  refine ret_rule (C := []) [] [] (.int .i64 0) [] [] s trivial (by kernel_rfl) ?_
  exact ⟨_, _, _, rfl, s, rfl⟩

set_option maxHeartbeats 400000 in
theorem upN_c {I : IM} : Fun Try.prog 19 #[.pointer none] I (fun v J => v = .bool false) := by
  refine enter_rule 13 [(0, .pointer none)] Try.func19 rfl (by kernel_rfl) ?_
  intro w s
  refine wp_seq ?_
  refine region_rule ?_
  refine ops_rule (C := []) [] [] 1 [] 0 (fun φ1 => [(2, .bool false)]) (fun φ1 => []) (fun φ1 => []) s trivial (fun φ1 => by kernel_rfl) ?_
  intro φ1 w1 s
  refine ops_done (by kernel_rfl) ?_
  refine wp_seq ?_
  refine region_rule ?_
  refine ops_rule (C := []) [] [] 11 [] 0 (fun φ2 => [(2, .bool false), (12, .bool false), (11, undef), (10, undef), (9, undef), (8, undef), (7, undef), (6, undef), (5, .bool false), (4, .bool false), (3, .pointer none)]) (fun φ2 => []) (fun φ2 => []) s trivial (fun φ2 => by kernel_rfl) ?_
  intro φ2 w2 s
  refine ops_done (by kernel_rfl) ?_
  refine wp_ret ?_
  refine ret_rule (C := []) [] [] (.bool false) [] [] s trivial (by kernel_rfl) ?_
  exact ⟨_, _, _, rfl, s, rfl⟩

set_option maxHeartbeats 400000 in
theorem copyN_c {I : IM} : Fun Try.prog 23 #[.pointer none] I (fun v J => v = .pointer none) := by
  refine enter_rule 15 [(0, .pointer none)] Try.func23 rfl (by kernel_rfl) ?_
  intro w s
  refine wp_seq ?_
  refine region_rule ?_
  refine ops_rule (C := []) [] [] 1 [] 0 (fun φ1 => [(2, .pointer none)]) (fun φ1 => []) (fun φ1 => []) s trivial (fun φ1 => by kernel_rfl) ?_
  intro φ1 w1 s
  refine ops_done (by kernel_rfl) ?_
  refine wp_seq ?_
  refine wp_seq ?_
  refine region_rule ?_
  refine ops_rule (C := []) [] [] 2 [] 0 (fun φ2 => [(5, .bool true), (4, .pointer none)]) (fun φ2 => []) (fun φ2 => []) s trivial (fun φ2 => by kernel_rfl) ?_
  intro φ2 w2 s
  refine ops_done (by kernel_rfl) ?_
  refine cond_true_rule (b := true) (by kernel_rfl) rfl ?_
  refine wp_seq ?_
  refine region_rule ?_
  refine ops_rule (C := []) [] [] 1 [] 0 (fun φ3 => [(2, .pointer none)]) (fun φ3 => []) (fun φ3 => []) s trivial (fun φ3 => by kernel_rfl) ?_
  intro φ3 w3 s
  refine ops_done (by kernel_rfl) ?_
  refine wp_ret ?_
  refine ret_rule (C := []) [] [] (.pointer none) [] [] s trivial (by kernel_rfl) ?_
  exact ⟨_, _, _, rfl, s, rfl⟩

set_option maxHeartbeats 400000 in
theorem appN_c {I : IM} {k n c : Nat} {a : Option Addr} : Fun Try.prog 17 #[.pointer none, .int .u64 ((k : Nat) : Int), .slice a n c] I (fun v J => v = .int .i64 2) := by
  refine enter_rule 75 [(0, .pointer none), (1, .int .u64 ((k : Nat) : Int)), (2, .slice a n c)] Try.func17 rfl (by kernel_rfl) ?_
  intro w s
  refine wp_seq ?_
  refine region_rule ?_
  refine ops_rule (C := []) [] [] 1 [] 0 (fun φ1 => [(6, .int .i64 0)]) (fun φ1 => []) (fun φ1 => []) s trivial (fun φ1 => by kernel_rfl) ?_
  intro φ1 w1 s
  refine ops_done (by kernel_rfl) ?_
  refine wp_seq ?_
  refine wp_block ?_
  refine wp_seq ?_
  refine region_rule ?_
  refine ops_rule (C := []) [] [] 3 [] 0 (fun φ2 => [(8, .bool true), (10, .bool true), (9, .pointer none)]) (fun φ2 => []) (fun φ2 => []) s trivial (fun φ2 => by kernel_rfl) ?_
  intro φ2 w2 s
  refine ops_done (by kernel_rfl) ?_
  refine cond_true_rule (b := true) (by kernel_rfl) rfl ?_
  refine wp_seq ?_
  refine region_rule ?_
  refine ops_rule (C := []) [] [] 1 [] 0 (fun φ3 => [(6, .int .i64 2)]) (fun φ3 => []) (fun φ3 => []) s trivial (fun φ3 => by kernel_rfl) ?_
  intro φ3 w3 s
  refine ops_done (by kernel_rfl) ?_
  refine wp_ret ?_
  refine ret_rule (C := []) [] [] (.int .i64 2) [] [] s trivial (by kernel_rfl) ?_
  exact ⟨_, _, _, rfl, s, rfl⟩

set_option maxHeartbeats 4000000 in
theorem diskNil_c {I : IM} {l : List UInt8} {a : Option Addr} {n c k : Nat} {z : Int} {on : Bool} (hl : BSl I l (.slice a n c)) : Fun Try.prog 6 #[.int .u64 ((k : Nat) : Int), .slice a n c, .int .i64 z, .bool on] I (fun v J => v = .bool true) := by
  obtain ⟨rfl, -⟩ := hl.cap
  refine enter_rule 87 [(0, .int .u64 ((k : Nat) : Int)), (1, .slice a l.length c), (2, .int .i64 z), (3, .bool on)] Try.func6 rfl (by kernel_rfl) ?_
  intro w s
  refine wp_seq ?_
  refine region_rule ?_
  refine ops_rule (C := []) [] [] 1 [] 0 (fun φ1 => [(8, .bool false)]) (fun φ1 => []) (fun φ1 => []) s trivial (fun φ1 => by kernel_rfl) ?_
  intro φ1 w1 s
  refine ops_done (by kernel_rfl) ?_
  refine wp_seq ?_
  refine wp_seq ?_
  refine region_rule ?_
  refine call_rule (some 12) s (awake11_c) (by kernel_rfl) ?_
  intro v2 I2 w2 le2 h2 s
  replace hl := BSl.mono le2 hl
  obtain rfl := h2
  refine ops_rule (C := []) [] [] 1 [] 0 (fun φ3 => [(13, .bool false)]) (fun φ3 => []) (fun φ3 => []) s trivial (fun φ3 => by kernel_rfl) ?_
  intro φ3 w3 s
  refine ops_done (by kernel_rfl) ?_
  refine cond_false_rule (b := false) (by kernel_rfl) rfl ?_
  refine wp_skip ?_
  refine wp_seq ?_
  refine region_rule ?_
  refine ops_rule (C := []) [] [] 1 [] 0 (fun φ4 => [(9, .pointer none)]) (fun φ4 => []) (fun φ4 => []) s trivial (fun φ4 => by kernel_rfl) ?_
  intro φ4 w4 s
  refine ops_done (by kernel_rfl) ?_
  refine wp_seq ?_
  refine region_rule ?_
  refine ops_rule (C := []) [] [] 2 [] 0 (fun φ5 => [(15, .bool on), (14, .pointer none)]) (fun φ5 => []) (fun φ5 => []) s trivial (fun φ5 => by kernel_rfl) ?_
  intro φ5 w5 s
  refine call_rule (some 16) s (fullN_c (on := on)) (by kernel_rfl) ?_
  intro v6 I6 w6 le6 h6 s
  replace hl := BSl.mono le6 hl
  obtain rfl := h6
  refine ops_done (by kernel_rfl) ?_
  refine wp_seq ?_
  refine region_rule ?_
  refine ops_rule (C := []) [] [] 3 [] 0 (fun φ7 => [(19, .int .i64 z), (18, .int .i64 z), (17, .pointer none)]) (fun φ7 => []) (fun φ7 => []) s trivial (fun φ7 => by kernel_rfl) ?_
  intro φ7 w7 s
  refine call_rule (some 20) s (armN_c (z := z) (y := z)) (by kernel_rfl) ?_
  intro v8 I8 w8 le8 h8 s
  replace hl := BSl.mono le8 hl
  obtain rfl := h8
  refine ops_done (by kernel_rfl) ?_
  refine wp_seq ?_
  refine region_rule ?_
  refine ops_rule (C := []) [] [] 1 [] 0 (fun φ9 => [(21, .pointer none)]) (fun φ9 => []) (fun φ9 => []) s trivial (fun φ9 => by kernel_rfl) ?_
  intro φ9 w9 s
  refine call_rule (some 22) s (offN_c) (by kernel_rfl) ?_
  intro v10 I10 w10 le10 h10 s
  replace hl := BSl.mono le10 hl
  obtain rfl := h10
  refine ops_done (by kernel_rfl) ?_
  refine wp_seq ?_
  refine region_rule ?_
  refine ops_rule (C := []) [] [] 1 [] 0 (fun φ11 => [(23, .pointer none)]) (fun φ11 => []) (fun φ11 => []) s trivial (fun φ11 => by kernel_rfl) ?_
  intro φ11 w11 s
  refine call_rule (some 24) s (onN_c) (by kernel_rfl) ?_
  intro v12 I12 w12 le12 h12 s
  replace hl := BSl.mono le12 hl
  obtain rfl := h12
  refine ops_done (by kernel_rfl) ?_
  refine wp_seq ?_
  refine region_rule ?_
  refine ops_rule (C := []) [] [] 2 [] 0 (fun φ13 => [(27, .int .u64 ((k : Nat) : Int)), (26, .pointer none)]) (fun φ13 => []) (fun φ13 => []) s trivial (fun φ13 => by kernel_rfl) ?_
  intro φ13 w13 s
  refine call_rule (some 28) s (readN_c (k := k)) (by kernel_rfl) ?_
  intro v14 I14 w14 le14 h14 s
  replace hl := BSl.mono le14 hl
  obtain rfl := h14
  refine ops_rule (C := []) [] [] 5 [] 0 (fun φ15 => [(11, .bool false), (10, .slice none 0 0), (30, .bool false), (29, .slice none 0 0), (25, .tuple #[.slice none 0 0, .bool false])]) (fun φ15 => []) (fun φ15 => []) s trivial (fun φ15 => by kernel_rfl) ?_
  intro φ15 w15 s
  refine ops_done (by kernel_rfl) ?_
  refine wp_seq ?_
  refine region_rule ?_
  refine ops_rule (C := []) [] [] 3 [] 0 (fun φ16 => [(33, .slice a l.length c), (32, .int .u64 ((k : Nat) : Int)), (31, .pointer none)]) (fun φ16 => []) (fun φ16 => []) s trivial (fun φ16 => by kernel_rfl) ?_
  intro φ16 w16 s
  refine call_rule (some 34) s (cut_c hl) (by kernel_rfl) ?_
  intro v17 I17 w17 le17 h17 s
  replace hl := BSl.mono le17 hl
  obtain ⟨a17, c17, rfl, h17_0⟩ := h17
  refine call_rule (some 35) s (appN_c (k := k) (n := (List.length (l.take 40))) (c := c17) (a := a17)) (by kernel_rfl) ?_
  intro v18 I18 w18 le18 h18 s
  replace hl := BSl.mono le18 hl
  replace h17_0 := BSl.mono le18 h17_0
  obtain rfl := h18
  refine ops_rule (C := []) [] [] 4 [] 0 (fun φ19 => [(39, .int .u64 ((k : Nat) : Int)), (38, .pointer none), (37, .bool true), (36, .bool true)]) (fun φ19 => []) (fun φ19 => []) s trivial (fun φ19 => by kernel_rfl) ?_
  intro φ19 w19 s
  refine call_rule (some 40) s (dropN_c (k := k)) (by kernel_rfl) ?_
  intro v20 I20 w20 le20 h20 s
  replace hl := BSl.mono le20 hl
  replace h17_0 := BSl.mono le20 h17_0
  obtain rfl := h20
  refine ops_rule (C := []) [] [] 8 [] 0 (fun φ21 => [(48, .pointer none), (47, .bool true), (46, .bool true), (45, .bool true), (44, .bool false), (43, .bool true), (42, .bool true), (41, .bool true)]) (fun φ21 => []) (fun φ21 => []) s trivial (fun φ21 => by kernel_rfl) ?_
  intro φ21 w21 s
  refine call_rule (some 49) s (segsN_c) (by kernel_rfl) ?_
  intro v22 I22 w22 le22 h22 s
  replace hl := BSl.mono le22 hl
  replace h17_0 := BSl.mono le22 h17_0
  obtain rfl := h22
  refine ops_rule (C := []) [] [] 2 [] 0 (fun φ23 => [(51, .pointer none), (50, .int .i64 0)]) (fun φ23 => []) (fun φ23 => []) s trivial (fun φ23 => by kernel_rfl) ?_
  intro φ23 w23 s
  refine call_rule (some 52) s (usedN_c) (by kernel_rfl) ?_
  intro v24 I24 w24 le24 h24 s
  replace hl := BSl.mono le24 hl
  replace h17_0 := BSl.mono le24 h17_0
  obtain rfl := h24
  refine ops_rule (C := []) [] [] 2 [] 0 (fun φ25 => [(54, .pointer none), (53, .int .i64 0)]) (fun φ25 => []) (fun φ25 => []) s trivial (fun φ25 => by kernel_rfl) ?_
  intro φ25 w25 s
  refine call_rule (some 55) s (roomN_c) (by kernel_rfl) ?_
  intro v26 I26 w26 le26 h26 s
  replace hl := BSl.mono le26 hl
  replace h17_0 := BSl.mono le26 h17_0
  obtain rfl := h26
  refine ops_rule (C := []) [] [] 2 [] 0 (fun φ27 => [(57, .pointer none), (56, .int .i64 0)]) (fun φ27 => []) (fun φ27 => []) s trivial (fun φ27 => by kernel_rfl) ?_
  intro φ27 w27 s
  refine call_rule (some 58) s (armedN_c) (by kernel_rfl) ?_
  intro v28 I28 w28 le28 h28 s
  replace hl := BSl.mono le28 hl
  replace h17_0 := BSl.mono le28 h17_0
  obtain rfl := h28
  refine ops_rule (C := []) [] [] 5 [] 0 (fun φ29 => [(63, .pointer none), (62, .bool true), (61, .bool true), (60, .bool true), (59, .int .i64 0)]) (fun φ29 => []) (fun φ29 => []) s trivial (fun φ29 => by kernel_rfl) ?_
  intro φ29 w29 s
  refine call_rule (some 64) s (upN_c) (by kernel_rfl) ?_
  intro v30 I30 w30 le30 h30 s
  replace hl := BSl.mono le30 hl
  replace h17_0 := BSl.mono le30 h17_0
  obtain rfl := h30
  refine ops_rule (C := []) [] [] 4 [] 0 (fun φ31 => [(68, .pointer none), (67, .bool true), (66, .bool true), (65, .bool true)]) (fun φ31 => []) (fun φ31 => []) s trivial (fun φ31 => by kernel_rfl) ?_
  intro φ31 w31 s
  refine call_rule (some 69) s (copyN_c) (by kernel_rfl) ?_
  intro v32 I32 w32 le32 h32 s
  replace hl := BSl.mono le32 hl
  replace h17_0 := BSl.mono le32 h17_0
  obtain rfl := h32
  refine ops_rule (C := []) [] [] 3 [] 0 (fun φ33 => [(72, .bool true), (71, .bool true), (70, .bool true)]) (fun φ33 => []) (fun φ33 => []) s trivial (fun φ33 => by kernel_rfl) ?_
  intro φ33 w33 s
  refine call_rule (some 73) s (sameNN_c) (by kernel_rfl) ?_
  intro v34 I34 w34 le34 h34 s
  replace hl := BSl.mono le34 hl
  replace h17_0 := BSl.mono le34 h17_0
  obtain rfl := h34
  refine ops_rule (C := []) [] [] 2 [] 0 (fun φ35 => [(75, .bool true), (74, .bool true)]) (fun φ35 => []) (fun φ35 => []) s trivial (fun φ35 => by kernel_rfl) ?_
  intro φ35 w35 s
  refine callF_rule (H := []) (F := []) (some 76) s (newN_c (n := 5)) (by kernel_rfl) ?_
  rintro v36 I36 w36 F36 le36 ⟨d36, m36, rfl, rfl⟩ s
  replace hl := BSl.mono le36 hl
  replace h17_0 := BSl.mono le36 h17_0
  replace s : St _ _ _ _ _ [(d36, .cells #[.map (some m36), .int .i64 5, .int .i64 0, .bool false, .bool false, .int .i64 0, .int .i64 0] 70), (m36, .map #[] 0)] := s
  obtain ⟨I37, le37, hk37, s⟩ := s.freezeAt 0 d36 (.cells #[.map (some m36), .int .i64 5, .int .i64 0, .bool false, .bool false, .int .i64 0, .int .i64 0] 70) [(m36, .map #[] 0)] (by kernel_rfl) (by kernel_rfl)
  replace hl := BSl.mono le37 hl
  replace h17_0 := BSl.mono le37 h17_0
  obtain ⟨I38, le38, hk38, s⟩ := s.freezeAt 0 m36 (.map #[] 0) [] (by kernel_rfl) (by kernel_rfl)
  replace hl := BSl.mono le38 hl
  replace h17_0 := BSl.mono le38 h17_0
  replace hk37 := le38 _ _ hk37
  refine call_rule (some 77) s (sameND_c hk37 hk38) (by kernel_rfl) ?_
  intro v39 I39 w39 le39 h39 s
  replace hl := BSl.mono le39 hl
  replace h17_0 := BSl.mono le39 h17_0
  replace hk37 := le39 _ _ hk37
  replace hk38 := le39 _ _ hk38
  obtain rfl := h39
  refine ops_rule (C := []) [] [] 3 [] 0 (fun φ40 => [(80, .int .i64 z), (79, .bool true), (78, .bool true)]) (fun φ40 => []) (fun φ40 => []) s trivial (fun φ40 => by kernel_rfl) ?_
  intro φ40 w40 s
  refine callF_rule (H := []) (F := []) (some 81) s (newZ_c (z := z)) (by kernel_rfl) ?_
  rintro v41 I41 w41 F41 le41 ⟨d41, m41, rfl, rfl⟩ s
  replace hl := BSl.mono le41 hl
  replace h17_0 := BSl.mono le41 h17_0
  replace hk37 := le41 _ _ hk37
  replace hk38 := le41 _ _ hk38
  replace s : St _ _ _ _ _ [(d41, .cells #[.map (some m41), .int .i64 (if ((0 : Nat) : Int) > z then ((0 : Nat) : Int) else z), .int .i64 0, .bool false, .bool false, .int .i64 0, .int .i64 0] 70), (m41, .map #[] 0)] := s
  obtain ⟨I42, le42, hk42, s⟩ := s.freezeAt 0 d41 (.cells #[.map (some m41), .int .i64 (if ((0 : Nat) : Int) > z then ((0 : Nat) : Int) else z), .int .i64 0, .bool false, .bool false, .int .i64 0, .int .i64 0] 70) [(m41, .map #[] 0)] (by kernel_rfl) (by kernel_rfl)
  replace hl := BSl.mono le42 hl
  replace h17_0 := BSl.mono le42 h17_0
  replace hk37 := le42 _ _ hk37
  replace hk38 := le42 _ _ hk38
  obtain ⟨I43, le43, hk43, s⟩ := s.freezeAt 0 m41 (.map #[] 0) [] (by kernel_rfl) (by kernel_rfl)
  replace hl := BSl.mono le43 hl
  replace h17_0 := BSl.mono le43 h17_0
  replace hk37 := le43 _ _ hk37
  replace hk38 := le43 _ _ hk38
  replace hk42 := le43 _ _ hk42
  refine call_rule (some 82) s (roomZ_c hk42) (by kernel_rfl) ?_
  intro v44 I44 w44 le44 h44 s
  replace hl := BSl.mono le44 hl
  replace h17_0 := BSl.mono le44 h17_0
  replace hk37 := le44 _ _ hk37
  replace hk38 := le44 _ _ hk38
  replace hk42 := le44 _ _ hk42
  replace hk43 := le44 _ _ hk43
  obtain rfl := h44
  refine ops_rule (C := []) [] [] 5 [] 0 (fun φ45 => [(8, .bool ((if ((0 : Nat) : Int) > z then ((0 : Nat) : Int) else z) == (if ((0 : Nat) : Int) > z then ((0 : Nat) : Int) else z))), (86, .bool ((if ((0 : Nat) : Int) > z then ((0 : Nat) : Int) else z) == (if ((0 : Nat) : Int) > z then ((0 : Nat) : Int) else z))), (85, .bool ((if ((0 : Nat) : Int) > z then ((0 : Nat) : Int) else z) == (if ((0 : Nat) : Int) > z then ((0 : Nat) : Int) else z))), (84, .int .i64 (if ((0 : Nat) : Int) > z then ((0 : Nat) : Int) else z)), (83, .int .i64 z)]) (fun φ45 => []) (fun φ45 => []) s trivial (fun φ45 => by kernel_rfl) ?_
  intro φ45 w45 s
  refine ops_done (by kernel_rfl) ?_
  refine wp_ret ?_
  refine ret_rule (C := []) [] [] (.bool ((if ((0 : Nat) : Int) > z then ((0 : Nat) : Int) else z) == (if ((0 : Nat) : Int) > z then ((0 : Nat) : Int) else z))) [] [] s trivial (by kernel_rfl) ?_
  exact ⟨_, _, _, rfl, s, congrArg Value.bool (beq_self_eq_true _)⟩

end Go.Proofs.Ytccjlkjadnghgaa

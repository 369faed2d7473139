/- Fields are put in order: the program's. -/
import Derived.Test.YtcpmjogeafhpnaaDoorRwM21
set_option linter.all false
set_option maxRecDepth 100000
namespace Go.Proofs.YtcpmjogeafhpnaaDoor.Tx
open Go.RowKit Go.Sep
attribute [local irreducible] Go.wpList Go.Code.wp

theorem run_neS_same {w : World} {x : List UInt8} : (binOp .neq 9 (.string ⟨x.toArray⟩) (.string ⟨x.toArray⟩)).run Tryd.prog w = .ok (.bool false) w := by
  rw [run_neS, decide_eq_true rfl]; rfl
theorem run_neI {w : World} {z : Int} : (binOp .neq 3 (.int .i64 z) (.int .i64 z)).run Tryd.prog w = .ok (.bool false) w := by
  have e : (binOp .neq 3 (.int .i64 z) (.int .i64 z)).run Tryd.prog w = .ok (.bool (!(decide (z = z)))) w := by kernel_rfl
  rw [e, decide_eq_true rfl]; rfl

set_option maxHeartbeats 1000000 in
theorem nanI_c {I : IM} {z : Int} : Fun Tryd.prog 126 #[.int .i64 z] I (fun v J => v = .bool false) := by
 refine enter_rule 6 [(0, .int .i64 z)] Tryd.func126 rfl (by kernel_rfl) ?_
 intro w s
 refine seqR ?_
 refine oKD [] [] 1 [] 0 (fun φ1 => [(2, .bool false)]) (fun φ1 => []) s (fun φ1 => by kernel_rfl) (by kernel_rfl) ?_
 intro φ1 w1 s
 refine seqR ?_
 refine oK [] [] 2 [] 0 (fun φ2 => [(4, .int .i64 z), (3, .int .i64 z)]) (fun φ2 => []) s (fun φ2 => by kernel_rfl) ?_
 intro φ2 w2 s
 refine sem_rule (binOp .neq 3 (.int .i64 z) (.int .i64 z)) (some 5) (.bool false) (by kernel_rfl) (run_neI) ?_
 refine oKD [] [] 1 [] 0 (fun φ3 => [(2, .bool false)]) (fun φ3 => []) s (fun φ3 => by kernel_rfl) (by kernel_rfl) ?_
 intro φ3 w3 s
 refine wp_ret ?_
 refine ret_rule (C := []) [] [] (.bool false) [] [] s trivial (by kernel_rfl) ?_
 exact ⟨_, _, _, rfl, s, rfl⟩

set_option maxHeartbeats 1000000 in
theorem nanS_c {I : IM} {x : List UInt8} : Fun Tryd.prog 127 #[.string ⟨(x).toArray⟩] I (fun v J => v = .bool false) := by
 refine enter_rule 6 [(0, .string ⟨(x).toArray⟩)] Tryd.func127 rfl (by kernel_rfl) ?_
 intro w s
 refine seqR ?_
 refine oKD [] [] 1 [] 0 (fun φ1 => [(2, .bool false)]) (fun φ1 => []) s (fun φ1 => by kernel_rfl) (by kernel_rfl) ?_
 intro φ1 w1 s
 refine seqR ?_
 refine oK [] [] 2 [] 0 (fun φ2 => [(4, .string ⟨(x).toArray⟩), (3, .string ⟨(x).toArray⟩)]) (fun φ2 => []) s (fun φ2 => by kernel_rfl) ?_
 intro φ2 w2 s
 refine sem_rule (binOp .neq 9 (.string ⟨(x).toArray⟩) (.string ⟨(x).toArray⟩)) (some 5) (.bool false) (by kernel_rfl) (run_neS_same) ?_
 refine oKD [] [] 1 [] 0 (fun φ3 => [(2, .bool false)]) (fun φ3 => []) s (fun φ3 => by kernel_rfl) (by kernel_rfl) ?_
 intro φ3 w3 s
 refine wp_ret ?_
 refine ret_rule (C := []) [] [] (.bool false) [] [] s trivial (by kernel_rfl) ?_
 exact ⟨_, _, _, rfl, s, rfl⟩

set_option maxHeartbeats 1000000 in
theorem cmpI_c {I : IM} {z u : Int} : Fun Tryd.prog 105 #[.int .i64 z, .int .i64 u] I (fun v J => v = .int .i64 (cmI z u)) := by
 refine enter_rule 20 [(0, .int .i64 z), (1, .int .i64 u)] Tryd.func105 rfl (by kernel_rfl) ?_
 intro w s
 refine seqR ?_
 refine oKD [] [] 1 [] 0 (fun φ1 => [(4, .int .i64 0)]) (fun φ1 => []) s (fun φ1 => by kernel_rfl) (by kernel_rfl) ?_
 intro φ1 w1 s
 refine seqR ?_
 refine oK [] [] 1 [] 0 (fun φ2 => [(7, .int .i64 z)]) (fun φ2 => []) s (fun φ2 => by kernel_rfl) ?_
 intro φ2 w2 s
 refine call_rule (some 8) s (nanI_c (z := z)) (by kernel_rfl) ?_
 intro v3 I3 w3 le3 h3 s
 obtain rfl := h3
 refine oKD [] [] 1 [] 0 (fun φ4 => [(5, .bool false)]) (fun φ4 => []) s (fun φ4 => by kernel_rfl) (by kernel_rfl) ?_
 intro φ4 w4 s
 refine seqR ?_
 refine oK [] [] 1 [] 0 (fun φ5 => [(9, .int .i64 u)]) (fun φ5 => []) s (fun φ5 => by kernel_rfl) ?_
 intro φ5 w5 s
 refine call_rule (some 10) s (nanI_c (z := u)) (by kernel_rfl) ?_
 intro v6 I6 w6 le6 h6 s
 obtain rfl := h6
 refine oKD [] [] 1 [] 0 (fun φ7 => [(6, .bool false)]) (fun φ7 => []) s (fun φ7 => by kernel_rfl) (by kernel_rfl) ?_
 intro φ7 w7 s
 refine wp_seq ?_
 refine seqR ?_
 refine oKD [] [] 1 [] 0 (fun φ8 => [(11, .bool false)]) (fun φ8 => []) s (fun φ8 => by kernel_rfl) (by kernel_rfl) ?_
 intro φ8 w8 s
 refine cond_false_rule (b := false) (by kernel_rfl) rfl ?_
 refine wp_skip ?_
 refine wp_seq ?_
 refine seqR ?_
 refine oKD [] [] 1 [] 0 (fun φ9 => [(13, .bool false)]) (fun φ9 => []) s (fun φ9 => by kernel_rfl) (by kernel_rfl) ?_
 intro φ9 w9 s
 refine cond_false_rule (b := false) (by kernel_rfl) rfl ?_
 refine wp_skip ?_
 refine wp_seq ?_
 refine seqR ?_
 refine oKD [] [] 3 [] 0 (fun φ10 => [(16, .bool (decide (z < u))), (15, .int .i64 u), (14, .int .i64 z)]) (fun φ10 => []) s (fun φ10 => by kernel_rfl) (by kernel_rfl) ?_
 intro φ10 w10 s
 rcases Bool.eq_false_or_eq_true (decide (z < u)) with hc11 | hc11
 ·
  rw [hc11]
  refine cond_true_rule (b := true) (by kernel_rfl) rfl ?_
  refine seqR ?_
  refine oKD [] [] 1 [] 0 (fun φ12 => [(4, .int .i64 (-1))]) (fun φ12 => []) s (fun φ12 => by kernel_rfl) (by kernel_rfl) ?_
  intro φ12 w12 s
  refine wp_ret ?_
  refine ret_rule (C := []) [] [] (.int .i64 (-1)) [] [] s trivial (by kernel_rfl) ?_
  exact ⟨_, _, _, rfl, s, (congrArg (Value.int .i64) (by have hq0 := dT9 hc11; unfold cmI; rw [if_pos (by omega)]))⟩
 ·
  rw [hc11]
  refine cond_false_rule (b := false) (by kernel_rfl) rfl ?_
  refine wp_skip ?_
  refine wp_seq ?_
  refine seqR ?_
  refine oKD [] [] 3 [] 0 (fun φ13 => [(19, .bool (decide (z > u))), (18, .int .i64 u), (17, .int .i64 z)]) (fun φ13 => []) s (fun φ13 => by kernel_rfl) (by kernel_rfl) ?_
  intro φ13 w13 s
  rcases Bool.eq_false_or_eq_true (decide (z > u)) with hc14 | hc14
  ·
   rw [hc14]
   refine cond_true_rule (b := true) (by kernel_rfl) rfl ?_
   refine seqR ?_
   refine oKD [] [] 1 [] 0 (fun φ15 => [(4, .int .i64 1)]) (fun φ15 => []) s (fun φ15 => by kernel_rfl) (by kernel_rfl) ?_
   intro φ15 w15 s
   refine wp_ret ?_
   refine ret_rule (C := []) [] [] (.int .i64 1) [] [] s trivial (by kernel_rfl) ?_
   exact ⟨_, _, _, rfl, s, (congrArg (Value.int .i64) (by have hq0 := dF9 hc11; have hq1 := dT9 hc14; unfold cmI; rw [if_neg (by omega), if_pos (by omega)]))⟩
  ·
   rw [hc14]
   refine cond_false_rule (b := false) (by kernel_rfl) rfl ?_
   refine wp_skip ?_
   refine seqR ?_
   refine oKD [] [] 1 [] 0 (fun φ16 => [(4, .int .i64 0)]) (fun φ16 => []) s (fun φ16 => by kernel_rfl) (by kernel_rfl) ?_
   intro φ16 w16 s
   refine wp_ret ?_
   refine ret_rule (C := []) [] [] (.int .i64 0) [] [] s trivial (by kernel_rfl) ?_
   exact ⟨_, _, _, rfl, s, (congrArg (Value.int .i64) (by have hq0 := dF9 hc11; have hq1 := dF9 hc14; unfold cmI; rw [if_neg (by omega), if_neg (by omega)]))⟩

set_option maxHeartbeats 1000000 in
theorem cmpS_c {I : IM} {x y : List UInt8} : Fun Tryd.prog 106 #[.string ⟨(x).toArray⟩, .string ⟨(y).toArray⟩] I (fun v J => v = .int .i64 (cmS x y)) := by
 refine enter_rule 20 [(0, .string ⟨(x).toArray⟩), (1, .string ⟨(y).toArray⟩)] Tryd.func106 rfl (by kernel_rfl) ?_
 intro w s
 refine seqR ?_
 refine oKD [] [] 1 [] 0 (fun φ1 => [(4, .int .i64 0)]) (fun φ1 => []) s (fun φ1 => by kernel_rfl) (by kernel_rfl) ?_
 intro φ1 w1 s
 refine seqR ?_
 refine oK [] [] 1 [] 0 (fun φ2 => [(7, .string ⟨(x).toArray⟩)]) (fun φ2 => []) s (fun φ2 => by kernel_rfl) ?_
 intro φ2 w2 s
 refine call_rule (some 8) s (nanS_c (x := x)) (by kernel_rfl) ?_
 intro v3 I3 w3 le3 h3 s
 obtain rfl := h3
 refine oKD [] [] 1 [] 0 (fun φ4 => [(5, .bool false)]) (fun φ4 => []) s (fun φ4 => by kernel_rfl) (by kernel_rfl) ?_
 intro φ4 w4 s
 refine seqR ?_
 refine oK [] [] 1 [] 0 (fun φ5 => [(9, .string ⟨(y).toArray⟩)]) (fun φ5 => []) s (fun φ5 => by kernel_rfl) ?_
 intro φ5 w5 s
 refine call_rule (some 10) s (nanS_c (x := y)) (by kernel_rfl) ?_
 intro v6 I6 w6 le6 h6 s
 obtain rfl := h6
 refine oKD [] [] 1 [] 0 (fun φ7 => [(6, .bool false)]) (fun φ7 => []) s (fun φ7 => by kernel_rfl) (by kernel_rfl) ?_
 intro φ7 w7 s
 refine wp_seq ?_
 refine seqR ?_
 refine oKD [] [] 1 [] 0 (fun φ8 => [(11, .bool false)]) (fun φ8 => []) s (fun φ8 => by kernel_rfl) (by kernel_rfl) ?_
 intro φ8 w8 s
 refine cond_false_rule (b := false) (by kernel_rfl) rfl ?_
 refine wp_skip ?_
 refine wp_seq ?_
 refine seqR ?_
 refine oKD [] [] 1 [] 0 (fun φ9 => [(13, .bool false)]) (fun φ9 => []) s (fun φ9 => by kernel_rfl) (by kernel_rfl) ?_
 intro φ9 w9 s
 refine cond_false_rule (b := false) (by kernel_rfl) rfl ?_
 refine wp_skip ?_
 refine wp_seq ?_
 refine seqR ?_
 refine oK [] [] 2 [] 0 (fun φ10 => [(15, .string ⟨(y).toArray⟩), (14, .string ⟨(x).toArray⟩)]) (fun φ10 => []) s (fun φ10 => by kernel_rfl) ?_
 intro φ10 w10 s
 refine sem_rule (binOp .lss 9 (.string ⟨(x).toArray⟩) (.string ⟨(y).toArray⟩)) (some 16) (.bool (Go.Op.bytesLess x y)) (by kernel_rfl) (run_ltS (x := x) (y := y)) ?_
 refine ops_done (by kernel_rfl) ?_
 rcases Bool.eq_false_or_eq_true (Go.Op.bytesLess x y) with hc11 | hc11
 ·
  rw [hc11]
  refine cond_true_rule (b := true) (by kernel_rfl) rfl ?_
  refine seqR ?_
  refine oKD [] [] 1 [] 0 (fun φ12 => [(4, .int .i64 (-1))]) (fun φ12 => []) s (fun φ12 => by kernel_rfl) (by kernel_rfl) ?_
  intro φ12 w12 s
  refine wp_ret ?_
  refine ret_rule (C := []) [] [] (.int .i64 (-1)) [] [] s trivial (by kernel_rfl) ?_
  exact ⟨_, _, _, rfl, s, (congrArg (Value.int .i64) (by unfold cmS; rw [if_pos hc11]))⟩
 ·
  rw [hc11]
  refine cond_false_rule (b := false) (by kernel_rfl) rfl ?_
  refine wp_skip ?_
  refine wp_seq ?_
  refine seqR ?_
  refine oK [] [] 2 [] 0 (fun φ13 => [(18, .string ⟨(y).toArray⟩), (17, .string ⟨(x).toArray⟩)]) (fun φ13 => []) s (fun φ13 => by kernel_rfl) ?_
  intro φ13 w13 s
  refine sem_rule (binOp .gtr 9 (.string ⟨(x).toArray⟩) (.string ⟨(y).toArray⟩)) (some 19) (.bool (!(Go.Op.bytesLess x y || decide (x = y)))) (by kernel_rfl) (run_gtS (x := x) (y := y)) ?_
  refine ops_done (by kernel_rfl) ?_
  rcases Bool.eq_false_or_eq_true (Go.Op.bytesLess x y || decide (x = y)) with hc14 | hc14
  ·
   rw [hc14]
   refine cond_false_rule (b := false) (by kernel_rfl) rfl ?_
   refine wp_skip ?_
   refine seqR ?_
   refine oKD [] [] 1 [] 0 (fun φ15 => [(4, .int .i64 0)]) (fun φ15 => []) s (fun φ15 => by kernel_rfl) (by kernel_rfl) ?_
   intro φ15 w15 s
   refine wp_ret ?_
   refine ret_rule (C := []) [] [] (.int .i64 0) [] [] s trivial (by kernel_rfl) ?_
   exact ⟨_, _, _, rfl, s, (congrArg (Value.int .i64) (by unfold cmS; rw [if_neg (by rw [hc11]; decide)]; have h9 := hc14; rw [hc11] at h9; simp at h9; simp [h9]))⟩
  ·
   rw [hc14]
   refine cond_true_rule (b := true) (by kernel_rfl) rfl ?_
   refine seqR ?_
   refine oKD [] [] 1 [] 0 (fun φ16 => [(4, .int .i64 1)]) (fun φ16 => []) s (fun φ16 => by kernel_rfl) (by kernel_rfl) ?_
   intro φ16 w16 s
   refine wp_ret ?_
   refine ret_rule (C := []) [] [] (.int .i64 1) [] [] s trivial (by kernel_rfl) ?_
   exact ⟨_, _, _, rfl, s, (congrArg (Value.int .i64) (by unfold cmS; rw [if_neg (by rw [hc11]; decide)]; have h9 := hc14; rw [hc11] at h9; simp at h9; simp [h9]))⟩

set_option maxHeartbeats 1000000 in
theorem order_c {I : IM} {k k' : Int} {A B A' B' : List UInt8} : Fun Tryd.prog 72 #[.agg #[.int .i64 k, .string ⟨(A).toArray⟩, .string ⟨(B).toArray⟩], .agg #[.int .i64 k', .string ⟨(A').toArray⟩, .string ⟨(B').toArray⟩]] I (fun v J => v = .int .i64 (ordF k A B k' A' B')) := by
 refine enter_rule 28 [(0, .agg #[.int .i64 k, .string ⟨(A).toArray⟩, .string ⟨(B).toArray⟩]), (1, .agg #[.int .i64 k', .string ⟨(A').toArray⟩, .string ⟨(B').toArray⟩])] Tryd.func72 rfl (by kernel_rfl) ?_
 intro w s
 refine seqR ?_
 refine ops_rule (C := []) [] [] 3 [] 2 (fun φ1 => [(4, .int .i64 0), (3, .pointer (some ⟨(φ1 1), 0, none⟩)), (2, .pointer (some ⟨(φ1 0), 0, none⟩))]) (fun φ1 => [((φ1 0), .cells #[.int .i64 k, .string ⟨(A).toArray⟩, .string ⟨(B).toArray⟩] 39), ((φ1 1), .cells #[.int .i64 k', .string ⟨(A').toArray⟩, .string ⟨(B').toArray⟩] 39)]) (fun φ1 => []) s trivial (fun φ1 => by kernel_rfl) ?_
 intro φ1 w1 s
 refine ops_done (by kernel_rfl) ?_
 refine wp_seq ?_
 refine seqR ?_
 refine ops_rule (C := []) [((φ1 0), .cells #[.int .i64 k, .string ⟨(A).toArray⟩, .string ⟨(B).toArray⟩] 39), ((φ1 1), .cells #[.int .i64 k', .string ⟨(A').toArray⟩, .string ⟨(B').toArray⟩] 39)] [] 4 [.o 0, .o 1] 0 (fun φ2 => [(10, .int .i64 k'), (9, .pointer (some ⟨(φ1 1), 0, none⟩)), (8, .int .i64 k), (7, .pointer (some ⟨(φ1 0), 0, none⟩))]) (fun φ2 => [((φ1 0), .cells #[.int .i64 k, .string ⟨(A).toArray⟩, .string ⟨(B).toArray⟩] 39), ((φ1 1), .cells #[.int .i64 k', .string ⟨(A').toArray⟩, .string ⟨(B').toArray⟩] 39)]) (fun φ2 => [(φ1 0), (φ1 1)]) s trivial (fun φ2 => by kernel_rfl) ?_
 intro φ2 w2 s
 refine call_rule (some 11) s (cmpI_c (z := k) (u := k')) (by kernel_rfl) ?_
 intro v3 I3 w3 le3 h3 s
 obtain rfl := h3
 refine oKD _ [] 1 [] 0 (fun φ4 => [(5, .int .i64 (cmI k k'))]) (fun φ4 => []) s (fun φ4 => by kernel_rfl) (by kernel_rfl) ?_
 intro φ4 w4 s
 refine seqR ?_
 refine oKD _ [] 2 [] 0 (fun φ5 => [(13, .bool ((cmI k k') != ((0 : Nat) : Int))), (12, .int .i64 (cmI k k'))]) (fun φ5 => []) s (fun φ5 => by kernel_rfl) (by kernel_rfl) ?_
 intro φ5 w5 s
 rcases Bool.eq_false_or_eq_true ((cmI k k') != ((0 : Nat) : Int)) with hc6 | hc6
 ·
  rw [hc6]
  refine cond_true_rule (b := true) (by kernel_rfl) rfl ?_
  refine seqR ?_
  refine oKD _ [] 2 [] 0 (fun φ7 => [(4, .int .i64 (cmI k k')), (14, .int .i64 (cmI k k'))]) (fun φ7 => []) s (fun φ7 => by kernel_rfl) (by kernel_rfl) ?_
  intro φ7 w7 s
  refine wp_ret ?_
  refine ret_rule (C := []) _ [] (.int .i64 (cmI k k')) [] [] s trivial (by kernel_rfl) ?_
  exact ⟨_, _, _, rfl, s, (congrArg (Value.int .i64) (by unfold ordF; rw [if_pos (by have h9 := hc6; simpa using h9)]))⟩
 ·
  rw [hc6]
  refine cond_false_rule (b := false) (by kernel_rfl) rfl ?_
  refine wp_skip ?_
  refine wp_seq ?_
  refine seqR ?_
  refine oK _ [] 4 [.o 0, .o 1] 0 (fun φ8 => [(18, .string ⟨(A').toArray⟩), (17, .pointer (some ⟨(φ1 1), 1, none⟩)), (16, .string ⟨(A).toArray⟩), (15, .pointer (some ⟨(φ1 0), 1, none⟩))]) (fun φ8 => [φ1 0, φ1 1]) s (fun φ8 => by kernel_rfl) ?_
  intro φ8 w8 s
  refine call_rule (some 19) s (cmpS_c (x := A) (y := A')) (by kernel_rfl) ?_
  intro v9 I9 w9 le9 h9 s
  obtain rfl := h9
  refine oKD _ [] 1 [] 0 (fun φ10 => [(6, .int .i64 (cmS A A'))]) (fun φ10 => []) s (fun φ10 => by kernel_rfl) (by kernel_rfl) ?_
  intro φ10 w10 s
  refine seqR ?_
  refine oKD _ [] 2 [] 0 (fun φ11 => [(21, .bool ((cmS A A') != ((0 : Nat) : Int))), (20, .int .i64 (cmS A A'))]) (fun φ11 => []) s (fun φ11 => by kernel_rfl) (by kernel_rfl) ?_
  intro φ11 w11 s
  rcases Bool.eq_false_or_eq_true ((cmS A A') != ((0 : Nat) : Int)) with hc12 | hc12
  ·
   rw [hc12]
   refine cond_true_rule (b := true) (by kernel_rfl) rfl ?_
   refine seqR ?_
   refine oKD _ [] 2 [] 0 (fun φ13 => [(4, .int .i64 (cmS A A')), (22, .int .i64 (cmS A A'))]) (fun φ13 => []) s (fun φ13 => by kernel_rfl) (by kernel_rfl) ?_
   intro φ13 w13 s
   refine wp_ret ?_
   refine ret_rule (C := []) _ [] (.int .i64 (cmS A A')) [] [] s trivial (by kernel_rfl) ?_
   exact ⟨_, _, _, rfl, s, (congrArg (Value.int .i64) (by unfold ordF; rw [if_neg (by have h9 := hc6; simpa using h9), if_pos (by have h9 := hc12; simpa using h9)]))⟩
  ·
   rw [hc12]
   refine cond_false_rule (b := false) (by kernel_rfl) rfl ?_
   refine wp_skip ?_
   refine seqR ?_
   refine oK _ [] 4 [.o 0, .o 1] 0 (fun φ14 => [(26, .string ⟨(B').toArray⟩), (25, .pointer (some ⟨(φ1 1), 2, none⟩)), (24, .string ⟨(B).toArray⟩), (23, .pointer (some ⟨(φ1 0), 2, none⟩))]) (fun φ14 => [φ1 0, φ1 1]) s (fun φ14 => by kernel_rfl) ?_
   intro φ14 w14 s
   refine call_rule (some 27) s (cmpS_c (x := B) (y := B')) (by kernel_rfl) ?_
   intro v15 I15 w15 le15 h15 s
   obtain rfl := h15
   refine oKD _ [] 1 [] 0 (fun φ16 => [(4, .int .i64 (cmS B B'))]) (fun φ16 => []) s (fun φ16 => by kernel_rfl) (by kernel_rfl) ?_
   intro φ16 w16 s
   refine wp_ret ?_
   refine ret_rule (C := []) _ [] (.int .i64 (cmS B B')) [] [] s trivial (by kernel_rfl) ?_
   exact ⟨_, _, _, rfl, s, (congrArg (Value.int .i64) (by unfold ordF; rw [if_neg (by have h9 := hc6; simpa using h9), if_neg (by have h9 := hc12; simpa using h9)]))⟩

set_option maxHeartbeats 1000000 in
theorem less_c {I : IM} {k k' : Int} {A B A' B' : List UInt8} : Fun Tryd.prog 34 #[.agg #[.int .i64 k, .string ⟨(A).toArray⟩, .string ⟨(B).toArray⟩], .agg #[.int .i64 k', .string ⟨(A').toArray⟩, .string ⟨(B').toArray⟩]] I (fun v J => v = .bool (lesF k A B k' A' B')) := by
 refine enter_rule 9 [(0, .agg #[.int .i64 k, .string ⟨(A).toArray⟩, .string ⟨(B).toArray⟩]), (1, .agg #[.int .i64 k', .string ⟨(A').toArray⟩, .string ⟨(B').toArray⟩])] Tryd.func34 rfl (by kernel_rfl) ?_
 intro w s
 refine seqR ?_
 refine ops_rule (C := []) [] [] 3 [] 2 (fun φ1 => [(4, .bool false), (3, .pointer (some ⟨(φ1 1), 0, none⟩)), (2, .pointer (some ⟨(φ1 0), 0, none⟩))]) (fun φ1 => [((φ1 0), .cells #[.int .i64 k, .string ⟨(A).toArray⟩, .string ⟨(B).toArray⟩] 39), ((φ1 1), .cells #[.int .i64 k', .string ⟨(A').toArray⟩, .string ⟨(B').toArray⟩] 39)]) (fun φ1 => []) s trivial (fun φ1 => by kernel_rfl) ?_
 intro φ1 w1 s
 refine ops_done (by kernel_rfl) ?_
 refine seqR ?_
 refine oK _ [] 2 [.o 0, .o 0, .o 0, .o 1, .o 1, .o 1] 0 (fun φ2 => [(6, .agg #[.int .i64 k', .string ⟨(A').toArray⟩, .string ⟨(B').toArray⟩]), (5, .agg #[.int .i64 k, .string ⟨(A).toArray⟩, .string ⟨(B).toArray⟩])]) (fun φ2 => [φ1 0, φ1 0, φ1 0, φ1 1, φ1 1, φ1 1]) s (fun φ2 => by kernel_rfl) ?_
 intro φ2 w2 s
 refine call_rule (some 7) s (order_c (k := k) (A := A) (B := B) (k' := k') (A' := A') (B' := B')) (by kernel_rfl) ?_
 intro v3 I3 w3 le3 h3 s
 obtain rfl := h3
 refine oKD _ [] 2 [] 0 (fun φ4 => [(4, .bool (decide ((ordF k A B k' A' B') < ((0 : Nat) : Int)))), (8, .bool (decide ((ordF k A B k' A' B') < ((0 : Nat) : Int))))]) (fun φ4 => []) s (fun φ4 => by kernel_rfl) (by kernel_rfl) ?_
 intro φ4 w4 s
 refine wp_ret ?_
 refine ret_rule (C := []) _ [] (.bool (decide ((ordF k A B k' A' B') < ((0 : Nat) : Int)))) [] [] s trivial (by kernel_rfl) ?_
 exact ⟨_, _, _, rfl, s, (congrArg Value.bool (by rw [← ord_les]; simp))⟩

end Go.Proofs.YtcpmjogeafhpnaaDoor.Tx
/- Fields are put in order: the document's. -/
set_option linter.all false
set_option maxRecDepth 100000
namespace Go.Proofs.YtcpmjogeafhpnaaDoor.Tx
open Go.RowKit Go.Sep
attribute [local irreducible] Go.wpList Go.Code.wp

theorem bL_go {x y : List UInt8} {i : Nat} (hx : i < x.length) (hy : i < y.length) (e : (x.getD i 0).toNat = (y.getD i 0).toNat) (h : Go.Op.bytesLess x y = Go.Op.bytesLess (x.drop i) (y.drop i)) : Go.Op.bytesLess x y = Go.Op.bytesLess (x.drop (i + 1)) (y.drop (i + 1)) := by
  rw [h, drop_at hx, drop_at hy, UInt8.toNat_inj.1 e]
  have : ∀ b : UInt8, ¬ b < b := fun b q => by rw [UInt8.lt_iff_toNat_lt] at q; omega
  simp [Go.Op.bytesLess, this]
theorem bL_ne {x y : List UInt8} {i : Nat} (hx : i < x.length) (hy : i < y.length) (e : (x.getD i 0).toNat ≠ (y.getD i 0).toNat) (h : Go.Op.bytesLess x y = Go.Op.bytesLess (x.drop i) (y.drop i)) : Go.Op.bytesLess x y = decide ((x.getD i 0).toNat < (y.getD i 0).toNat) := by
  rw [h, drop_at hx, drop_at hy]
  have q : (x.getD i 0 == y.getD i 0) = false := by
    rw [beq_eq_false_iff_ne]; exact fun q => e (by rw [q])
  simp only [Go.Op.bytesLess, q, Bool.false_and, Bool.or_false]
  exact decide_eq_decide.2 UInt8.lt_iff_toNat_lt
theorem bL_end {x y : List UInt8} {i : Nat} (hx : i ≤ x.length) (hy : i ≤ y.length) (he : ¬ (i < x.length ∧ i < y.length)) (h : Go.Op.bytesLess x y = Go.Op.bytesLess (x.drop i) (y.drop i)) : Go.Op.bytesLess x y = decide (x.length < y.length) := by
  by_cases q : i < y.length
  · have ex : i = x.length := by omega
    rw [h, ex, List.drop_length]
    rw [drop_at (l := y) (i := x.length) (by omega), decide_eq_true (by omega)]; rfl
  · have ey : i = y.length := by omega
    rw [h, ey, List.drop_length, decide_eq_false (by omega)]
    cases x.drop y.length <;> rfl

set_option maxHeartbeats 2000000 in
theorem before_c {I : IM} {xx y : List UInt8} (hx : xx.length ≤ 1000000) (hy : y.length ≤ 1000000) : Fun Tryd.prog 73 #[.string ⟨(xx).toArray⟩, .string ⟨(y).toArray⟩] I (fun v J => v = .bool (Go.Op.bytesLess xx y)) := by
 refine enter_rule 37 [(0, .string ⟨(xx).toArray⟩), (1, .string ⟨(y).toArray⟩)] Tryd.func73 rfl (by kernel_rfl) ?_
 intro w s
 refine seqR ?_
 refine oKD [] [] 1 [] 0 (fun φ1 => [(4, .bool false)]) (fun φ1 => []) s (fun φ1 => by kernel_rfl) (by kernel_rfl) ?_
 intro φ1 w1 s
 refine wp_seq ?_
 refine seqR ?_
 refine oKD [] [] 1 [] 0 (fun φ2 => [(5, .int .i64 0)]) (fun φ2 => []) s (fun φ2 => by kernel_rfl) (by kernel_rfl) ?_
 intro φ2 w2 s
 refine wp_block ?_
 have hle3 := IM.Le.refl I
 refine loop_rule (fun (x : Nat) => [(0, .string ⟨(xx).toArray⟩), (1, .string ⟨(y).toArray⟩), (4, .bool false), (5, .int .i64 x)]) (fun (x : Nat) => []) (fun m (x : Nat) J => IM.Le I J ∧ List.length xx ≤ x + m ∧ Go.Op.bytesLess xx y = Go.Op.bytesLess (xx.drop x) (y.drop x) ∧ x ≤ xx.length ∧ x ≤ y.length) (xx.length) 0 s (by kernel_rfl) List.Sublist.slnil ⟨IM.Le.refl _, by omega, rfl, Nat.zero_le _, Nat.zero_le _⟩ ?_
 rintro m4 i4 I4 w4 ev4 s ⟨le4, hi4_0, hi4_1, hi4_2, hi4_3⟩
 try dsimp only at s hi4_0 hi4_1 hi4_2 hi4_3 ⊢
 replace hle3 := leMono le4 hle3
 refine wp_seq ?_
 refine seqR ?_
 refine oK [] [] 5 [] 0 (fun φ5 => [(10, .bool (decide (((i4 : Nat) : Int) < ((xx.length : Nat) : Int)))), (9, .bool (decide (((i4 : Nat) : Int) < ((xx.length : Nat) : Int)))), (8, .int .i64 xx.length), (7, .string ⟨(xx).toArray⟩), (6, .int .i64 i4)]) (fun φ5 => []) s (fun φ5 => by kernel_rfl) ?_
 intro φ5 w5 s
 rw [nat_lss (a := i4) (b := xx.length)]
 rcases Bool.eq_false_or_eq_true (decide (i4 < xx.length)) with hc6 | hc6
 ·
  rw [hc6]
  refine oK [] [] 5 [] 0 (fun φ7 => [(15, .bool (decide (((i4 : Nat) : Int) < ((y.length : Nat) : Int)))), (14, .bool (decide (((i4 : Nat) : Int) < ((y.length : Nat) : Int)))), (13, .int .i64 y.length), (12, .string ⟨(y).toArray⟩), (11, .int .i64 i4)]) (fun φ7 => []) s (fun φ7 => by kernel_rfl) ?_
  intro φ7 w7 s
  rw [nat_lss (a := i4) (b := y.length)]
  refine ops_done (by kernel_rfl) ?_
  rcases Bool.eq_false_or_eq_true (decide (i4 < y.length)) with hc8 | hc8
  ·
   rw [hc8]
   refine cond_true_rule (b := true) (by kernel_rfl) rfl ?_
   refine wp_skip ?_
   refine wp_seq ?_
   refine wp_block ?_
   refine wp_seq ?_
   refine draw_rule (C := []) ⟨(fun φ9 xs9 => [.look 0 [] [], .look 0 [] [], .ran (Instr.index 9 (.string ⟨(xx).toArray⟩) (.int .i64 i4)), .look 0 [] [], .look 0 [] [], .ran (Instr.index 9 (.string ⟨(y).toArray⟩) (.int .i64 i4)), .sub 0 [] [] (.bool ((((xx.getD i4 0).toNat : Nat) : Int) != (((y.getD i4 0).toNat : Nat) : Int)))]), (fun φ9 xs9 => [.string ⟨(xx).toArray⟩, .int .i64 i4, .int .u8 (((xx.getD i4 0).toNat : Nat) : Int), .string ⟨(y).toArray⟩, .int .i64 i4, .int .u8 (((y.getD i4 0).toNat : Nat) : Int), .bool (decide (((xx.getD i4 0).toNat) ≠ ((y.getD i4 0).toNat)))]), (fun φ9 xs9 => [[]]), (fun φ9 xs9 => [[default, default, default, default, default, default, default]]), [], [1, 1, 6, 1, 1, 6, 5]⟩ (fun j => ([MP.any] : List MP).getD j MP.any) [] [6] [2, 5] (fun φ9 xs9 => []) (fun φ9 xs9 => [(18, .string ⟨(xx).toArray⟩), (19, .int .i64 i4), (20, .int .u8 (((xx.getD i4 0).toNat : Nat) : Int)), (21, .string ⟨(y).toArray⟩), (22, .int .i64 i4), (23, .int .u8 (((y.getD i4 0).toNat : Nat) : Int)), (24, .bool (decide (((xx.getD i4 0).toNat) ≠ ((y.getD i4 0).toNat))))]) (fun φ9 xs9 => []) s trivial (by kernel_rfl) (by kernel_rfl) (fun _ _ => by kernel_rfl) (fun _ _ => by kernel_rfl) ⟨fun _ _ => by kernel_rfl, fun _ _ => by kernel_rfl, fun _ _ => by kernel_rfl, fun _ _ => by kernel_rfl⟩ (fun _ _ _ => by kernel_rfl) (fun _ _ => by kernel_rfl) (fun _ _ => by kernel_rfl) (fun _ _ => by kernel_rfl) (fun _ _ => by kernel_rfl) (fun _ _ => by kernel_rfl) ⟨kcast (A := ∀ (φ9 : Nat → Nat) (xs9 : Xs), (.bool ((((xx.getD i4 0).toNat : Nat) : Int) != (((y.getD i4 0).toNat : Nat) : Int)) : Value) = .bool (decide (((xx.getD i4 0).toNat) ≠ ((y.getD i4 0).toNat)))) (by kernel_rfl) (fun φ9 xs9 => congrArg Value.bool ((nat_neq (a := ((xx.getD i4 0).toNat)) (b := ((y.getD i4 0).toNat))))), trivial⟩ ⟨kcast (A := ∀ (φ9 : Nat → Nat) (xs9 : Xs) (J : IM) (w : World), I4.Le J → J.Sub w → ((Instr.index 9 (.string ⟨(xx).toArray⟩) (.int .i64 i4)) : Sem Value).run Tryd.prog w = .ok (.int .u8 (((xx.getD i4 0).toNat : Nat) : Int)) w) (by kernel_rfl) (fun φ9 xs9 J w hJ hS => run_idxK (s := xx) (i := i4) (by have hz0 := hi4_2; have hz1 := hi4_3;  have hq0 := dT9 hc6; have hq1 := dT9 hc8; (try simp only [List.length_drop, List.length_take, List.length_append, List.length_cons, List.length_nil]); omega)), ⟨kcast (A := ∀ (φ9 : Nat → Nat) (xs9 : Xs) (J : IM) (w : World), I4.Le J → J.Sub w → ((Instr.index 9 (.string ⟨(y).toArray⟩) (.int .i64 i4)) : Sem Value).run Tryd.prog w = .ok (.int .u8 (((y.getD i4 0).toNat : Nat) : Int)) w) (by kernel_rfl) (fun φ9 xs9 J w hJ hS => run_idxK (s := y) (i := i4) (by have hz0 := hi4_2; have hz1 := hi4_3;  have hq0 := dT9 hc6; have hq1 := dT9 hc8; (try simp only [List.length_drop, List.length_take, List.length_append, List.length_cons, List.length_nil]); omega)), trivial⟩⟩ (by kernel_rfl) trivial ?k9
   case k9 =>
    rintro φ9 xs9 I9 w9 le9 s 
    replace hle3 := leMono le9 hle3
    rcases Bool.eq_false_or_eq_true (decide (((xx.getD i4 0).toNat) ≠ ((y.getD i4 0).toNat))) with hc10 | hc10
    ·
     rw [hc10]
     refine cond_true_rule (b := true) (by kernel_rfl) rfl ?_
     refine wp_seq ?_
     refine draw_rule (C := []) ⟨(fun φ11 xs11 => [.look 0 [] [], .look 0 [] [], .ran (Instr.index 9 (.string ⟨(xx).toArray⟩) (.int .i64 i4)), .look 0 [] [], .look 0 [] [], .ran (Instr.index 9 (.string ⟨(y).toArray⟩) (.int .i64 i4)), .sub 0 [] [] (.bool (decide ((((xx.getD i4 0).toNat : Nat) : Int) < (((y.getD i4 0).toNat : Nat) : Int)))), .look 0 [] []]), (fun φ11 xs11 => [.string ⟨(xx).toArray⟩, .int .i64 i4, .int .u8 (((xx.getD i4 0).toNat : Nat) : Int), .string ⟨(y).toArray⟩, .int .i64 i4, .int .u8 (((y.getD i4 0).toNat : Nat) : Int), .bool (decide (((xx.getD i4 0).toNat) < ((y.getD i4 0).toNat))), .bool (decide (((xx.getD i4 0).toNat) < ((y.getD i4 0).toNat)))]), (fun φ11 xs11 => [[]]), (fun φ11 xs11 => [[default, default, default, default, default, default, default, default]]), [], [1, 1, 6, 1, 1, 6, 5, 1]⟩ (fun j => ([MP.any] : List MP).getD j MP.any) [] [6] [2, 5] (fun φ11 xs11 => []) (fun φ11 xs11 => [(25, .string ⟨(xx).toArray⟩), (26, .int .i64 i4), (27, .int .u8 (((xx.getD i4 0).toNat : Nat) : Int)), (28, .string ⟨(y).toArray⟩), (29, .int .i64 i4), (30, .int .u8 (((y.getD i4 0).toNat : Nat) : Int)), (31, .bool (decide (((xx.getD i4 0).toNat) < ((y.getD i4 0).toNat)))), (4, .bool (decide (((xx.getD i4 0).toNat) < ((y.getD i4 0).toNat))))]) (fun φ11 xs11 => []) s trivial (by kernel_rfl) (by kernel_rfl) (fun _ _ => by kernel_rfl) (fun _ _ => by kernel_rfl) ⟨fun _ _ => by kernel_rfl, fun _ _ => by kernel_rfl, fun _ _ => by kernel_rfl, fun _ _ => by kernel_rfl⟩ (fun _ _ _ => by kernel_rfl) (fun _ _ => by kernel_rfl) (fun _ _ => by kernel_rfl) (fun _ _ => by kernel_rfl) (fun _ _ => by kernel_rfl) (fun _ _ => by kernel_rfl) ⟨kcast (A := ∀ (φ11 : Nat → Nat) (xs11 : Xs), (.bool (decide ((((xx.getD i4 0).toNat : Nat) : Int) < (((y.getD i4 0).toNat : Nat) : Int))) : Value) = .bool (decide (((xx.getD i4 0).toNat) < ((y.getD i4 0).toNat)))) (by kernel_rfl) (fun φ11 xs11 => congrArg Value.bool ((nat_lss (a := ((xx.getD i4 0).toNat)) (b := ((y.getD i4 0).toNat))))), trivial⟩ ⟨kcast (A := ∀ (φ11 : Nat → Nat) (xs11 : Xs) (J : IM) (w : World), I9.Le J → J.Sub w → ((Instr.index 9 (.string ⟨(xx).toArray⟩) (.int .i64 i4)) : Sem Value).run Tryd.prog w = .ok (.int .u8 (((xx.getD i4 0).toNat : Nat) : Int)) w) (by kernel_rfl) (fun φ11 xs11 J w hJ hS => run_idxK (s := xx) (i := i4) (by have hz0 := hi4_2; have hz1 := hi4_3;  have hq0 := dT9 hc6; have hq1 := dT9 hc8; have hq2 := dT9 hc10; (try simp only [List.length_drop, List.length_take, List.length_append, List.length_cons, List.length_nil]); omega)), ⟨kcast (A := ∀ (φ11 : Nat → Nat) (xs11 : Xs) (J : IM) (w : World), I9.Le J → J.Sub w → ((Instr.index 9 (.string ⟨(y).toArray⟩) (.int .i64 i4)) : Sem Value).run Tryd.prog w = .ok (.int .u8 (((y.getD i4 0).toNat : Nat) : Int)) w) (by kernel_rfl) (fun φ11 xs11 J w hJ hS => run_idxK (s := y) (i := i4) (by have hz0 := hi4_2; have hz1 := hi4_3;  have hq0 := dT9 hc6; have hq1 := dT9 hc8; have hq2 := dT9 hc10; (try simp only [List.length_drop, List.length_take, List.length_append, List.length_cons, List.length_nil]); omega)), trivial⟩⟩ (by kernel_rfl) trivial ?k11
     case k11 =>
      rintro φ11 xs11 I11 w11 le11 s 
      replace hle3 := leMono le11 hle3
      refine wp_ret ?_
      refine ret_rule (C := []) [] [] (.bool (decide (((xx.getD i4 0).toNat) < ((y.getD i4 0).toNat)))) [] [] s trivial (by kernel_rfl) ?_
      exact ⟨_, _, _, rfl, s, (congrArg Value.bool (bL_ne (by have hq0 := dT9 hc6; have hq1 := dT9 hc8; have hq2 := dT9 hc10; omega) (by have hq0 := dT9 hc6; have hq1 := dT9 hc8; have hq2 := dT9 hc10; omega) (by have hq0 := dT9 hc6; have hq1 := dT9 hc8; have hq2 := dT9 hc10; omega) hi4_1).symm)⟩
    ·
     rw [hc10]
     refine cond_false_rule (b := false) (by kernel_rfl) rfl ?_
     refine wp_skip ?_
     refine region_rule ?_
     refine oK [] [] 3 [] 0 (fun φ12 => [(5, .int .i64 (IntKind.wrap .i64 (((i4 : Nat) : Int) + ((1 : Nat) : Int)))), (17, .int .i64 (IntKind.wrap .i64 (((i4 : Nat) : Int) + ((1 : Nat) : Int)))), (16, .int .i64 i4)]) (fun φ12 => []) s (fun φ12 => by kernel_rfl) ?_
     intro φ12 w12 s
     rw [nat_addI (a := i4) (b := 1) (by have hz0 := hi4_2; have hz1 := hi4_3;  have hq0 := dT9 hc6; have hq1 := dT9 hc8; have hq2 := dF9 hc10; omega)]
     refine ops_done (by kernel_rfl) ?_
     exact ⟨⟨m4 - 1, i4 + 1, _, _, _, by have hq0 := dT9 hc6; have hq1 := dT9 hc8; have hq2 := dF9 hc10; omega, rfl, s, List.Sublist.slnil, by kernel_rfl, hle3, by have hq0 := dT9 hc6; have hq1 := dT9 hc8; have hq2 := dF9 hc10; show xx.length ≤ i4 + 1 + (m4 - 1); omega, bL_go (by have hq0 := dT9 hc6; have hq1 := dT9 hc8; have hq2 := dF9 hc10; omega) (by have hq0 := dT9 hc6; have hq1 := dT9 hc8; have hq2 := dF9 hc10; omega) (by have hq0 := dT9 hc6; have hq1 := dT9 hc8; have hq2 := dF9 hc10; omega) hi4_1, by have hq0 := dT9 hc6; have hq1 := dT9 hc8; have hq2 := dF9 hc10; show i4 + 1 ≤ xx.length; omega, by have hq0 := dT9 hc6; have hq1 := dT9 hc8; have hq2 := dF9 hc10; show i4 + 1 ≤ y.length; omega⟩⟩
  ·
   rw [hc8]
   refine cond_false_rule (b := false) (by kernel_rfl) rfl ?_
   refine wp_exit ?_
   refine seqR ?_
   refine oK [] [] 6 [] 0 (fun φ13 => [(4, .bool (decide (((xx.length : Nat) : Int) < ((y.length : Nat) : Int)))), (36, .bool (decide (((xx.length : Nat) : Int) < ((y.length : Nat) : Int)))), (35, .int .i64 y.length), (34, .string ⟨(y).toArray⟩), (33, .int .i64 xx.length), (32, .string ⟨(xx).toArray⟩)]) (fun φ13 => []) s (fun φ13 => by kernel_rfl) ?_
   intro φ13 w13 s
   rw [nat_lss (a := xx.length) (b := y.length)]
   refine ops_done (by kernel_rfl) ?_
   refine wp_ret ?_
   refine ret_rule (C := []) [] [] (.bool (decide (xx.length < y.length))) [] [] s trivial (by kernel_rfl) ?_
   exact ⟨_, _, _, rfl, s, (congrArg Value.bool (bL_end hi4_2 hi4_3 (by have hq0 := dT9 hc6; have hq1 := dF9 hc8; omega) hi4_1).symm)⟩
 ·
  rw [hc6]
  refine oKD [] [] 5 [] 0 (fun φ14 => [(15, .bool false), (14, undef), (13, undef), (12, undef), (11, undef)]) (fun φ14 => []) s (fun φ14 => by kernel_rfl) (by kernel_rfl) ?_
  intro φ14 w14 s
  refine cond_false_rule (b := false) (by kernel_rfl) rfl ?_
  refine wp_exit ?_
  refine seqR ?_
  refine oK [] [] 6 [] 0 (fun φ15 => [(4, .bool (decide (((xx.length : Nat) : Int) < ((y.length : Nat) : Int)))), (36, .bool (decide (((xx.length : Nat) : Int) < ((y.length : Nat) : Int)))), (35, .int .i64 y.length), (34, .string ⟨(y).toArray⟩), (33, .int .i64 xx.length), (32, .string ⟨(xx).toArray⟩)]) (fun φ15 => []) s (fun φ15 => by kernel_rfl) ?_
  intro φ15 w15 s
  rw [nat_lss (a := xx.length) (b := y.length)]
  refine ops_done (by kernel_rfl) ?_
  refine wp_ret ?_
  refine ret_rule (C := []) [] [] (.bool (decide (xx.length < y.length))) [] [] s trivial (by kernel_rfl) ?_
  exact ⟨_, _, _, rfl, s, (congrArg Value.bool (bL_end hi4_2 hi4_3 (by have hq0 := dF9 hc6; omega) hi4_1).symm)⟩

set_option maxHeartbeats 2000000 in
theorem refLess_c {I : IM} {k k' : Int} {A B A' B' : List UInt8} (hA : A.length ≤ 1000000) (hB : B.length ≤ 1000000) (hA' : A'.length ≤ 1000000) (hB' : B'.length ≤ 1000000) : Fun Tryd.prog 35 #[.agg #[.int .i64 k, .string ⟨(A).toArray⟩, .string ⟨(B).toArray⟩], .agg #[.int .i64 k', .string ⟨(A').toArray⟩, .string ⟨(B').toArray⟩]] I (fun v J => v = .bool (lesF k A B k' A' B')) := by
 refine enter_rule 30 [(0, .agg #[.int .i64 k, .string ⟨(A).toArray⟩, .string ⟨(B).toArray⟩]), (1, .agg #[.int .i64 k', .string ⟨(A').toArray⟩, .string ⟨(B').toArray⟩])] Tryd.func35 rfl (by kernel_rfl) ?_
 intro w s
 refine seqR ?_
 refine ops_rule (C := []) [] [] 3 [] 2 (fun φ1 => [(4, .bool false), (3, .pointer (some ⟨(φ1 1), 0, none⟩)), (2, .pointer (some ⟨(φ1 0), 0, none⟩))]) (fun φ1 => [((φ1 0), .cells #[.int .i64 k, .string ⟨(A).toArray⟩, .string ⟨(B).toArray⟩] 42), ((φ1 1), .cells #[.int .i64 k', .string ⟨(A').toArray⟩, .string ⟨(B').toArray⟩] 42)]) (fun φ1 => []) s trivial (fun φ1 => by kernel_rfl) ?_
 intro φ1 w1 s
 refine ops_done (by kernel_rfl) ?_
 refine wp_seq ?_
 refine seqR ?_
 refine ops_rule (C := []) [((φ1 0), .cells #[.int .i64 k, .string ⟨(A).toArray⟩, .string ⟨(B).toArray⟩] 42), ((φ1 1), .cells #[.int .i64 k', .string ⟨(A').toArray⟩, .string ⟨(B').toArray⟩] 42)] [] 5 [.o 0, .o 1] 0 (fun φ2 => [(9, .bool (k != k')), (8, .int .i64 k'), (7, .pointer (some ⟨(φ1 1), 0, none⟩)), (6, .int .i64 k), (5, .pointer (some ⟨(φ1 0), 0, none⟩))]) (fun φ2 => [((φ1 0), .cells #[.int .i64 k, .string ⟨(A).toArray⟩, .string ⟨(B).toArray⟩] 42), ((φ1 1), .cells #[.int .i64 k', .string ⟨(A').toArray⟩, .string ⟨(B').toArray⟩] 42)]) (fun φ2 => [(φ1 0), (φ1 1)]) s trivial (fun φ2 => by kernel_rfl) ?_
 intro φ2 w2 s
 refine ops_done (by kernel_rfl) ?_
 rcases Bool.eq_false_or_eq_true (k != k') with hc3 | hc3
 ·
  rw [hc3]
  refine cond_true_rule (b := true) (by kernel_rfl) rfl ?_
  refine seqR ?_
  refine ops_rule (C := []) [((φ1 0), .cells #[.int .i64 k, .string ⟨(A).toArray⟩, .string ⟨(B).toArray⟩] 42), ((φ1 1), .cells #[.int .i64 k', .string ⟨(A').toArray⟩, .string ⟨(B').toArray⟩] 42)] [] 6 [.o 0, .o 1] 0 (fun φ4 => [(4, .bool (decide (k < k'))), (14, .bool (decide (k < k'))), (13, .int .i64 k'), (12, .pointer (some ⟨(φ1 1), 0, none⟩)), (11, .int .i64 k), (10, .pointer (some ⟨(φ1 0), 0, none⟩))]) (fun φ4 => [((φ1 0), .cells #[.int .i64 k, .string ⟨(A).toArray⟩, .string ⟨(B).toArray⟩] 42), ((φ1 1), .cells #[.int .i64 k', .string ⟨(A').toArray⟩, .string ⟨(B').toArray⟩] 42)]) (fun φ4 => [(φ1 0), (φ1 1)]) s trivial (fun φ4 => by kernel_rfl) ?_
  intro φ4 w4 s
  refine ops_done (by kernel_rfl) ?_
  refine wp_ret ?_
  refine ret_rule (C := []) _ [] (.bool (decide (k < k'))) [] [] s trivial (by kernel_rfl) ?_
  exact ⟨_, _, _, rfl, s, (congrArg Value.bool (by unfold lesF; rw [if_pos (by have h9 := hc3; simpa using h9)]))⟩
 ·
  rw [hc3]
  refine cond_false_rule (b := false) (by kernel_rfl) rfl ?_
  refine wp_skip ?_
  refine wp_seq ?_
  refine seqR ?_
  refine oK _ [] 4 [.o 0, .o 1] 0 (fun φ5 => [(18, .string ⟨(A').toArray⟩), (17, .pointer (some ⟨(φ1 1), 1, none⟩)), (16, .string ⟨(A).toArray⟩), (15, .pointer (some ⟨(φ1 0), 1, none⟩))]) (fun φ5 => [φ1 0, φ1 1]) s (fun φ5 => by kernel_rfl) ?_
  intro φ5 w5 s
  refine sem_rule (binOp .neq 9 (.string ⟨(A).toArray⟩) (.string ⟨(A').toArray⟩)) (some 19) (.bool (!(decide (A = A')))) (by kernel_rfl) (run_neS (x := A) (y := A')) ?_
  refine ops_done (by kernel_rfl) ?_
  rcases Bool.eq_false_or_eq_true (decide (A = A')) with hc6 | hc6
  ·
   rw [hc6]
   refine cond_false_rule (b := false) (by kernel_rfl) rfl ?_
   refine wp_skip ?_
   refine seqR ?_
   refine oK _ [] 4 [.o 0, .o 1] 0 (fun φ7 => [(28, .string ⟨(B').toArray⟩), (27, .pointer (some ⟨(φ1 1), 2, none⟩)), (26, .string ⟨(B).toArray⟩), (25, .pointer (some ⟨(φ1 0), 2, none⟩))]) (fun φ7 => [φ1 0, φ1 1]) s (fun φ7 => by kernel_rfl) ?_
   intro φ7 w7 s
   refine call_rule (some 29) s (before_c (xx := B) (y := B') hB hB') (by kernel_rfl) ?_
   intro v8 I8 w8 le8 h8 s
   obtain rfl := h8
   refine oKD _ [] 1 [] 0 (fun φ9 => [(4, .bool (Go.Op.bytesLess B B'))]) (fun φ9 => []) s (fun φ9 => by kernel_rfl) (by kernel_rfl) ?_
   intro φ9 w9 s
   refine wp_ret ?_
   refine ret_rule (C := []) _ [] (.bool (Go.Op.bytesLess B B')) [] [] s trivial (by kernel_rfl) ?_
   exact ⟨_, _, _, rfl, s, (congrArg Value.bool (by unfold lesF; rw [if_neg (by have h9 := hc3; simpa using h9), if_neg (by have h9 := hc6; simpa using h9)]))⟩
  ·
   rw [hc6]
   refine cond_true_rule (b := true) (by kernel_rfl) rfl ?_
   refine seqR ?_
   refine oK _ [] 4 [.o 0, .o 1] 0 (fun φ10 => [(23, .string ⟨(A').toArray⟩), (22, .pointer (some ⟨(φ1 1), 1, none⟩)), (21, .string ⟨(A).toArray⟩), (20, .pointer (some ⟨(φ1 0), 1, none⟩))]) (fun φ10 => [φ1 0, φ1 1]) s (fun φ10 => by kernel_rfl) ?_
   intro φ10 w10 s
   refine call_rule (some 24) s (before_c (xx := A) (y := A') hA hA') (by kernel_rfl) ?_
   intro v11 I11 w11 le11 h11 s
   obtain rfl := h11
   refine oKD _ [] 1 [] 0 (fun φ12 => [(4, .bool (Go.Op.bytesLess A A'))]) (fun φ12 => []) s (fun φ12 => by kernel_rfl) (by kernel_rfl) ?_
   intro φ12 w12 s
   refine wp_ret ?_
   refine ret_rule (C := []) _ [] (.bool (Go.Op.bytesLess A A')) [] [] s trivial (by kernel_rfl) ?_
   exact ⟨_, _, _, rfl, s, (congrArg Value.bool (by unfold lesF; rw [if_neg (by have h9 := hc3; simpa using h9), if_pos (by have h9 := hc6; simpa using h9)]))⟩

end Go.Proofs.YtcpmjogeafhpnaaDoor.Tx
/- Fields lent, fields in a row: for a card that is made. -/
set_option linter.all false
set_option maxRecDepth 100000
namespace Go.Proofs.YtcpmjogeafhpnaaDoor
open Go.RowKit Go.Sep
section
variable {w0 : World} {I0 : IM} {m : List Nat} {I : IM} {P : Program} {Q : Exit → Act → World → Prop}
/-- RULE: a call that reads blocks of one's own, and hands back a row. -/
theorem callLF_rule {N : Nat} {ops : Array Oper} {ev : Ev} {l : List Oper} {H : List OB} {w : World} {f : FuncId} {args : Array Value} {R : Value → List OB → Prop} (d : Option Tmp)
    (s : St w0 I0 m I w H) (Ip : IM) (hI : I.Le Ip) (hsub : ∀ k o, Ip k = some o → I k = some o ∨ (k, o) ∈ H) (hf : FunM P f args Ip [] (fun v _ F' => R v F')) (h : callOf P N ops ev l = some (f, args, d))
    (k : ∀ v w' F', R v F' → St w0 I0 m I w' (H ++ F') → wpList P ops Q l.tail (ActOf N (putE d v ev)) w') : wpList P ops Q l (ActOf N ev) w := by
  obtain ⟨o, l', rfl, rfl, hw, hr⟩ := callOf_spec h
  refine wpList_step fun K hK => ?_
  rw [ActOf_yield, if_pos hw]
  unfold Oper.wp
  rw [ActOf_eval, hr]
  simp only [Oper.upon]
  have hS : Ip.Sub w := fun k o e => by
    rcases hsub k o e with h1 | h1
    · exact s.sub k o h1
    · exact s.own (k, o) h1
  refine (hf w hS (Owns.nil Ip w)).mono ?_
  rintro e w' ⟨v, I', H', rfl, p, r⟩
  refine hK _ _ ?_
  rw [ActOf_put]
  have p2 : St w I [] I w' H' := ⟨fun k o e => p.sub k o (p.le k o (hI k o e)), IM.Le.refl I, fun _ _ _ => rfl, p.fr, p.own, fun e he => by
      cases hk : I e.1 with
      | none => rfl
      | some o =>
        have h1 := s.sub.lt hk
        rcases p.fresh e he with h2 | h2
        · omega
        · simp at h2, p.fresh, p.nodup⟩
  have s2 := St.afterM (Hi := []) (Hr := H) s p2
  exact k v w' H' r (s2.perm List.perm_append_comm)
/-- RULE: .. and hands back what lies in no memory. -/
theorem callL_rule {N : Nat} {ops : Array Oper} {ev : Ev} {l : List Oper} {H : List OB} {w : World} {f : FuncId} {args : Array Value} {R : Value → Prop} (d : Option Tmp)
    (s : St w0 I0 m I w H) (Ip : IM) (hI : I.Le Ip) (hsub : ∀ k o, Ip k = some o → I k = some o ∨ (k, o) ∈ H) (hf : Fun P f args Ip (fun v _ => R v)) (h : callOf P N ops ev l = some (f, args, d))
    (k : ∀ v w', R v → St w0 I0 m I w' H → wpList P ops Q l.tail (ActOf N (putE d v ev)) w') : wpList P ops Q l (ActOf N ev) w :=
  callLF_rule (R := fun v _ => R v) d s Ip hI hsub (fun w hw _ => (hf w hw).mono fun e w' ⟨v, I', H', he, p, r⟩ => ⟨v, I', H', he, p, r⟩) h fun v w' F' r st => k v w' r (st.drop (List.sublist_append_left H F'))
end
theorem add_sub {I : IM} {g : Nat} {o : Obj} {H : List OB} (hm : (g, o) ∈ H) : ∀ k x, I.add g o k = some x → I k = some x ∨ (k, x) ∈ H := fun k x e => by
  unfold IM.add at e
  split at e
  · rename_i h; subst h; cases e; exact .inr hm
  · exact .inl e

theorem row_lend39 {w0 : World} {I0 : IM} {m : List Nat} {I : IM} {w : World} {H F : List OB} {L : List Fe} {v : Value} {n : Nat} (s : St w0 I0 m I w (H ++ F)) (h : RowH 39 3 v n (fcs L) F) :
    ∃ Ip : IM, I.Le Ip ∧ (∀ k o, Ip k = some o → I k = some o ∨ (k, o) ∈ H ++ F) ∧ ∃ a c, v = .slice a L.length c ∧ L.length ≤ c ∧ FSl Ip L (.slice a L.length c) := by
  have hl : L.length = n := by have := h.1; rw [fcs_length] at this; omega
  rcases h.2 with ⟨rfl, rfl, rfl⟩ | ⟨g, cap, cur, rfl, rfl, hnc, hcm, hcs, ht⟩
  · have : L = [] := List.eq_nil_of_length_eq_zero hl
    subst this
    exact ⟨I, IM.Le.refl I, fun k o e => .inl e, none, 0, rfl, Nat.le_refl _, fsl_nil I⟩
  · subst hl
    refine ⟨I.add g (.cells cur 39), IM.le_add (s.free (g, .cells cur 39) (by simp)) _, add_sub (H := H ++ [(g, .cells cur 39)]) (by simp), _, _, rfl, hnc, ?_⟩
    refine ⟨some ⟨g, 0, none⟩, cap, rfl, hnc, fun j x hj => ⟨g, 0, cur, 39, (0, 0), rfl, IM.add_self _ _ _, ?_⟩⟩
    have hh := fcs_at hj
    rw [← ht, List.getElem?_take, List.getElem?_take, List.getElem?_take] at hh
    have hj2 := (List.getElem?_eq_some_iff.1 hj).1
    rw [if_pos (by omega), if_pos (by omega), if_pos (by omega)] at hh
    rw [Nat.zero_add]
    simpa using hh
theorem src_fsl {I : IM} {w : World} (hs : I.Sub w) {x : Fe} {a : Option Addr} {c : Nat} (h : FSl I [x] (.slice a 1 c)) : Src Tryd.prog 3 22 (.slice a 1 c) 1 (fc x) w := by
  obtain ⟨a', c', hv, hc, hr⟩ := h
  cases hv
  obtain ⟨b, o, cs, T, fr, rfl, h2, h3, h4, h5⟩ := hr 0 x rfl
  refine Src.ofSlice w under22s ⟨b, o, none⟩ 1 c (fc x) rfl (fun j u hu => ?_) (fun u hu => ?_)
  · rw [addr_addO, run_cell (a := ⟨b, o + j, none⟩) (hs _ _ h2) rfl rfl]
    match j with
    | 0 => simp only [fc, List.getElem?_cons_zero, Option.some.injEq] at hu; subst hu; exact h3
    | 1 => simp only [fc, List.getElem?_cons_succ, List.getElem?_cons_zero, Option.some.injEq] at hu; subst hu; exact h4
    | 2 => simp only [fc, List.getElem?_cons_succ, List.getElem?_cons_zero, Option.some.injEq] at hu; subst hu; exact h5
    | j + 3 => simp [fc] at hu
  · simp only [fc, List.mem_cons, List.not_mem_nil, or_false] at hu
    rcases hu with rfl | rfl | rfl <;> rfl
theorem fsl_rbG {I : IM} {k : Nat} {z : Int} {A B : List UInt8} (h : I k = some (.cells #[.int .i64 z, .string ⟨A.toArray⟩, .string ⟨B.toArray⟩] 39)) : FSl I [⟨z, A, B⟩] (.slice (some ⟨k, 0, none⟩) 1 1) := by
  refine ⟨some ⟨k, 0, none⟩, 1, rfl, Nat.le_refl _, fun j x hj => ?_⟩
  match j with
  | 0 => simp only [List.getElem?_cons_zero, Option.some.injEq] at hj; subst hj; exact ⟨k, 0, _, 39, (0, 0), rfl, h, rfl, rfl, rfl⟩
  | j + 1 => simp at hj
theorem run_end22 {w : World} {a : Option Addr} {n cap : Nat} (h1 : n ≤ cap) : ∃ u, (Instr.sliceAt 22 (.slice a n cap) (some (.int .i64 ((n : Nat) : Int))) none none).run Tryd.prog w = .ok u w := by
  have hb : (Instr.sliceBound (.int .i64 ((n : Nat) : Int)) n .sliceB).run Tryd.prog w = .ok n w := run_bound (Nat.le_refl n)
  refine ⟨.slice (if cap = n then a else a.map (·.add (n * 3))) (n - n) (cap - n), ?_⟩
  simp [Instr.sliceAt, Instr.slice, run_underlying under22s, Instr.sliceBounds, hb, size39s]
theorem row_new39 (b : Nat) : RowH 39 3 (.slice (some ⟨b, 0, none⟩) 0 0) 0 [] [(b, .cells #[] 39)] := ⟨rfl, .inr ⟨b, 0, #[], rfl, rfl, Nat.le_refl _, by decide, rfl, rfl⟩⟩
def lesFe (x y : Fe) : Bool := Tx.lesF x.k x.a x.v y.k y.a y.v
theorem lesFe_trans {x y z : Fe} (h1 : lesFe x y = true) (h2 : lesFe y z = true) : lesFe x z = true := Tx.les_trans h1 h2
/-- each ahead of the next -/
def asc (L : List Fe) : Prop := ∀ i, i + 1 < L.length → lesFe (L.getD i Fe.z) (L.getD (i + 1) Fe.z) = true
theorem asc_lt {L : List Fe} (h : asc L) : ∀ {i j : Nat}, i < j → j < L.length → lesFe (L.getD i Fe.z) (L.getD j Fe.z) = true
  | i, 0, hi, _ => by omega
  | i, j + 1, hi, hj => by
    by_cases e : i = j
    · subst e; exact h i hj
    · exact lesFe_trans (asc_lt h (i := i) (j := j) (by omega) (by omega)) (h j hj)
theorem take_getD {L : List Fe} {i j : Nat} (h : j < i) (hi : i ≤ L.length) : (L.take i).getD j Fe.z = L.getD j Fe.z := by
  simp only [List.getD_eq_getElem?_getD, List.getElem?_take, if_pos h]
end Go.Proofs.YtcpmjogeafhpnaaDoor
/- A binary search for what stands behind all. -/
set_option linter.all false
set_option maxRecDepth 100000
namespace Go.Proofs.YtcpmjogeafhpnaaDoor
open Go.RowKit Go.Sep
attribute [local irreducible] Go.wpList Go.Code.wp

set_option maxHeartbeats 4000000 in
theorem searchEnd_c {I : IM} {M : List Fe} {a0 : Option Addr} {c0 : Nat} (h0 : FSl I M (.slice a0 M.length c0)) (hl : M.length ≤ 1000) {k : Int} {A B : List UInt8} (hx : ∀ j, j < M.length → lesFe (M.getD j Fe.z) ⟨k, A, B⟩ = true) : Fun Tryd.prog 97 #[.slice a0 M.length c0, .agg #[.int .i64 k, .string ⟨(A).toArray⟩, .string ⟨(B).toArray⟩], .func (.func 72) #[] #[]] I (fun v J => v = .tuple #[.int .i64 ((M.length : Nat) : Int), .bool false]) := by
 refine enter_rule 49 [(0, .slice a0 M.length c0), (1, .agg #[.int .i64 k, .string ⟨(A).toArray⟩, .string ⟨(B).toArray⟩]), (2, .func (.func 72) #[] #[])] Tryd.func97 rfl (by kernel_rfl) ?_
 intro w s
 refine seqR ?_
 refine oAD [] [] 3 [] 1 (fun φ1 => [(7, .bool false), (6, .int .i64 0), (4, pB (φ1 0))]) (fun φ1 => [(φ1 0, .cells #[.int .i64 k, .string ⟨(A).toArray⟩, .string ⟨(B).toArray⟩] 39)]) (fun φ1 => []) s (fun φ1 => by kernel_rfl) (by kernel_rfl) ?_
 intro φ1 w1 s
 refine seqR ?_
 refine oKD _ [] 3 [] 0 (fun φ2 => [(8, .int .i64 M.length), (13, .int .i64 M.length), (12, .slice a0 M.length c0)]) (fun φ2 => []) s (fun φ2 => by kernel_rfl) (by kernel_rfl) ?_
 intro φ2 w2 s
 refine seqR ?_
 refine oKD _ [] 3 [] 0 (fun φ3 => [(10, .int .i64 M.length), (9, .int .i64 0), (14, .int .i64 M.length)]) (fun φ3 => []) s (fun φ3 => by kernel_rfl) (by kernel_rfl) ?_
 intro φ3 w3 s
 refine wp_seq ?_
 refine wp_block ?_
 have hle4 := IM.Le.refl I
 refine loop_rule (fun (x : Nat) => [(0, .slice a0 M.length c0), (2, .func (.func 72) #[] #[]), (4, pB (φ1 0)), (6, .int .i64 0), (7, .bool false), (8, .int .i64 M.length), (10, .int .i64 M.length), (9, .int .i64 x)]) (fun (x : Nat) => [(φ1 0, .cells #[.int .i64 k, .string ⟨(A).toArray⟩, .string ⟨(B).toArray⟩] 39)]) (fun m (x : Nat) J => IM.Le I J ∧ M.length ≤ x + m ∧ x ≤ M.length) (M.length) 0 s (by kernel_rfl) (List.Sublist.cons₂ _ List.Sublist.slnil) ⟨IM.Le.refl _, by omega, Nat.zero_le _⟩ ?_
 rintro m5 p5 I5 w5 ev5 s ⟨le5, hi5_0, hi5_1⟩
 try dsimp only at s hi5_0 hi5_1 ⊢
 replace h0 := FSl.mono le5 h0
 replace hle4 := leMono le5 hle4
 refine wp_seq ?_
 refine seqR ?_
 refine oK [(φ1 0, .cells #[.int .i64 k, .string ⟨(A).toArray⟩, .string ⟨(B).toArray⟩] 39)] [] 3 [] 0 (fun φ6 => [(17, .bool (decide (((p5 : Nat) : Int) < ((M.length : Nat) : Int)))), (16, .int .i64 M.length), (15, .int .i64 p5)]) (fun φ6 => []) s (fun φ6 => by kernel_rfl) ?_
 intro φ6 w6 s
 rw [nat_lss (a := p5) (b := M.length)]
 refine ops_done (by kernel_rfl) ?_
 rcases Bool.eq_false_or_eq_true (decide (p5 < M.length)) with hc7 | hc7
 ·
  rw [hc7]
  refine cond_true_rule (b := true) (by kernel_rfl) rfl ?_
  refine wp_skip ?_
  refine wp_block ?_
  refine seqR ?_
  refine oK _ [] 4 [] 0 (fun φ8 => [(21, .int .u64 (IntKind.wrap .u64 (IntKind.wrap .i64 (((p5 : Nat) : Int) + ((M.length : Nat) : Int))))), (20, .int .i64 (IntKind.wrap .i64 (((p5 : Nat) : Int) + ((M.length : Nat) : Int)))), (19, .int .i64 M.length), (18, .int .i64 p5)]) (fun φ8 => []) s (fun φ8 => by kernel_rfl) ?_
  intro φ8 w8 s
  rw [nat_addI (a := p5) (b := M.length) (by have e8 := hi5_1; have hq0 := dT9 hc7; (try simp only [List.length_drop, List.length_take, List.length_append, List.length_cons, List.length_nil]); omega)]
  rw [nat_wrapU (a := (p5 + M.length)) (by have e8 := hi5_1; have hq0 := dT9 hc7; (try simp only [List.length_drop, List.length_take, List.length_append, List.length_cons, List.length_nil]); omega)]
  refine sem_rule (binOp .shr 142 (.int .u64 ((p5 + M.length : Nat) : Int)) (.int .u64 ((1 : Nat) : Int))) (some 22) (.int .u64 (((p5 + M.length) / 2 ^ 1 : Nat) : Int)) (by kernel_rfl) (run_shrU (by show _ < 18446744073709551616; have e8 := hi5_1; have hq0 := dT9 hc7; (try simp only [List.length_drop, List.length_take, List.length_append, List.length_cons, List.length_nil]); omega)) ?_
  refine oK _ [] 2 [] 0 (fun φ9 => [(11, .int .i64 (IntKind.wrap .i64 (((p5 + M.length) / 2 ^ 1 : Nat) : Int))), (23, .int .i64 (IntKind.wrap .i64 (((p5 + M.length) / 2 ^ 1 : Nat) : Int)))]) (fun φ9 => []) s (fun φ9 => by kernel_rfl) ?_
  intro φ9 w9 s
  rw [nat_wrapI (a := ((p5 + M.length) / 2 ^ 1)) (by have e8 := hi5_1; have hq0 := dT9 hc7; (try simp only [List.length_drop, List.length_take, List.length_append, List.length_cons, List.length_nil]); omega)]
  refine ops_done (by kernel_rfl) ?_
  refine wp_seq ?_
  refine draw_rule (C := []) ⟨(fun φ10 xs10 => [.look 0 [] [], .look 0 [] [], .look 0 [] [], .ran (Instr.indexAt 22 (.slice a0 M.length c0) (.int .i64 (((p5 + M.length) / 2 ^ 1 : Nat) : Int))), .ran (Instr.loadAt 39 (.pointer (pAt a0 (((p5 + M.length) / 2 ^ 1) * 3)))), .look 0 [.o 0, .o 0, .o 0] [φ1 0, φ1 0, φ1 0], .call 72 #[.agg #[.int .i64 ((List.getD M ((p5 + M.length) / 2 ^ 1) Fe.z).k), .string ⟨((List.getD M ((p5 + M.length) / 2 ^ 1) Fe.z).a).toArray⟩, .string ⟨((List.getD M ((p5 + M.length) / 2 ^ 1) Fe.z).v).toArray⟩], .agg #[.int .i64 k, .string ⟨(A).toArray⟩, .string ⟨(B).toArray⟩]], .look 0 [] []]), (fun φ10 xs10 => [.func (.func 72) #[] #[], .slice a0 M.length c0, .int .i64 (((p5 + M.length) / 2 ^ 1 : Nat) : Int), .pointer (pAt a0 (((p5 + M.length) / 2 ^ 1) * 3)), .agg #[.int .i64 ((List.getD M ((p5 + M.length) / 2 ^ 1) Fe.z).k), .string ⟨((List.getD M ((p5 + M.length) / 2 ^ 1) Fe.z).a).toArray⟩, .string ⟨((List.getD M ((p5 + M.length) / 2 ^ 1) Fe.z).v).toArray⟩], .agg #[.int .i64 k, .string ⟨(A).toArray⟩, .string ⟨(B).toArray⟩], .int .i64 (Tx.ordF ((List.getD M ((p5 + M.length) / 2 ^ 1) Fe.z).k) ((List.getD M ((p5 + M.length) / 2 ^ 1) Fe.z).a) ((List.getD M ((p5 + M.length) / 2 ^ 1) Fe.z).v) k A B), .bool (decide ((Tx.ordF ((List.getD M ((p5 + M.length) / 2 ^ 1) Fe.z).k) ((List.getD M ((p5 + M.length) / 2 ^ 1) Fe.z).a) ((List.getD M ((p5 + M.length) / 2 ^ 1) Fe.z).v) k A B) < ((0 : Nat) : Int)))]), (fun φ10 xs10 => [[(φ1 0, .cells #[.int .i64 k, .string ⟨(A).toArray⟩, .string ⟨(B).toArray⟩] 39)]]), (fun φ10 xs10 => [[default, default, default, default, default, default, default, default]]), [], [1, 1, 1, 6, 6, 1, 3, 1]⟩ (fun j => ([MP.any] : List MP).getD j MP.any) [6] [] [3, 4] (fun φ10 xs10 => []) (fun φ10 xs10 => [(24, .func (.func 72) #[] #[]), (25, .slice a0 M.length c0), (26, .int .i64 (((p5 + M.length) / 2 ^ 1 : Nat) : Int)), (27, .pointer (pAt a0 (((p5 + M.length) / 2 ^ 1) * 3))), (28, .agg #[.int .i64 ((List.getD M ((p5 + M.length) / 2 ^ 1) Fe.z).k), .string ⟨((List.getD M ((p5 + M.length) / 2 ^ 1) Fe.z).a).toArray⟩, .string ⟨((List.getD M ((p5 + M.length) / 2 ^ 1) Fe.z).v).toArray⟩]), (29, .agg #[.int .i64 k, .string ⟨(A).toArray⟩, .string ⟨(B).toArray⟩]), (30, .int .i64 (Tx.ordF ((List.getD M ((p5 + M.length) / 2 ^ 1) Fe.z).k) ((List.getD M ((p5 + M.length) / 2 ^ 1) Fe.z).a) ((List.getD M ((p5 + M.length) / 2 ^ 1) Fe.z).v) k A B)), (31, .bool (decide ((Tx.ordF ((List.getD M ((p5 + M.length) / 2 ^ 1) Fe.z).k) ((List.getD M ((p5 + M.length) / 2 ^ 1) Fe.z).a) ((List.getD M ((p5 + M.length) / 2 ^ 1) Fe.z).v) k A B) < ((0 : Nat) : Int))))]) (fun φ10 xs10 => [(φ1 0, .cells #[.int .i64 k, .string ⟨(A).toArray⟩, .string ⟨(B).toArray⟩] 39)]) s trivial (by kernel_rfl) (by kernel_rfl) (fun _ _ => by kernel_rfl) (fun _ _ => by kernel_rfl) ⟨fun _ _ => by kernel_rfl, fun _ _ => by kernel_rfl, fun _ _ => by kernel_rfl, fun _ _ => by kernel_rfl⟩ (fun _ _ _ => by kernel_rfl) (fun _ _ => by kernel_rfl) (fun _ _ => by kernel_rfl) (fun _ _ => by kernel_rfl) (fun _ _ => by kernel_rfl) (fun _ _ => by kernel_rfl) trivial ⟨kcast (A := ∀ (φ10 : Nat → Nat) (xs10 : Xs) (J : IM) (w : World), I5.Le J → J.Sub w → ((Instr.indexAt 22 (.slice a0 M.length c0) (.int .i64 (((p5 + M.length) / 2 ^ 1 : Nat) : Int))) : Sem Value).run Tryd.prog w = .ok (.pointer (pAt a0 (((p5 + M.length) / 2 ^ 1) * 3))) w) (by kernel_rfl) (fun φ10 xs10 J w hJ hS => fsl_idx22 (FSl.mono hJ h0) (by have e8 := hi5_1; have hq0 := dT9 hc7; (try simp only [List.length_drop, List.length_take, List.length_append, List.length_cons, List.length_nil]); omega)), ⟨kcast (A := ∀ (φ10 : Nat → Nat) (xs10 : Xs) (J : IM) (w : World), I5.Le J → J.Sub w → ((Instr.loadAt 39 (.pointer (pAt a0 (((p5 + M.length) / 2 ^ 1) * 3)))) : Sem Value).run Tryd.prog w = .ok (.agg #[.int .i64 ((List.getD M ((p5 + M.length) / 2 ^ 1) Fe.z).k), .string ⟨((List.getD M ((p5 + M.length) / 2 ^ 1) Fe.z).a).toArray⟩, .string ⟨((List.getD M ((p5 + M.length) / 2 ^ 1) Fe.z).v).toArray⟩]) w) (by kernel_rfl) (fun φ10 xs10 J w hJ hS => fsl_ld39 hS (FSl.mono hJ h0) (by have e8 := hi5_1; have hq0 := dT9 hc7; (try simp only [List.length_drop, List.length_take, List.length_append, List.length_cons, List.length_nil]); omega)), trivial⟩⟩ (by kernel_rfl) ⟨?c10_6, trivial⟩ ?k10
  case c10_6 =>
   refine kcast (A := ∀ (φ10 : Nat → Nat) (xs10 : Xs) (J6_10 : IM), I5.Le J6_10 → Fun Tryd.prog 72 #[.agg #[.int .i64 ((List.getD M ((p5 + M.length) / 2 ^ 1) Fe.z).k), .string ⟨((List.getD M ((p5 + M.length) / 2 ^ 1) Fe.z).a).toArray⟩, .string ⟨((List.getD M ((p5 + M.length) / 2 ^ 1) Fe.z).v).toArray⟩], .agg #[.int .i64 k, .string ⟨(A).toArray⟩, .string ⟨(B).toArray⟩]] J6_10 (fun v J' => ∃ x : UX, v = .int .i64 (Tx.ordF ((List.getD M ((p5 + M.length) / 2 ^ 1) Fe.z).k) ((List.getD M ((p5 + M.length) / 2 ^ 1) Fe.z).a) ((List.getD M ((p5 + M.length) / 2 ^ 1) Fe.z).v) k A B) ∧ (True))) (by kernel_rfl) ?_
   intro φ10 xs10 J6_10 leJ
   exact Fun.mono (Tx.order_c (k := (List.getD M ((p5 + M.length) / 2 ^ 1) Fe.z).k) (A := (List.getD M ((p5 + M.length) / 2 ^ 1) Fe.z).a) (B := (List.getD M ((p5 + M.length) / 2 ^ 1) Fe.z).v) (k' := k) (A' := A) (B' := B)) (fun v J' _ h => ⟨UX.d, h, trivial⟩)
  case k10 =>
   rintro φ10 xs10 I10 w10 le10 s _
   replace hle4 := leMono le10 hle4
   rcases Bool.eq_false_or_eq_true (decide ((Tx.ordF ((List.getD M ((p5 + M.length) / 2 ^ 1) Fe.z).k) ((List.getD M ((p5 + M.length) / 2 ^ 1) Fe.z).a) ((List.getD M ((p5 + M.length) / 2 ^ 1) Fe.z).v) k A B) < ((0 : Nat) : Int))) with hc11 | hc11
   ·
    rw [hc11]
    refine cond_true_rule (b := true) (by kernel_rfl) rfl ?_
    refine region_rule ?_
    refine oK [(φ1 0, .cells #[.int .i64 k, .string ⟨(A).toArray⟩, .string ⟨(B).toArray⟩] 39)] [] 3 [] 0 (fun φ12 => [(9, .int .i64 (IntKind.wrap .i64 ((((p5 + M.length) / 2 ^ 1 : Nat) : Int) + ((1 : Nat) : Int)))), (33, .int .i64 (IntKind.wrap .i64 ((((p5 + M.length) / 2 ^ 1 : Nat) : Int) + ((1 : Nat) : Int)))), (32, .int .i64 (((p5 + M.length) / 2 ^ 1 : Nat) : Int))]) (fun φ12 => []) s (fun φ12 => by kernel_rfl) ?_
    intro φ12 w12 s
    rw [nat_addI (a := ((p5 + M.length) / 2 ^ 1)) (b := 1) (by have e8 := hi5_1; have hq0 := dT9 hc7; have hq1 := dT9 hc11; (try simp only [List.length_drop, List.length_take, List.length_append, List.length_cons, List.length_nil]); omega)]
    refine ops_done (by kernel_rfl) ?_
    exact ⟨⟨m5 - 1, ((p5 + M.length) / 2 ^ 1) + 1, _, _, _, by have hq0 := dT9 hc7; have hq1 := dT9 hc11; have := hi5_0; have := hi5_1; omega, rfl, s, (List.Sublist.cons₂ _ List.Sublist.slnil), by kernel_rfl, hle4, by have hq0 := dT9 hc7; have hq1 := dT9 hc11; have := hi5_0; have := hi5_1; show M.length ≤ ((p5 + M.length) / 2 ^ 1) + 1 + (m5 - 1); omega, by have hq0 := dT9 hc7; have hq1 := dT9 hc11; show ((p5 + M.length) / 2 ^ 1) + 1 ≤ M.length; omega⟩⟩
   ·
    exact absurd (dF9 hc11) (not_not_intro (by have h9 := hx ((p5 + M.length) / 2 ^ 1) (by have hq0 := dT9 hc7; have e8 := hi5_1; omega); unfold lesFe at h9; rw [← Tx.ord_les] at h9; exact dT9 h9))
 ·
  rw [hc7]
  refine cond_false_rule (b := false) (by kernel_rfl) rfl ?_
  refine wp_exit ?_
  refine wp_seq ?_
  refine draw_rule (C := []) ⟨(fun φ13 xs13 => [.look 0 [] [], .look 0 [] [], .look 0 [] [], .sub 0 [] [] (.bool (decide (((p5 : Nat) : Int) < ((M.length : Nat) : Int)))), .look 0 [] [], .skip, .skip, .skip, .skip, .skip, .skip, .skip, .skip, .look 0 [] [], .look 0 [] [], .look 0 [] []]), (fun φ13 xs13 => [.int .i64 p5, .int .i64 p5, .int .i64 M.length, .bool false, .bool false, undef, undef, undef, undef, undef, undef, undef, undef, .bool false, .int .i64 p5, .bool false]), (fun φ13 xs13 => [[(φ1 0, .cells #[.int .i64 k, .string ⟨(A).toArray⟩, .string ⟨(B).toArray⟩] 39)]]), (fun φ13 xs13 => [[default, default, default, default, default, default, default, default, default, default, default, default, default, default, default, default]]), [], [1, 1, 1, 5, 1, 0, 0, 0, 0, 0, 0, 0, 0, 1, 1, 1]⟩ (fun j => ([MP.any] : List MP).getD j MP.any) [] [3] [] (fun φ13 xs13 => []) (fun φ13 xs13 => [(35, .int .i64 p5), (36, .int .i64 p5), (37, .int .i64 M.length), (38, .bool false), (39, .bool false), (40, undef), (41, undef), (42, undef), (43, undef), (44, undef), (45, undef), (46, undef), (47, undef), (48, .bool false), (6, .int .i64 p5), (7, .bool false)]) (fun φ13 xs13 => [(φ1 0, .cells #[.int .i64 k, .string ⟨(A).toArray⟩, .string ⟨(B).toArray⟩] 39)]) s trivial (by kernel_rfl) (by kernel_rfl) (fun _ _ => by kernel_rfl) (fun _ _ => by kernel_rfl) ⟨fun _ _ => by kernel_rfl, fun _ _ => by kernel_rfl, fun _ _ => by kernel_rfl, fun _ _ => by kernel_rfl⟩ (fun _ _ _ => by kernel_rfl) (fun _ _ => by kernel_rfl) (fun _ _ => by kernel_rfl) (fun _ _ => by kernel_rfl) (fun _ _ => by kernel_rfl) (fun _ _ => by kernel_rfl) ⟨kcast (A := ∀ (φ13 : Nat → Nat) (xs13 : Xs), (.bool (decide (((p5 : Nat) : Int) < ((M.length : Nat) : Int))) : Value) = .bool false) (by kernel_rfl) (fun φ13 xs13 => congrArg Value.bool ((nat_lss (a := p5) (b := M.length)).trans (hc7))), trivial⟩ trivial (by kernel_rfl) trivial ?k13
  case k13 =>
   rintro φ13 xs13 I13 w13 le13 s 
   refine wp_ret ?_
   refine ret_rule (C := []) [(φ1 0, .cells #[.int .i64 k, .string ⟨(A).toArray⟩, .string ⟨(B).toArray⟩] 39)] [] (.tuple #[.int .i64 p5, .bool false]) [] [] s trivial (by kernel_rfl) ?_
   exact ⟨_, _, _, rfl, s, (by have hq0 := dF9 hc7; have e8 := hi5_1; have e9 : p5 = M.length := (by omega); rw [e9])⟩

end Go.Proofs.YtcpmjogeafhpnaaDoor
/- A field is put in behind all. -/
set_option linter.all false
set_option maxRecDepth 100000
namespace Go.Proofs.YtcpmjogeafhpnaaDoor
open Go.RowKit Go.Sep
attribute [local irreducible] Go.wpList Go.Code.wp

theorem row_cap39 {a : Option Addr} {n c : Nat} {xs : List Value} {F : List OB} (h : RowH 39 3 (.slice a n c) n xs F) : n ≤ c := by
  rcases h.2 with ⟨h1, h2, _⟩ | ⟨g, cap, cur, h1, _, h2, _⟩
  · cases h1; exact Nat.le_refl _
  · cases h1; exact h2

set_option maxHeartbeats 2000000 in
theorem insertEnd_c {I : IM} {n c0 d0 : Nat} {a0 b0 : Option Addr} {x : Fe} {xs : List Value} {F : List OB} (hr : RowH 39 3 (.slice a0 n c0) n xs F) (hn : n ≤ 1000) (h0 : FSl I [x] (.slice b0 1 d0)) : FunM Tryd.prog 98 #[.slice a0 n c0, .int .i64 ((n : Nat) : Int), .slice b0 1 d0] I F (fun v J F' => RowH 39 3 v (n + 1) (xs ++ fc x) F') := by
 have hnc := row_cap39 hr
 refine enterM_rule 95 [(0, .slice a0 n c0), (1, .int .i64 n), (2, .slice b0 1 d0)] Tryd.func98 rfl (by kernel_rfl) ?_
 intro w s
 refine seqR ?_
 refine oKD [] F 1 [] 0 (fun φ1 => [(6, .slice none 0 0)]) (fun φ1 => []) s (fun φ1 => by kernel_rfl) (by kernel_rfl) ?_
 intro φ1 w1 s
 refine seqR ?_
 obtain ⟨u2, hu2⟩ : ∃ u, (Instr.sliceAt 22 (.slice a0 n c0) (some (.int .i64 ((n : Nat) : Int))) none none).run Tryd.prog w1 = .ok u w1 := run_end22 hnc
 refine oK [] F 2 [] 0 (fun φ2 => [(11, .int .i64 n), (10, .slice a0 n c0)]) (fun φ2 => []) s (fun φ2 => by kernel_rfl) ?_
 intro φ2 w2 s
 obtain ⟨u4, hu4⟩ : ∃ u, (Instr.sliceAt 22 (.slice a0 n c0) (some (.int .i64 ((n : Nat) : Int))) none none).run Tryd.prog w2 = .ok u w2 := run_end22 hnc
 obtain ⟨u5, hu5⟩ : ∃ u, (Instr.sliceAt 22 (.slice a0 n c0) (some (.int .i64 ((n : Nat) : Int))) none none).run Tryd.prog w2 = .ok u w2 := run_end22 hnc
 refine sem_rule (Instr.sliceAt 22 (.slice a0 n c0) (some (.int .i64 n)) none none) (some 12) (u5) (by kernel_rfl) (hu5) ?_
 refine ops_done (by kernel_rfl) ?_
 refine seqR ?_
 refine oKD [] F 3 [] 0 (fun φ6 => [(7, .int .i64 1), (14, .int .i64 1), (13, .slice b0 1 d0)]) (fun φ6 => []) s (fun φ6 => by kernel_rfl) (by kernel_rfl) ?_
 intro φ6 w6 s
 refine wp_seq ?_
 refine seqR ?_
 refine oKD [] F 2 [] 0 (fun φ7 => [(16, .bool false), (15, .int .i64 1)]) (fun φ7 => []) s (fun φ7 => by kernel_rfl) (by kernel_rfl) ?_
 intro φ7 w7 s
 refine cond_false_rule (b := false) (by kernel_rfl) rfl ?_
 refine wp_skip ?_
 refine seqR ?_
 refine oKD [] F 3 [] 0 (fun φ8 => [(8, .int .i64 n), (19, .int .i64 n), (18, .slice a0 n c0)]) (fun φ8 => []) s (fun φ8 => by kernel_rfl) (by kernel_rfl) ?_
 intro φ8 w8 s
 refine wp_seq ?_
 refine seqR ?_
 refine oK [] F 3 [] 0 (fun φ9 => [(22, .bool (((n : Nat) : Int) == ((n : Nat) : Int))), (21, .int .i64 n), (20, .int .i64 n)]) (fun φ9 => []) s (fun φ9 => by kernel_rfl) ?_
 intro φ9 w9 s
 rw [(nat_eql (a := n) (b := n)).trans (decide_eq_true rfl)]
 refine ops_done (by kernel_rfl) ?_
 refine cond_true_rule (b := true) (by kernel_rfl) rfl ?_
 refine seqR ?_
 refine oK [] F 2 [] 0 (fun φ10 => [(24, .slice b0 1 d0), (23, .slice a0 n c0)]) (fun φ10 => []) s (fun φ10 => by kernel_rfl) ?_
 intro φ10 w10 s
 refine append_rule (H := []) (F := F) 22 22 39 Tryd.t39 (.agg #[.int .i64 0, .string ⟨#[]⟩, .string ⟨#[]⟩]) 3 40 (some 25) s Tryd.underlying22 (by kernel_rfl) (by kernel_rfl) (by kernel_rfl) (by kernel_rfl) (by kernel_rfl) (by decide) hr (src_fsl s.sub h0) (by simp only [maxLen]; omega) (by omega) (by kernel_rfl) ?_
 intro v11 w11 F11 s h11
 refine oKD [] F11 1 [] 0 (fun φ12 => [(6, v11)]) (fun φ12 => []) s (fun φ12 => by kernel_rfl) (by kernel_rfl) ?_
 intro φ12 w12 s
 refine wp_ret ?_
 refine ret_rule (C := []) [] F11 (v11) [] [] s trivial (by kernel_rfl) ?_
 replace s := s.drop (List.sublist_append_right [] F11)
 exact ⟨_, _, _, rfl, s, h11⟩

end Go.Proofs.YtcpmjogeafhpnaaDoor
/- A card of fields in their order. -/
set_option linter.all false
set_option maxRecDepth 100000
namespace Go.Proofs.YtcpmjogeafhpnaaDoor
open Go.RowKit Go.Sep
attribute [local irreducible] Go.wpList Go.Code.wp

theorem ahead_i {L : List Fe} (h : asc L) {i j : Nat} (hi : i < L.length) (hj : j < (L.take i).length) : lesFe ((L.take i).getD j Fe.z) ⟨(L.getD i Fe.z).k, (L.getD i Fe.z).a, (L.getD i Fe.z).v⟩ = true := by
  rw [List.length_take] at hj
  rw [take_getD (by omega) (by omega)]
  exact asc_lt h (by omega) hi
theorem row39_next {L : List Fe} {i : Nat} {v : Value} {F : List OB} (hi : i < L.length) (h : RowH 39 3 v ((L.take i).length + 1) (fcs (L.take i) ++ fc (L.getD i Fe.z)) F) : RowH 39 3 v (L.take (i + 1)).length (fcs (L.take (i + 1))) F := by
  rw [fe_take hi, fcs_append, List.length_append]
  exact h

set_option maxHeartbeats 4000000 in
theorem ofAsc_c {I : IM} {L : List Fe} {a0 : Option Addr} {c0 : Nat} (h0 : FSl I L (.slice a0 L.length c0)) (hl8 : L.length ≤ 8) (hasc : asc L) : Fun Tryd.prog 57 #[.slice a0 L.length c0] I (fun v J => ∃ a c, v = .tuple #[.agg #[.slice a L.length c], .int .i64 0] ∧ FSl J L (.slice a L.length c)) := by
 refine enter_rule 34 [(0, .slice a0 L.length c0)] Tryd.func57 rfl (by kernel_rfl) ?_
 intro w s
 refine seqR ?_
 refine oAD [] [] 2 [] 1 (fun φ1 => [(3, .int .i64 0), (2, pB (φ1 0))]) (fun φ1 => [(φ1 0, .cells #[.slice none 0 0] 26)]) (fun φ1 => []) s (fun φ1 => by kernel_rfl) (by kernel_rfl) ?_
 intro φ1 w1 s
 refine seqR ?_
 refine oKD _ [] 1 [] 0 (fun φ2 => [(4, .slice none 0 0)]) (fun φ2 => []) s (fun φ2 => by kernel_rfl) (by kernel_rfl) ?_
 intro φ2 w2 s
 refine wp_seq ?_
 refine seqR ?_
 refine oKD _ [] 3 [] 0 (fun φ3 => [(11, .int .i64 0), (10, .int .i64 L.length), (9, .slice a0 L.length c0)]) (fun φ3 => []) s (fun φ3 => by kernel_rfl) (by kernel_rfl) ?_
 intro φ3 w3 s
 refine wp_block ?_
 have hle4 := IM.Le.refl I
 refine loop_rule (fun (x : Nat × Value × List OB) => [(0, .slice a0 L.length c0), (2, pB (φ1 0)), (3, .int .i64 0), (9, .slice a0 L.length c0), (10, .int .i64 L.length), (11, .int .i64 x.1), (4, x.2.1)]) (fun (x : Nat × Value × List OB) => [(φ1 0, .cells #[.slice none 0 0] 26)] ++ x.2.2) (fun m (x : Nat × Value × List OB) J => IM.Le I J ∧ x.1 + m = L.length ∧ RowH 39 3 x.2.1 (L.take x.1).length (fcs (L.take x.1)) x.2.2) (L.length) (0, (.slice none 0 0), []) s (by kernel_rfl) (List.Sublist.refl _) ⟨IM.Le.refl _, Nat.zero_add _, (RowH.nil 39 3)⟩ ?_
 rintro m5 ⟨i5, v5, F5⟩ I5 w5 ev5 s ⟨le5, hi5_0, hi5_1⟩
 try dsimp only at s hi5_0 hi5_1 ⊢
 replace h0 := FSl.mono le5 h0
 replace hle4 := leMono le5 hle4
 refine seqR ?_
 refine oK _ F5 1 [] 0 (fun φ6 => [(12, .bool (decide (((i5 : Nat) : Int) < ((L.length : Nat) : Int))))]) (fun φ6 => []) s (fun φ6 => by kernel_rfl) ?_
 intro φ6 w6 s
 rw [nat_lss (a := i5) (b := L.length)]
 refine ops_done (by kernel_rfl) ?_
 refine wp_seq ?_
 rcases Bool.eq_false_or_eq_true (decide (i5 < L.length)) with hc7 | hc7
 ·
  rw [hc7]
  refine cond_true_rule (b := true) (by kernel_rfl) rfl ?_
  refine wp_skip ?_
  refine wp_seq ?_
  refine wp_block ?_
  refine seqR ?_
  refine sem_rule (Instr.indexAt 22 (.slice a0 L.length c0) (.int .i64 i5)) (some 13) (.pointer (pAt a0 (i5 * 3))) (by kernel_rfl) (fsl_idx22 h0 (by have e8 := hi5_0; have e7 := List.length_take (i := i5) (l := L); have hq0 := dT9 hc7; omega)) ?_
  refine sem_rule (Instr.loadAt 39 (.pointer (pAt a0 (i5 * 3)))) (some 14) (.agg #[.int .i64 ((List.getD L i5 Fe.z).k), .string ⟨((List.getD L i5 Fe.z).a).toArray⟩, .string ⟨((List.getD L i5 Fe.z).v).toArray⟩]) (by kernel_rfl) (fsl_ld39 s.sub h0 (by have e8 := hi5_0; have e7 := List.length_take (i := i5) (l := L); have hq0 := dT9 hc7; omega)) ?_
  refine oAD _ F5 2 [.o 1, .o 1, .o 1] 1 (fun φ8 => [(6, pB (φ8 0))]) (fun φ8 => [(φ1 0, .cells #[.slice none 0 0] 26), (φ8 0, .cells #[.int .i64 ((List.getD L i5 Fe.z).k), .string ⟨((List.getD L i5 Fe.z).a).toArray⟩, .string ⟨((List.getD L i5 Fe.z).v).toArray⟩] 39)]) (fun φ8 => [φ8 0, φ8 0, φ8 0]) s (fun φ8 => by kernel_rfl) (by kernel_rfl) ?_
  intro φ8 w8 s
  refine seqR ?_
  refine oK _ F5 2 [.o 1, .o 1, .o 1] 0 (fun φ9 => [(17, .agg #[.int .i64 ((List.getD L i5 Fe.z).k), .string ⟨((List.getD L i5 Fe.z).a).toArray⟩, .string ⟨((List.getD L i5 Fe.z).v).toArray⟩]), (16, v5)]) (fun φ9 => [φ8 0, φ8 0, φ8 0]) s (fun φ9 => by kernel_rfl) ?_
  intro φ9 w9 s
  obtain ⟨Ip10, hle10, hsub10, a10, c10, hv10, hcc10, hB10⟩ := row_lend39 (H := [((φ1 0), .cells #[.slice none 0 0] 26), ((φ8 0), .cells #[.int .i64 ((List.getD L i5 Fe.z).k), .string ⟨((List.getD L i5 Fe.z).a).toArray⟩, .string ⟨((List.getD L i5 Fe.z).v).toArray⟩] 39)]) (F := F5) s hi5_1
  subst hv10
  refine callL_rule (H := [(φ1 0, .cells #[.slice none 0 0] 26), (φ8 0, .cells #[.int .i64 ((List.getD L i5 Fe.z).k), .string ⟨((List.getD L i5 Fe.z).a).toArray⟩, .string ⟨((List.getD L i5 Fe.z).v).toArray⟩] 39)] ++ F5) (some 18) s Ip10 hle10 hsub10 (searchEnd_c (M := (L.take i5)) (k := (List.getD L i5 Fe.z).k) (A := (List.getD L i5 Fe.z).a) (B := (List.getD L i5 Fe.z).v) hB10 (by rw [List.length_take]; omega) (fun j hj => ahead_i hasc (by have hq0 := dT9 hc7; have := hi5_0; omega) hj)) (by kernel_rfl) ?_
  intro v10 w10 hr10 s
  subst hr10
  refine oKD _ F5 5 [] 0 (fun φ11 => [(8, .bool false), (7, .int .i64 (((List.length (L.take i5)) : Nat) : Int)), (20, .bool false), (19, .int .i64 (((List.length (L.take i5)) : Nat) : Int)), (15, .tuple #[.int .i64 (((List.length (L.take i5)) : Nat) : Int), .bool false])]) (fun φ11 => []) s (fun φ11 => by kernel_rfl) (by kernel_rfl) ?_
  intro φ11 w11 s
  refine wp_seq ?_
  refine seqR ?_
  refine oKD _ F5 1 [] 0 (fun φ12 => [(21, .bool false)]) (fun φ12 => []) s (fun φ12 => by kernel_rfl) (by kernel_rfl) ?_
  intro φ12 w12 s
  refine cond_false_rule (b := false) (by kernel_rfl) rfl ?_
  refine wp_skip ?_
  refine wp_seq ?_
  refine seqR ?_
  refine oK _ F5 3 [] 0 (fun φ13 => [(24, .bool ((((List.length (L.take i5)) : Nat) : Int) == ((8 : Nat) : Int))), (23, .int .i64 (((List.length (L.take i5)) : Nat) : Int)), (22, .slice a10 (List.length (L.take i5)) c10)]) (fun φ13 => []) s (fun φ13 => by kernel_rfl) ?_
  intro φ13 w13 s
  rw [nat_eql (a := (List.length (L.take i5))) (b := 8)]
  refine ops_done (by kernel_rfl) ?_
  rcases Bool.eq_false_or_eq_true (decide ((List.length (L.take i5)) = 8)) with hc14 | hc14
  ·
   exact absurd (dT9 hc14) (by have hq0 := dT9 hc7; have e8 := hi5_0; have e7 := List.length_take (i := i5) (l := L); (try rw [List.length_take]); omega)
  ·
   rw [hc14]
   refine cond_false_rule (b := false) (by kernel_rfl) rfl ?_
   refine wp_skip ?_
   refine region_rule ?_
   refine oA _ F5 4 [.o 1, .o 1, .o 1] 1 (fun φ15 => [(29, .slice (some ⟨(φ15 0), 0, none⟩) 1 1), (28, .agg #[.int .i64 ((List.getD L i5 Fe.z).k), .string ⟨((List.getD L i5 Fe.z).a).toArray⟩, .string ⟨((List.getD L i5 Fe.z).v).toArray⟩]), (27, .int .i64 (((List.length (L.take i5)) : Nat) : Int)), (26, .slice a10 (List.length (L.take i5)) c10)]) (fun φ15 => [(φ1 0, .cells #[.slice none 0 0] 26), (φ8 0, .cells #[.int .i64 ((List.getD L i5 Fe.z).k), .string ⟨((List.getD L i5 Fe.z).a).toArray⟩, .string ⟨((List.getD L i5 Fe.z).v).toArray⟩] 39), (φ15 0, .cells #[.int .i64 ((List.getD L i5 Fe.z).k), .string ⟨((List.getD L i5 Fe.z).a).toArray⟩, .string ⟨((List.getD L i5 Fe.z).v).toArray⟩] 39)]) (fun φ15 => [φ8 0, φ8 0, φ8 0]) s (fun φ15 => by kernel_rfl) ?_
   intro φ15 w15 s
   obtain ⟨I16, le16, hk16, s⟩ := s.freezeAt 2 (φ15 0) (.cells #[.int .i64 ((List.getD L i5 Fe.z).k), .string ⟨((List.getD L i5 Fe.z).a).toArray⟩, .string ⟨((List.getD L i5 Fe.z).v).toArray⟩] 39) ([((φ1 0), .cells #[.slice none 0 0] 26), ((φ8 0), .cells #[.int .i64 ((List.getD L i5 Fe.z).k), .string ⟨((List.getD L i5 Fe.z).a).toArray⟩, .string ⟨((List.getD L i5 Fe.z).v).toArray⟩] 39)] ++ F5) (by kernel_rfl) (by kernel_rfl)
   replace hle4 := leMono le16 hle4
   have hf17 := fsl_rbG (z := (List.getD L i5 Fe.z).k) (A := (List.getD L i5 Fe.z).a) (B := (List.getD L i5 Fe.z).v) hk16
   refine callF_rule (F := F5) (some 30) s (insertEnd_c (x := (List.getD L i5 Fe.z)) hi5_1 (by rw [List.length_take]; omega) hf17) (by kernel_rfl) ?_
   intro v17 I17 w17 F17 le17 h17 s
   replace h17 : RowH 39 3 v17 (L.take (i5 + 1)).length (fcs (L.take (i5 + 1))) F17 := row39_next (by have hq0 := dT9 hc7; have hq1 := dF9 hc14; have := hi5_0; omega) h17
   replace hle4 := leMono le17 hle4
   refine oKD _ F17 1 [] 0 (fun φ18 => [(4, v17)]) (fun φ18 => []) s (fun φ18 => by kernel_rfl) (by kernel_rfl) ?_
   intro φ18 w18 s
   refine region_rule ?_
   refine oK _ F17 2 [] 0 (fun φ19 => [(11, .int .i64 (IntKind.wrap .i64 (((i5 : Nat) : Int) + ((1 : Nat) : Int)))), (31, .int .i64 (IntKind.wrap .i64 (((i5 : Nat) : Int) + ((1 : Nat) : Int))))]) (fun φ19 => []) s (fun φ19 => by kernel_rfl) ?_
   intro φ19 w19 s
   rw [nat_addI (a := i5) (b := 1) (by have e8 := hi5_0; have e7 := List.length_take (i := i5) (l := L); have hq0 := dT9 hc7; have hq1 := dF9 hc14; omega)]
   refine ops_done (by kernel_rfl) ?_
   exact ⟨⟨m5 - 1, (i5 + 1, v17, F17), _, _, _, by have hq0 := dT9 hc7; have hq1 := dF9 hc14; have := hi5_0; omega, rfl, s, (List.Sublist.append (List.Sublist.cons₂ _ (List.Sublist.cons _ List.Sublist.slnil)) (List.Sublist.refl _)), by kernel_rfl, hle4, by have hq0 := dT9 hc7; have hq1 := dF9 hc14; have := hi5_0; show i5 + 1 + (m5 - 1) = L.length; omega, h17⟩⟩
 ·
  rw [hc7]
  refine cond_false_rule (b := false) (by kernel_rfl) rfl ?_
  refine wp_exit ?_
  have ei : i5 = L.length := by have hq0 := dF9 hc7; have := hi5_0; omega
  have hr9 := hi5_1
  rw [ei, List.take_length] at hr9
  obtain ⟨J20, le20, hk20, s⟩ := freeze_row39 (H := [((φ1 0), .cells #[.slice none 0 0] 26)]) (F := F5) s hr9
  obtain ⟨a20, c20, hv20, -, hk20⟩ := hk20.open
  subst hv20
  refine seqR ?_
  refine oAD [(φ1 0, .cells #[.slice none 0 0] 26)] [] 4 [.o 0] 0 (fun φ21 => [(3, .int .i64 0), (33, .agg #[.slice a20 L.length c20]), (32, .slice a20 L.length c20)]) (fun φ21 => [(φ1 0, .cells #[.slice a20 L.length c20] 26)]) (fun φ21 => [(φ1 0)]) s (fun φ21 => by kernel_rfl) (by kernel_rfl) ?_
  intro φ21 w21 s
  refine wp_ret ?_
  refine ret_rule (C := []) _ [] (.tuple #[.agg #[.slice a20 L.length c20], .int .i64 0]) [.o 0] [(φ1 0)] s trivial (by kernel_rfl) ?_
  exact ⟨_, _, _, rfl, s, ⟨_, _, rfl, hk20⟩⟩

/-- nothing is wrong with them -/
def rtFe (x : Fe) : Nat := Tx.rtE x.k x.a x.v
theorem right0_c {I : IM} {x : Fe} (hN : Tx.NmT I) (hT : Tx.U8 I) (h : rtFe x = 0 ∧ x.a.length ≤ 1000 ∧ x.v.length ≤ 1000) : Fun Tryd.prog 22 #[.agg #[.int .i64 x.k, .string ⟨x.a.toArray⟩, .string ⟨x.v.toArray⟩]] I (fun v J => v = .int .i64 0) :=
  (Tx.rightG_c (z := x.k) (A := x.a) (B := x.v) (by omega) (by omega) hN hT).mono fun v J _ q => q.trans (congrArg (fun q : Nat => Value.int .i64 (q : Int)) h.1)

set_option maxHeartbeats 4000000 in
theorem makeAsc_c {I : IM} {L : List Fe} {a0 : Option Addr} {c0 : Nat} (h0 : FSl I L (.slice a0 L.length c0)) (hl8 : L.length ≤ 8) (hasc : asc L) (hN : Tx.NmT I) (hT : Tx.U8 I) (hrt : ∀ i, i < L.length → rtFe (L.getD i Fe.z) = 0 ∧ (L.getD i Fe.z).a.length ≤ 1000 ∧ (L.getD i Fe.z).v.length ≤ 1000) : Fun Tryd.prog 15 #[.slice a0 L.length c0] I (fun v J => ∃ a c, v = .tuple #[.agg #[.slice a L.length c], .int .i64 0] ∧ FSl J L (.slice a L.length c)) := by
 refine enter_rule 24 [(0, .slice a0 L.length c0)] Tryd.func15 rfl (by kernel_rfl) ?_
 intro w s
 refine seqR ?_
 refine oAD [] [] 2 [] 1 (fun φ1 => [(3, .int .i64 0), (2, pB (φ1 0))]) (fun φ1 => [(φ1 0, .cells #[.slice none 0 0] 26)]) (fun φ1 => []) s (fun φ1 => by kernel_rfl) (by kernel_rfl) ?_
 intro φ1 w1 s
 refine wp_seq ?_
 refine seqR ?_
 refine oKD _ [] 3 [] 0 (fun φ2 => [(9, .int .i64 0), (8, .int .i64 L.length), (7, .slice a0 L.length c0)]) (fun φ2 => []) s (fun φ2 => by kernel_rfl) (by kernel_rfl) ?_
 intro φ2 w2 s
 refine wp_block ?_
 have hle3 := IM.Le.refl I
 refine loop_rule (fun (x : Nat) => [(0, .slice a0 L.length c0), (2, pB (φ1 0)), (3, .int .i64 0), (7, .slice a0 L.length c0), (8, .int .i64 L.length), (9, .int .i64 x)]) (fun (x : Nat) => [(φ1 0, .cells #[.slice none 0 0] 26)]) (fun m (x : Nat) J => IM.Le I J ∧ x + m = L.length) (L.length) 0 s (by kernel_rfl) (List.Sublist.cons₂ _ List.Sublist.slnil) ⟨IM.Le.refl _, Nat.zero_add _⟩ ?_
 rintro m4 i4 I4 w4 ev4 s ⟨le4, hi4_0⟩
 try dsimp only at s hi4_0 ⊢
 replace h0 := FSl.mono le4 h0
 replace hN := Tx.NmT.mono le4 hN
 replace hT := Tx.U8.mono le4 hT
 replace hle3 := leMono le4 hle3
 refine seqR ?_
 refine oK [(φ1 0, .cells #[.slice none 0 0] 26)] [] 1 [] 0 (fun φ5 => [(10, .bool (decide (((i4 : Nat) : Int) < ((L.length : Nat) : Int))))]) (fun φ5 => []) s (fun φ5 => by kernel_rfl) ?_
 intro φ5 w5 s
 rw [nat_lss (a := i4) (b := L.length)]
 refine ops_done (by kernel_rfl) ?_
 refine wp_seq ?_
 rcases Bool.eq_false_or_eq_true (decide (i4 < L.length)) with hc6 | hc6
 ·
  rw [hc6]
  refine cond_true_rule (b := true) (by kernel_rfl) rfl ?_
  refine wp_skip ?_
  refine wp_seq ?_
  refine wp_block ?_
  refine seqR ?_
  refine sem_rule (Instr.indexAt 22 (.slice a0 L.length c0) (.int .i64 i4)) (some 11) (.pointer (pAt a0 (i4 * 3))) (by kernel_rfl) (fsl_idx22 h0 (by have e8 := hi4_0; have hq0 := dT9 hc6; omega)) ?_
  refine sem_rule (Instr.loadAt 39 (.pointer (pAt a0 (i4 * 3)))) (some 12) (.agg #[.int .i64 ((List.getD L i4 Fe.z).k), .string ⟨((List.getD L i4 Fe.z).a).toArray⟩, .string ⟨((List.getD L i4 Fe.z).v).toArray⟩]) (by kernel_rfl) (fsl_ld39 s.sub h0 (by have e8 := hi4_0; have hq0 := dT9 hc6; omega)) ?_
  refine oAD _ [] 2 [.o 1, .o 1, .o 1] 1 (fun φ7 => [(5, pB (φ7 0))]) (fun φ7 => [(φ1 0, .cells #[.slice none 0 0] 26), (φ7 0, .cells #[.int .i64 ((List.getD L i4 Fe.z).k), .string ⟨((List.getD L i4 Fe.z).a).toArray⟩, .string ⟨((List.getD L i4 Fe.z).v).toArray⟩] 39)]) (fun φ7 => [φ7 0, φ7 0, φ7 0]) s (fun φ7 => by kernel_rfl) (by kernel_rfl) ?_
  intro φ7 w7 s
  refine seqR ?_
  refine oK _ [] 1 [.o 1, .o 1, .o 1] 0 (fun φ8 => [(13, .agg #[.int .i64 ((List.getD L i4 Fe.z).k), .string ⟨((List.getD L i4 Fe.z).a).toArray⟩, .string ⟨((List.getD L i4 Fe.z).v).toArray⟩])]) (fun φ8 => [φ7 0, φ7 0, φ7 0]) s (fun φ8 => by kernel_rfl) ?_
  intro φ8 w8 s
  refine call_rule (some 14) s (right0_c (x := (List.getD L i4 Fe.z)) hN hT (hrt i4 (by have hq0 := dT9 hc6; omega))) (by kernel_rfl) ?_
  intro v9 I9 w9 le9 h9 s
  replace h0 := FSl.mono le9 h0
  replace hle3 := leMono le9 hle3
  obtain rfl := h9
  refine oKD _ [] 1 [] 0 (fun φ10 => [(6, .int .i64 0)]) (fun φ10 => []) s (fun φ10 => by kernel_rfl) (by kernel_rfl) ?_
  intro φ10 w10 s
  refine seqR ?_
  refine oKD _ [] 2 [] 0 (fun φ11 => [(16, .bool false), (15, .int .i64 0)]) (fun φ11 => []) s (fun φ11 => by kernel_rfl) (by kernel_rfl) ?_
  intro φ11 w11 s
  refine cond_false_rule (b := false) (by kernel_rfl) rfl ?_
  refine wp_skip ?_
  refine region_rule ?_
  refine oK _ [] 2 [] 0 (fun φ12 => [(9, .int .i64 (IntKind.wrap .i64 (((i4 : Nat) : Int) + ((1 : Nat) : Int)))), (19, .int .i64 (IntKind.wrap .i64 (((i4 : Nat) : Int) + ((1 : Nat) : Int))))]) (fun φ12 => []) s (fun φ12 => by kernel_rfl) ?_
  intro φ12 w12 s
  rw [nat_addI (a := i4) (b := 1) (by have e8 := hi4_0; have hq0 := dT9 hc6; omega)]
  refine ops_done (by kernel_rfl) ?_
  exact ⟨⟨m4 - 1, i4 + 1, _, _, _, by have hq0 := dT9 hc6; have := hi4_0; omega, rfl, s, (List.Sublist.cons₂ _ (List.Sublist.cons _ List.Sublist.slnil)), by kernel_rfl, hle3, by have hq0 := dT9 hc6; have := hi4_0; show i4 + 1 + (m4 - 1) = L.length; omega⟩⟩
 ·
  rw [hc6]
  refine cond_false_rule (b := false) (by kernel_rfl) rfl ?_
  refine wp_exit ?_
  refine seqR ?_
  refine oK _ [] 1 [] 0 (fun φ13 => [(20, .slice a0 L.length c0)]) (fun φ13 => []) s (fun φ13 => by kernel_rfl) ?_
  intro φ13 w13 s
  refine call_rule (some 21) s (ofAsc_c h0 hl8 hasc) (by kernel_rfl) ?_
  intro v14 I14 w14 le14 h14 s
  obtain ⟨a14, c14, rfl, h14_0⟩ := h14
  refine oAD _ [] 4 [.o 0] 0 (fun φ15 => [(3, .int .i64 0), (23, .int .i64 0), (22, .agg #[.slice a14 L.length c14])]) (fun φ15 => [(φ1 0, .cells #[.slice a14 L.length c14] 26)]) (fun φ15 => [(φ1 0)]) s (fun φ15 => by kernel_rfl) (by kernel_rfl) ?_
  intro φ15 w15 s
  refine wp_ret ?_
  refine ret_rule (C := []) _ [] (.tuple #[.agg #[.slice a14 L.length c14], .int .i64 0]) [.o 0] [(φ1 0)] s trivial (by kernel_rfl) ?_
  exact ⟨_, _, _, rfl, s, ⟨_, _, rfl, h14_0⟩⟩

end Go.Proofs.YtcpmjogeafhpnaaDoor
/- A card that is read. -/
set_option linter.all false
set_option maxRecDepth 100000
namespace Go.Proofs.YtcpmjogeafhpnaaDoor
open Go.RowKit Go.Sep
theorem rt_small {x : Fe} (h : rtFe x = 0) : (1 ≤ x.k ∧ x.k ≤ 6) ∧ x.a.length ≤ 12 ∧ x.v.length ≤ 40 := by
  have ck : ∀ (l : List UInt8) (m : Nat), Tx.ckE l ((m : Nat) : Int) = 0 → l.length ≤ m := fun l m q => by
    unfold Tx.ckE at q
    by_cases d : (l.length : Int) > (m : Int)
    · rw [decide_eq_true d] at q; cases q
    · omega
  unfold rtFe Tx.rtE at h
  split at h
  · cases h
  · rename_i h1
    split at h
    · rename_i h2; exact absurd h h2
    · rename_i h2
      split at h
      · rename_i h3; exact absurd h h3
      · rename_i h3
        exact ⟨Decidable.not_not.1 h1, ck _ 12 (Decidable.not_not.1 h2), ck _ 40 (Decidable.not_not.1 h3)⟩
/-- the fields of a card that are read from no error, behind p; the rest; the error -/
noncomputable def cR : Nat → Fe → List UInt8 → List Fe × List UInt8 × Nat
  | 0, _, l => ([], l, 0)
  | n + 1, p, l =>
    if (fdG l 0 12 40).e ≠ 0 then ([], l.drop (fdG l 0 12 40).d, (fdG l 0 12 40).e)
    else if Tx.rtE (((fdG l 0 12 40).k : Nat) : Int) (fdG l 0 12 40).a (fdG l 0 12 40).v ≠ 0 then ([], l.drop (fdG l 0 12 40).d, Tx.rtE (((fdG l 0 12 40).k : Nat) : Int) (fdG l 0 12 40).a (fdG l 0 12 40).v)
    else if lesFe p ⟨(((fdG l 0 12 40).k : Nat) : Int), (fdG l 0 12 40).a, (fdG l 0 12 40).v⟩ = false then ([], l.drop (fdG l 0 12 40).d, 6)
    else (⟨(((fdG l 0 12 40).k : Nat) : Int), (fdG l 0 12 40).a, (fdG l 0 12 40).v⟩ :: (cR n ⟨(((fdG l 0 12 40).k : Nat) : Int), (fdG l 0 12 40).a, (fdG l 0 12 40).v⟩ (l.drop (fdG l 0 12 40).d)).1, (cR n ⟨(((fdG l 0 12 40).k : Nat) : Int), (fdG l 0 12 40).a, (fdG l 0 12 40).v⟩ (l.drop (fdG l 0 12 40).d)).2)
section
variable {n K D E : Nat} {p : Fe} {l L : List UInt8} {A V : List UInt8}
theorem cR_e1 (h : fdG l 0 12 40 = ⟨K, A, V, D, E⟩) (hd : l.drop D = L) (h1 : E ≠ 0) : cR (n + 1) p l = ([], L, E) := by
  simp only [cR, h, hd]; rw [if_pos h1]
theorem cR_e2 (h : fdG l 0 12 40 = ⟨K, A, V, D, E⟩) (hd : l.drop D = L) (h1 : E = 0) (h2 : Tx.rtE ((K : Nat) : Int) A V ≠ 0) : cR (n + 1) p l = ([], L, Tx.rtE ((K : Nat) : Int) A V) := by
  simp only [cR, h, hd]; rw [if_neg (by omega), if_pos h2]
theorem cR_e3 (h : fdG l 0 12 40 = ⟨K, A, V, D, E⟩) (hd : l.drop D = L) (h1 : E = 0) (h2 : Tx.rtE ((K : Nat) : Int) A V = 0) (h3 : lesFe p ⟨((K : Nat) : Int), A, V⟩ = false) : cR (n + 1) p l = ([], L, 6) := by
  simp only [cR, h, hd]; rw [if_neg (by omega), if_neg (by omega), if_pos h3]
theorem cR_ok (h : fdG l 0 12 40 = ⟨K, A, V, D, E⟩) (hd : l.drop D = L) (h1 : E = 0) (h2 : Tx.rtE ((K : Nat) : Int) A V = 0) (h3 : lesFe p ⟨((K : Nat) : Int), A, V⟩ = true) :
    cR (n + 1) p l = (⟨((K : Nat) : Int), A, V⟩ :: (cR n ⟨((K : Nat) : Int), A, V⟩ L).1, (cR n ⟨((K : Nat) : Int), A, V⟩ L).2) := by
  simp only [cR, h, hd]; rw [if_neg (by omega), if_neg (by omega), if_neg (by rw [h3]; decide)]
end
def chain (p : Fe) (L : List Fe) : Prop := ∀ i, i < L.length → lesFe (if i = 0 then p else L.getD (i - 1) Fe.z) (L.getD i Fe.z) = true
theorem chain_asc {p : Fe} {L : List Fe} (h : chain p L) : asc L := fun i hi => by
  have := h (i + 1) hi
  rwa [if_neg (by omega), Nat.add_sub_cancel] at this
theorem cR_props : ∀ (n : Nat) (p : Fe) (l : List UInt8), (cR n p l).2.2 = 0 → (cR n p l).1.length = n ∧ (∀ i, i < (cR n p l).1.length → rtFe ((cR n p l).1.getD i Fe.z) = 0) ∧ chain p (cR n p l).1
  | 0, p, l, _ => ⟨rfl, fun i hi => by simp [cR] at hi, fun i hi => by simp [cR] at hi⟩
  | n + 1, p, l, h => by
    obtain ⟨⟨K, A, V, D, E⟩, q⟩ : ∃ g, fdG l 0 12 40 = g := ⟨_, rfl⟩
    by_cases h1 : E = 0
    · by_cases h2 : Tx.rtE ((K : Nat) : Int) A V = 0
      · cases h3 : lesFe p ⟨((K : Nat) : Int), A, V⟩ with
        | false => rw [cR_e3 q rfl h1 h2 h3] at h; cases h
        | true =>
          have e := cR_ok (n := n) (p := p) q rfl h1 h2 h3
          rw [e] at h ⊢
          obtain ⟨i1, i2, i3⟩ := cR_props n ⟨((K : Nat) : Int), A, V⟩ (l.drop D) h
          refine ⟨by simp [i1], fun i hi => ?_, fun i hi => ?_⟩
          · cases i with
            | zero => exact h2
            | succ i => exact i2 i (by simpa using hi)
          · cases i with
            | zero => exact h3
            | succ i =>
              have := i3 i (by simpa using hi)
              cases i with
              | zero => exact this
              | succ i => simpa using this
      · rw [cR_e2 q rfl h1 h2] at h; exact absurd h h2
    · rw [cR_e1 q rfl h1] at h; exact absurd h h1
/-- a card that is read of bytes from no error: its fields, the rest, the error -/
noncomputable def gcP (l : List UInt8) : List Fe × List UInt8 × Nat :=
  if (coG l 0 8 8).2 ≠ 0 then ([], l.drop (nuD l 0), (coG l 0 8 8).2)
  else (if (cR (coG l 0 8 8).1 Fe.z (l.drop (nuD l 0))).2.2 = 0 then (cR (coG l 0 8 8).1 Fe.z (l.drop (nuD l 0))).1 else [], (cR (coG l 0 8 8).1 Fe.z (l.drop (nuD l 0))).2)
theorem co8 {l : List UInt8} {N E : Nat} (h : coG l 0 8 8 = (N, E)) : N ≤ 8 ∧ (E ≠ 0 → N = 0) := by
  unfold coG at h
  split at h
  · cases h; exact ⟨by omega, fun _ => rfl⟩
  · cases h
    refine ⟨by omega, fun q => ?_⟩
    unfold nuE at q
    unfold nuV
    rw [if_pos rfl]
    by_cases z : numK l = 0
    · exact numK_zero z
    · rw [if_neg (fun y => z y.2)] at q; exact absurd rfl q
end Go.Proofs.YtcpmjogeafhpnaaDoor
/- Towards a card that is read. -/
set_option linter.all false
set_option maxRecDepth 100000
namespace Go.Proofs.YtcpmjogeafhpnaaDoor
open Go.RowKit Go.Sep
attribute [local irreducible] Go.wpList Go.Code.wp

theorem gc_done {l L0 L : List UInt8} {N E0 e i m : Nat} {Fs : List Fe} {p : Fe} (hc : coG l 0 8 8 = (N, E0)) (hd : l.drop (nuD l 0) = L0) (hm : m = 0) (hi : i = N) (hf : Fs.length = i) (he : e = E0) (h0 : i = 0 → L = L0) (hs : e = 0 → cR N Fe.z L0 = (Fs ++ (cR m p L).1, (cR m p L).2)) :
    gcP l = (Fs, L, e) ∧ Fs.length ≤ 8 ∧ asc Fs ∧ ∀ i, i < Fs.length → rtFe (Fs.getD i Fe.z) = 0 ∧ (Fs.getD i Fe.z).a.length ≤ 1000 ∧ (Fs.getD i Fe.z).v.length ≤ 1000 := by
  subst hm; subst he
  have hN := co8 hc
  by_cases z : e = 0
  · have q := hs z
    simp only [cR, List.append_nil] at q
    have pr := cR_props N Fe.z L0 (by rw [q])
    rw [q] at pr
    refine ⟨?_, by omega, chain_asc pr.2.2, fun i hi => ?_⟩
    · unfold gcP; rw [hc, hd, q]; simp [z]
    · have := pr.2.1 i hi
      have s := rt_small this
      exact ⟨this, Nat.le_trans s.2.1 (by decide), Nat.le_trans s.2.2 (by decide)⟩
  · have hz := hN.2 z
    have : Fs = [] := List.length_eq_zero_iff.1 (by omega)
    subst this
    refine ⟨?_, by simp, fun i hi => by simp at hi, fun i hi => by simp at hi⟩
    unfold gcP; rw [hc, hd, h0 (by omega)]; simp [z]
theorem gc_err {l L0 L L2 : List UInt8} {N E0 e m x : Nat} {Fs : List Fe} {p : Fe} (hc : coG l 0 8 8 = (N, E0)) (hd : l.drop (nuD l 0) = L0) (he : e = E0) (hz : e = 0) (hs : e = 0 → cR N Fe.z L0 = (Fs ++ (cR m p L).1, (cR m p L).2)) (hx : cR m p L = ([], L2, x)) (h0 : x ≠ 0) : gcP l = ([], L2, x) := by
  subst he
  have q := hs hz
  rw [hx] at q
  unfold gcP; rw [hc, hd, q]; simp [hz, h0]
theorem fa_zero {a b : Nat} (h : faE a b = 0) : b = 0 ∧ a = 0 := by
  unfold faE at h
  split at h
  · exact ⟨by assumption, h⟩
  · rename_i q; exact absurd h q
theorem cR_eA {n K D E : Nat} {p : Fe} {l L A V : List UInt8} (h : fdG l 0 12 40 = ⟨K, A, V, D, E⟩) (hd : l.drop D = L) (hx : faE (Tx.rtE ((K : Nat) : Int) A V) E ≠ 0) : cR (n + 1) p l = ([], L, faE (Tx.rtE ((K : Nat) : Int) A V) E) := by
  unfold faE at hx ⊢
  by_cases z : E = 0
  · rw [if_pos z] at hx ⊢; exact cR_e2 h hd z hx
  · rw [if_neg z]; exact cR_e1 h hd z
theorem cR_eB {n K D E : Nat} {p : Fe} {l L A V : List UInt8} (h : fdG l 0 12 40 = ⟨K, A, V, D, E⟩) (hd : l.drop D = L) (hl : lesFe p ⟨((K : Nat) : Int), A, V⟩ = false) : cR (n + 1) p l = ([], L, faE 6 (faE (Tx.rtE ((K : Nat) : Int) A V) E)) := by
  by_cases z : E = 0
  · by_cases y : Tx.rtE ((K : Nat) : Int) A V = 0
    · rw [cR_e3 h hd z y hl]; simp [faE, z, y]
    · rw [cR_e2 h hd z y]; simp [faE, z, y]
  · rw [cR_e1 h hd z]; simp [faE, z]
theorem cR_next {N n K D E : Nat} {p : Fe} {l L A V L0 : List UInt8} {Fs : List Fe} (hs : cR N Fe.z L0 = (Fs ++ (cR n p l).1, (cR n p l).2)) (hn : 0 < n) (h : fdG l 0 12 40 = ⟨K, A, V, D, E⟩) (hd : l.drop D = L) (hx : faE (Tx.rtE ((K : Nat) : Int) A V) E = 0) (hl : lesFe p ⟨((K : Nat) : Int), A, V⟩ = true) :
    cR N Fe.z L0 = ((Fs ++ [⟨((K : Nat) : Int), A, V⟩]) ++ (cR (n - 1) ⟨((K : Nat) : Int), A, V⟩ L).1, (cR (n - 1) ⟨((K : Nat) : Int), A, V⟩ L).2) := by
  obtain ⟨q, rfl⟩ : ∃ q, n = q + 1 := ⟨n - 1, by omega⟩
  have z := fa_zero hx
  rw [hs, cR_ok h hd z.1 z.2 hl]
  simp only [Nat.add_sub_cancel, List.append_assoc, List.singleton_append]
theorem te_short (l : List UInt8) (e : Nat) (z : Int) : (teV l e z).length ≤ l.length := by
  unfold teV
  split
  · rw [List.length_take, List.length_drop]; omega
  · exact Nat.zero_le _
theorem fd_short {l : List UInt8} {e z1 z2 K D E : Nat} {A V : List UInt8} (h : fdG l e z1 z2 = ⟨K, A, V, D, E⟩) (hn : l.length ≤ 1000000) : A.length ≤ 1000000 ∧ V.length ≤ 1000000 := by
  have h1 := congrArg Fd.a h
  have h2 := congrArg Fd.v h
  simp only [fdG] at h1 h2
  have a1 := te_short (l.drop (byD l e)) (byE l e) ((z1 : Nat) : Int)
  rw [h1, List.length_drop] at a1
  have a2 := te_short ((l.drop (byD l e)).drop (teD (l.drop (byD l e)) (byE l e) ((z1 : Nat) : Int))) (teE (l.drop (byD l e)) (byE l e) ((z1 : Nat) : Int)) ((z2 : Nat) : Int)
  rw [h2, List.length_drop, List.length_drop] at a2
  omega

theorem err_c {I : IM} {l : List UInt8} {a : Option Addr} {k c r e : Nat} (hl : BSl I l (.slice a k c)) (hn9 : l.length ≤ 1000000) : FunM Tryd.prog 53 #[.pointer (some ⟨r, 0, none⟩)] I [(r, .cells #[.slice a k c, .int .i64 ((e : Nat) : Int)] 126)] (fun v J H' => ∃ b' : OB, H' = [b'] ∧ b'.1 = r ∧ v = .int .i64 ((e : Nat) : Int) ∧ b' = (r, .cells #[.slice a k c, .int .i64 ((e : Nat) : Int)] 126)) := by
 obtain ⟨rfl, -⟩ := hl.cap
 refine enterM_rule 9 [(0, pB r)] Tryd.func53 rfl (by kernel_rfl) ?_
 intro w s
 refine seqR ?_
 refine oKD [(r, .cells #[.slice a l.length c, .int .i64 e] 126)] [] 1 [] 0 (fun φ1 => [(2, .int .i64 0)]) (fun φ1 => []) s (fun φ1 => by kernel_rfl) (by kernel_rfl) ?_
 intro φ1 w1 s
 refine wp_seq ?_
 refine seqR ?_
 refine oKD _ [] 2 [] 0 (fun φ2 => [(4, .bool false), (3, pB r)]) (fun φ2 => []) s (fun φ2 => by kernel_rfl) (by kernel_rfl) ?_
 intro φ2 w2 s
 refine cond_false_rule (b := false) (by kernel_rfl) rfl ?_
 refine wp_skip ?_
 refine seqR ?_
 refine oKD _ [] 5 [.o 0] 0 (fun φ3 => [(2, .int .i64 e), (8, .int .i64 e), (7, .pointer (some ⟨r, 1, none⟩)), (6, pB r), (5, pB r)]) (fun φ3 => [r]) s (fun φ3 => by kernel_rfl) (by kernel_rfl) ?_
 intro φ3 w3 s
 refine wp_ret ?_
 refine ret_rule (C := []) _ [] (.int .i64 e) [] [] s trivial (by kernel_rfl) ?_
 replace s := s.drop (List.Sublist.append (List.Sublist.cons₂ _ List.Sublist.slnil) (List.Sublist.refl []))
 exact ⟨_, _, _, rfl, s, ⟨_, rfl, rfl, rfl, rfl⟩⟩

end Go.Proofs.YtcpmjogeafhpnaaDoor
/- A card that is read: the program. -/
set_option linter.all false
set_option maxRecDepth 100000
namespace Go.Proofs.YtcpmjogeafhpnaaDoor
open Go.RowKit Go.Sep
attribute [local irreducible] Go.wpList Go.Code.wp

set_option maxHeartbeats 4000000 in
theorem getCard_c {I : IM} {l : List UInt8} {a : Option Addr} {k c r : Nat} (hl : BSl I l (.slice a k c)) (hn9 : l.length ≤ 1000000) (hN : Tx.NmT I) (hT : Tx.U8 I) : FunM Tryd.prog 52 #[.pointer (some ⟨r, 0, none⟩)] I [(r, .cells #[.slice a k c, .int .i64 ((0 : Nat) : Int)] 126)] (fun v J H' => ∃ b' : OB, H' = [b'] ∧ b'.1 = r ∧ ∃ (Fs : List Fe) (E : Nat) (L : List UInt8) (a' a1 : Option Addr) (k' c' c1 : Nat), v = .agg #[.slice a1 Fs.length c1] ∧ b' = (r, .cells #[.slice a' k' c', .int .i64 ((E : Nat) : Int)] 126) ∧ BSl J L (.slice a' k' c') ∧ gcP l = (Fs, L, E) ∧ L.length ≤ 1000000 ∧ FSl J Fs (.slice a1 Fs.length c1)) := by
 obtain ⟨rfl, -⟩ := hl.cap
 refine enterM_rule 40 [(0, pB r)] Tryd.func52 rfl (by kernel_rfl) ?_
 intro w s
 refine seqR ?_
 refine oAD [(r, .cells #[.slice a l.length c, .int .i64 0] 126)] [] 1 [] 1 (fun φ1 => [(2, pB (φ1 0))]) (fun φ1 => [(r, .cells #[.slice a l.length c, .int .i64 0] 126), (φ1 0, .cells #[.slice none 0 0] 26)]) (fun φ1 => []) s (fun φ1 => by kernel_rfl) (by kernel_rfl) ?_
 intro φ1 w1 s
 refine seqR ?_
 refine oKD _ [] 1 [] 0 (fun φ2 => [(3, .slice none 0 0)]) (fun φ2 => []) s (fun φ2 => by kernel_rfl) (by kernel_rfl) ?_
 intro φ2 w2 s
 refine seqR ?_
 refine oAD _ [] 1 [] 1 (fun φ3 => [(4, pB (φ3 0))]) (fun φ3 => [(r, .cells #[.slice a l.length c, .int .i64 0] 126), (φ1 0, .cells #[.slice none 0 0] 26), (φ3 0, .cells #[.int .i64 0, .string ⟨#[]⟩, .string ⟨#[]⟩] 39)]) (fun φ3 => []) s (fun φ3 => by kernel_rfl) (by kernel_rfl) ?_
 intro φ3 w3 s
 refine wp_seq ?_
 refine seqR ?_
 refine oK _ [] 1 [] 0 (fun φ4 => [(8, pB r)]) (fun φ4 => []) s (fun φ4 => by kernel_rfl) ?_
 intro φ4 w4 s
 refine callB_rule (b := (r, .cells #[.slice a l.length c, .int .i64 0] 126)) (F := []) (Hr := [(φ1 0, .cells #[.slice none 0 0] 26), (φ3 0, .cells #[.int .i64 0, .string ⟨#[]⟩, .string ⟨#[]⟩] 39)]) (some 9) 0 s (by kernel_rfl) (by kernel_rfl) (count_c (r := r) (e := 0) (most := 8) (q := 8) hl hn9 (by decide)) (by kernel_rfl) ?_
 rintro v5 I5 w5 b5 le5 - h5 s
 replace hN := Tx.NmT.mono le5 hN
 replace hT := Tx.U8.mono le5 hT
 obtain ⟨N5, E5, D5, L5, a5, k5, c5, rfl, rfl, h5_0, h5_1, h5_2, h5_3⟩ := h5
 refine oKD _ [] 1 [] 0 (fun φ6 => [(10, .int .i64 0)]) (fun φ6 => []) s (fun φ6 => by kernel_rfl) (by kernel_rfl) ?_
 intro φ6 w6 s
 refine wp_block ?_
 have hle7 := IM.Le.refl I5
 refine loop_rule (fun (x : Nat × List UInt8 × Option Addr × Nat × Nat × Nat × Fe × Value × List OB × List Fe) => [(0, pB r), (2, pB (φ1 0)), (4, pB (φ3 0)), (8, pB r), (9, .int .i64 N5), (10, .int .i64 x.1), (3, x.2.2.2.2.2.2.2.1)]) (fun (x : Nat × List UInt8 × Option Addr × Nat × Nat × Nat × Fe × Value × List OB × List Fe) => [(r, .cells #[.slice x.2.2.1 x.2.2.2.1 x.2.2.2.2.1, .int .i64 x.2.2.2.2.2.1] 126), (φ1 0, .cells #[.slice none 0 0] 26), (φ3 0, .cells #[.int .i64 x.2.2.2.2.2.2.1.k, .string ⟨(x.2.2.2.2.2.2.1.a).toArray⟩, .string ⟨(x.2.2.2.2.2.2.1.v).toArray⟩] 39)] ++ x.2.2.2.2.2.2.2.2.1) (fun m (x : Nat × List UInt8 × Option Addr × Nat × Nat × Nat × Fe × Value × List OB × List Fe) J => IM.Le I5 J ∧ x.1 + m = N5 ∧ BSl J x.2.1 (.slice x.2.2.1 x.2.2.2.1 x.2.2.2.2.1) ∧ (x.2.1).length ≤ 1000000 ∧ RowH 39 3 x.2.2.2.2.2.2.2.1 (x.2.2.2.2.2.2.2.2.2).length (fcs x.2.2.2.2.2.2.2.2.2) x.2.2.2.2.2.2.2.2.1 ∧ (x.2.2.2.2.2.2.2.2.2).length = x.1 ∧ x.2.2.2.2.2.1 = E5 ∧ (x.1 = 0 → x.2.1 = L5) ∧ (x.2.2.2.2.2.1 = 0 → cR N5 Fe.z L5 = (x.2.2.2.2.2.2.2.2.2 ++ (cR m x.2.2.2.2.2.2.1 x.2.1).1, (cR m x.2.2.2.2.2.2.1 x.2.1).2))) (N5) (0, L5, a5, k5, c5, E5, Fe.z, (.slice none 0 0), [], []) s (by kernel_rfl) (List.Sublist.refl _) ⟨IM.Le.refl _, Nat.zero_add _, h5_0, (drop_len9 h5_3 hn9), (RowH.nil 39 3), rfl, rfl, fun _ => rfl, fun _ => rfl⟩ ?_
 rintro m8 ⟨i8, L8, a8, k8, c8, e8, p8, v8, F8, Fs8⟩ I8 w8 ev8 s ⟨le8, hi8_0, hi8_1, hi8_2, hi8_3, hi8_4, hi8_5, hi8_6, hi8_7⟩
 try dsimp only at s hi8_0 hi8_1 hi8_2 hi8_3 hi8_4 hi8_5 hi8_6 hi8_7 ⊢
 replace hN := Tx.NmT.mono le8 hN
 replace hT := Tx.U8.mono le8 hT
 replace hle7 := leMono le8 hle7
 have hnL := hi8_2
 have hl9 : (Fs8).length ≤ 8 := by have e9 := hi8_4; have e8 := hi8_0; have e7 := (co8 h5_1).1; omega
 refine seqR ?_
 refine oK _ F8 1 [] 0 (fun φ9 => [(11, .bool (decide (((i8 : Nat) : Int) < ((N5 : Nat) : Int))))]) (fun φ9 => []) s (fun φ9 => by kernel_rfl) ?_
 intro φ9 w9 s
 rw [nat_lss (a := i8) (b := N5)]
 refine ops_done (by kernel_rfl) ?_
 refine wp_seq ?_
 rcases Bool.eq_false_or_eq_true (decide (i8 < N5)) with hc10 | hc10
 ·
  rw [hc10]
  refine cond_true_rule (b := true) (by kernel_rfl) rfl ?_
  refine wp_skip ?_
  refine wp_seq ?_
  refine wp_block ?_
  refine seqR ?_
  refine oK _ F8 1 [] 0 (fun φ11 => [(12, pB r)]) (fun φ11 => []) s (fun φ11 => by kernel_rfl) ?_
  intro φ11 w11 s
  refine callB_rule (b := (r, .cells #[.slice a8 k8 c8, .int .i64 e8] 126)) (F := F8) (Hr := [(φ1 0, .cells #[.slice none 0 0] 26), (φ3 0, .cells #[.int .i64 p8.k, .string ⟨(p8.a).toArray⟩, .string ⟨(p8.v).toArray⟩] 39)]) (some 13) 0 s (by kernel_rfl) (by kernel_rfl) (getField_c (r := r) (e := e8) (z1 := 12) (z2 := 40) hi8_1 hnL (by decide) (by decide)) (by kernel_rfl) ?_
  rintro v12 I12 w12 b12 le12 - h12 s
  replace hN := Tx.NmT.mono le12 hN
  replace hT := Tx.U8.mono le12 hT
  replace hle7 := leMono le12 hle7
  replace hi8_1 := BSl.mono le12 hi8_1
  obtain ⟨K12, A12, V12, E12, D12, L12, a12, k12, c12, rfl, rfl, h12_0, h12_1, h12_2, h12_3⟩ := h12
  refine oAD _ F8 2 [.o 3, .o 3, .o 3] 1 (fun φ13 => [(5, pB (φ13 0))]) (fun φ13 => [(r, .cells #[.slice a12 k12 c12, .int .i64 E12] 126), (φ1 0, .cells #[.slice none 0 0] 26), (φ3 0, .cells #[.int .i64 p8.k, .string ⟨(p8.a).toArray⟩, .string ⟨(p8.v).toArray⟩] 39), (φ13 0, .cells #[.int .i64 K12, .string ⟨(A12).toArray⟩, .string ⟨(V12).toArray⟩] 39)]) (fun φ13 => [φ13 0, φ13 0, φ13 0]) s (fun φ13 => by kernel_rfl) (by kernel_rfl) ?_
  intro φ13 w13 s
  refine seqR ?_
  refine oK _ F8 2 [.o 3, .o 3, .o 3] 0 (fun φ14 => [(15, .agg #[.int .i64 K12, .string ⟨(A12).toArray⟩, .string ⟨(V12).toArray⟩]), (14, pB r)]) (fun φ14 => [φ13 0, φ13 0, φ13 0]) s (fun φ14 => by kernel_rfl) ?_
  intro φ14 w14 s
  refine call_rule (some 16) s (Tx.rightG_c (z := ((K12 : Nat) : Int)) (A := A12) (B := V12) (fd_short h12_1 hnL).1 (fd_short h12_1 hnL).2 hN hT) (by kernel_rfl) ?_
  intro v15 I15 w15 le15 h15 s
  replace hN := Tx.NmT.mono le15 hN
  replace hT := Tx.U8.mono le15 hT
  replace hle7 := leMono le15 hle7
  replace hi8_1 := BSl.mono le15 hi8_1
  replace h12_0 := BSl.mono le15 h12_0
  obtain rfl := h15
  refine callB_rule (b := (r, .cells #[.slice a12 k12 c12, .int .i64 E12] 126)) (F := F8) (Hr := [(φ1 0, .cells #[.slice none 0 0] 26), (φ3 0, .cells #[.int .i64 p8.k, .string ⟨(p8.a).toArray⟩, .string ⟨(p8.v).toArray⟩] 39), (φ13 0, .cells #[.int .i64 K12, .string ⟨(A12).toArray⟩, .string ⟨(V12).toArray⟩] 39)]) (some 17) 0 s (by kernel_rfl) (by kernel_rfl) (failV_c (r := r) (e := E12) (q := Tx.rtE ((K12 : Nat) : Int) A12 V12) h12_0 (drop_len9 h12_3 hnL)) (by kernel_rfl) ?_
  rintro v16 I16 w16 b16 le16 - h16 s
  replace hN := Tx.NmT.mono le16 hN
  replace hT := Tx.U8.mono le16 hT
  replace hle7 := leMono le16 hle7
  replace hi8_1 := BSl.mono le16 hi8_1
  obtain ⟨a16, k16, c16, rfl, rfl, h16_0⟩ := h16
  refine ops_done (by kernel_rfl) ?_
  refine wp_seq ?_
  refine seqR ?_
  refine oK _ F8 2 [.o 2, .o 2, .o 2, .o 3, .o 3, .o 3] 0 (fun φ17 => [(19, .agg #[.int .i64 K12, .string ⟨(A12).toArray⟩, .string ⟨(V12).toArray⟩]), (18, .agg #[.int .i64 p8.k, .string ⟨(p8.a).toArray⟩, .string ⟨(p8.v).toArray⟩])]) (fun φ17 => [φ3 0, φ3 0, φ3 0, φ13 0, φ13 0, φ13 0]) s (fun φ17 => by kernel_rfl) ?_
  intro φ17 w17 s
  refine call_rule (some 20) s (Tx.less_c (k := p8.k) (A := p8.a) (B := p8.v) (k' := ((K12 : Nat) : Int)) (A' := A12) (B' := V12)) (by kernel_rfl) ?_
  intro v18 I18 w18 le18 h18 s
  replace hN := Tx.NmT.mono le18 hN
  replace hT := Tx.U8.mono le18 hT
  replace hle7 := leMono le18 hle7
  replace hi8_1 := BSl.mono le18 hi8_1
  replace h16_0 := BSl.mono le18 h16_0
  obtain rfl := h18
  refine oKD _ F8 1 [] 0 (fun φ19 => [(21, .bool (!(Tx.lesF p8.k p8.a p8.v ((K12 : Nat) : Int) A12 V12)))]) (fun φ19 => []) s (fun φ19 => by kernel_rfl) (by kernel_rfl) ?_
  intro φ19 w19 s
  rcases Bool.eq_false_or_eq_true (Tx.lesF p8.k p8.a p8.v ((K12 : Nat) : Int) A12 V12) with hc20 | hc20
  ·
   rw [hc20]
   refine cond_false_rule (b := false) (by kernel_rfl) rfl ?_
   refine wp_skip ?_
   refine wp_seq ?_
   refine seqR ?_
   refine oK _ F8 1 [] 0 (fun φ21 => [(24, pB r)]) (fun φ21 => []) s (fun φ21 => by kernel_rfl) ?_
   intro φ21 w21 s
   refine callB_rule (b := (r, .cells #[.slice a16 k16 c16, .int .i64 (faE (Tx.rtE ((K12 : Nat) : Int) A12 V12) E12)] 126)) (F := F8) (Hr := [(φ1 0, .cells #[.slice none 0 0] 26), (φ3 0, .cells #[.int .i64 p8.k, .string ⟨(p8.a).toArray⟩, .string ⟨(p8.v).toArray⟩] 39), (φ13 0, .cells #[.int .i64 K12, .string ⟨(A12).toArray⟩, .string ⟨(V12).toArray⟩] 39)]) (some 25) 0 s (by kernel_rfl) (by kernel_rfl) (err_c (r := r) (e := faE (Tx.rtE ((K12 : Nat) : Int) A12 V12) E12) h16_0 (drop_len9 h12_3 hnL)) (by kernel_rfl) ?_
   rintro v22 I22 w22 b22 le22 - h22 s
   replace hN := Tx.NmT.mono le22 hN
   replace hT := Tx.U8.mono le22 hT
   replace hle7 := leMono le22 hle7
   replace hi8_1 := BSl.mono le22 hi8_1
   replace h16_0 := BSl.mono le22 h16_0
   obtain ⟨rfl, rfl⟩ := h22
   refine oK _ F8 1 [] 0 (fun φ23 => [(26, .bool (((faE (Tx.rtE ((K12 : Nat) : Int) A12 V12) E12 : Nat) : Int) != ((0 : Nat) : Int)))]) (fun φ23 => []) s (fun φ23 => by kernel_rfl) ?_
   intro φ23 w23 s
   rw [nat_neq (a := (faE (Tx.rtE ((K12 : Nat) : Int) A12 V12) E12)) (b := 0)]
   refine ops_done (by kernel_rfl) ?_
   rcases Bool.eq_false_or_eq_true (decide ((faE (Tx.rtE ((K12 : Nat) : Int) A12 V12) E12) ≠ 0)) with hc24 | hc24
   ·
    rw [hc24]
    refine cond_true_rule (b := true) (by kernel_rfl) rfl ?_
    refine seqR ?_
    refine oKD _ F8 2 [.o 1] 0 (fun φ25 => [(27, .agg #[.slice none 0 0])]) (fun φ25 => [(φ1 0)]) s (fun φ25 => by kernel_rfl) (by kernel_rfl) ?_
    intro φ25 w25 s
    refine wp_ret ?_
    refine ret_rule (C := []) _ F8 (.agg #[.slice none 0 0]) [.o 1] [(φ1 0)] s trivial (by kernel_rfl) ?_
    replace s := s.drop (List.Sublist.append (List.Sublist.cons₂ _ (List.Sublist.cons _ (List.Sublist.cons _ (List.Sublist.cons _ List.Sublist.slnil)))) (List.Sublist.refl F8))
    replace s := s.drop (List.sublist_append_left _ F8)
    have hez : e8 = 0 := by have hq0 := dT9 hc10; have hq2 := dT9 hc24; have e9 := hi8_5; have e8 := hi8_0; have e7 := (co8 h5_1).2; omega
    have hg9 := h12_1
    rw [hez] at hg9
    have hm9 : m8 = (m8 - 1) + 1 := by have hq0 := dT9 hc10; have hq2 := dT9 hc24; have e8 := hi8_0; omega
    have hgc := gc_err h5_1 (by rw [h5_2]; exact h5_3) hi8_5 hez hi8_7 (by rw [hm9]; exact cR_eA hg9 h12_3 (dT9 hc24)) (dT9 hc24)
    exact ⟨_, _, _, rfl, s, ⟨_, rfl, rfl, [], _, _, _, none, _, _, 0, rfl, rfl, h16_0, hgc, (drop_len9 h12_3 hnL), fsl_nil _⟩⟩
   ·
    rw [hc24]
    refine cond_false_rule (b := false) (by kernel_rfl) rfl ?_
    refine wp_skip ?_
    refine seqR ?_
    refine oA _ F8 3 [.o 3, .o 3, .o 3] 1 (fun φ26 => [(30, .slice (some ⟨(φ26 0), 0, none⟩) 1 1), (29, .agg #[.int .i64 K12, .string ⟨(A12).toArray⟩, .string ⟨(V12).toArray⟩]), (28, v8)]) (fun φ26 => [(r, .cells #[.slice a16 k16 c16, .int .i64 (faE (Tx.rtE ((K12 : Nat) : Int) A12 V12) E12)] 126), (φ1 0, .cells #[.slice none 0 0] 26), (φ3 0, .cells #[.int .i64 p8.k, .string ⟨(p8.a).toArray⟩, .string ⟨(p8.v).toArray⟩] 39), (φ13 0, .cells #[.int .i64 K12, .string ⟨(A12).toArray⟩, .string ⟨(V12).toArray⟩] 39), (φ26 0, .cells #[.int .i64 K12, .string ⟨(A12).toArray⟩, .string ⟨(V12).toArray⟩] 39)]) (fun φ26 => [φ13 0, φ13 0, φ13 0]) s (fun φ26 => by kernel_rfl) ?_
    intro φ26 w26 s
    refine append_rule (H := [(r, .cells #[.slice a16 k16 c16, .int .i64 (faE (Tx.rtE ((K12 : Nat) : Int) A12 V12) E12)] 126), (φ1 0, .cells #[.slice none 0 0] 26), (φ3 0, .cells #[.int .i64 p8.k, .string ⟨(p8.a).toArray⟩, .string ⟨(p8.v).toArray⟩] 39), (φ13 0, .cells #[.int .i64 K12, .string ⟨(A12).toArray⟩, .string ⟨(V12).toArray⟩] 39), (φ26 0, .cells #[.int .i64 K12, .string ⟨(A12).toArray⟩, .string ⟨(V12).toArray⟩] 39)]) (F := F8) 22 22 39 Tryd.t39 (.agg #[.int .i64 0, .string ⟨#[]⟩, .string ⟨#[]⟩]) 3 40 (some 31) s Tryd.underlying22 (by kernel_rfl) (by kernel_rfl) (by kernel_rfl) (by kernel_rfl) (by kernel_rfl) (by decide) hi8_3 (src_own s 4 (φ26 0) #[.int .i64 K12, .string ⟨(A12).toArray⟩, .string ⟨(V12).toArray⟩] 39 22 39 1 1 3 [.int .i64 K12, .string ⟨(A12).toArray⟩, .string ⟨(V12).toArray⟩] (by kernel_rfl) Tryd.underlying22 (by kernel_rfl) (by kernel_rfl) (by kernel_rfl)) (by simp only [maxLen]; omega) (by omega) (by kernel_rfl) ?_
    intro v27 w27 F27 s h27
    refine oKD _ F27 1 [] 0 (fun φ28 => [(3, v27)]) (fun φ28 => []) s (fun φ28 => by kernel_rfl) (by kernel_rfl) ?_
    intro φ28 w28 s
    refine region_rule ?_
    refine oAD _ F27 2 [.o 3, .o 3, .o 3, .o 2, .o 2, .o 2] 0 (fun φ29 => [(32, .agg #[.int .i64 K12, .string ⟨(A12).toArray⟩, .string ⟨(V12).toArray⟩])]) (fun φ29 => [(r, .cells #[.slice a16 k16 c16, .int .i64 (faE (Tx.rtE ((K12 : Nat) : Int) A12 V12) E12)] 126), (φ1 0, .cells #[.slice none 0 0] 26), (φ3 0, .cells #[.int .i64 K12, .string ⟨(A12).toArray⟩, .string ⟨(V12).toArray⟩] 39), (φ13 0, .cells #[.int .i64 K12, .string ⟨(A12).toArray⟩, .string ⟨(V12).toArray⟩] 39), (φ26 0, .cells #[.int .i64 K12, .string ⟨(A12).toArray⟩, .string ⟨(V12).toArray⟩] 39)]) (fun φ29 => [φ13 0, φ13 0, φ13 0, φ3 0, φ3 0, φ3 0]) s (fun φ29 => by kernel_rfl) (by kernel_rfl) ?_
    intro φ29 w29 s
    refine region_rule ?_
    refine oK _ F27 2 [] 0 (fun φ30 => [(10, .int .i64 (IntKind.wrap .i64 (((i8 : Nat) : Int) + ((1 : Nat) : Int)))), (33, .int .i64 (IntKind.wrap .i64 (((i8 : Nat) : Int) + ((1 : Nat) : Int))))]) (fun φ30 => []) s (fun φ30 => by kernel_rfl) ?_
    intro φ30 w30 s
    rw [nat_addI (a := i8) (b := 1) (by have e9 := hi8_4; have e8 := hi8_0; have e7 := (co8 h5_1).1; have hq0 := dT9 hc10; have hq2 := dF9 hc24; omega)]
    refine ops_done (by kernel_rfl) ?_
    have hez : e8 = 0 := by have hq0 := dT9 hc10; have hq2 := dF9 hc24; have e9 := hi8_5; have e8 := hi8_0; have e7 := (co8 h5_1).2; omega
    have hx9 : faE (Tx.rtE ((K12 : Nat) : Int) A12 V12) E12 = 0 := by have h9 := dF9 hc24; omega
    have hg9 := h12_1
    rw [hez] at hg9
    have hsn := cR_next (hi8_7 hez) (by have hq0 := dT9 hc10; have hq2 := dF9 hc24; have e8 := hi8_0; omega) hg9 h12_3 hx9 hc20
    exact ⟨⟨m8 - 1, (i8 + 1, L12, a16, k16, c16, faE (Tx.rtE ((K12 : Nat) : Int) A12 V12) E12, (⟨((K12 : Nat) : Int), A12, V12⟩ : Fe), v27, F27, (Fs8 ++ [(⟨((K12 : Nat) : Int), A12, V12⟩ : Fe)])), _, _, _, by have hq0 := dT9 hc10; have hq2 := dF9 hc24; have := hi8_0; omega, rfl, s, (List.Sublist.append (List.Sublist.cons₂ _ (List.Sublist.cons₂ _ (List.Sublist.cons₂ _ (List.Sublist.cons _ (List.Sublist.cons _ List.Sublist.slnil))))) (List.Sublist.refl _)), by kernel_rfl, hle7, by have hq0 := dT9 hc10; have hq2 := dF9 hc24; have := hi8_0; show i8 + 1 + (m8 - 1) = N5; omega, h16_0, (drop_len9 h12_3 hnL), row39_snoc h27 rfl, by have := hi8_4; show (Fs8 ++ [(⟨((K12 : Nat) : Int), A12, V12⟩ : Fe)]).length = i8 + 1; rw [List.length_append, this]; rfl, by have e9 := hi8_5; show faE (Tx.rtE ((K12 : Nat) : Int) A12 V12) E12 = E5; omega, fun z9 => absurd z9 (Nat.succ_ne_zero _), fun _ => hsn⟩⟩
  ·
   rw [hc20]
   refine cond_true_rule (b := true) (by kernel_rfl) rfl ?_
   refine region_rule ?_
   refine oK _ F8 1 [] 0 (fun φ31 => [(22, pB r)]) (fun φ31 => []) s (fun φ31 => by kernel_rfl) ?_
   intro φ31 w31 s
   refine callB_rule (b := (r, .cells #[.slice a16 k16 c16, .int .i64 (faE (Tx.rtE ((K12 : Nat) : Int) A12 V12) E12)] 126)) (F := F8) (Hr := [(φ1 0, .cells #[.slice none 0 0] 26), (φ3 0, .cells #[.int .i64 p8.k, .string ⟨(p8.a).toArray⟩, .string ⟨(p8.v).toArray⟩] 39), (φ13 0, .cells #[.int .i64 K12, .string ⟨(A12).toArray⟩, .string ⟨(V12).toArray⟩] 39)]) (some 23) 0 s (by kernel_rfl) (by kernel_rfl) (failV_c (r := r) (e := faE (Tx.rtE ((K12 : Nat) : Int) A12 V12) E12) (q := 6) h16_0 (drop_len9 h12_3 hnL)) (by kernel_rfl) ?_
   rintro v32 I32 w32 b32 le32 - h32 s
   replace hN := Tx.NmT.mono le32 hN
   replace hT := Tx.U8.mono le32 hT
   replace hi8_1 := BSl.mono le32 hi8_1
   obtain ⟨a32, k32, c32, rfl, rfl, h32_0⟩ := h32
   refine ops_done (by kernel_rfl) ?_
   refine wp_seq ?_
   refine seqR ?_
   refine oK _ F8 1 [] 0 (fun φ33 => [(24, pB r)]) (fun φ33 => []) s (fun φ33 => by kernel_rfl) ?_
   intro φ33 w33 s
   refine callB_rule (b := (r, .cells #[.slice a32 k32 c32, .int .i64 ((faE 6 (faE (Tx.rtE ((K12 : Nat) : Int) A12 V12) E12) : Nat) : Int)] 126)) (F := F8) (Hr := [(φ1 0, .cells #[.slice none 0 0] 26), (φ3 0, .cells #[.int .i64 p8.k, .string ⟨(p8.a).toArray⟩, .string ⟨(p8.v).toArray⟩] 39), (φ13 0, .cells #[.int .i64 K12, .string ⟨(A12).toArray⟩, .string ⟨(V12).toArray⟩] 39)]) (some 25) 0 s (by kernel_rfl) (by kernel_rfl) (err_c (r := r) (e := faE 6 (faE (Tx.rtE ((K12 : Nat) : Int) A12 V12) E12)) h32_0 (drop_len9 h12_3 hnL)) (by kernel_rfl) ?_
   rintro v34 I34 w34 b34 le34 - h34 s
   replace hN := Tx.NmT.mono le34 hN
   replace hT := Tx.U8.mono le34 hT
   replace hi8_1 := BSl.mono le34 hi8_1
   replace h32_0 := BSl.mono le34 h32_0
   obtain ⟨rfl, rfl⟩ := h34
   refine oK _ F8 1 [] 0 (fun φ35 => [(26, .bool (((faE 6 (faE (Tx.rtE ((K12 : Nat) : Int) A12 V12) E12) : Nat) : Int) != ((0 : Nat) : Int)))]) (fun φ35 => []) s (fun φ35 => by kernel_rfl) ?_
   intro φ35 w35 s
   rw [nat_neq (a := (faE 6 (faE (Tx.rtE ((K12 : Nat) : Int) A12 V12) E12))) (b := 0)]
   refine ops_done (by kernel_rfl) ?_
   rcases Bool.eq_false_or_eq_true (decide ((faE 6 (faE (Tx.rtE ((K12 : Nat) : Int) A12 V12) E12)) ≠ 0)) with hc36 | hc36
   ·
    rw [hc36]
    refine cond_true_rule (b := true) (by kernel_rfl) rfl ?_
    refine seqR ?_
    refine oKD _ F8 2 [.o 1] 0 (fun φ37 => [(27, .agg #[.slice none 0 0])]) (fun φ37 => [(φ1 0)]) s (fun φ37 => by kernel_rfl) (by kernel_rfl) ?_
    intro φ37 w37 s
    refine wp_ret ?_
    refine ret_rule (C := []) _ F8 (.agg #[.slice none 0 0]) [.o 1] [(φ1 0)] s trivial (by kernel_rfl) ?_
    replace s := s.drop (List.Sublist.append (List.Sublist.cons₂ _ (List.Sublist.cons _ (List.Sublist.cons _ (List.Sublist.cons _ List.Sublist.slnil)))) (List.Sublist.refl F8))
    replace s := s.drop (List.sublist_append_left _ F8)
    have hez : e8 = 0 := by have hq0 := dT9 hc10; have hq2 := dT9 hc36; have e9 := hi8_5; have e8 := hi8_0; have e7 := (co8 h5_1).2; omega
    have hg9 := h12_1
    rw [hez] at hg9
    have hm9 : m8 = (m8 - 1) + 1 := by have hq0 := dT9 hc10; have hq2 := dT9 hc36; have e8 := hi8_0; omega
    have hgc := gc_err h5_1 (by rw [h5_2]; exact h5_3) hi8_5 hez hi8_7 (by rw [hm9]; exact cR_eB hg9 h12_3 hc20) (dT9 hc36)
    exact ⟨_, _, _, rfl, s, ⟨_, rfl, rfl, [], _, _, _, none, _, _, 0, rfl, rfl, h32_0, hgc, (drop_len9 h12_3 hnL), fsl_nil _⟩⟩
   ·
    exact absurd (dF9 hc36) (not_not_intro (by unfold faE; (repeat' split) <;> omega))
 ·
  rw [hc10]
  refine cond_false_rule (b := false) (by kernel_rfl) rfl ?_
  refine wp_exit ?_
  obtain ⟨hgc, hg8, hga, hgr⟩ := gc_done h5_1 (by rw [h5_2]; exact h5_3) (by have hq0 := dF9 hc10; have e8 := hi8_0; omega : m8 = 0) (by have hq0 := dF9 hc10; have e8 := hi8_0; omega) hi8_4 hi8_5 hi8_6 hi8_7
  obtain ⟨J38, le38, hk38, s⟩ := freeze_row39 (H := [(r, .cells #[.slice a8 k8 c8, .int .i64 ((e8 : Nat) : Int)] 126), ((φ1 0), .cells #[.slice none 0 0] 26), ((φ3 0), .cells #[.int .i64 p8.k, .string ⟨(p8.a).toArray⟩, .string ⟨(p8.v).toArray⟩] 39)]) (F := F8) s hi8_3
  obtain ⟨a38, c38, hv38, -, hk38⟩ := hk38.open
  subst hv38
  replace hN := Tx.NmT.mono le38 hN
  replace hT := Tx.U8.mono le38 hT
  replace hi8_1 := BSl.mono le38 hi8_1
  refine seqR ?_
  refine oK [(r, .cells #[.slice a8 k8 c8, .int .i64 e8] 126), (φ1 0, .cells #[.slice none 0 0] 26), (φ3 0, .cells #[.int .i64 p8.k, .string ⟨(p8.a).toArray⟩, .string ⟨(p8.v).toArray⟩] 39)] [] 1 [] 0 (fun φ39 => [(35, .slice a38 ((Fs8).length) c38)]) (fun φ39 => []) s (fun φ39 => by kernel_rfl) ?_
  intro φ39 w39 s
  refine call_rule (some 36) s (makeAsc_c hk38 hg8 hga hN hT hgr) (by kernel_rfl) ?_
  intro v40 I40 w40 le40 h40 s
  replace hi8_1 := BSl.mono le40 hi8_1
  obtain ⟨a40, c40, rfl, h40_0⟩ := h40
  refine oAD _ [] 6 [.o 3] 1 (fun φ41 => [(7, .int .i64 0), (6, pB (φ41 0)), (38, .int .i64 0), (37, .agg #[.slice a40 ((Fs8).length) c40]), (34, .tuple #[.agg #[.slice a40 ((Fs8).length) c40], .int .i64 0])]) (fun φ41 => [(r, .cells #[.slice a8 k8 c8, .int .i64 e8] 126), (φ1 0, .cells #[.slice none 0 0] 26), (φ3 0, .cells #[.int .i64 p8.k, .string ⟨(p8.a).toArray⟩, .string ⟨(p8.v).toArray⟩] 39), (φ41 0, .cells #[.slice a40 ((Fs8).length) c40] 26)]) (fun φ41 => [(φ41 0)]) s (fun φ41 => by kernel_rfl) (by kernel_rfl) ?_
  intro φ41 w41 s
  refine seqR ?_
  refine oAD _ [] 2 [.o 3, .o 1] 0 (fun φ42 => [(39, .agg #[.slice a40 ((Fs8).length) c40])]) (fun φ42 => [(r, .cells #[.slice a8 k8 c8, .int .i64 e8] 126), (φ1 0, .cells #[.slice a40 ((Fs8).length) c40] 26), (φ3 0, .cells #[.int .i64 p8.k, .string ⟨(p8.a).toArray⟩, .string ⟨(p8.v).toArray⟩] 39), (φ41 0, .cells #[.slice a40 ((Fs8).length) c40] 26)]) (fun φ42 => [φ41 0, φ1 0]) s (fun φ42 => by kernel_rfl) (by kernel_rfl) ?_
  intro φ42 w42 s
  refine wp_ret ?_
  refine ret_rule (C := []) _ [] (.agg #[.slice a40 ((Fs8).length) c40]) [.o 1] [(φ1 0)] s trivial (by kernel_rfl) ?_
  replace s := s.drop (List.Sublist.append (List.Sublist.cons₂ _ (List.Sublist.cons _ (List.Sublist.cons _ (List.Sublist.cons _ List.Sublist.slnil)))) (List.Sublist.refl []))
  exact ⟨_, _, _, rfl, s, ⟨_, rfl, rfl, _, _, _, _, _, _, _, _, rfl, rfl, hi8_1, hgc, hnL, h40_0⟩⟩

end Go.Proofs.YtcpmjogeafhpnaaDoor
/- A card is written. -/
set_option linter.all false
set_option maxRecDepth 100000
namespace Go.Proofs.YtcpmjogeafhpnaaDoor
open Go.RowKit Go.Sep
attribute [local irreducible] Go.wpList Go.Code.wp

theorem src_fslL {I : IM} {w : World} (hs : I.Sub w) {L : List Fe} {a : Option Addr} {n c : Nat} (h : FSl I L (.slice a n c)) : Src Tryd.prog 3 22 (.slice a n c) L.length (fcs L) w := by
  obtain ⟨a', c', hv, hc, hr⟩ := h
  cases hv
  have one : ∀ u ∈ fcs L, u.oneCell' = true := fun u hu => by
    obtain ⟨x, _, hx⟩ := List.mem_flatMap.1 hu
    simp only [fc, List.mem_cons, List.not_mem_nil, or_false] at hx
    rcases hx with rfl | rfl | rfl <;> rfl
  have body : ∀ b o, (∀ (j : Nat) (x : Fe), L[j]? = some x → ∃ (b' o' : Nat) (cs : Array Value) (T : TypeId) (fr : Nat × Nat), (some ⟨b, o, none⟩ : Option Addr) = some ⟨b', o', none⟩ ∧ I b' = some (.cells cs T fr) ∧ cs[o' + j * 3]? = some (.int .i64 x.k) ∧ cs[o' + j * 3 + 1]? = some (.string ⟨x.a.toArray⟩) ∧ cs[o' + j * 3 + 2]? = some (.string ⟨x.v.toArray⟩)) → Src Tryd.prog 3 22 (.slice (some ⟨b, o, none⟩) L.length c) L.length (fcs L) w := fun b o hr => by
    refine Src.ofSlice w under22s ⟨b, o, none⟩ _ c (fcs L) (fcs_length L) (fun j u hu => ?_) one
    have hj : j < L.length * 3 := by rw [← fcs_length]; exact (List.getElem?_eq_some_iff.1 hu).1
    have hx := fe_getD (L := L) (i := j / 3) (by omega)
    obtain ⟨b', o', cs, T, fr, e1, e2, e3, e4, e5⟩ := hr _ _ hx
    cases e1
    obtain ⟨f1, f2, f3⟩ := fcs_at hx
    rw [addr_addO, run_cell (a := ⟨b, o + j, none⟩) (hs _ _ e2) rfl rfl]
    have hm : j % 3 = 0 ∨ j % 3 = 1 ∨ j % 3 = 2 := by omega
    rcases hm with q | q | q
    · have e : j = j / 3 * 3 := by omega
      rw [e] at hu ⊢; rw [f1] at hu; cases hu
      have : j / 3 * 3 / 3 = j / 3 := by omega
      simpa [this] using e3
    · have e : j = j / 3 * 3 + 1 := by omega
      have e' : o + j = o + j / 3 * 3 + 1 := by omega
      rw [e] at hu; rw [f2] at hu; cases hu
      show cs[o + j]? = _
      rw [e']; exact e4
    · have e : j = j / 3 * 3 + 2 := by omega
      have e' : o + j = o + j / 3 * 3 + 2 := by omega
      rw [e] at hu; rw [f3] at hu; cases hu
      show cs[o + j]? = _
      rw [e']; exact e5
  cases a with
  | none =>
    cases L with
    | nil => exact Src.ofNil w under22s c
    | cons x L => obtain ⟨b, o, cs, T, fr, q, _⟩ := hr 0 x rfl; cases q
  | some x =>
    obtain ⟨b, o, sp⟩ := x
    cases L with
    | nil => exact Src.ofSlice w under22s _ 0 c [] rfl (fun j u hu => by simp at hu) (fun u hu => by simp at hu)
    | cons y L =>
      obtain ⟨b', o', cs, T, fr, q, _⟩ := hr 0 y rfl
      cases q
      exact body _ _ hr
theorem row_all39 {v : Value} {L : List Fe} {F : List OB} (h : RowH 39 3 v (0 + L.length) ([] ++ fcs L) F) : RowH 39 3 v L.length (fcs L) F := by
  rw [Nat.zero_add] at h; exact h

theorem eq22_true {w : World} {n c : Nat} : (binOp .eql 22 (.slice none n c) (.slice none 0 0)).run Tryd.prog w = .ok (.bool true) w := by kernel_rfl
theorem eq22_false {w : World} {b : Addr} {n c : Nat} : (binOp .eql 22 (.slice (some b) n c) (.slice none 0 0)).run Tryd.prog w = .ok (.bool false) w := by kernel_rfl

theorem fsl_none {I : IM} {L : List Fe} {n c : Nat} (h : FSl I L (.slice none n c)) : L = [] := by
  obtain ⟨a', c', hv, hc, hr⟩ := h
  cases hv
  cases L with
  | nil => rfl
  | cons x L => obtain ⟨b, o, cs, T, fr, q, _⟩ := hr 0 x rfl; cases q

set_option maxHeartbeats 1000000 in
theorem cloneS_c {I : IM} {L : List Fe} {x0 : Addr} {c0 : Nat} (h0 : FSl I L (.slice (some x0) L.length c0)) (hl : L.length ≤ 255) : Fun Tryd.prog 59 #[.slice (some x0) L.length c0] I (fun v J => ∃ a c, v = .slice a L.length c ∧ FSl J L (.slice a L.length c)) := by
 refine enter_rule 8 [(0, .slice (some x0) L.length c0)] Tryd.func59 rfl (by kernel_rfl) ?_
 intro w s
 refine seqR ?_
 refine oKD [] [] 1 [] 0 (fun φ1 => [(2, .slice none 0 0)]) (fun φ1 => []) s (fun φ1 => by kernel_rfl) (by kernel_rfl) ?_
 intro φ1 w1 s
 refine wp_seq ?_
 refine seqR ?_
 refine oK [] [] 1 [] 0 (fun φ2 => [(3, .slice (some x0) L.length c0)]) (fun φ2 => []) s (fun φ2 => by kernel_rfl) ?_
 intro φ2 w2 s
 refine sem_rule (binOp .eql 22 (.slice (some x0) L.length c0) (.slice none 0 0)) (some 4) (.bool false) (by kernel_rfl) (eq22_false) ?_
 refine ops_done (by kernel_rfl) ?_
 refine cond_false_rule (b := false) (by kernel_rfl) rfl ?_
 refine wp_skip ?_
 refine seqR ?_
 refine oA [] [] 2 [] 1 (fun φ3 => [(6, .slice (some x0) L.length c0), (5, .slice (some ⟨(φ3 0), 0, none⟩) 0 0)]) (fun φ3 => [(φ3 0, .cells #[] 39)]) (fun φ3 => []) s (fun φ3 => by kernel_rfl) ?_
 intro φ3 w3 s
 refine append_rule (H := []) (F := [(φ3 0, .cells #[] 39)]) 22 22 39 Tryd.t39 (.agg #[.int .i64 0, .string ⟨#[]⟩, .string ⟨#[]⟩]) 3 40 (some 7) s Tryd.underlying22 (by kernel_rfl) (by kernel_rfl) (by kernel_rfl) (by kernel_rfl) (by kernel_rfl) (by decide) (row_new39 (φ3 0)) (src_fslL s.sub h0) (by simp only [maxLen]; omega) (by omega) (by kernel_rfl) ?_
 intro v4 w4 F4 s h4
 obtain ⟨J4, le4, hk4, s⟩ := freeze_row39 (H := []) (F := F4) s (row_all39 h4)
 obtain ⟨a4, c4, hv4, -, hk4⟩ := hk4.open
 subst hv4
 refine oKD [] [] 1 [] 0 (fun φ5 => [(2, .slice a4 L.length c4)]) (fun φ5 => []) s (fun φ5 => by kernel_rfl) (by kernel_rfl) ?_
 intro φ5 w5 s
 refine wp_ret ?_
 refine ret_rule (C := []) [] [] (.slice a4 L.length c4) [] [] s trivial (by kernel_rfl) ?_
 exact ⟨_, _, _, rfl, s, ⟨_, _, rfl, hk4⟩⟩

set_option maxHeartbeats 1000000 in
theorem cloneN_c {I : IM} {L : List Fe} {c0 : Nat} (h0 : FSl I L (.slice none L.length c0)) (hl : L.length ≤ 255) : Fun Tryd.prog 59 #[.slice none L.length c0] I (fun v J => ∃ a c, v = .slice a L.length c ∧ FSl J L (.slice a L.length c)) := by
 refine enter_rule 8 [(0, .slice none L.length c0)] Tryd.func59 rfl (by kernel_rfl) ?_
 intro w s
 refine seqR ?_
 refine oKD [] [] 1 [] 0 (fun φ1 => [(2, .slice none 0 0)]) (fun φ1 => []) s (fun φ1 => by kernel_rfl) (by kernel_rfl) ?_
 intro φ1 w1 s
 refine wp_seq ?_
 refine seqR ?_
 refine oK [] [] 1 [] 0 (fun φ2 => [(3, .slice none L.length c0)]) (fun φ2 => []) s (fun φ2 => by kernel_rfl) ?_
 intro φ2 w2 s
 refine sem_rule (binOp .eql 22 (.slice none L.length c0) (.slice none 0 0)) (some 4) (.bool true) (by kernel_rfl) (eq22_true) ?_
 refine ops_done (by kernel_rfl) ?_
 refine cond_true_rule (b := true) (by kernel_rfl) rfl ?_
 refine seqR ?_
 refine oKD [] [] 1 [] 0 (fun φ3 => [(2, .slice none 0 0)]) (fun φ3 => []) s (fun φ3 => by kernel_rfl) (by kernel_rfl) ?_
 intro φ3 w3 s
 refine wp_ret ?_
 refine ret_rule (C := []) [] [] (.slice none 0 0) [] [] s trivial (by kernel_rfl) ?_
 exact ⟨_, _, _, rfl, s, (by have e : L = [] := fsl_none h0; subst e; exact ⟨_, _, rfl, fsl_nil _⟩)⟩

theorem cloneL_c {I : IM} {L : List Fe} {a0 : Option Addr} {c0 : Nat} (h0 : FSl I L (.slice a0 L.length c0)) (hl : L.length ≤ 255) : Fun Tryd.prog 59 #[.slice a0 L.length c0] I (fun v J => ∃ a c, v = .slice a L.length c ∧ FSl J L (.slice a L.length c)) := by
  cases a0 with
  | none => exact cloneN_c h0 hl
  | some x => exact cloneS_c h0 hl

set_option maxHeartbeats 1000000 in
theorem fieldsL_c {I : IM} {L : List Fe} {a0 : Option Addr} {c0 : Nat} (h0 : FSl I L (.slice a0 L.length c0)) (hl : L.length ≤ 255) : Fun Tryd.prog 19 #[.agg #[.slice a0 L.length c0]] I (fun v J => ∃ a c, v = .slice a L.length c ∧ FSl J L (.slice a L.length c)) := by
 refine enter_rule 6 [(0, .agg #[.slice a0 L.length c0])] Tryd.func19 rfl (by kernel_rfl) ?_
 intro w s
 refine seqR ?_
 refine oAD [] [] 2 [] 1 (fun φ1 => [(2, .slice none 0 0), (1, pB (φ1 0))]) (fun φ1 => [(φ1 0, .cells #[.slice a0 L.length c0] 26)]) (fun φ1 => []) s (fun φ1 => by kernel_rfl) (by kernel_rfl) ?_
 intro φ1 w1 s
 refine seqR ?_
 refine oK _ [] 2 [.o 0] 0 (fun φ2 => [(4, .slice a0 L.length c0), (3, pB (φ1 0))]) (fun φ2 => [(φ1 0)]) s (fun φ2 => by kernel_rfl) ?_
 intro φ2 w2 s
 refine call_rule (some 5) s (cloneL_c h0 hl) (by kernel_rfl) ?_
 intro v3 I3 w3 le3 h3 s
 obtain ⟨a3, c3, rfl, h3_0⟩ := h3
 refine oKD _ [] 1 [] 0 (fun φ4 => [(2, .slice a3 L.length c3)]) (fun φ4 => []) s (fun φ4 => by kernel_rfl) (by kernel_rfl) ?_
 intro φ4 w4 s
 refine wp_ret ?_
 refine ret_rule (C := []) _ [] (.slice a3 L.length c3) [] [] s trivial (by kernel_rfl) ?_
 exact ⟨_, _, _, rfl, s, ⟨_, _, rfl, h3_0⟩⟩

end Go.Proofs.YtcpmjogeafhpnaaDoor
/- The field of the example. -/
set_option linter.all false
set_option maxRecDepth 100000
namespace Go.Proofs.YtcpmjogeafhpnaaDoor
open Go.RowKit Go.Sep
attribute [local irreducible] Go.wpList Go.Code.wp

def x0 : Fe := ⟨1, [], [65, 110, 110]⟩
/-- the names of the kinds, as they are laid -/
def NmT (I : IM) : Prop := ∃ cs T fr, I 0 = some (.cells cs T fr) ∧ cs[1]? = some (.string ⟨#[110, 97, 109, 101]⟩)
theorem NmT.mono {I J : IM} (le : I.Le J) (h : NmT I) : NmT J := by
  obtain ⟨cs, T, fr, h1, h2⟩ := h
  exact ⟨cs, T, fr, le _ _ h1, h2⟩
theorem nm_ld {I : IM} {w : World} (hs : I.Sub w) (h : NmT I) : (Instr.loadAt 9 (.pointer (some ⟨0, 1, none⟩))).run Tryd.prog w = .ok (.string ⟨#[110, 97, 109, 101]⟩) w := by
  obtain ⟨cs, T, fr, h1, h2⟩ := h
  have c1 := run_cell (a := ⟨0, 1, none⟩) (hs _ _ h1) rfl rfl
  rw [h2] at c1
  have e : (Instr.loadAt 9 (.pointer (some ⟨0, 1, none⟩))).run Tryd.prog w = (load ⟨0, 1, none⟩).run Tryd.prog w := by kernel_rfl
  rw [e]; simp only [load, Sem.run, c1]
theorem u8_mono {I J : IM} (le : I.Le J) (h : Tx.U8 I) : Tx.U8 J := fun w hw => h w (fun k o e => hw k o (le k o e))
theorem fun_mono {P : Program} {f : FuncId} {args : Array Value} {I : IM} {R R' : Value → IM → Prop} (h : Fun P f args I R) (k : ∀ v J, R v J → R' v J) : Fun P f args I R' :=
  fun w hw => (h w hw).mono fun e w' ⟨v, J, H, he, s, q⟩ => ⟨v, J, H, he, s, k v J q⟩
theorem ckNone {I : IM} (hT : Tx.U8 I) : Fun Tryd.prog 60 #[.string ⟨#[]⟩, .int .i64 12] I (fun v J => v = .int .i64 0) :=
  fun_mono (Tx.check_c (l := []) (mi := 12) hT (by decide)) (fun v J h => h.trans (congrArg (fun q : Nat => Value.int .i64 (q : Int)) (show Tx.ckE [] 12 = 0 by decide +kernel)))
theorem ckAnn {I : IM} (hT : Tx.U8 I) : Fun Tryd.prog 60 #[.string ⟨#[65, 110, 110]⟩, .int .i64 40] I (fun v J => v = .int .i64 0) :=
  fun_mono (Tx.check_c (l := [65, 110, 110]) (mi := 40) hT (by decide)) (fun v J h => h.trans (congrArg (fun q : Nat => Value.int .i64 (q : Int)) (show Tx.ckE [65, 110, 110] 40 = 0 by decide +kernel)))
theorem foldAnn {I : IM} : Fun Tryd.prog 100 #[.string ⟨#[65, 110, 110]⟩] I (fun v J => v = .string ⟨#[65, 110, 110]⟩) :=
  fun_mono (Tx.fold_c (l := [65, 110, 110]) (by decide)) (fun v J h => h.trans (congrArg (fun q : List UInt8 => Value.string ⟨q.toArray⟩) (show Tx.fldS [65, 110, 110] = [65, 110, 110] by decide +kernel)))

theorem semlem0 {w : World} : (Instr.indexAt 98 (.pointer (some ⟨0, 0, none⟩)) (.int .i64 1)).run Tryd.prog w = .ok (.pointer (some ⟨0, 1, none⟩)) w := by kernel_rfl
set_option maxHeartbeats 400000 in
theorem kindName_c {I : IM} (hN : NmT I) : Fun Tryd.prog 27 #[.int .i64 1] I (fun v J => v = .string ⟨#[110, 97, 109, 101]⟩) := by
 refine enter_rule 12 [(0, .int .i64 1)] Tryd.func27 rfl (by kernel_rfl) ?_
 intro w s
 refine seqR ?_
 refine oKD [] [] 1 [] 0 (fun φ1 => [(2, .string ⟨#[]⟩)]) (fun φ1 => []) s (fun φ1 => by kernel_rfl) (by kernel_rfl) ?_
 intro φ1 w1 s
 refine wp_seq ?_
 refine seqR ?_
 refine oKD [] [] 6 [] 0 (fun φ2 => [(8, .bool false), (7, .bool false), (6, .int .i64 1), (5, .bool false), (4, .bool false), (3, .int .i64 1)]) (fun φ2 => []) s (fun φ2 => by kernel_rfl) (by kernel_rfl) ?_
 intro φ2 w2 s
 refine cond_false_rule (b := false) (by kernel_rfl) rfl ?_
 refine wp_skip ?_
 refine seqR ?_
 refine oK [] [] 1 [] 0 (fun φ3 => [(9, .int .i64 1)]) (fun φ3 => []) s (fun φ3 => by kernel_rfl) ?_
 intro φ3 w3 s
 refine sem_rule (Instr.indexAt 98 (pB 0) (.int .i64 1)) (some 10) (.pointer (some ⟨0, 1, none⟩)) (by kernel_rfl) (semlem0) ?_
 refine sem_rule (Instr.loadAt 9 (.pointer (some ⟨0, 1, none⟩))) (some 11) (.string ⟨#[110, 97, 109, 101]⟩) (by kernel_rfl) (nm_ld s.sub hN) ?_
 refine oKD [] [] 1 [] 0 (fun φ4 => [(2, .string ⟨#[110, 97, 109, 101]⟩)]) (fun φ4 => []) s (fun φ4 => by kernel_rfl) (by kernel_rfl) ?_
 intro φ4 w4 s
 refine wp_ret ?_
 refine ret_rule (C := []) [] [] (.string ⟨#[110, 97, 109, 101]⟩) [] [] s trivial (by kernel_rfl) ?_
 exact ⟨_, _, _, rfl, s, rfl⟩

theorem semlem1 {w : World} : (binOp .eql 9 (.string ⟨#[65, 110, 110]⟩) (.string ⟨#[]⟩)).run Tryd.prog w = .ok (.bool false) w := by kernel_rfl
theorem semlem2 {w : World} : (binOp .neq 9 (.string ⟨#[65, 110, 110]⟩) (.string ⟨#[65, 110, 110]⟩)).run Tryd.prog w = .ok (.bool false) w := by kernel_rfl
set_option maxHeartbeats 1000000 in
theorem fits_c {I : IM} : Fun Tryd.prog 61 #[.agg #[.int .i64 1, .string ⟨#[]⟩, .string ⟨#[65, 110, 110]⟩]] I (fun v J => v = .bool true) := by
 refine enter_rule 29 [(0, .agg #[.int .i64 1, .string ⟨#[]⟩, .string ⟨#[65, 110, 110]⟩])] Tryd.func61 rfl (by kernel_rfl) ?_
 intro w s
 refine seqR ?_
 refine oAD [] [] 2 [] 1 (fun φ1 => [(2, .bool false), (1, pB (φ1 0))]) (fun φ1 => [(φ1 0, .cells #[.int .i64 1, .string ⟨#[]⟩, .string ⟨#[65, 110, 110]⟩] 39)]) (fun φ1 => []) s (fun φ1 => by kernel_rfl) (by kernel_rfl) ?_
 intro φ1 w1 s
 refine wp_seq ?_
 refine wp_block ?_
 refine wp_seq ?_
 refine draw_rule (C := []) ⟨(fun φ2 xs2 => [.look 0 [] [], .look 0 [.o 0] [(φ1 0)], .ran (binOp .eql 9 (.string ⟨#[65, 110, 110]⟩) (.string ⟨#[]⟩)), .look 0 [] [], .look 0 [] [], .look 0 [.o 0] [(φ1 0)], .look 0 [] [], .look 0 [.o 0] [(φ1 0)], .call 100 #[.string ⟨#[65, 110, 110]⟩], .ran (binOp .neq 9 (.string ⟨#[65, 110, 110]⟩) (.string ⟨#[65, 110, 110]⟩)), .look 0 [] [], .look 0 [] []]), (fun φ2 xs2 => [.pointer (some ⟨(φ1 0), 2, none⟩), .string ⟨#[65, 110, 110]⟩, .bool false, .bool false, .pointer (some ⟨(φ1 0), 2, none⟩), .string ⟨#[65, 110, 110]⟩, .pointer (some ⟨(φ1 0), 2, none⟩), .string ⟨#[65, 110, 110]⟩, .string ⟨#[65, 110, 110]⟩, .bool false, .bool false, .bool false]), (fun φ2 xs2 => [[(φ1 0, .cells #[.int .i64 1, .string ⟨#[]⟩, .string ⟨#[65, 110, 110]⟩] 39)]]), (fun φ2 xs2 => [[default, default, default, default, default, default, default, default, default, default, default, default]]), [], [1, 1, 6, 1, 1, 1, 1, 1, 3, 6, 1, 1]⟩ (fun j => ([MP.any] : List MP).getD j MP.any) [8] [] [2, 9] (fun φ2 xs2 => []) (fun φ2 xs2 => [(4, .pointer (some ⟨(φ1 0), 2, none⟩)), (5, .string ⟨#[65, 110, 110]⟩), (6, .bool false), (7, .bool false), (8, .pointer (some ⟨(φ1 0), 2, none⟩)), (9, .string ⟨#[65, 110, 110]⟩), (10, .pointer (some ⟨(φ1 0), 2, none⟩)), (11, .string ⟨#[65, 110, 110]⟩), (12, .string ⟨#[65, 110, 110]⟩), (13, .bool false), (14, .bool false), (3, .bool false)]) (fun φ2 xs2 => [(φ1 0, .cells #[.int .i64 1, .string ⟨#[]⟩, .string ⟨#[65, 110, 110]⟩] 39)]) s trivial (by kernel_rfl) (by kernel_rfl) (fun _ _ => by kernel_rfl) (fun _ _ => by kernel_rfl) ⟨fun _ _ => by kernel_rfl, fun _ _ => by kernel_rfl, fun _ _ => by kernel_rfl, fun _ _ => by kernel_rfl⟩ (fun _ _ _ => by kernel_rfl) (fun _ _ => by kernel_rfl) (fun _ _ => by kernel_rfl) (fun _ _ => by kernel_rfl) (fun _ _ => by kernel_rfl) (fun _ _ => by kernel_rfl) trivial ⟨kcast (A := ∀ (φ2 : Nat → Nat) (xs2 : Xs) (J : IM) (w : World), I.Le J → J.Sub w → ((binOp .eql 9 (.string ⟨#[65, 110, 110]⟩) (.string ⟨#[]⟩)) : Sem Value).run Tryd.prog w = .ok (.bool false) w) (by kernel_rfl) (fun φ2 xs2 J w hJ hS => semlem1), ⟨kcast (A := ∀ (φ2 : Nat → Nat) (xs2 : Xs) (J : IM) (w : World), I.Le J → J.Sub w → ((binOp .neq 9 (.string ⟨#[65, 110, 110]⟩) (.string ⟨#[65, 110, 110]⟩)) : Sem Value).run Tryd.prog w = .ok (.bool false) w) (by kernel_rfl) (fun φ2 xs2 J w hJ hS => semlem2), trivial⟩⟩ (by kernel_rfl) ⟨?c2_8, trivial⟩ ?k2
 case c2_8 =>
  refine kcast (A := ∀ (φ2 : Nat → Nat) (xs2 : Xs) (J8_2 : IM), I.Le J8_2 → Fun Tryd.prog 100 #[.string ⟨#[65, 110, 110]⟩] J8_2 (fun v J' => ∃ x : UX, v = .string ⟨#[65, 110, 110]⟩ ∧ (True))) (by kernel_rfl) ?_
  intro φ2 xs2 J8_2 leJ
  exact Fun.mono (foldAnn) (fun v J' _ h => ⟨UX.d, h, trivial⟩)
 case k2 =>
  rintro φ2 xs2 I2 w2 le2 s _
  refine cond_false_rule (b := false) (by kernel_rfl) rfl ?_
  refine seqR ?_
  refine oKD [(φ1 0, .cells #[.int .i64 1, .string ⟨#[]⟩, .string ⟨#[65, 110, 110]⟩] 39)] [] 4 [.o 0] 0 (fun φ3 => [(15, .bool false), (18, .bool false), (17, .int .i64 1), (16, pB (φ1 0))]) (fun φ3 => [(φ1 0)]) s (fun φ3 => by kernel_rfl) (by kernel_rfl) ?_
  intro φ3 w3 s
  refine cond_false_rule (b := false) (by kernel_rfl) rfl ?_
  refine seqR ?_
  refine oKD _ [] 4 [.o 0] 0 (fun φ4 => [(22, .bool false), (25, .bool false), (24, .int .i64 1), (23, pB (φ1 0))]) (fun φ4 => [(φ1 0)]) s (fun φ4 => by kernel_rfl) (by kernel_rfl) ?_
  intro φ4 w4 s
  refine cond_false_rule (b := false) (by kernel_rfl) rfl ?_
  refine wp_skip ?_
  refine seqR ?_
  refine oKD _ [] 1 [] 0 (fun φ5 => [(2, .bool true)]) (fun φ5 => []) s (fun φ5 => by kernel_rfl) (by kernel_rfl) ?_
  intro φ5 w5 s
  refine wp_ret ?_
  refine ret_rule (C := []) _ [] (.bool true) [] [] s trivial (by kernel_rfl) ?_
  exact ⟨_, _, _, rfl, s, rfl⟩

theorem semlem3 {w : World} : (binOp .eql 9 (.string ⟨#[110, 97, 109, 101]⟩) (.string ⟨#[]⟩)).run Tryd.prog w = .ok (.bool false) w := by kernel_rfl
set_option maxHeartbeats 1000000 in
theorem right_c {I : IM} (hN : NmT I) (hT : Tx.U8 I) : Fun Tryd.prog 22 #[.agg #[.int .i64 1, .string ⟨#[]⟩, .string ⟨#[65, 110, 110]⟩]] I (fun v J => v = .int .i64 0) := by
 refine enter_rule 24 [(0, .agg #[.int .i64 1, .string ⟨#[]⟩, .string ⟨#[65, 110, 110]⟩])] Tryd.func22 rfl (by kernel_rfl) ?_
 intro w s
 refine seqR ?_
 refine oAD [] [] 2 [] 1 (fun φ1 => [(2, .int .i64 0), (1, pB (φ1 0))]) (fun φ1 => [(φ1 0, .cells #[.int .i64 1, .string ⟨#[]⟩, .string ⟨#[65, 110, 110]⟩] 39)]) (fun φ1 => []) s (fun φ1 => by kernel_rfl) (by kernel_rfl) ?_
 intro φ1 w1 s
 refine wp_seq ?_
 refine seqR ?_
 refine oK _ [] 2 [.o 0] 0 (fun φ2 => [(6, .int .i64 1), (5, pB (φ1 0))]) (fun φ2 => [(φ1 0)]) s (fun φ2 => by kernel_rfl) ?_
 intro φ2 w2 s
 refine call_rule (some 7) s (kindName_c hN) (by kernel_rfl) ?_
 intro v3 I3 w3 le3 h3 s
 replace hT := u8_mono le3 hT
 obtain rfl := h3
 refine sem_rule (binOp .eql 9 (.string ⟨#[110, 97, 109, 101]⟩) (.string ⟨#[]⟩)) (some 8) (.bool false) (by kernel_rfl) (semlem3) ?_
 refine ops_done (by kernel_rfl) ?_
 refine cond_false_rule (b := false) (by kernel_rfl) rfl ?_
 refine wp_skip ?_
 refine wp_seq ?_
 refine seqR ?_
 refine oK _ [] 2 [.o 0] 0 (fun φ4 => [(10, .string ⟨#[]⟩), (9, .pointer (some ⟨(φ1 0), 1, none⟩))]) (fun φ4 => [(φ1 0)]) s (fun φ4 => by kernel_rfl) ?_
 intro φ4 w4 s
 refine call_rule (some 11) s (ckNone hT) (by kernel_rfl) ?_
 intro v5 I5 w5 le5 h5 s
 replace hT := u8_mono le5 hT
 obtain rfl := h5
 refine oKD _ [] 1 [] 0 (fun φ6 => [(3, .int .i64 0)]) (fun φ6 => []) s (fun φ6 => by kernel_rfl) (by kernel_rfl) ?_
 intro φ6 w6 s
 refine seqR ?_
 refine oKD _ [] 2 [] 0 (fun φ7 => [(13, .bool false), (12, .int .i64 0)]) (fun φ7 => []) s (fun φ7 => by kernel_rfl) (by kernel_rfl) ?_
 intro φ7 w7 s
 refine cond_false_rule (b := false) (by kernel_rfl) rfl ?_
 refine wp_skip ?_
 refine wp_seq ?_
 refine seqR ?_
 refine oK _ [] 2 [.o 0] 0 (fun φ8 => [(16, .string ⟨#[65, 110, 110]⟩), (15, .pointer (some ⟨(φ1 0), 2, none⟩))]) (fun φ8 => [(φ1 0)]) s (fun φ8 => by kernel_rfl) ?_
 intro φ8 w8 s
 refine call_rule (some 17) s (ckAnn hT) (by kernel_rfl) ?_
 intro v9 I9 w9 le9 h9 s
 obtain rfl := h9
 refine oKD _ [] 1 [] 0 (fun φ10 => [(4, .int .i64 0)]) (fun φ10 => []) s (fun φ10 => by kernel_rfl) (by kernel_rfl) ?_
 intro φ10 w10 s
 refine seqR ?_
 refine oKD _ [] 2 [] 0 (fun φ11 => [(19, .bool false), (18, .int .i64 0)]) (fun φ11 => []) s (fun φ11 => by kernel_rfl) (by kernel_rfl) ?_
 intro φ11 w11 s
 refine cond_false_rule (b := false) (by kernel_rfl) rfl ?_
 refine wp_skip ?_
 refine wp_seq ?_
 refine seqR ?_
 refine oK _ [] 1 [.o 0, .o 0, .o 0] 0 (fun φ12 => [(21, .agg #[.int .i64 1, .string ⟨#[]⟩, .string ⟨#[65, 110, 110]⟩])]) (fun φ12 => [φ1 0, φ1 0, φ1 0]) s (fun φ12 => by kernel_rfl) ?_
 intro φ12 w12 s
 refine call_rule (some 22) s (fits_c) (by kernel_rfl) ?_
 intro v13 I13 w13 le13 h13 s
 obtain rfl := h13
 refine oKD _ [] 1 [] 0 (fun φ14 => [(23, .bool false)]) (fun φ14 => []) s (fun φ14 => by kernel_rfl) (by kernel_rfl) ?_
 intro φ14 w14 s
 refine cond_false_rule (b := false) (by kernel_rfl) rfl ?_
 refine wp_skip ?_
 refine seqR ?_
 refine oKD _ [] 1 [] 0 (fun φ15 => [(2, .int .i64 0)]) (fun φ15 => []) s (fun φ15 => by kernel_rfl) (by kernel_rfl) ?_
 intro φ15 w15 s
 refine wp_ret ?_
 refine ret_rule (C := []) _ [] (.int .i64 0) [] [] s trivial (by kernel_rfl) ?_
 exact ⟨_, _, _, rfl, s, rfl⟩

end Go.Proofs.YtcpmjogeafhpnaaDoor

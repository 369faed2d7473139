/- Bytes are cut, joined, cloned; the document's examples. -/
import Derived.Test.YtpnlaeapnokipaaDW2
set_option linter.all false
set_option maxRecDepth 100000
namespace Go.Proofs.Ytpnlaeapnokipaa
open Go.RowKit Go.Sep
attribute [local irreducible] Go.wpList Go.Code.wp

theorem sameR_c {I : IM} {l : List UInt8} {a a2 : Option Addr} {n c n2 c2 : Nat} (hl : BSl I l (.slice a n c)) (hl2 : BSl I l (.slice a2 n2 c2)) (hn : l.length ≤ 1000000000) : Fun Try.prog 41 #[.slice a n c, .slice a2 n2 c2] I (fun v J => v = .bool true) :=
  (same_c hl hn hl2 hn).mono fun v J _ h => h.trans (congrArg Value.bool (decide_eq_true rfl))
theorem clone_none {I : IM} {n c : Nat} : Fun Try.prog 66 #[.slice none n c] I (fun v J => v = .slice none 0 0) := by
  refine enter_rule 8 [(0, .slice none n c)] Try.func66 rfl (by kernel_rfl) ?_
  intro w s
  refine wp_seq ?_
  refine region_rule ?_
  refine ops_rule (C := []) [] [] 1 [] 0 (fun φ1 => [(2, .slice none 0 0)]) (fun φ1 => []) (fun φ1 => []) s trivial (fun φ1 => by kernel_rfl) ?_
  intro φ1 w1 s
  refine ops_done (by kernel_rfl) ?_
  refine wp_seq ?_
  refine wp_seq ?_
  refine region_rule ?_
  refine ops_rule (C := []) [] [] 1 [] 0 (fun φ2 => [(3, .slice none n c)]) (fun φ2 => []) (fun φ2 => []) s trivial (fun φ2 => by kernel_rfl) ?_
  intro φ2 w2 s
  refine sem_rule (binOp .eql 34 (.slice none n c) (.slice none 0 0)) (some 4) (.bool true) (by kernel_rfl) (run_eqnil) ?_
  refine ops_done (by kernel_rfl) ?_
  refine cond_true_rule (b := true) (by kernel_rfl) rfl ?_
  refine wp_seq ?_
  refine region_rule ?_
  refine ops_rule (C := []) [] [] 1 [] 0 (fun φ3 => [(2, .slice none 0 0)]) (fun φ3 => []) (fun φ3 => []) s trivial (fun φ3 => by kernel_rfl) ?_
  intro φ3 w3 s
  refine ops_done (by kernel_rfl) ?_
  refine wp_ret ?_
  refine ret_rule (C := []) [] [] (.slice none 0 0) [] [] s trivial (by kernel_rfl) ?_
  exact ⟨_, _, _, rfl, s, rfl⟩

set_option maxHeartbeats 400000 in
theorem clone_some {I : IM} {l : List UInt8} {x : Addr} {c : Nat} (hl : BSl I l (.slice (some x) l.length c)) (hn : l.length ≤ 1000000000) : FunM Try.prog 66 #[.slice (some x) l.length c] I [] (fun v J F => RowH 5 1 v l.length (l.map bV) F) := by
  refine enterM_rule 8 [(0, .slice (some x) l.length c)] Try.func66 rfl (by kernel_rfl) ?_
  intro w s
  refine wp_seq ?_
  refine region_rule ?_
  refine ops_rule (C := []) [] [] 1 [] 0 (fun φ1 => [(2, .slice none 0 0)]) (fun φ1 => []) (fun φ1 => []) s trivial (fun φ1 => by kernel_rfl) ?_
  intro φ1 w1 s
  refine ops_done (by kernel_rfl) ?_
  refine wp_seq ?_
  refine wp_seq ?_
  refine region_rule ?_
  refine ops_rule (C := []) [] [] 1 [] 0 (fun φ2 => [(3, .slice (some x) l.length c)]) (fun φ2 => []) (fun φ2 => []) s trivial (fun φ2 => by kernel_rfl) ?_
  intro φ2 w2 s
  refine sem_rule (binOp .eql 34 (.slice (some x) l.length c) (.slice none 0 0)) (some 4) (.bool false) (by kernel_rfl) (run_eqnil) ?_
  refine ops_done (by kernel_rfl) ?_
  refine cond_false_rule (b := false) (by kernel_rfl) rfl ?_
  refine wp_skip ?_
  refine wp_seq ?_
  refine region_rule ?_
  refine ops_rule (C := []) [] [] 2 [] 1 (fun φ3 => [(6, .slice (some x) l.length c), (5, .slice (some ⟨(φ3 0), 0, none⟩) 0 0)]) (fun φ3 => [((φ3 0), .cells #[] 5)]) (fun φ3 => []) s trivial (fun φ3 => by kernel_rfl) ?_
  intro φ3 w3 s
  refine append_rule (H := []) (F := [((φ3 0), .cells #[] 5)]) 34 34 5 Try.t5 (.int .u8 0) 1 1 (some 7) s Try.underlying34 (by kernel_rfl) (by kernel_rfl) (by kernel_rfl) (by kernel_rfl) (by kernel_rfl) (by decide) (row_new (φ3 0)) (src_bsl s.sub hl) (by   (try simp only [maxLen, List.length_append, List.length_cons, List.length_nil, List.length_take, List.length_drop]); omega) (by   (try simp only [maxLen, List.length_append, List.length_cons, List.length_nil, List.length_take, List.length_drop]); omega) (by kernel_rfl) ?_
  intro v4 w4 F4 s h4
  replace h4 : RowH 5 1 v4 ((l).length) ((l).map bV) F4 := row_app (x := []) (y := l) h4
  refine ops_rule (C := []) [] F4 1 [] 0 (fun φ5 => [(2, v4)]) (fun φ5 => []) (fun φ5 => []) s trivial (fun φ5 => by kernel_rfl) ?_
  intro φ5 w5 s
  refine ops_done (by kernel_rfl) ?_
  refine wp_ret ?_
  refine ret_rule (C := []) [] F4 (v4) [] [] s trivial (by kernel_rfl) ?_
  replace s := s.drop (List.sublist_append_right [] F4)
  exact ⟨_, _, _, rfl, s, h4⟩

theorem clone_c {I : IM} {l : List UInt8} {a : Option Addr} {n c : Nat} (hl : BSl I l (.slice a n c)) (hn : l.length ≤ 1000000000) : Fun Try.prog 66 #[.slice a n c] I (fun v J => bsR l v J) := by
  obtain ⟨rfl, -⟩ := hl.cap
  cases a with
  | none =>
    have := bsl_none hl
    subst this
    exact clone_none.mono fun v J _ h => ⟨none, 0, h, bsl_nil J⟩
  | some x => exact fun_of_rowB (clone_some hl hn)

set_option maxHeartbeats 1000000 in
theorem cut_r {I : IM} {l : List UInt8} {a : Option Addr} {n c m : Nat} (hl : BSl I l (.slice a n c)) (hm : m ≤ 1000000) : FunM Try.prog 36 #[.slice a n c, .int .i64 ((m : Nat) : Int)] I [] (fun v J F => RowH 5 1 v (l.take m).length ((l.take m).map bV) F) := by
  obtain ⟨rfl, -⟩ := hl.cap
  refine enterM_rule 13 [(0, .slice a l.length c), (1, .int .i64 ((m : Nat) : Int))] Try.func36 rfl (by kernel_rfl) ?_
  intro w s
  refine wp_seq ?_
  refine region_rule ?_
  refine ops_rule (C := []) [] [] 1 [] 0 (fun φ1 => [(4, .slice none 0 0)]) (fun φ1 => []) (fun φ1 => []) s trivial (fun φ1 => by kernel_rfl) ?_
  intro φ1 w1 s
  refine ops_done (by kernel_rfl) ?_
  refine wp_seq ?_
  refine region_rule ?_
  refine ops_rule (C := []) [] [] 6 [] 1 (fun φ2 => [(10, .int .i64 (if ((m : Nat) : Int) < ((l.length : Nat) : Int) then ((m : Nat) : Int) else ((l.length : Nat) : Int))), (9, .int .i64 ((m : Nat) : Int)), (8, .int .i64 ((l.length : Nat) : Int)), (7, .slice a l.length c), (6, .slice a l.length c), (5, .slice (some ⟨(φ2 0), 0, none⟩) 0 0)]) (fun φ2 => [((φ2 0), .cells #[] 5)]) (fun φ2 => []) s trivial (fun φ2 => by kernel_rfl) ?_
  intro φ2 w2 s
  rw [nat_min (a := l.length) (b := m)]
  refine sem_rule (Instr.sliceAt 34 (.slice a l.length c) none (some (.int .i64 ((min l.length m : Nat) : Int))) none) (some 11) (.slice a (min l.length m) c) (by kernel_rfl) (run_to (by have hcp := (BSl.cap hl).2; (try simp only [List.length_drop, List.length_take, List.length_append, List.length_cons, List.length_nil] at hcp ⊢);   (try simp only [List.length_drop, List.length_take, List.length_append, List.length_cons, List.length_nil]); omega)) ?_
  refine append_rule (H := []) (F := [((φ2 0), .cells #[] 5)]) 34 34 5 Try.t5 (.int .u8 0) 1 1 (some 12) s Try.underlying34 (by kernel_rfl) (by kernel_rfl) (by kernel_rfl) (by kernel_rfl) (by kernel_rfl) (by decide) (row_new (φ2 0)) (src_bsl s.sub (bsl_to (hi := min l.length m) hl (by have hcp := (BSl.cap hl).2; (try simp only [List.length_drop, List.length_take, List.length_append, List.length_cons, List.length_nil] at hcp ⊢);   (try simp only [List.length_drop, List.length_take, List.length_append, List.length_cons, List.length_nil]); omega))) (by   (try simp only [maxLen, List.length_append, List.length_cons, List.length_nil, List.length_take, List.length_drop]); omega) (by   (try simp only [maxLen, List.length_append, List.length_cons, List.length_nil, List.length_take, List.length_drop]); omega) (by kernel_rfl) ?_
  intro v3 w3 F3 s h3
  replace h3 : RowH 5 1 v3 (((l.take (min l.length m))).length) (((l.take (min l.length m))).map bV) F3 := row_app (x := []) (y := (l.take (min l.length m))) h3
  refine ops_rule (C := []) [] F3 1 [] 0 (fun φ4 => [(4, v3)]) (fun φ4 => []) (fun φ4 => []) s trivial (fun φ4 => by kernel_rfl) ?_
  intro φ4 w4 s
  refine ops_done (by kernel_rfl) ?_
  refine wp_ret ?_
  refine ret_rule (C := []) [] F3 (v3) [] [] s trivial (by kernel_rfl) ?_
  replace s := s.drop (List.sublist_append_right [] F3)
  exact ⟨_, _, _, rfl, s, (by have e9 := h3; rw [take_min] at e9; exact e9)⟩

theorem cut_c {I : IM} {l : List UInt8} {a : Option Addr} {n c m : Nat} (hl : BSl I l (.slice a n c)) (hm : m ≤ 1000000) : Fun Try.prog 36 #[.slice a n c, .int .i64 ((m : Nat) : Int)] I (fun v J => bsR (l.take m) v J) := fun_of_rowB (cut_r hl hm)

set_option maxHeartbeats 1000000 in
theorem num300_r {I : IM} : FunM Try.prog 58 #[.slice none 0 0, .int .u64 300] I [] (fun v J F => RowH 5 1 v 2 (([172, 2] : List UInt8).map bV) F) := by
  refine enterM_rule 26 [(0, .slice none 0 0), (1, .int .u64 300)] Try.func58 rfl (by kernel_rfl) ?_
  intro w s
  refine wp_seq ?_
  refine region_rule ?_
  refine ops_rule (C := []) [] [] 1 [] 0 (fun φ1 => [(4, .slice none 0 0)]) (fun φ1 => []) (fun φ1 => []) s trivial (fun φ1 => by kernel_rfl) ?_
  intro φ1 w1 s
  refine ops_done (by kernel_rfl) ?_
  refine wp_seq ?_
  refine region_rule ?_
  refine ops_rule (C := []) [] [] 5 [] 0 (fun φ2 => [(9, .int .i64 0), (8, .slice none 0 0), (7, .int .i64 0), (6, .slice none 0 0), (5, .slice none 0 0)]) (fun φ2 => []) (fun φ2 => []) s trivial (fun φ2 => by kernel_rfl) ?_
  intro φ2 w2 s
  refine sem_rule (Instr.sliceAt 34 (.slice none 0 0) none (some (.int .i64 ((0 : Nat) : Int))) (some (.int .i64 ((0 : Nat) : Int)))) (some 10) (.slice none 0 0) (by kernel_rfl) (run_to3 (by   omega) (by   omega)) ?_
  refine ops_rule (C := []) [] [] 1 [] 0 (fun φ3 => [(0, .slice none 0 0)]) (fun φ3 => []) (fun φ3 => []) s trivial (fun φ3 => by kernel_rfl) ?_
  intro φ3 w3 s
  refine ops_done (by kernel_rfl) ?_
  refine wp_seq ?_
  refine wp_block ?_
  refine Go.wp_loop_rounds 3 ?_
  refine rounds_step (n := 2) ?_
  refine wp_seq ?_
  refine wp_seq ?_
  refine region_rule ?_
  refine ops_rule (C := []) [] [] 2 [] 0 (fun φ4 => [(12, .bool true), (11, .int .u64 300)]) (fun φ4 => []) (fun φ4 => []) s trivial (fun φ4 => by kernel_rfl) ?_
  intro φ4 w4 s
  refine ops_done (by kernel_rfl) ?_
  refine cond_true_rule (b := true) (by kernel_rfl) rfl ?_
  refine wp_skip ?_
  refine wp_block ?_
  refine wp_seq ?_
  refine region_rule ?_
  refine ops_rule (C := []) [] [] 3 [] 0 (fun φ5 => [(15, .int .u8 44), (14, .int .u64 300), (13, .slice none 0 0)]) (fun φ5 => []) (fun φ5 => []) s trivial (fun φ5 => by kernel_rfl) ?_
  intro φ5 w5 s
  refine sem_rule (binOp .or 5 (.int .u8 44) (.int .u8 128)) (some 16) (.int .u8 172) (by kernel_rfl) ((by kernel_rfl : (binOp .or 5 (.int .u8 44) (.int .u8 128)).run Try.prog w5 = .ok (.int .u8 172) w5)) ?_
  refine ops_rule (C := []) [] [] 1 [] 1 (fun φ6 => [(17, .slice (some ⟨(φ6 0), 0, none⟩) 1 1)]) (fun φ6 => [((φ6 0), .cells #[.int .u8 172] 5)]) (fun φ6 => []) s trivial (fun φ6 => by kernel_rfl) ?_
  intro φ6 w6 s
  refine append_rule (H := [((φ6 0), .cells #[.int .u8 172] 5)]) (F := []) 34 34 5 Try.t5 (.int .u8 0) 1 1 (some 18) s Try.underlying34 (by kernel_rfl) (by kernel_rfl) (by kernel_rfl) (by kernel_rfl) (by kernel_rfl) (by decide) row_nilB (src_own (H := [((φ6 0), .cells #[.int .u8 172] 5)]) s 0 (φ6 0) #[.int .u8 172] 5 34 5 1 1 1 [.int .u8 172] (by kernel_rfl) under34 (by kernel_rfl) (by kernel_rfl) (by kernel_rfl)) (by   (try simp only [maxLen, List.length_append, List.length_cons, List.length_nil, List.length_take, List.length_drop]); omega) (by   (try simp only [maxLen, List.length_append, List.length_cons, List.length_nil, List.length_take, List.length_drop]); omega) (by kernel_rfl) ?_
  intro v7 w7 F7 s h7
  replace h7 : RowH 5 1 v7 ((([172] : List UInt8)).length) ((([172] : List UInt8)).map bV) F7 := row_snoc (x := []) (y := ([172] : List UInt8)) h7 (by kernel_rfl)
  refine ops_rule (C := []) [((φ6 0), .cells #[.int .u8 172] 5)] F7 1 [] 0 (fun φ8 => [(0, v7)]) (fun φ8 => [((φ6 0), .cells #[.int .u8 172] 5)]) (fun φ8 => []) s trivial (fun φ8 => by kernel_rfl) ?_
  intro φ8 w8 s
  refine ops_done (by kernel_rfl) ?_
  refine region_rule ?_
  refine ops_rule (C := []) [((φ6 0), .cells #[.int .u8 172] 5)] F7 1 [] 0 (fun φ9 => [(19, .int .u64 300)]) (fun φ9 => [((φ6 0), .cells #[.int .u8 172] 5)]) (fun φ9 => []) s trivial (fun φ9 => by kernel_rfl) ?_
  intro φ9 w9 s
  refine sem_rule (binOp .shr 27 (.int .u64 300) (.int .u64 7)) (some 20) (.int .u64 2) (by kernel_rfl) ((by kernel_rfl : (binOp .shr 27 (.int .u64 300) (.int .u64 7)).run Try.prog w9 = .ok (.int .u64 2) w9)) ?_
  refine ops_rule (C := []) [((φ6 0), .cells #[.int .u8 172] 5)] F7 1 [] 0 (fun φ10 => [(1, .int .u64 2)]) (fun φ10 => [((φ6 0), .cells #[.int .u8 172] 5)]) (fun φ10 => []) s trivial (fun φ10 => by kernel_rfl) ?_
  intro φ10 w10 s
  refine ops_done (by kernel_rfl) ?_
  refine rounds_step (n := 1) ?_
  refine wp_seq ?_
  refine wp_seq ?_
  refine region_rule ?_
  refine ops_rule (C := []) [((φ6 0), .cells #[.int .u8 172] 5)] F7 2 [] 0 (fun φ11 => [(12, .bool false), (11, .int .u64 2)]) (fun φ11 => [((φ6 0), .cells #[.int .u8 172] 5)]) (fun φ11 => []) s trivial (fun φ11 => by kernel_rfl) ?_
  intro φ11 w11 s
  refine ops_done (by kernel_rfl) ?_
  refine cond_false_rule (b := false) (by kernel_rfl) rfl ?_
  refine wp_exit ?_
  refine wp_seq ?_
  refine region_rule ?_
  refine ops_rule (C := []) [((φ6 0), .cells #[.int .u8 172] 5)] F7 4 [] 1 (fun φ12 => [(24, .slice (some ⟨(φ12 0), 0, none⟩) 1 1), (23, .int .u8 2), (22, .int .u64 2), (21, v7)]) (fun φ12 => [((φ6 0), .cells #[.int .u8 172] 5), ((φ12 0), .cells #[.int .u8 2] 5)]) (fun φ12 => []) s trivial (fun φ12 => by kernel_rfl) ?_
  intro φ12 w12 s
  refine append_rule (H := [((φ6 0), .cells #[.int .u8 172] 5), ((φ12 0), .cells #[.int .u8 2] 5)]) (F := F7) 34 34 5 Try.t5 (.int .u8 0) 1 1 (some 25) s Try.underlying34 (by kernel_rfl) (by kernel_rfl) (by kernel_rfl) (by kernel_rfl) (by kernel_rfl) (by decide) h7 (src_own (H := [((φ6 0), .cells #[.int .u8 172] 5), ((φ12 0), .cells #[.int .u8 2] 5)]) s 1 (φ12 0) #[.int .u8 2] 5 34 5 1 1 1 [.int .u8 2] (by kernel_rfl) under34 (by kernel_rfl) (by kernel_rfl) (by kernel_rfl)) (by   (try simp only [maxLen, List.length_append, List.length_cons, List.length_nil, List.length_take, List.length_drop]); omega) (by   (try simp only [maxLen, List.length_append, List.length_cons, List.length_nil, List.length_take, List.length_drop]); omega) (by kernel_rfl) ?_
  intro v13 w13 F13 s h13
  replace h13 : RowH 5 1 v13 ((([172] : List UInt8) ++ ([2] : List UInt8)).length) ((([172] : List UInt8) ++ ([2] : List UInt8)).map bV) F13 := row_snoc (x := ([172] : List UInt8)) (y := ([2] : List UInt8)) h13 (by kernel_rfl)
  refine ops_rule (C := []) [((φ6 0), .cells #[.int .u8 172] 5), ((φ12 0), .cells #[.int .u8 2] 5)] F13 1 [] 0 (fun φ14 => [(4, v13)]) (fun φ14 => [((φ6 0), .cells #[.int .u8 172] 5), ((φ12 0), .cells #[.int .u8 2] 5)]) (fun φ14 => []) s trivial (fun φ14 => by kernel_rfl) ?_
  intro φ14 w14 s
  refine ops_done (by kernel_rfl) ?_
  refine wp_ret ?_
  refine ret_rule (C := []) [((φ6 0), .cells #[.int .u8 172] 5), ((φ12 0), .cells #[.int .u8 2] 5)] F13 (v13) [] [] s trivial (by kernel_rfl) ?_
  replace s := s.drop (List.sublist_append_right [((φ6 0), .cells #[.int .u8 172] 5), ((φ12 0), .cells #[.int .u8 2] 5)] F13)
  exact ⟨_, _, _, rfl, s, h13⟩

theorem num300_c {I : IM} : Fun Try.prog 58 #[.slice none 0 0, .int .u64 300] I (fun v J => bsR [172, 2] v J) := fun_of_rowB num300_r
theorem sum9_c {I : IM} {a : Option Addr} {n c : Nat} (hl : BSl I [49, 50, 51, 52, 53, 54, 55, 56, 57] (.slice a n c)) : Fun Try.prog 37 #[.slice a n c] I (fun v J => v = .int .u32 3421780262) :=
  (sum_c hl (by decide)).mono fun v J _ h => h.trans (by kernel_rfl)

set_option maxHeartbeats 1000000 in
theorem awake6_c {I : IM} : Fun Try.prog 35 #[] I (fun v J => v = .bool true) := by
  refine enter_rule 10 [] Try.func35 rfl (by kernel_rfl) ?_
  intro w s
  refine wp_seq ?_
  refine region_rule ?_
  refine ops_rule (C := []) [] [] 1 [] 0 (fun φ1 => [(0, .bool false)]) (fun φ1 => []) (fun φ1 => []) s trivial (fun φ1 => by kernel_rfl) ?_
  intro φ1 w1 s
  refine ops_done (by kernel_rfl) ?_
  refine wp_seq ?_
  refine region_rule ?_
  refine ops_rule (C := []) [] [] 1 [] 1 (fun φ2 => [(1, .slice (some ⟨(φ2 0), 0, none⟩) 9 9)]) (fun φ2 => [((φ2 0), .cells #[.int .u8 49, .int .u8 50, .int .u8 51, .int .u8 52, .int .u8 53, .int .u8 54, .int .u8 55, .int .u8 56, .int .u8 57] 5)]) (fun φ2 => []) s trivial (fun φ2 => by kernel_rfl) ?_
  intro φ2 w2 s
  obtain ⟨w3, fr3, hr3, s⟩ := mark_own (H := [((φ2 0), .cells #[.int .u8 49, .int .u8 50, .int .u8 51, .int .u8 52, .int .u8 53, .int .u8 54, .int .u8 55, .int .u8 56, .int .u8 57] 5)]) (F := []) s (q := 0) (b := (φ2 0)) (cs := #[.int .u8 49, .int .u8 50, .int .u8 51, .int .u8 52, .int .u8 53, .int .u8 54, .int .u8 55, .int .u8 56, .int .u8 57]) (n := 9) (c := 9) (by kernel_rfl)
  refine sem_rule (convert 34 34 (.slice (some ⟨(φ2 0), 0, none⟩) 9 9)) (some 2) (.slice (some ⟨(φ2 0), 0, none⟩) 9 9) (by kernel_rfl) hr3 ?_
  obtain ⟨I4, le4, hk4, s⟩ := s.freezeAt 0 (φ2 0) (.cells #[.int .u8 49, .int .u8 50, .int .u8 51, .int .u8 52, .int .u8 53, .int .u8 54, .int .u8 55, .int .u8 56, .int .u8 57] 5 fr3) [] (by kernel_rfl) (by kernel_rfl)
  refine call_rule (some 3) s (sum9_c (bsl_lit (l := ([49, 50, 51, 52, 53, 54, 55, 56, 57] : List UInt8)) hk4 (by kernel_rfl) rfl)) (by kernel_rfl) ?_
  intro v5 I5 w5 le5 h5 s
  replace hk4 := le5 _ _ hk4
  obtain rfl := h5
  refine ops_rule (C := []) [] [] 2 [] 0 (fun φ6 => [(5, .bool true), (4, .bool true)]) (fun φ6 => []) (fun φ6 => []) s trivial (fun φ6 => by kernel_rfl) ?_
  intro φ6 w6 s
  refine call_rule (some 6) s (num300_c) (by kernel_rfl) ?_
  intro v7 I7 w7 le7 h7 s
  replace hk4 := le7 _ _ hk4
  obtain ⟨a7, c7, rfl, h7_0⟩ := h7
  refine ops_rule (C := []) [] [] 1 [] 1 (fun φ8 => [(7, .slice (some ⟨(φ8 0), 0, none⟩) 2 2)]) (fun φ8 => [((φ8 0), .cells #[.int .u8 172, .int .u8 2] 5)]) (fun φ8 => []) s trivial (fun φ8 => by kernel_rfl) ?_
  intro φ8 w8 s
  obtain ⟨I9, le9, hk9, s⟩ := s.freezeAt 0 (φ8 0) (.cells #[.int .u8 172, .int .u8 2] 5) [] (by kernel_rfl) (by kernel_rfl)
  replace h7_0 := BSl.mono le9 h7_0
  replace hk4 := le9 _ _ hk4
  refine call_rule (some 8) s (sameR_c h7_0 (bsl_lit (l := ([172, 2] : List UInt8)) hk9 (by kernel_rfl) rfl) (by   (try simp only [List.length_append, List.length_cons, List.length_nil, List.length_take, List.length_drop]); omega)) (by kernel_rfl) ?_
  intro v10 I10 w10 le10 h10 s
  replace h7_0 := BSl.mono le10 h7_0
  replace hk4 := le10 _ _ hk4
  replace hk9 := le10 _ _ hk9
  obtain rfl := h10
  refine ops_rule (C := []) [] [] 2 [] 0 (fun φ11 => [(0, .bool true), (9, .bool true)]) (fun φ11 => []) (fun φ11 => []) s trivial (fun φ11 => by kernel_rfl) ?_
  intro φ11 w11 s
  refine ops_done (by kernel_rfl) ?_
  refine wp_ret ?_
  refine ret_rule (C := []) [] [] (.bool true) [] [] s trivial (by kernel_rfl) ?_
  exact ⟨_, _, _, rfl, s, rfl⟩

end Go.Proofs.Ytpnlaeapnokipaa

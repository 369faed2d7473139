/- Bytes are cloned, cut, compared. -/
import Derived.Test.YtccjlkjadnghgaaDnD1
import Derived.Laws.Strings
set_option linter.all false
set_option maxRecDepth 100000
namespace Go.Proofs.Ytccjlkjadnghgaa
open Go.RowKit Go.Sep
attribute [local irreducible] Go.wpList Go.Code.wp

theorem clone_none {I : IM} {n c : Nat} : Fun Try.prog 36 #[.slice none n c] I (fun v J => v = .slice none 0 0) := by
  refine enter_rule 8 [(0, .slice none n c)] Try.func36 rfl (by kernel_rfl) ?_
  intro w s
  refine wp_seq ?_
  refine region_rule ?_
  refine ops_rule (C := []) [] [] 1 [] 0 (fun φ1 => [(2, .slice none 0 0)]) (fun φ1 => []) (fun φ1 => []) s trivial (fun φ1 => by kernel_rfl) ?_
  intro φ1 w1 s
  refine ops_done (by kernel_rfl) ?_
  refine wp_seq ?_
  refine wp_seq ?_
  refine region_rule ?_
  refine ops_rule (C := []) [] [] 1 [] 0 (fun φ2 => [(3, .slice none n c)]) (fun φ2 => []) (fun φ2 => []) s trivial (fun φ2 => by kernel_rfl) ?_
  intro φ2 w2 s
  refine sem_rule (binOp .eql 29 (.slice none n c) (.slice none 0 0)) (some 4) (.bool true) (by kernel_rfl) (run_eqnil) ?_
  refine ops_done (by kernel_rfl) ?_
  refine cond_true_rule (b := true) (by kernel_rfl) rfl ?_
  refine wp_seq ?_
  refine region_rule ?_
  refine ops_rule (C := []) [] [] 1 [] 0 (fun φ3 => [(2, .slice none 0 0)]) (fun φ3 => []) (fun φ3 => []) s trivial (fun φ3 => by kernel_rfl) ?_
  intro φ3 w3 s
  refine ops_done (by kernel_rfl) ?_
  refine wp_ret ?_
  refine ret_rule (C := []) [] [] (.slice none 0 0) [] [] s trivial (by kernel_rfl) ?_
  exact ⟨_, _, _, rfl, s, rfl⟩

set_option maxHeartbeats 400000 in
theorem clone_some {I : IM} {l : List UInt8} {x : Addr} {c : Nat} (hl : BSl I l (.slice (some x) l.length c)) (hn : l.length ≤ 1000000000) : FunM Try.prog 36 #[.slice (some x) l.length c] I [] (fun v J F => RowH 5 1 v l.length (l.map bV) F) := by
  refine enterM_rule 8 [(0, .slice (some x) l.length c)] Try.func36 rfl (by kernel_rfl) ?_
  intro w s
  refine wp_seq ?_
  refine region_rule ?_
  refine ops_rule (C := []) [] [] 1 [] 0 (fun φ1 => [(2, .slice none 0 0)]) (fun φ1 => []) (fun φ1 => []) s trivial (fun φ1 => by kernel_rfl) ?_
  intro φ1 w1 s
  refine ops_done (by kernel_rfl) ?_
  refine wp_seq ?_
  refine wp_seq ?_
  refine region_rule ?_
  refine ops_rule (C := []) [] [] 1 [] 0 (fun φ2 => [(3, .slice (some x) l.length c)]) (fun φ2 => []) (fun φ2 => []) s trivial (fun φ2 => by kernel_rfl) ?_
  intro φ2 w2 s
  refine sem_rule (binOp .eql 29 (.slice (some x) l.length c) (.slice none 0 0)) (some 4) (.bool false) (by kernel_rfl) (run_eqnil) ?_
  refine ops_done (by kernel_rfl) ?_
  refine cond_false_rule (b := false) (by kernel_rfl) rfl ?_
  refine wp_skip ?_
  refine wp_seq ?_
  refine region_rule ?_
  refine ops_rule (C := []) [] [] 2 [] 1 (fun φ3 => [(6, .slice (some x) l.length c), (5, .slice (some ⟨(φ3 0), 0, none⟩) 0 0)]) (fun φ3 => [((φ3 0), .cells #[] 5)]) (fun φ3 => []) s trivial (fun φ3 => by kernel_rfl) ?_
  intro φ3 w3 s
  refine append_rule (H := []) (F := [((φ3 0), .cells #[] 5)]) 29 29 5 Try.t5 (.int .u8 0) 1 1 (some 7) s Try.underlying29 (by kernel_rfl) (by kernel_rfl) (by kernel_rfl) (by kernel_rfl) (by kernel_rfl) (by decide) (row_new (φ3 0)) (src_bsl s.sub hl) (by   (try simp only [maxLen, List.length_append, List.length_cons, List.length_nil, List.length_take, List.length_drop]); omega) (by   (try simp only [maxLen, List.length_append, List.length_cons, List.length_nil, List.length_take, List.length_drop]); omega) (by kernel_rfl) ?_
  intro v4 w4 F4 s h4
  replace h4 : RowH 5 1 v4 ((l).length) ((l).map bV) F4 := row_app (x := []) (y := l) h4
  refine ops_rule (C := []) [] F4 1 [] 0 (fun φ5 => [(2, v4)]) (fun φ5 => []) (fun φ5 => []) s trivial (fun φ5 => by kernel_rfl) ?_
  intro φ5 w5 s
  refine ops_done (by kernel_rfl) ?_
  refine wp_ret ?_
  refine ret_rule (C := []) [] F4 (v4) [] [] s trivial (by kernel_rfl) ?_
  replace s := s.drop (List.sublist_append_right [] F4)
  exact ⟨_, _, _, rfl, s, h4⟩

theorem row_of_nil {f : FuncId} {args : Array Value} {I : IM} (h : Fun Try.prog f args I (fun v J => v = .slice none 0 0)) : FunM Try.prog f args I [] (fun v J F => RowH 5 1 v ([] : List UInt8).length (([] : List UInt8).map bV) F) := fun w hw _ => (h w hw).mono fun e w' ⟨v, I', H', he, s, r⟩ => ⟨v, I', [], he, s.drop (List.nil_sublist _), by rw [r]; exact row_nilB⟩
theorem clone_r {I : IM} {l : List UInt8} {a : Option Addr} {n c : Nat} (hl : BSl I l (.slice a n c)) (hn : l.length ≤ 1000000000) : FunM Try.prog 36 #[.slice a n c] I [] (fun v J F => RowH 5 1 v l.length (l.map bV) F) := by
  obtain ⟨rfl, -⟩ := hl.cap
  cases a with
  | none => have := bsl_none hl; subst this; exact row_of_nil clone_none
  | some x => exact clone_some hl hn
theorem clone_c {I : IM} {l : List UInt8} {a : Option Addr} {n c : Nat} (hl : BSl I l (.slice a n c)) (hn : l.length ≤ 1000000000) : Fun Try.prog 36 #[.slice a n c] I (fun v J => bsR l v J) := fun_of_rowB (clone_r hl hn)
theorem cut_c {I : IM} {l : List UInt8} {a : Option Addr} {n c : Nat} (hl : BSl I l (.slice a n c)) : Fun Try.prog 16 #[.slice a n c] I (fun v J => bsR (l.take 40) v J) := by
  obtain ⟨rfl, -⟩ := hl.cap
  refine enter_rule 9 [(0, .slice a l.length c)] Try.func16 rfl (by kernel_rfl) ?_
  intro w s
  refine wp_seq ?_
  refine region_rule ?_
  refine ops_rule (C := []) [] [] 1 [] 0 (fun φ1 => [(2, .slice none 0 0)]) (fun φ1 => []) (fun φ1 => []) s trivial (fun φ1 => by kernel_rfl) ?_
  intro φ1 w1 s
  refine ops_done (by kernel_rfl) ?_
  refine wp_seq ?_
  refine region_rule ?_
  refine ops_rule (C := []) [] [] 4 [] 0 (fun φ2 => [(6, .int .i64 (if ((40 : Nat) : Int) < ((l.length : Nat) : Int) then ((40 : Nat) : Int) else ((l.length : Nat) : Int))), (5, .int .i64 ((l.length : Nat) : Int)), (4, .slice a l.length c), (3, .slice a l.length c)]) (fun φ2 => []) (fun φ2 => []) s trivial (fun φ2 => by kernel_rfl) ?_
  intro φ2 w2 s
  rw [nat_min (a := l.length) (b := 40)]
  refine sem_rule (Instr.sliceAt 29 (.slice a l.length c) none (some (.int .i64 ((min l.length 40 : Nat) : Int))) none) (some 7) (.slice a (min l.length 40) c) (by kernel_rfl) (run_to (by have hcp := (BSl.cap hl).2; (try simp only [List.length_drop, List.length_take, List.length_append, List.length_cons, List.length_nil] at hcp ⊢);   (try simp only [List.length_drop, List.length_take, List.length_append, List.length_cons, List.length_nil]); omega)) ?_
  refine call_rule (some 8) s (clone_c (bsl_to (hi := min l.length 40) hl (by have hcp := (BSl.cap hl).2; (try simp only [List.length_drop, List.length_take, List.length_append, List.length_cons, List.length_nil] at hcp ⊢);   (try simp only [List.length_drop, List.length_take, List.length_append, List.length_cons, List.length_nil]); omega)) (by   (try simp only [List.length_append, List.length_cons, List.length_nil, List.length_take, List.length_drop]); omega)) (by kernel_rfl) ?_
  intro v3 I3 w3 le3 h3 s
  replace hl := BSl.mono le3 hl
  obtain ⟨a3, c3, rfl, h3_0⟩ := h3
  refine ops_rule (C := []) [] [] 1 [] 0 (fun φ4 => [(2, .slice a3 (List.length (l.take (min l.length 40))) c3)]) (fun φ4 => []) (fun φ4 => []) s trivial (fun φ4 => by kernel_rfl) ?_
  intro φ4 w4 s
  refine ops_done (by kernel_rfl) ?_
  refine wp_ret ?_
  refine ret_rule (C := []) [] [] (.slice a3 (List.length (l.take (min l.length 40))) c3) [] [] s trivial (by kernel_rfl) ?_
  exact ⟨_, _, _, rfl, s, (by have e9 := h3_0; rw [take_min] at e9 ⊢; exact ⟨_, _, rfl, e9⟩)⟩

end Go.Proofs.Ytccjlkjadnghgaa

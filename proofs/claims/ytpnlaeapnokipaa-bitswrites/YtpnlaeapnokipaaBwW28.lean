/- The document reads bits. -/
import Derived.Test.YtpnlaeapnokipaaBwW27
import Derived.Test.YtpnlaeapnokipaaBwC11
import Derived.Test.YtpnlaeapnokipaaBwB5
import Derived.Test.YtpnlaeapnokipaaBwW9
set_option linter.all false
set_option maxRecDepth 100000
namespace Go.Proofs.Ytpnlaeapnokipaa
open Go.RowKit Go.Sep
attribute [local irreducible] Go.wpList Go.Code.wp

set_option maxHeartbeats 400000 in
theorem withinA_c {I : IM} {z : Int} : Fun Try.prog 64 #[.int .i64 z] I (fun v J => v = .int .i64 ((clampN z : Nat) : Int)) := by
  refine enter_rule 8 [(0, .int .i64 z)] Try.func64 rfl (by kernel_rfl) ?_
  intro w s
  refine wp_seq ?_
  refine region_rule ?_
  refine ops_rule (C := []) [] [] 1 [] 0 (fun φ1 => [(2, .int .i64 0)]) (fun φ1 => []) (fun φ1 => []) s trivial (fun φ1 => by kernel_rfl) ?_
  intro φ1 w1 s
  refine ops_done (by kernel_rfl) ?_
  refine wp_seq ?_
  refine wp_seq ?_
  refine region_rule ?_
  refine ops_rule (C := []) [] [] 2 [] 0 (fun φ2 => [(4, .bool (decide (z < ((0 : Nat) : Int)))), (3, .int .i64 z)]) (fun φ2 => []) (fun φ2 => []) s trivial (fun φ2 => by kernel_rfl) ?_
  intro φ2 w2 s
  refine ops_done (by kernel_rfl) ?_
  rcases Bool.eq_false_or_eq_true (decide (z < ((0 : Nat) : Int))) with hc3 | hc3
  ·
    rw [hc3]
    refine cond_true_rule (b := true) (by kernel_rfl) rfl ?_
    refine wp_seq ?_
    refine region_rule ?_
    refine ops_rule (C := []) [] [] 1 [] 0 (fun φ4 => [(2, .int .i64 0)]) (fun φ4 => []) (fun φ4 => []) s trivial (fun φ4 => by kernel_rfl) ?_
    intro φ4 w4 s
    refine ops_done (by kernel_rfl) ?_
    refine wp_ret ?_
    refine ret_rule (C := []) [] [] (.int .i64 0) [] [] s trivial (by kernel_rfl) ?_
    exact ⟨_, _, _, rfl, s, congrArg (Value.int .i64) (by have hq0 := of_decide_eq_true hc3; unfold clampN; omega)⟩
  ·
    rw [hc3]
    refine cond_false_rule (b := false) (by kernel_rfl) rfl ?_
    refine wp_skip ?_
    refine wp_seq ?_
    refine wp_seq ?_
    refine region_rule ?_
    refine ops_rule (C := []) [] [] 2 [] 0 (fun φ5 => [(6, .bool (decide (z > ((64 : Nat) : Int)))), (5, .int .i64 z)]) (fun φ5 => []) (fun φ5 => []) s trivial (fun φ5 => by kernel_rfl) ?_
    intro φ5 w5 s
    refine ops_done (by kernel_rfl) ?_
    rcases Bool.eq_false_or_eq_true (decide (z > ((64 : Nat) : Int))) with hc6 | hc6
    ·
      rw [hc6]
      refine cond_true_rule (b := true) (by kernel_rfl) rfl ?_
      refine wp_seq ?_
      refine region_rule ?_
      refine ops_rule (C := []) [] [] 1 [] 0 (fun φ7 => [(2, .int .i64 64)]) (fun φ7 => []) (fun φ7 => []) s trivial (fun φ7 => by kernel_rfl) ?_
      intro φ7 w7 s
      refine ops_done (by kernel_rfl) ?_
      refine wp_ret ?_
      refine ret_rule (C := []) [] [] (.int .i64 64) [] [] s trivial (by kernel_rfl) ?_
      exact ⟨_, _, _, rfl, s, congrArg (Value.int .i64) (by have hq0 := of_decide_eq_false hc3; have hq1 := of_decide_eq_true hc6; unfold clampN; omega)⟩
    ·
      rw [hc6]
      refine cond_false_rule (b := false) (by kernel_rfl) rfl ?_
      refine wp_skip ?_
      refine wp_seq ?_
      refine region_rule ?_
      refine ops_rule (C := []) [] [] 2 [] 0 (fun φ8 => [(2, .int .i64 z), (7, .int .i64 z)]) (fun φ8 => []) (fun φ8 => []) s trivial (fun φ8 => by kernel_rfl) ?_
      intro φ8 w8 s
      refine ops_done (by kernel_rfl) ?_
      refine wp_ret ?_
      refine ret_rule (C := []) [] [] (.int .i64 z) [] [] s trivial (by kernel_rfl) ?_
      exact ⟨_, _, _, rfl, s, congrArg (Value.int .i64) (by have hq0 := of_decide_eq_false hc3; have hq1 := of_decide_eq_false hc6; unfold clampN; omega)⟩

end Go.Proofs.Ytpnlaeapnokipaa

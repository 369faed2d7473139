/- The document's bits. -/
import Derived.Test.YtpnlaeapnokipaaGB5
import Derived.Test.YtpnlaeapnokipaaGC4
set_option linter.all false
set_option maxRecDepth 100000
namespace Go.Proofs.Ytpnlaeapnokipaa
open Go.RowKit Go.Sep
attribute [local irreducible] Go.wpList Go.Code.wp

theorem pow_lt64 {i b : Nat} (h : i < b) (hb : b ≤ 63) : 2 ^ i * 2 < 18446744073709551616 := by
  have := Nat.pow_lt_pow_right (a := 2) (by decide) (show i + 1 < 64 by omega)
  rw [Nat.pow_succ] at this; exact this

set_option maxHeartbeats 400000 in
theorem power_c {I : IM} {b : Nat} (hb : b ≤ 63) : Fun Try.prog 65 #[.int .i64 ((b : Nat) : Int)] I (fun v J => v = .int .u64 ((2 ^ b : Nat) : Int)) := by
  refine enter_rule 13 [(0, .int .i64 ((b : Nat) : Int))] Try.func65 rfl (by kernel_rfl) ?_
  intro w s
  refine wp_seq ?_
  refine region_rule ?_
  refine ops_rule (C := []) [] [] 1 [] 0 (fun φ1 => [(2, .int .u64 0)]) (fun φ1 => []) (fun φ1 => []) s trivial (fun φ1 => by kernel_rfl) ?_
  intro φ1 w1 s
  refine ops_done (by kernel_rfl) ?_
  refine wp_seq ?_
  refine region_rule ?_
  refine ops_rule (C := []) [] [] 1 [] 0 (fun φ2 => [(3, .int .u64 1)]) (fun φ2 => []) (fun φ2 => []) s trivial (fun φ2 => by kernel_rfl) ?_
  intro φ2 w2 s
  refine ops_done (by kernel_rfl) ?_
  refine wp_seq ?_
  refine wp_seq ?_
  refine region_rule ?_
  refine ops_rule (C := []) [] [] 1 [] 0 (fun φ3 => [(4, .int .i64 0)]) (fun φ3 => []) (fun φ3 => []) s trivial (fun φ3 => by kernel_rfl) ?_
  intro φ3 w3 s
  refine ops_done (by kernel_rfl) ?_
  refine wp_block ?_
  have hle4 := IM.Le.refl I
  refine loop_rule (fun (x : Nat) => [(0, .int .i64 ((b : Nat) : Int)), (3, .int .u64 ((2 ^ x : Nat) : Int)), (4, .int .i64 ((x : Nat) : Int))]) (fun (x : Nat) => []) (fun m (x : Nat) J => IM.Le I J ∧ x + m = b) (b) 0 s (by kernel_rfl) List.Sublist.slnil ⟨IM.Le.refl _, Nat.zero_add _⟩ ?_
  rintro m5 i5 I5 w5 ev5 s ⟨le5, hi5_0⟩
  try dsimp only at s hi5_0 ⊢
  replace hle4 := leMono le5 hle4
  refine wp_seq ?_
  refine wp_seq ?_
  refine region_rule ?_
  refine ops_rule (C := []) [] [] 3 [] 0 (fun φ6 => [(7, .bool (decide (((i5 : Nat) : Int) < ((b : Nat) : Int)))), (6, .int .i64 ((b : Nat) : Int)), (5, .int .i64 ((i5 : Nat) : Int))]) (fun φ6 => []) (fun φ6 => []) s trivial (fun φ6 => by kernel_rfl) ?_
  intro φ6 w6 s
  rw [nat_lss (a := i5) (b := b)]
  refine ops_done (by kernel_rfl) ?_
  rcases Bool.eq_false_or_eq_true (decide (i5 < b)) with hc7 | hc7
  ·
    rw [hc7]
    refine cond_true_rule (b := true) (by kernel_rfl) rfl ?_
    refine wp_skip ?_
    refine wp_seq ?_
    refine wp_block ?_
    refine region_rule ?_
    refine ops_rule (C := []) [] [] 3 [] 0 (fun φ8 => [(3, .int .u64 (IntKind.wrap .u64 (((2 ^ i5 : Nat) : Int) * ((2 : Nat) : Int)))), (11, .int .u64 (IntKind.wrap .u64 (((2 ^ i5 : Nat) : Int) * ((2 : Nat) : Int)))), (10, .int .u64 ((2 ^ i5 : Nat) : Int))]) (fun φ8 => []) (fun φ8 => []) s trivial (fun φ8 => by kernel_rfl) ?_
    intro φ8 w8 s
    rw [nat_mulU (a := (2 ^ i5)) (b := 2) (by exact pow_lt64 (of_decide_eq_true hc7) hb)]
    refine ops_done (by kernel_rfl) ?_
    refine region_rule ?_
    refine ops_rule (C := []) [] [] 3 [] 0 (fun φ9 => [(4, .int .i64 (IntKind.wrap .i64 (((i5 : Nat) : Int) + ((1 : Nat) : Int)))), (9, .int .i64 (IntKind.wrap .i64 (((i5 : Nat) : Int) + ((1 : Nat) : Int)))), (8, .int .i64 ((i5 : Nat) : Int))]) (fun φ9 => []) (fun φ9 => []) s trivial (fun φ9 => by kernel_rfl) ?_
    intro φ9 w9 s
    rw [nat_addI (a := i5) (b := 1) (by  have hq0 := of_decide_eq_true hc7; omega)]
    refine ops_done (by kernel_rfl) ?_
    have hq9 := of_decide_eq_true hc7
    rw [show 2 ^ i5 * 2 = 2 ^ (i5 + 1) from rfl]
    exact ⟨⟨m5 - 1, i5 + 1, _, _, _, by omega, rfl, s, List.Sublist.slnil, by kernel_rfl, hle4, by show i5 + 1 + (m5 - 1) = b; omega⟩⟩
  ·
    rw [hc7]
    refine cond_false_rule (b := false) (by kernel_rfl) rfl ?_
    refine wp_exit ?_
    refine wp_seq ?_
    refine region_rule ?_
    refine ops_rule (C := []) [] [] 2 [] 0 (fun φ10 => [(2, .int .u64 ((2 ^ i5 : Nat) : Int)), (12, .int .u64 ((2 ^ i5 : Nat) : Int))]) (fun φ10 => []) (fun φ10 => []) s trivial (fun φ10 => by kernel_rfl) ?_
    intro φ10 w10 s
    refine ops_done (by kernel_rfl) ?_
    refine wp_ret ?_
    refine ret_rule (C := []) [] [] (.int .u64 ((2 ^ i5 : Nat) : Int)) [] [] s trivial (by kernel_rfl) ?_
    exact ⟨_, _, _, rfl, s, (by have := of_decide_eq_false hc7; rw [show i5 = b by omega])⟩

end Go.Proofs.Ytpnlaeapnokipaa

/- The program's stamps: Grow, Tick, Fork, Join. -/
import Derived.Test.YtgmigcmhnmmdkaaCoP2
import Derived.Test.YtgmigcmhnmmdkaaCoE3
import Derived.Test.YtgmigcmhnmmdkaaCoI3
set_option linter.all false
set_option maxRecDepth 100000
namespace Go.Proofs.Ytgmigcmhnmmdkaa.Ev
open Go.RowKit Go.Sep

abbrev stv (ib : Bool) (ip : Option Addr) (eb : Nat) (ep : Option Addr) : Value := .agg #[.bool ib, .pointer ip, .int .u64 ((eb : Nat) : Int), .pointer ep]
set_option maxHeartbeats 400000 in
theorem seed_c {I : IM} : Fun Try.prog 32 #[] I (fun v J => v = stv true none 0 none) := by
  refine enter_rule 3 [] Try.func32 rfl (by kernel_rfl) ?_
  intro w s
  refine wp_seq ?_
  refine region_rule ?_
  refine ops_rule (C := []) [] [] 1 [] 1 (fun φ1 => [(0, .pointer (some ⟨(φ1 0), 0, none⟩))]) (fun φ1 => [((φ1 0), .cells #[.bool false, .pointer none, .int .u64 0, .pointer none] 32)]) (fun φ1 => []) s trivial (fun φ1 => by kernel_rfl) ?_
  intro φ1 w1 s
  refine ops_done (by kernel_rfl) ?_
  refine wp_seq ?_
  refine region_rule ?_
  refine call_rule (some 1) s (tone_c) (by kernel_rfl) ?_
  intro v2 I2 w2 le2 h2 s
  obtain rfl := h2
  refine ops_rule (C := []) [((φ1 0), .cells #[.bool false, .pointer none, .int .u64 0, .pointer none] 32)] [] 2 [.o 0, .o 0, .o 0, .o 0] 0 (fun φ3 => [(2, .agg #[.bool true, .pointer none, .int .u64 0, .pointer none])]) (fun φ3 => [((φ1 0), .cells #[.bool true, .pointer none, .int .u64 0, .pointer none] 32)]) (fun φ3 => [(φ1 0), (φ1 0), (φ1 0), (φ1 0)]) s trivial (fun φ3 => by kernel_rfl) ?_
  intro φ3 w3 s
  refine ops_done (by kernel_rfl) ?_
  refine wp_ret ?_
  refine ret_rule (C := []) [((φ1 0), .cells #[.bool true, .pointer none, .int .u64 0, .pointer none] 32)] [] (.agg #[.bool true, .pointer none, .int .u64 0, .pointer none]) [.o 0, .o 0, .o 0, .o 0] [(φ1 0), (φ1 0), (φ1 0), (φ1 0)] s trivial (by kernel_rfl) ?_
  exact ⟨_, _, _, rfl, s, rfl⟩

end Go.Proofs.Ytgmigcmhnmmdkaa.Ev


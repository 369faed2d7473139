/- TextChecks and TextJoins. -/
import Derived.Test.YtgmigcmhnmmdkaaDoorTfX5
set_option linter.all false
set_option maxRecDepth 100000
namespace Go.Proofs.YtgmigcmhnmmdkaaDoor
open Go.RowKit Go.Sep
attribute [local irreducible] Go.wpList Go.Code.wp

set_option maxHeartbeats 1000000 in
theorem awakeT_c {I : IM} (hT : U8 I) : Fun Tryd.prog 21 #[] I (fun v J => v = .bool true) := by
  refine enter_rule 7 [] Tryd.func21 rfl (by kernel_rfl) ?_
  intro w s
  refine wp_seq ?_
  refine region_rule ?_
  refine ops_rule (C := []) [] [] 1 [] 0 (fun φ1 => [(0, .bool false)]) (fun φ1 => []) (fun φ1 => []) s trivial (fun φ1 => by kernel_rfl) ?_
  intro φ1 w1 s
  refine ops_done (by kernel_rfl) ?_
  refine wp_seq ?_
  refine region_rule ?_
  refine call_rule (some 1) s (quote_c (l := ([97, 59, 98] : List UInt8)) (by decide)) (by kernel_rfl) ?_
  intro v2 I2 w2 le2 h2 s
  replace hT := U8.mono le2 hT
  obtain rfl := h2
  refine sem_rule (binOp .eql 9 (.string ⟨((quoteS ([97, 59, 98] : List UInt8))).toArray⟩) (.string ⟨(([97, 92, 51, 98, 98] : List UInt8)).toArray⟩)) (some 2) (.bool (decide ((quoteS ([97, 59, 98] : List UInt8)) = ([97, 92, 51, 98, 98] : List UInt8)))) (by kernel_rfl) (run_eqS (x := (quoteS ([97, 59, 98] : List UInt8))) (y := ([97, 92, 51, 98, 98] : List UInt8))) ?_
  refine ops_rule (C := []) [] [] 1 [] 0 (fun φ3 => [(3, .bool (decide ((quoteS ([97, 59, 98] : List UInt8)) = ([97, 92, 51, 98, 98] : List UInt8))))]) (fun φ3 => []) (fun φ3 => []) s trivial (fun φ3 => by kernel_rfl) ?_
  intro φ3 w3 s
  rcases Bool.eq_false_or_eq_true (decide ((quoteS ([97, 59, 98] : List UInt8)) = ([97, 92, 51, 98, 98] : List UInt8))) with hc4 | hc4
  ·
    rw [hc4]
    refine call_rule (some 4) s (check_c (l := ([97] : List UInt8)) (mi := 1) hT (by decide)) (by kernel_rfl) ?_
    intro v5 I5 w5 le5 h5 s
    replace hT := U8.mono le5 hT
    obtain rfl := h5
    refine ops_rule (C := []) [] [] 3 [] 0 (fun φ6 => [(0, .bool (((ckE ([97] : List UInt8) 1 : Nat) : Int) == ((0 : Nat) : Int))), (6, .bool (((ckE ([97] : List UInt8) 1 : Nat) : Int) == ((0 : Nat) : Int))), (5, .bool (((ckE ([97] : List UInt8) 1 : Nat) : Int) == ((0 : Nat) : Int)))]) (fun φ6 => []) (fun φ6 => []) s trivial (fun φ6 => by kernel_rfl) ?_
    intro φ6 w6 s
    rw [nat_eql (a := (ckE ([97] : List UInt8) 1)) (b := 0)]
    refine ops_done (by kernel_rfl) ?_
    refine wp_ret ?_
    refine ret_rule (C := []) [] [] (.bool (decide ((ckE ([97] : List UInt8) 1) = 0))) [] [] s trivial (by kernel_rfl) ?_
    exact ⟨_, _, _, rfl, s, (congrArg Value.bool (decide_eq_true (by decide +kernel)))⟩
  ·
    exact absurd (of_decide_eq_false hc4) (fun h => h (by decide +kernel))

end Go.Proofs.YtgmigcmhnmmdkaaDoor

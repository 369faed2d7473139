/- TextChecks and TextJoins. -/
import Derived.Test.YtgmigcmhnmmdkaaDoorTcX5
set_option linter.all false
set_option maxRecDepth 100000
namespace Go.Proofs.YtgmigcmhnmmdkaaDoor
open Go.RowKit Go.Sep
attribute [local irreducible] Go.wpList Go.Code.wp

set_option maxHeartbeats 1000000 in
theorem awakeT_c {I : IM} (hT : U8 I) : Fun Tryd.prog 21 #[] I (fun v J => v = .bool true) := by
  refine enter_rule 7 [] Tryd.func21 rfl (by kernel_rfl) ?_
  intro w s
  refine wp_seq ?_
  refine region_rule ?_
  refine ops_rule (C := []) [] [] 1 [] 0 (fun φ1 => [(0, .bool false)]) (fun φ1 => []) (fun φ1 => []) s trivial (fun φ1 => by kernel_rfl) ?_
  intro φ1 w1 s
  refine ops_done (by kernel_rfl) ?_
  refine wp_seq ?_
  refine region_rule ?_
  refine call_rule (some 1) s (quote_c (l := ([97, 59, 98] : List UInt8)) (by decide)) (by kernel_rfl) ?_
  intro v2 I2 w2 le2 h2 s
  replace hT := U8.mono le2 hT
  obtain rfl := h2
  refine sem_rule (binOp .eql 9 (.string ⟨((quoteS ([97, 59, 98] : List UInt8))).toArray⟩) (.string ⟨(([97, 92, 51, 98, 98] : List UInt8)).toArray⟩)) (some 2) (.bool (decide ((quoteS ([97, 59, 98] : List UInt8)) = ([97, 92, 51, 98, 98] : List UInt8)))) (by kernel_rfl) (run_eqS (x := (quoteS ([97, 59, 98] : List UInt8))) (y := ([97, 92, 51, 98, 98] : List UInt8))) ?_
  refine ops_rule (C := []) [] [] 1 [] 0 (fun φ3 => [(3, .bool (decide ((quoteS ([97, 59, 98] : List UInt8)) = ([97, 92, 51, 98, 98] : List UInt8))))]) (fun φ3 => []) (fun φ3 => []) s trivial (fun φ3 => by kernel_rfl) ?_
  intro φ3 w3 s
  rcases Bool.eq_false_or_eq_true (decide ((quoteS ([97, 59, 98] : List UInt8)) = ([97, 92, 51, 98, 98] : List UInt8))) with hc4 | hc4
  ·
    rw [hc4]
    refine call_rule (some 4) s (check_c (l := ([97] : List UInt8)) (mi := 1) hT (by decide)) (by kernel_rfl) ?_
    intro v5 I5 w5 le5 h5 s
    replace hT := U8.mono le5 hT
    obtain rfl := h5
    refine ops_rule (C := []) [] [] 3 [] 0 (fun φ6 => [(0, .bool (((ckE ([97] : List UInt8) 1 : Nat) : Int) == ((0 : Nat) : Int))), (6, .bool (((ckE ([97] : List UInt8) 1 : Nat) : Int) == ((0 : Nat) : Int))), (5, .bool (((ckE ([97] : List UInt8) 1 : Nat) : Int) == ((0 : Nat) : Int)))]) (fun φ6 => []) (fun φ6 => []) s trivial (fun φ6 => by kernel_rfl) ?_
    intro φ6 w6 s
    rw [nat_eql (a := (ckE ([97] : List UInt8) 1)) (b := 0)]
    refine ops_done (by kernel_rfl) ?_
    refine wp_ret ?_
    refine ret_rule (C := []) [] [] (.bool (decide ((ckE ([97] : List UInt8) 1) = 0))) [] [] s trivial (by kernel_rfl) ?_
    exact ⟨_, _, _, rfl, s, (congrArg Value.bool (decide_eq_true (by decide +kernel)))⟩
  ·
    exact absurd (of_decide_eq_false hc4) (fun h => h (by decide +kernel))

set_option maxHeartbeats 1000000 in
theorem textChecks_c {I : IM} {l : List UInt8} (hT : U8 I) (hn : l.length ≤ 9223372036854775807) {mi : Int} : Fun Tryd.prog 4 #[.string ⟨(l).toArray⟩, .int .i64 mi] I (fun v J => v = .bool true) := by
  refine enter_rule 30 [(0, .string ⟨(l).toArray⟩), (1, .int .i64 mi)] Tryd.func4 rfl (by kernel_rfl) ?_
  intro w s
  refine wp_seq ?_
  refine region_rule ?_
  refine ops_rule (C := []) [] [] 1 [] 0 (fun φ1 => [(4, .bool false)]) (fun φ1 => []) (fun φ1 => []) s trivial (fun φ1 => by kernel_rfl) ?_
  intro φ1 w1 s
  refine ops_done (by kernel_rfl) ?_
  refine wp_seq ?_
  refine wp_seq ?_
  refine region_rule ?_
  refine call_rule (some 5) s (awakeT_c hT) (by kernel_rfl) ?_
  intro v2 I2 w2 le2 h2 s
  replace hT := U8.mono le2 hT
  obtain rfl := h2
  refine ops_rule (C := []) [] [] 1 [] 0 (fun φ3 => [(6, .bool false)]) (fun φ3 => []) (fun φ3 => []) s trivial (fun φ3 => by kernel_rfl) ?_
  intro φ3 w3 s
  refine ops_done (by kernel_rfl) ?_
  refine cond_false_rule (b := false) (by kernel_rfl) rfl ?_
  refine wp_skip ?_
  refine wp_seq ?_
  refine region_rule ?_
  refine ops_rule (C := []) [] [] 1 [] 0 (fun φ4 => [(7, .string ⟨(l).toArray⟩)]) (fun φ4 => []) (fun φ4 => []) s trivial (fun φ4 => by kernel_rfl) ?_
  intro φ4 w4 s
  refine call_rule (some 8) s (few_c (l := l) (by omega)) (by kernel_rfl) ?_
  intro v5 I5 w5 le5 h5 s
  replace hT := U8.mono le5 hT
  obtain rfl := h5
  refine ops_rule (C := []) [] [] 1 [] 0 (fun φ6 => [(0, .string ⟨((l.take 120)).toArray⟩)]) (fun φ6 => []) (fun φ6 => []) s trivial (fun φ6 => by kernel_rfl) ?_
  intro φ6 w6 s
  refine ops_done (by kernel_rfl) ?_
  refine wp_seq ?_
  refine region_rule ?_
  refine ops_rule (C := []) [] [] 2 [] 0 (fun φ7 => [(10, .int .i64 mi), (9, .string ⟨((l.take 120)).toArray⟩)]) (fun φ7 => []) (fun φ7 => []) s trivial (fun φ7 => by kernel_rfl) ?_
  intro φ7 w7 s
  refine call_rule (some 11) s (check_c (l := (l.take 120)) (mi := mi) hT (by have h7 := take_le l 120; omega)) (by kernel_rfl) ?_
  intro v8 I8 w8 le8 h8 s
  replace hT := U8.mono le8 hT
  obtain rfl := h8
  refine ops_rule (C := []) [] [] 2 [] 0 (fun φ9 => [(13, .int .i64 mi), (12, .string ⟨((l.take 120)).toArray⟩)]) (fun φ9 => []) (fun φ9 => []) s trivial (fun φ9 => by kernel_rfl) ?_
  intro φ9 w9 s
  refine call_rule (some 14) s (refCheck_c (l := (l.take 120)) (mi := mi) (by have h7 := take_le l 120; omega)) (by kernel_rfl) ?_
  intro v10 I10 w10 le10 h10 s
  replace hT := U8.mono le10 hT
  obtain rfl := h10
  refine ops_rule (C := []) [] [] 2 [] 0 (fun φ11 => [(16, .bool (((ckE (l.take 120) mi : Nat) : Int) == ((ckE (l.take 120) mi : Nat) : Int))), (15, .bool (((ckE (l.take 120) mi : Nat) : Int) == ((ckE (l.take 120) mi : Nat) : Int)))]) (fun φ11 => []) (fun φ11 => []) s trivial (fun φ11 => by kernel_rfl) ?_
  intro φ11 w11 s
  rw [(nat_eql (a := (ckE (l.take 120) mi)) (b := (ckE (l.take 120) mi))).trans (decide_eq_true rfl)]
  refine ops_rule (C := []) [] [] 1 [] 0 (fun φ12 => [(17, .string ⟨((l.take 120)).toArray⟩)]) (fun φ12 => []) (fun φ12 => []) s trivial (fun φ12 => by kernel_rfl) ?_
  intro φ12 w12 s
  refine call_rule (some 18) s (runes_c (l := (l.take 120)) (by have h7 := take_le l 120; omega)) (by kernel_rfl) ?_
  intro v13 I13 w13 le13 h13 s
  replace hT := U8.mono le13 hT
  obtain rfl := h13
  refine ops_rule (C := []) [] [] 1 [] 0 (fun φ14 => [(19, .string ⟨((l.take 120)).toArray⟩)]) (fun φ14 => []) (fun φ14 => []) s trivial (fun φ14 => by kernel_rfl) ?_
  intro φ14 w14 s
  refine call_rule (some 20) s (refRunes_c (l := (l.take 120)) (by have h7 := take_le l 120; omega)) (by kernel_rfl) ?_
  intro v15 I15 w15 le15 h15 s
  replace hT := U8.mono le15 hT
  obtain rfl := h15
  refine ops_rule (C := []) [] [] 3 [] 0 (fun φ16 => [(23, .bool (((nR (l.take 120) : Nat) : Int) == ((nR (l.take 120) : Nat) : Int))), (22, .bool (((nR (l.take 120) : Nat) : Int) == ((nR (l.take 120) : Nat) : Int))), (21, .bool (((nR (l.take 120) : Nat) : Int) == ((nR (l.take 120) : Nat) : Int)))]) (fun φ16 => []) (fun φ16 => []) s trivial (fun φ16 => by kernel_rfl) ?_
  intro φ16 w16 s
  rw [(nat_eql (a := (nR (l.take 120))) (b := (nR (l.take 120)))).trans (decide_eq_true rfl)]
  refine ops_rule (C := []) [] [] 1 [] 0 (fun φ17 => [(24, .string ⟨((l.take 120)).toArray⟩)]) (fun φ17 => []) (fun φ17 => []) s trivial (fun φ17 => by kernel_rfl) ?_
  intro φ17 w17 s
  refine call_rule (some 25) s (runes_c (l := (l.take 120)) (by have h7 := take_le l 120; omega)) (by kernel_rfl) ?_
  intro v18 I18 w18 le18 h18 s
  replace hT := U8.mono le18 hT
  obtain rfl := h18
  refine ops_rule (C := []) [] [] 5 [] 0 (fun φ19 => [(4, .bool (decide (((nR (l.take 120) : Nat) : Int) ≤ (((l.take 120).length : Nat) : Int)))), (29, .bool (decide (((nR (l.take 120) : Nat) : Int) ≤ (((l.take 120).length : Nat) : Int)))), (28, .bool (decide (((nR (l.take 120) : Nat) : Int) ≤ (((l.take 120).length : Nat) : Int)))), (27, .int .i64 (((l.take 120).length : Nat) : Int)), (26, .string ⟨((l.take 120)).toArray⟩)]) (fun φ19 => []) (fun φ19 => []) s trivial (fun φ19 => by kernel_rfl) ?_
  intro φ19 w19 s
  rw [nat_leq (a := (nR (l.take 120))) (b := ((l.take 120).length))]
  refine ops_done (by kernel_rfl) ?_
  refine wp_ret ?_
  refine ret_rule (C := []) [] [] (.bool (decide ((nR (l.take 120)) ≤ ((l.take 120).length)))) [] [] s trivial (by kernel_rfl) ?_
  exact ⟨_, _, _, rfl, s, (congrArg Value.bool (decide_eq_true (nR_le _)))⟩

end Go.Proofs.YtgmigcmhnmmdkaaDoor

/- TextFolds. -/
import Derived.Test.YtgmigcmhnmmdkaaDoorTfX11
import Derived.Test.YtgmigcmhnmmdkaaDoorTfX6
set_option linter.all false
set_option maxRecDepth 100000
namespace Go.Proofs.YtgmigcmhnmmdkaaDoor
open Go.RowKit Go.Sep
attribute [local irreducible] Go.wpList Go.Code.wp

theorem ck_fold {a : List UInt8} (ha : ¬ ckE a 200 ≠ 0) (la : a.length ≤ 120) : ckE (fldS a) 200 = 0 := by
  have h := fldS_len a
  exact (ck0 (k := 200) (by omega)).2 (okS_fold ((ck0 (k := 200) (by omega)).1 (Decidable.not_not.1 ha)))

set_option maxHeartbeats 4000000 in
theorem textFolds_c {I : IM} {l : List UInt8} (hT : U8 I) (hn : l.length ≤ 9223372036854775807) : Fun Tryd.prog 5 #[.string ⟨(l).toArray⟩] I (fun v J => v = .bool true) := by
  refine enter_rule 38 [(0, .string ⟨(l).toArray⟩)] Tryd.func5 rfl (by kernel_rfl) ?_
  intro w s
  refine wp_seq ?_
  refine region_rule ?_
  refine ops_rule (C := []) [] [] 1 [] 0 (fun φ1 => [(2, .bool false)]) (fun φ1 => []) (fun φ1 => []) s trivial (fun φ1 => by kernel_rfl) ?_
  intro φ1 w1 s
  refine ops_done (by kernel_rfl) ?_
  refine wp_seq ?_
  refine wp_seq ?_
  refine region_rule ?_
  refine call_rule (some 4) s (awakeT_c hT) (by kernel_rfl) ?_
  intro v2 I2 w2 le2 h2 s
  replace hT := U8.mono le2 hT
  obtain rfl := h2
  refine ops_rule (C := []) [] [] 1 [] 0 (fun φ3 => [(5, .bool false)]) (fun φ3 => []) (fun φ3 => []) s trivial (fun φ3 => by kernel_rfl) ?_
  intro φ3 w3 s
  refine ops_done (by kernel_rfl) ?_
  refine cond_false_rule (b := false) (by kernel_rfl) rfl ?_
  refine wp_skip ?_
  refine wp_seq ?_
  refine region_rule ?_
  refine ops_rule (C := []) [] [] 1 [] 0 (fun φ4 => [(6, .string ⟨(l).toArray⟩)]) (fun φ4 => []) (fun φ4 => []) s trivial (fun φ4 => by kernel_rfl) ?_
  intro φ4 w4 s
  refine call_rule (some 7) s (few_c (l := l) (by omega)) (by kernel_rfl) ?_
  intro v5 I5 w5 le5 h5 s
  replace hT := U8.mono le5 hT
  obtain rfl := h5
  refine ops_rule (C := []) [] [] 1 [] 0 (fun φ6 => [(0, .string ⟨((l.take 120)).toArray⟩)]) (fun φ6 => []) (fun φ6 => []) s trivial (fun φ6 => by kernel_rfl) ?_
  intro φ6 w6 s
  refine ops_done (by kernel_rfl) ?_
  refine wp_seq ?_
  refine region_rule ?_
  refine ops_rule (C := []) [] [] 1 [] 0 (fun φ7 => [(8, .string ⟨((l.take 120)).toArray⟩)]) (fun φ7 => []) (fun φ7 => []) s trivial (fun φ7 => by kernel_rfl) ?_
  intro φ7 w7 s
  refine call_rule (some 9) s (fold_c (l := (l.take 120)) (by have hz1 := take_le l 120; have hz2 := fldS_len (l.take 120); (try simp only [List.length_append, List.length_cons, List.length_nil]); omega)) (by kernel_rfl) ?_
  intro v8 I8 w8 le8 h8 s
  replace hT := U8.mono le8 hT
  obtain rfl := h8
  refine ops_rule (C := []) [] [] 1 [] 0 (fun φ9 => [(3, .string ⟨((fldS (l.take 120))).toArray⟩)]) (fun φ9 => []) (fun φ9 => []) s trivial (fun φ9 => by kernel_rfl) ?_
  intro φ9 w9 s
  refine ops_done (by kernel_rfl) ?_
  refine wp_seq ?_
  refine region_rule ?_
  refine ops_rule (C := []) [] [] 2 [] 0 (fun φ10 => [(11, .string ⟨((l.take 120)).toArray⟩), (10, .string ⟨((fldS (l.take 120))).toArray⟩)]) (fun φ10 => []) (fun φ10 => []) s trivial (fun φ10 => by kernel_rfl) ?_
  intro φ10 w10 s
  refine call_rule (some 12) s (refFold_c (l := (l.take 120)) (by have hz1 := take_le l 120; have hz2 := fldS_len (l.take 120); (try simp only [List.length_append, List.length_cons, List.length_nil]); omega)) (by kernel_rfl) ?_
  intro v11 I11 w11 le11 h11 s
  replace hT := U8.mono le11 hT
  obtain rfl := h11
  refine sem_rule (binOp .eql 9 (.string ⟨((fldS (l.take 120))).toArray⟩) (.string ⟨((fldS (l.take 120))).toArray⟩)) (some 13) (.bool true) (by kernel_rfl) ((run_eqT (x := (fldS (l.take 120))))) ?_
  refine ops_rule (C := []) [] [] 2 [] 0 (fun φ12 => [(15, .string ⟨((fldS (l.take 120))).toArray⟩), (14, .bool true)]) (fun φ12 => []) (fun φ12 => []) s trivial (fun φ12 => by kernel_rfl) ?_
  intro φ12 w12 s
  refine call_rule (some 16) s (fold_c (l := (fldS (l.take 120))) (by have hz1 := take_le l 120; have hz2 := fldS_len (l.take 120); (try simp only [List.length_append, List.length_cons, List.length_nil]); omega)) (by kernel_rfl) ?_
  intro v13 I13 w13 le13 h13 s
  replace hT := U8.mono le13 hT
  obtain rfl := h13
  refine ops_rule (C := []) [] [] 1 [] 0 (fun φ14 => [(17, .string ⟨((fldS (l.take 120))).toArray⟩)]) (fun φ14 => []) (fun φ14 => []) s trivial (fun φ14 => by kernel_rfl) ?_
  intro φ14 w14 s
  refine sem_rule (binOp .eql 9 (.string ⟨((fldS (fldS (l.take 120)))).toArray⟩) (.string ⟨((fldS (l.take 120))).toArray⟩)) (some 18) (.bool (decide ((fldS (fldS (l.take 120))) = (fldS (l.take 120))))) (by kernel_rfl) (run_eqS (x := (fldS (fldS (l.take 120)))) (y := (fldS (l.take 120)))) ?_
  refine ops_rule (C := []) [] [] 2 [] 0 (fun φ15 => [(20, .bool (decide ((fldS (fldS (l.take 120))) = (fldS (l.take 120))))), (19, .bool (decide ((fldS (fldS (l.take 120))) = (fldS (l.take 120)))))]) (fun φ15 => []) (fun φ15 => []) s trivial (fun φ15 => by kernel_rfl) ?_
  intro φ15 w15 s
  rcases Bool.eq_false_or_eq_true (decide ((fldS (fldS (l.take 120))) = (fldS (l.take 120)))) with hc16 | hc16
  ·
    rw [hc16]
    refine ops_rule (C := []) [] [] 1 [] 0 (fun φ17 => [(21, .string ⟨((l.take 120)).toArray⟩)]) (fun φ17 => []) (fun φ17 => []) s trivial (fun φ17 => by kernel_rfl) ?_
    intro φ17 w17 s
    refine sem_rule (binOp .add 9 (.string ⟨(([32] : List UInt8)).toArray⟩) (.string ⟨((l.take 120)).toArray⟩)) (some 22) (.string ⟨((([32] : List UInt8) ++ (l.take 120))).toArray⟩) (by kernel_rfl) (run_cat (x := ([32] : List UInt8)) (y := (l.take 120)) (by have hz1 := take_le l 120; have hz2 := fldS_len (l.take 120); (try simp only [List.length_append, List.length_cons, List.length_nil]); omega)) ?_
    refine sem_rule (binOp .add 9 (.string ⟨((([32] : List UInt8) ++ (l.take 120))).toArray⟩) (.string ⟨(([32, 32] : List UInt8)).toArray⟩)) (some 23) (.string ⟨(((([32] : List UInt8) ++ (l.take 120)) ++ ([32, 32] : List UInt8))).toArray⟩) (by kernel_rfl) (run_cat (x := (([32] : List UInt8) ++ (l.take 120))) (y := ([32, 32] : List UInt8)) (by have hz1 := take_le l 120; have hz2 := fldS_len (l.take 120); (try simp only [List.length_append, List.length_cons, List.length_nil]); omega)) ?_
    refine call_rule (some 24) s (fold_c (l := ((([32] : List UInt8) ++ (l.take 120)) ++ ([32, 32] : List UInt8))) (by have hz1 := take_le l 120; have hz2 := fldS_len (l.take 120); (try simp only [List.length_append, List.length_cons, List.length_nil]); omega)) (by kernel_rfl) ?_
    intro v18 I18 w18 le18 h18 s
    replace hT := U8.mono le18 hT
    obtain rfl := h18
    refine ops_rule (C := []) [] [] 1 [] 0 (fun φ19 => [(25, .string ⟨((fldS (l.take 120))).toArray⟩)]) (fun φ19 => []) (fun φ19 => []) s trivial (fun φ19 => by kernel_rfl) ?_
    intro φ19 w19 s
    refine sem_rule (binOp .eql 9 (.string ⟨((fldS ((([32] : List UInt8) ++ (l.take 120)) ++ ([32, 32] : List UInt8)))).toArray⟩) (.string ⟨((fldS (l.take 120))).toArray⟩)) (some 26) (.bool (decide ((fldS ((([32] : List UInt8) ++ (l.take 120)) ++ ([32, 32] : List UInt8))) = (fldS (l.take 120))))) (by kernel_rfl) (run_eqS (x := (fldS ((([32] : List UInt8) ++ (l.take 120)) ++ ([32, 32] : List UInt8)))) (y := (fldS (l.take 120)))) ?_
    refine ops_rule (C := []) [] [] 2 [] 0 (fun φ20 => [(28, .bool (decide ((fldS ((([32] : List UInt8) ++ (l.take 120)) ++ ([32, 32] : List UInt8))) = (fldS (l.take 120))))), (27, .bool (decide ((fldS ((([32] : List UInt8) ++ (l.take 120)) ++ ([32, 32] : List UInt8))) = (fldS (l.take 120)))))]) (fun φ20 => []) (fun φ20 => []) s trivial (fun φ20 => by kernel_rfl) ?_
    intro φ20 w20 s
    rcases Bool.eq_false_or_eq_true (decide ((fldS ((([32] : List UInt8) ++ (l.take 120)) ++ ([32, 32] : List UInt8))) = (fldS (l.take 120)))) with hc21 | hc21
    ·
      rw [hc21]
      refine ops_rule (C := []) [] [] 1 [] 0 (fun φ22 => [(29, .string ⟨((l.take 120)).toArray⟩)]) (fun φ22 => []) (fun φ22 => []) s trivial (fun φ22 => by kernel_rfl) ?_
      intro φ22 w22 s
      refine call_rule (some 30) s (check_c (l := (l.take 120)) (mi := 200) hT (by have hz1 := take_le l 120; have hz2 := fldS_len (l.take 120); (try simp only [List.length_append, List.length_cons, List.length_nil]); omega)) (by kernel_rfl) ?_
      intro v23 I23 w23 le23 h23 s
      replace hT := U8.mono le23 hT
      obtain rfl := h23
      refine ops_rule (C := []) [] [] 2 [] 0 (fun φ24 => [(32, .bool (((ckE (l.take 120) 200 : Nat) : Int) != ((0 : Nat) : Int))), (31, .bool (((ckE (l.take 120) 200 : Nat) : Int) != ((0 : Nat) : Int)))]) (fun φ24 => []) (fun φ24 => []) s trivial (fun φ24 => by kernel_rfl) ?_
      intro φ24 w24 s
      rw [nat_neq (a := (ckE (l.take 120) 200)) (b := 0)]
      rcases Bool.eq_false_or_eq_true (decide ((ckE (l.take 120) 200) ≠ 0)) with hc25 | hc25
      ·
        rw [hc25]
        refine ops_rule (C := []) [] [] 6 [] 0 (fun φ26 => [(2, .bool true), (37, .bool true), (36, .bool true), (35, undef), (34, undef), (33, undef)]) (fun φ26 => []) (fun φ26 => []) s trivial (fun φ26 => by kernel_rfl) ?_
        intro φ26 w26 s
        refine ops_done (by kernel_rfl) ?_
        refine wp_ret ?_
        refine ret_rule (C := []) [] [] (.bool true) [] [] s trivial (by kernel_rfl) ?_
        exact ⟨_, _, _, rfl, s, rfl⟩
      ·
        rw [hc25]
        refine ops_rule (C := []) [] [] 1 [] 0 (fun φ27 => [(33, .string ⟨((fldS (l.take 120))).toArray⟩)]) (fun φ27 => []) (fun φ27 => []) s trivial (fun φ27 => by kernel_rfl) ?_
        intro φ27 w27 s
        refine call_rule (some 34) s (check_c (l := (fldS (l.take 120))) (mi := 200) hT (by have hz1 := take_le l 120; have hz2 := fldS_len (l.take 120); (try simp only [List.length_append, List.length_cons, List.length_nil]); omega)) (by kernel_rfl) ?_
        intro v28 I28 w28 le28 h28 s
        replace hT := U8.mono le28 hT
        obtain rfl := h28
        refine ops_rule (C := []) [] [] 4 [] 0 (fun φ29 => [(2, .bool (((ckE (fldS (l.take 120)) 200 : Nat) : Int) == ((0 : Nat) : Int))), (37, .bool (((ckE (fldS (l.take 120)) 200 : Nat) : Int) == ((0 : Nat) : Int))), (36, .bool (((ckE (fldS (l.take 120)) 200 : Nat) : Int) == ((0 : Nat) : Int))), (35, .bool (((ckE (fldS (l.take 120)) 200 : Nat) : Int) == ((0 : Nat) : Int)))]) (fun φ29 => []) (fun φ29 => []) s trivial (fun φ29 => by kernel_rfl) ?_
        intro φ29 w29 s
        rw [nat_eql (a := (ckE (fldS (l.take 120)) 200)) (b := 0)]
        refine ops_done (by kernel_rfl) ?_
        refine wp_ret ?_
        refine ret_rule (C := []) [] [] (.bool (decide ((ckE (fldS (l.take 120)) 200) = 0))) [] [] s trivial (by kernel_rfl) ?_
        exact ⟨_, _, _, rfl, s, (congrArg Value.bool (decide_eq_true (ck_fold (of_decide_eq_false hc25) (take_le l 120))))⟩
    ·
      exact absurd (fldS_wide _) (of_decide_eq_false hc21)
  ·
    exact absurd (fldS_again _) (of_decide_eq_false hc16)

end Go.Proofs.YtgmigcmhnmmdkaaDoor

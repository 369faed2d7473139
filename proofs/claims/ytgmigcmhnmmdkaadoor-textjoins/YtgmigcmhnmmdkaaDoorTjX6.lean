/- TextChecks and TextJoins. -/
import Derived.Test.YtgmigcmhnmmdkaaDoorTjX5
set_option linter.all false
set_option maxRecDepth 100000
namespace Go.Proofs.YtgmigcmhnmmdkaaDoor
open Go.RowKit Go.Sep
attribute [local irreducible] Go.wpList Go.Code.wp

set_option maxHeartbeats 1000000 in
theorem awakeT_c {I : IM} (hT : U8 I) : Fun Tryd.prog 21 #[] I (fun v J => v = .bool true) := by
  refine enter_rule 7 [] Tryd.func21 rfl (by kernel_rfl) ?_
  intro w s
  refine wp_seq ?_
  refine region_rule ?_
  refine ops_rule (C := []) [] [] 1 [] 0 (fun φ1 => [(0, .bool false)]) (fun φ1 => []) (fun φ1 => []) s trivial (fun φ1 => by kernel_rfl) ?_
  intro φ1 w1 s
  refine ops_done (by kernel_rfl) ?_
  refine wp_seq ?_
  refine region_rule ?_
  refine call_rule (some 1) s (quote_c (l := ([97, 59, 98] : List UInt8)) (by decide)) (by kernel_rfl) ?_
  intro v2 I2 w2 le2 h2 s
  replace hT := U8.mono le2 hT
  obtain rfl := h2
  refine sem_rule (binOp .eql 9 (.string ⟨((quoteS ([97, 59, 98] : List UInt8))).toArray⟩) (.string ⟨(([97, 92, 51, 98, 98] : List UInt8)).toArray⟩)) (some 2) (.bool (decide ((quoteS ([97, 59, 98] : List UInt8)) = ([97, 92, 51, 98, 98] : List UInt8)))) (by kernel_rfl) (run_eqS (x := (quoteS ([97, 59, 98] : List UInt8))) (y := ([97, 92, 51, 98, 98] : List UInt8))) ?_
  refine ops_rule (C := []) [] [] 1 [] 0 (fun φ3 => [(3, .bool (decide ((quoteS ([97, 59, 98] : List UInt8)) = ([97, 92, 51, 98, 98] : List UInt8))))]) (fun φ3 => []) (fun φ3 => []) s trivial (fun φ3 => by kernel_rfl) ?_
  intro φ3 w3 s
  rcases Bool.eq_false_or_eq_true (decide ((quoteS ([97, 59, 98] : List UInt8)) = ([97, 92, 51, 98, 98] : List UInt8))) with hc4 | hc4
  ·
    rw [hc4]
    refine call_rule (some 4) s (check_c (l := ([97] : List UInt8)) (mi := 1) hT (by decide)) (by kernel_rfl) ?_
    intro v5 I5 w5 le5 h5 s
    replace hT := U8.mono le5 hT
    obtain rfl := h5
    refine ops_rule (C := []) [] [] 3 [] 0 (fun φ6 => [(0, .bool (((ckE ([97] : List UInt8) 1 : Nat) : Int) == ((0 : Nat) : Int))), (6, .bool (((ckE ([97] : List UInt8) 1 : Nat) : Int) == ((0 : Nat) : Int))), (5, .bool (((ckE ([97] : List UInt8) 1 : Nat) : Int) == ((0 : Nat) : Int)))]) (fun φ6 => []) (fun φ6 => []) s trivial (fun φ6 => by kernel_rfl) ?_
    intro φ6 w6 s
    rw [nat_eql (a := (ckE ([97] : List UInt8) 1)) (b := 0)]
    refine ops_done (by kernel_rfl) ?_
    refine wp_ret ?_
    refine ret_rule (C := []) [] [] (.bool (decide ((ckE ([97] : List UInt8) 1) = 0))) [] [] s trivial (by kernel_rfl) ?_
    exact ⟨_, _, _, rfl, s, (congrArg Value.bool (decide_eq_true (by decide +kernel)))⟩
  ·
    exact absurd (of_decide_eq_false hc4) (fun h => h (by decide +kernel))

set_option maxHeartbeats 4000000 in
theorem textJoins_c {I : IM} {l l2 : List UInt8} (hT : U8 I) (hn : l.length ≤ 9223372036854775807) (hn2 : l2.length ≤ 9223372036854775807) : Fun Tryd.prog 7 #[.string ⟨(l).toArray⟩, .string ⟨(l2).toArray⟩] I (fun v J => v = .bool true) := by
  refine enter_rule 62 [(0, .string ⟨(l).toArray⟩), (1, .string ⟨(l2).toArray⟩)] Tryd.func7 rfl (by kernel_rfl) ?_
  intro w s
  refine wp_seq ?_
  refine region_rule ?_
  refine ops_rule (C := []) [] [] 1 [] 0 (fun φ1 => [(4, .bool false)]) (fun φ1 => []) (fun φ1 => []) s trivial (fun φ1 => by kernel_rfl) ?_
  intro φ1 w1 s
  refine ops_done (by kernel_rfl) ?_
  refine wp_seq ?_
  refine wp_seq ?_
  refine region_rule ?_
  refine call_rule (some 7) s (awakeT_c hT) (by kernel_rfl) ?_
  intro v2 I2 w2 le2 h2 s
  replace hT := U8.mono le2 hT
  obtain rfl := h2
  refine ops_rule (C := []) [] [] 1 [] 0 (fun φ3 => [(8, .bool false)]) (fun φ3 => []) (fun φ3 => []) s trivial (fun φ3 => by kernel_rfl) ?_
  intro φ3 w3 s
  refine ops_done (by kernel_rfl) ?_
  refine cond_false_rule (b := false) (by kernel_rfl) rfl ?_
  refine wp_skip ?_
  refine wp_seq ?_
  refine region_rule ?_
  refine ops_rule (C := []) [] [] 1 [] 0 (fun φ4 => [(9, .string ⟨(l).toArray⟩)]) (fun φ4 => []) (fun φ4 => []) s trivial (fun φ4 => by kernel_rfl) ?_
  intro φ4 w4 s
  refine call_rule (some 10) s (few_c (l := l) (by omega)) (by kernel_rfl) ?_
  intro v5 I5 w5 le5 h5 s
  replace hT := U8.mono le5 hT
  obtain rfl := h5
  refine ops_rule (C := []) [] [] 1 [] 0 (fun φ6 => [(11, .string ⟨(l2).toArray⟩)]) (fun φ6 => []) (fun φ6 => []) s trivial (fun φ6 => by kernel_rfl) ?_
  intro φ6 w6 s
  refine call_rule (some 12) s (few_c (l := l2) (by omega)) (by kernel_rfl) ?_
  intro v7 I7 w7 le7 h7 s
  replace hT := U8.mono le7 hT
  obtain rfl := h7
  refine ops_rule (C := []) [] [] 2 [] 0 (fun φ8 => [(1, .string ⟨((l2.take 120)).toArray⟩), (0, .string ⟨((l.take 120)).toArray⟩)]) (fun φ8 => []) (fun φ8 => []) s trivial (fun φ8 => by kernel_rfl) ?_
  intro φ8 w8 s
  refine ops_done (by kernel_rfl) ?_
  refine wp_seq ?_
  refine wp_seq ?_
  refine region_rule ?_
  refine ops_rule (C := []) [] [] 1 [] 0 (fun φ9 => [(13, .string ⟨((l.take 120)).toArray⟩)]) (fun φ9 => []) (fun φ9 => []) s trivial (fun φ9 => by kernel_rfl) ?_
  intro φ9 w9 s
  refine call_rule (some 14) s (check_c (l := (l.take 120)) (mi := 200) hT (by have h7 := take_le l 120; have h8 := take_le l2 120; (try simp only [List.length_append]); omega)) (by kernel_rfl) ?_
  intro v10 I10 w10 le10 h10 s
  replace hT := U8.mono le10 hT
  obtain rfl := h10
  refine ops_rule (C := []) [] [] 2 [] 0 (fun φ11 => [(16, .bool (((ckE (l.take 120) 200 : Nat) : Int) == ((0 : Nat) : Int))), (15, .bool (((ckE (l.take 120) 200 : Nat) : Int) == ((0 : Nat) : Int)))]) (fun φ11 => []) (fun φ11 => []) s trivial (fun φ11 => by kernel_rfl) ?_
  intro φ11 w11 s
  rw [nat_eql (a := (ckE (l.take 120) 200)) (b := 0)]
  rcases Bool.eq_false_or_eq_true (decide ((ckE (l.take 120) 200) = 0)) with hc12 | hc12
  ·
    rw [hc12]
    refine ops_rule (C := []) [] [] 1 [] 0 (fun φ13 => [(17, .string ⟨((l2.take 120)).toArray⟩)]) (fun φ13 => []) (fun φ13 => []) s trivial (fun φ13 => by kernel_rfl) ?_
    intro φ13 w13 s
    refine call_rule (some 18) s (check_c (l := (l2.take 120)) (mi := 200) hT (by have h7 := take_le l 120; have h8 := take_le l2 120; (try simp only [List.length_append]); omega)) (by kernel_rfl) ?_
    intro v14 I14 w14 le14 h14 s
    replace hT := U8.mono le14 hT
    obtain rfl := h14
    refine ops_rule (C := []) [] [] 2 [] 0 (fun φ15 => [(20, .bool (((ckE (l2.take 120) 200 : Nat) : Int) == ((0 : Nat) : Int))), (19, .bool (((ckE (l2.take 120) 200 : Nat) : Int) == ((0 : Nat) : Int)))]) (fun φ15 => []) (fun φ15 => []) s trivial (fun φ15 => by kernel_rfl) ?_
    intro φ15 w15 s
    rw [nat_eql (a := (ckE (l2.take 120) 200)) (b := 0)]
    refine ops_done (by kernel_rfl) ?_
    rcases Bool.eq_false_or_eq_true (decide ((ckE (l2.take 120) 200) = 0)) with hc16 | hc16
    ·
      rw [hc16]
      refine cond_true_rule (b := true) (by kernel_rfl) rfl ?_
      refine wp_seq ?_
      refine region_rule ?_
      refine ops_rule (C := []) [] [] 2 [] 0 (fun φ17 => [(22, .string ⟨((l2.take 120)).toArray⟩), (21, .string ⟨((l.take 120)).toArray⟩)]) (fun φ17 => []) (fun φ17 => []) s trivial (fun φ17 => by kernel_rfl) ?_
      intro φ17 w17 s
      refine sem_rule (binOp .add 9 (.string ⟨((l.take 120)).toArray⟩) (.string ⟨((l2.take 120)).toArray⟩)) (some 23) (.string ⟨(((l.take 120) ++ (l2.take 120))).toArray⟩) (by kernel_rfl) (run_cat (x := (l.take 120)) (y := (l2.take 120)) (by have hz1 := take_le l 120; have hz2 := nR_le (l.take 120); have hz3 := nR_le (l2.take 120); have hz4 := take_le l2 120;  have hq0 := of_decide_eq_true hc12; have hq1 := of_decide_eq_true hc16; omega)) ?_
      refine call_rule (some 24) s (check_c (l := ((l.take 120) ++ (l2.take 120))) (mi := 400) hT (by have h7 := take_le l 120; have h8 := take_le l2 120; (try simp only [List.length_append]); omega)) (by kernel_rfl) ?_
      intro v18 I18 w18 le18 h18 s
      replace hT := U8.mono le18 hT
      obtain rfl := h18
      refine ops_rule (C := []) [] [] 2 [] 0 (fun φ19 => [(26, .bool (((ckE ((l.take 120) ++ (l2.take 120)) 400 : Nat) : Int) != ((0 : Nat) : Int))), (25, .bool (((ckE ((l.take 120) ++ (l2.take 120)) 400 : Nat) : Int) != ((0 : Nat) : Int)))]) (fun φ19 => []) (fun φ19 => []) s trivial (fun φ19 => by kernel_rfl) ?_
      intro φ19 w19 s
      rw [nat_neq (a := (ckE ((l.take 120) ++ (l2.take 120)) 400)) (b := 0)]
      rcases Bool.eq_false_or_eq_true (decide ((ckE ((l.take 120) ++ (l2.take 120)) 400) ≠ 0)) with hc20 | hc20
      ·
        exact absurd (ck_joins (of_decide_eq_true hc12) (of_decide_eq_true hc16) (take_le l 120) (take_le l2 120)) (of_decide_eq_true hc20)
      ·
        rw [hc20]
        refine ops_rule (C := []) [] [] 2 [] 0 (fun φ21 => [(28, .string ⟨((l2.take 120)).toArray⟩), (27, .string ⟨((l.take 120)).toArray⟩)]) (fun φ21 => []) (fun φ21 => []) s trivial (fun φ21 => by kernel_rfl) ?_
        intro φ21 w21 s
        refine sem_rule (binOp .add 9 (.string ⟨((l.take 120)).toArray⟩) (.string ⟨((l2.take 120)).toArray⟩)) (some 29) (.string ⟨(((l.take 120) ++ (l2.take 120))).toArray⟩) (by kernel_rfl) (run_cat (x := (l.take 120)) (y := (l2.take 120)) (by have hz1 := take_le l 120; have hz2 := nR_le (l.take 120); have hz3 := nR_le (l2.take 120); have hz4 := take_le l2 120;  have hq0 := of_decide_eq_true hc12; have hq1 := of_decide_eq_true hc16; have hq2 := of_decide_eq_false hc20; omega)) ?_
        refine call_rule (some 30) s (runes_c (l := ((l.take 120) ++ (l2.take 120))) (by have h7 := take_le l 120; have h8 := take_le l2 120; (try simp only [List.length_append]); omega)) (by kernel_rfl) ?_
        intro v22 I22 w22 le22 h22 s
        replace hT := U8.mono le22 hT
        obtain rfl := h22
        refine ops_rule (C := []) [] [] 1 [] 0 (fun φ23 => [(31, .string ⟨((l.take 120)).toArray⟩)]) (fun φ23 => []) (fun φ23 => []) s trivial (fun φ23 => by kernel_rfl) ?_
        intro φ23 w23 s
        refine call_rule (some 32) s (runes_c (l := (l.take 120)) (by have h7 := take_le l 120; have h8 := take_le l2 120; (try simp only [List.length_append]); omega)) (by kernel_rfl) ?_
        intro v24 I24 w24 le24 h24 s
        replace hT := U8.mono le24 hT
        obtain rfl := h24
        refine ops_rule (C := []) [] [] 1 [] 0 (fun φ25 => [(33, .string ⟨((l2.take 120)).toArray⟩)]) (fun φ25 => []) (fun φ25 => []) s trivial (fun φ25 => by kernel_rfl) ?_
        intro φ25 w25 s
        refine call_rule (some 34) s (runes_c (l := (l2.take 120)) (by have h7 := take_le l 120; have h8 := take_le l2 120; (try simp only [List.length_append]); omega)) (by kernel_rfl) ?_
        intro v26 I26 w26 le26 h26 s
        replace hT := U8.mono le26 hT
        obtain rfl := h26
        refine ops_rule (C := []) [] [] 3 [] 0 (fun φ27 => [(37, .bool (((nR ((l.take 120) ++ (l2.take 120)) : Nat) : Int) != (IntKind.wrap .i64 (((nR (l.take 120) : Nat) : Int) + ((nR (l2.take 120) : Nat) : Int))))), (36, .bool (((nR ((l.take 120) ++ (l2.take 120)) : Nat) : Int) != (IntKind.wrap .i64 (((nR (l.take 120) : Nat) : Int) + ((nR (l2.take 120) : Nat) : Int))))), (35, .int .i64 (IntKind.wrap .i64 (((nR (l.take 120) : Nat) : Int) + ((nR (l2.take 120) : Nat) : Int))))]) (fun φ27 => []) (fun φ27 => []) s trivial (fun φ27 => by kernel_rfl) ?_
        intro φ27 w27 s
        rw [nat_addI (a := (nR (l.take 120))) (b := (nR (l2.take 120))) (by have hz1 := take_le l 120; have hz2 := nR_le (l.take 120); have hz3 := nR_le (l2.take 120); have hz4 := take_le l2 120;  have hq0 := of_decide_eq_true hc12; have hq1 := of_decide_eq_true hc16; have hq2 := of_decide_eq_false hc20; omega)]
        rw [nat_neq (a := (nR ((l.take 120) ++ (l2.take 120)))) (b := ((nR (l.take 120)) + (nR (l2.take 120))))]
        refine ops_done (by kernel_rfl) ?_
        rcases Bool.eq_false_or_eq_true (decide ((nR ((l.take 120) ++ (l2.take 120))) ≠ ((nR (l.take 120)) + (nR (l2.take 120))))) with hc28 | hc28
        ·
          exact absurd (nR_joins (of_decide_eq_true hc12) (take_le l 120)) (of_decide_eq_true hc28)
        ·
          rw [hc28]
          refine cond_false_rule (b := false) (by kernel_rfl) rfl ?_
          refine wp_skip ?_
          refine wp_seq ?_
          refine region_rule ?_
          refine ops_rule (C := []) [] [] 1 [] 0 (fun φ29 => [(5, .int .i64 0)]) (fun φ29 => []) (fun φ29 => []) s trivial (fun φ29 => by kernel_rfl) ?_
          intro φ29 w29 s
          refine ops_done (by kernel_rfl) ?_
          refine wp_seq ?_
          refine wp_seq ?_
          refine region_rule ?_
          refine ops_rule (C := []) [] [] 4 [] 0 (fun φ30 => [(41, .int .i64 0), (40, .int .i64 (IntKind.wrap .i64 ((((l.take 120).length : Nat) : Int) + ((1 : Nat) : Int)))), (39, .int .i64 (((l.take 120).length : Nat) : Int)), (38, .string ⟨((l.take 120)).toArray⟩)]) (fun φ30 => []) (fun φ30 => []) s trivial (fun φ30 => by kernel_rfl) ?_
          intro φ30 w30 s
          rw [nat_addI (a := ((l.take 120).length)) (b := 1) (by have hz1 := take_le l 120; have hz2 := nR_le (l.take 120); have hz3 := nR_le (l2.take 120); have hz4 := take_le l2 120;  have hq0 := of_decide_eq_true hc12; have hq1 := of_decide_eq_true hc16; have hq2 := of_decide_eq_false hc20; have hq3 := of_decide_eq_false hc28; omega)]
          refine ops_done (by kernel_rfl) ?_
          refine wp_block ?_
          have hle31 := IM.Le.refl I26
          refine loop_rule (fun (x : Nat) => [(0, .string ⟨((l.take 120)).toArray⟩), (1, .string ⟨((l2.take 120)).toArray⟩), (4, .bool false), (40, .int .i64 ((((l.take 120).length) + 1 : Nat) : Int)), (41, .int .i64 ((x : Nat) : Int)), (5, .int .i64 ((cntF (l.take 120) x : Nat) : Int))]) (fun (x : Nat) => []) (fun m (x : Nat) J => IM.Le I26 J ∧ x + m = (l.take 120).length + 1) ((l.take 120).length + 1) 0 s (by kernel_rfl) List.Sublist.slnil ⟨IM.Le.refl _, Nat.zero_add _⟩ ?_
          rintro m32 i32 I32 w32 ev32 s ⟨le32, hi32_0⟩
          try dsimp only at s hi32_0 ⊢
          replace hT := U8.mono le32 hT
          replace hle31 := leMono le32 hle31
          refine wp_seq ?_
          refine region_rule ?_
          refine ops_rule (C := []) [] [] 1 [] 0 (fun φ33 => [(42, .bool (decide (((i32 : Nat) : Int) < ((((l.take 120).length) + 1 : Nat) : Int))))]) (fun φ33 => []) (fun φ33 => []) s trivial (fun φ33 => by kernel_rfl) ?_
          intro φ33 w33 s
          rw [nat_lss (a := i32) (b := (((l.take 120).length) + 1))]
          refine ops_done (by kernel_rfl) ?_
          refine wp_seq ?_
          rcases Bool.eq_false_or_eq_true (decide (i32 < (((l.take 120).length) + 1))) with hc34 | hc34
          ·
            rw [hc34]
            refine cond_true_rule (b := true) (by kernel_rfl) rfl ?_
            refine wp_skip ?_
            refine wp_seq ?_
            refine wp_block ?_
            refine wp_seq ?_
            refine region_rule ?_
            refine ops_rule (C := []) [] [] 2 [] 0 (fun φ35 => [(6, .int .i64 ((i32 : Nat) : Int)), (43, .int .i64 ((i32 : Nat) : Int))]) (fun φ35 => []) (fun φ35 => []) s trivial (fun φ35 => by kernel_rfl) ?_
            intro φ35 w35 s
            refine ops_done (by kernel_rfl) ?_
            refine wp_seq ?_
            refine region_rule ?_
            refine ops_rule (C := []) [] [] 2 [] 0 (fun φ36 => [(45, .int .i64 ((i32 : Nat) : Int)), (44, .string ⟨((l.take 120)).toArray⟩)]) (fun φ36 => []) (fun φ36 => []) s trivial (fun φ36 => by kernel_rfl) ?_
            intro φ36 w36 s
            refine sem_rule (Instr.sliceAt 9 (.string ⟨((l.take 120)).toArray⟩) none (some (.int .i64 ((i32 : Nat) : Int))) none) (some 46) (.string ⟨(((l.take 120).take i32)).toArray⟩) (by kernel_rfl) (run_takeS (s := (l.take 120)) (hi := i32) (by have hz1 := take_le l 120; have hz2 := nR_le (l.take 120); have hz3 := nR_le (l2.take 120); have hz4 := take_le l2 120; have hz5 := cnt_le (l.take 120) i32; have hz6 := hi32_0;  have hq0 := of_decide_eq_true hc12; have hq1 := of_decide_eq_true hc16; have hq2 := of_decide_eq_false hc20; have hq3 := of_decide_eq_false hc28; have hq4 := of_decide_eq_true hc34; omega)) ?_
            refine call_rule (some 47) s (check_c (l := ((l.take 120).take i32)) (mi := 200) hT (by have h7 := take_le l 120; have h8 := take_le l2 120; (try simp only [List.length_append]); (try rw [List.length_take]); omega)) (by kernel_rfl) ?_
            intro v37 I37 w37 le37 h37 s
            replace hT := U8.mono le37 hT
            replace hle31 := leMono le37 hle31
            obtain rfl := h37
            refine ops_rule (C := []) [] [] 1 [] 0 (fun φ38 => [(48, .bool (((ckE ((l.take 120).take i32) 200 : Nat) : Int) == ((0 : Nat) : Int)))]) (fun φ38 => []) (fun φ38 => []) s trivial (fun φ38 => by kernel_rfl) ?_
            intro φ38 w38 s
            rw [nat_eql (a := (ckE ((l.take 120).take i32) 200)) (b := 0)]
            refine ops_done (by kernel_rfl) ?_
            rcases Bool.eq_false_or_eq_true (decide ((ckE ((l.take 120).take i32) 200) = 0)) with hc39 | hc39
            ·
              rw [hc39]
              refine cond_true_rule (b := true) (by kernel_rfl) rfl ?_
              refine region_rule ?_
              refine ops_rule (C := []) [] [] 3 [] 0 (fun φ40 => [(5, .int .i64 (IntKind.wrap .i64 (((cntF (l.take 120) i32 : Nat) : Int) + ((1 : Nat) : Int)))), (50, .int .i64 (IntKind.wrap .i64 (((cntF (l.take 120) i32 : Nat) : Int) + ((1 : Nat) : Int)))), (49, .int .i64 ((cntF (l.take 120) i32 : Nat) : Int))]) (fun φ40 => []) (fun φ40 => []) s trivial (fun φ40 => by kernel_rfl) ?_
              intro φ40 w40 s
              rw [nat_addI (a := (cntF (l.take 120) i32)) (b := 1) (by have hz1 := take_le l 120; have hz2 := nR_le (l.take 120); have hz3 := nR_le (l2.take 120); have hz4 := take_le l2 120; have hz5 := cnt_le (l.take 120) i32; have hz6 := hi32_0;  have hq0 := of_decide_eq_true hc12; have hq1 := of_decide_eq_true hc16; have hq2 := of_decide_eq_false hc20; have hq3 := of_decide_eq_false hc28; have hq4 := of_decide_eq_true hc34; have hq5 := of_decide_eq_true hc39; omega)]
              refine ops_done (by kernel_rfl) ?_
              refine region_rule ?_
              refine ops_rule (C := []) [] [] 2 [] 0 (fun φ41 => [(41, .int .i64 (IntKind.wrap .i64 (((i32 : Nat) : Int) + ((1 : Nat) : Int)))), (51, .int .i64 (IntKind.wrap .i64 (((i32 : Nat) : Int) + ((1 : Nat) : Int))))]) (fun φ41 => []) (fun φ41 => []) s trivial (fun φ41 => by kernel_rfl) ?_
              intro φ41 w41 s
              rw [nat_addI (a := i32) (b := 1) (by have hz1 := take_le l 120; have hz2 := nR_le (l.take 120); have hz3 := nR_le (l2.take 120); have hz4 := take_le l2 120; have hz5 := cnt_le (l.take 120) i32; have hz6 := hi32_0;  have hq0 := of_decide_eq_true hc12; have hq1 := of_decide_eq_true hc16; have hq2 := of_decide_eq_false hc20; have hq3 := of_decide_eq_false hc28; have hq4 := of_decide_eq_true hc34; have hq5 := of_decide_eq_true hc39; omega)]
              refine ops_done (by kernel_rfl) ?_
              have hq9 := of_decide_eq_true hc34
              have hl9 := take_le l 120
              rw [← cnt_t (of_decide_eq_true hc39) hl9]
              exact ⟨⟨m32 - 1, i32 + 1, _, _, _, by omega, rfl, s, List.Sublist.slnil, by kernel_rfl, hle31, by show i32 + 1 + (m32 - 1) = (l.take 120).length + 1; omega⟩⟩
            ·
              rw [hc39]
              refine cond_false_rule (b := false) (by kernel_rfl) rfl ?_
              refine wp_skip ?_
              refine region_rule ?_
              refine ops_rule (C := []) [] [] 2 [] 0 (fun φ42 => [(41, .int .i64 (IntKind.wrap .i64 (((i32 : Nat) : Int) + ((1 : Nat) : Int)))), (51, .int .i64 (IntKind.wrap .i64 (((i32 : Nat) : Int) + ((1 : Nat) : Int))))]) (fun φ42 => []) (fun φ42 => []) s trivial (fun φ42 => by kernel_rfl) ?_
              intro φ42 w42 s
              rw [nat_addI (a := i32) (b := 1) (by have hz1 := take_le l 120; have hz2 := nR_le (l.take 120); have hz3 := nR_le (l2.take 120); have hz4 := take_le l2 120; have hz5 := cnt_le (l.take 120) i32; have hz6 := hi32_0;  have hq0 := of_decide_eq_true hc12; have hq1 := of_decide_eq_true hc16; have hq2 := of_decide_eq_false hc20; have hq3 := of_decide_eq_false hc28; have hq4 := of_decide_eq_true hc34; have hq5 := of_decide_eq_false hc39; omega)]
              refine ops_done (by kernel_rfl) ?_
              have hq9 := of_decide_eq_true hc34
              have hl9 := take_le l 120
              rw [← cnt_f (of_decide_eq_false hc39) hl9]
              exact ⟨⟨m32 - 1, i32 + 1, _, _, _, by omega, rfl, s, List.Sublist.slnil, by kernel_rfl, hle31, by show i32 + 1 + (m32 - 1) = (l.take 120).length + 1; omega⟩⟩
          ·
            rw [hc34]
            refine cond_false_rule (b := false) (by kernel_rfl) rfl ?_
            refine wp_exit ?_
            refine wp_seq ?_
            refine region_rule ?_
            refine ops_rule (C := []) [] [] 1 [] 0 (fun φ43 => [(52, .string ⟨((l.take 120)).toArray⟩)]) (fun φ43 => []) (fun φ43 => []) s trivial (fun φ43 => by kernel_rfl) ?_
            intro φ43 w43 s
            refine call_rule (some 53) s (check_c (l := (l.take 120)) (mi := 200) hT (by have h7 := take_le l 120; have h8 := take_le l2 120; (try simp only [List.length_append]); omega)) (by kernel_rfl) ?_
            intro v44 I44 w44 le44 h44 s
            replace hT := U8.mono le44 hT
            replace hle31 := leMono le44 hle31
            obtain rfl := h44
            refine ops_rule (C := []) [] [] 2 [] 0 (fun φ45 => [(55, .bool (((ckE (l.take 120) 200 : Nat) : Int) != ((0 : Nat) : Int))), (54, .bool (((ckE (l.take 120) 200 : Nat) : Int) != ((0 : Nat) : Int)))]) (fun φ45 => []) (fun φ45 => []) s trivial (fun φ45 => by kernel_rfl) ?_
            intro φ45 w45 s
            rw [nat_neq (a := (ckE (l.take 120) 200)) (b := 0)]
            rcases Bool.eq_false_or_eq_true (decide ((ckE (l.take 120) 200) ≠ 0)) with hc46 | hc46
            ·
              exact absurd (of_decide_eq_true hc12) (of_decide_eq_true hc46)
            ·
              rw [hc46]
              refine ops_rule (C := []) [] [] 2 [] 0 (fun φ47 => [(57, .string ⟨((l.take 120)).toArray⟩), (56, .int .i64 ((cntF (l.take 120) i32 : Nat) : Int))]) (fun φ47 => []) (fun φ47 => []) s trivial (fun φ47 => by kernel_rfl) ?_
              intro φ47 w47 s
              refine call_rule (some 58) s (runes_c (l := (l.take 120)) (by have h7 := take_le l 120; have h8 := take_le l2 120; (try simp only [List.length_append]); omega)) (by kernel_rfl) ?_
              intro v48 I48 w48 le48 h48 s
              replace hT := U8.mono le48 hT
              replace hle31 := leMono le48 hle31
              obtain rfl := h48
              refine ops_rule (C := []) [] [] 4 [] 0 (fun φ49 => [(4, .bool (((cntF (l.take 120) i32 : Nat) : Int) == (IntKind.wrap .i64 (((nR (l.take 120) : Nat) : Int) + ((1 : Nat) : Int))))), (61, .bool (((cntF (l.take 120) i32 : Nat) : Int) == (IntKind.wrap .i64 (((nR (l.take 120) : Nat) : Int) + ((1 : Nat) : Int))))), (60, .bool (((cntF (l.take 120) i32 : Nat) : Int) == (IntKind.wrap .i64 (((nR (l.take 120) : Nat) : Int) + ((1 : Nat) : Int))))), (59, .int .i64 (IntKind.wrap .i64 (((nR (l.take 120) : Nat) : Int) + ((1 : Nat) : Int))))]) (fun φ49 => []) (fun φ49 => []) s trivial (fun φ49 => by kernel_rfl) ?_
              intro φ49 w49 s
              rw [nat_addI (a := (nR (l.take 120))) (b := 1) (by have hz1 := take_le l 120; have hz2 := nR_le (l.take 120); have hz3 := nR_le (l2.take 120); have hz4 := take_le l2 120; have hz5 := cnt_le (l.take 120) i32; have hz6 := hi32_0;  have hq0 := of_decide_eq_true hc12; have hq1 := of_decide_eq_true hc16; have hq2 := of_decide_eq_false hc20; have hq3 := of_decide_eq_false hc28; have hq4 := of_decide_eq_false hc34; have hq5 := of_decide_eq_false hc46; omega)]
              rw [nat_eql (a := (cntF (l.take 120) i32)) (b := ((nR (l.take 120)) + 1))]
              refine ops_done (by kernel_rfl) ?_
              refine wp_ret ?_
              refine ret_rule (C := []) [] [] (.bool (decide ((cntF (l.take 120) i32) = ((nR (l.take 120)) + 1)))) [] [] s trivial (by kernel_rfl) ?_
              exact ⟨_, _, _, rfl, s, (congrArg Value.bool (decide_eq_true (by have hq9 := of_decide_eq_false hc34; have h8 := hi32_0; have e8 : i32 = (l.take 120).length + 1 := (by omega); rw [e8]; exact cnt_law (of_decide_eq_true hc12) (take_le l 120))))⟩
    ·
      rw [hc16]
      refine cond_false_rule (b := false) (by kernel_rfl) rfl ?_
      refine wp_skip ?_
      refine wp_seq ?_
      refine region_rule ?_
      refine ops_rule (C := []) [] [] 1 [] 0 (fun φ50 => [(5, .int .i64 0)]) (fun φ50 => []) (fun φ50 => []) s trivial (fun φ50 => by kernel_rfl) ?_
      intro φ50 w50 s
      refine ops_done (by kernel_rfl) ?_
      refine wp_seq ?_
      refine wp_seq ?_
      refine region_rule ?_
      refine ops_rule (C := []) [] [] 4 [] 0 (fun φ51 => [(41, .int .i64 0), (40, .int .i64 (IntKind.wrap .i64 ((((l.take 120).length : Nat) : Int) + ((1 : Nat) : Int)))), (39, .int .i64 (((l.take 120).length : Nat) : Int)), (38, .string ⟨((l.take 120)).toArray⟩)]) (fun φ51 => []) (fun φ51 => []) s trivial (fun φ51 => by kernel_rfl) ?_
      intro φ51 w51 s
      rw [nat_addI (a := ((l.take 120).length)) (b := 1) (by have hz1 := take_le l 120; have hz2 := nR_le (l.take 120); have hz3 := nR_le (l2.take 120); have hz4 := take_le l2 120;  have hq0 := of_decide_eq_true hc12; have hq1 := of_decide_eq_false hc16; omega)]
      refine ops_done (by kernel_rfl) ?_
      refine wp_block ?_
      have hle52 := IM.Le.refl I14
      refine loop_rule (fun (x : Nat) => [(0, .string ⟨((l.take 120)).toArray⟩), (1, .string ⟨((l2.take 120)).toArray⟩), (4, .bool false), (40, .int .i64 ((((l.take 120).length) + 1 : Nat) : Int)), (41, .int .i64 ((x : Nat) : Int)), (5, .int .i64 ((cntF (l.take 120) x : Nat) : Int))]) (fun (x : Nat) => []) (fun m (x : Nat) J => IM.Le I14 J ∧ x + m = (l.take 120).length + 1) ((l.take 120).length + 1) 0 s (by kernel_rfl) List.Sublist.slnil ⟨IM.Le.refl _, Nat.zero_add _⟩ ?_
      rintro m53 i53 I53 w53 ev53 s ⟨le53, hi53_0⟩
      try dsimp only at s hi53_0 ⊢
      replace hT := U8.mono le53 hT
      replace hle52 := leMono le53 hle52
      refine wp_seq ?_
      refine region_rule ?_
      refine ops_rule (C := []) [] [] 1 [] 0 (fun φ54 => [(42, .bool (decide (((i53 : Nat) : Int) < ((((l.take 120).length) + 1 : Nat) : Int))))]) (fun φ54 => []) (fun φ54 => []) s trivial (fun φ54 => by kernel_rfl) ?_
      intro φ54 w54 s
      rw [nat_lss (a := i53) (b := (((l.take 120).length) + 1))]
      refine ops_done (by kernel_rfl) ?_
      refine wp_seq ?_
      rcases Bool.eq_false_or_eq_true (decide (i53 < (((l.take 120).length) + 1))) with hc55 | hc55
      ·
        rw [hc55]
        refine cond_true_rule (b := true) (by kernel_rfl) rfl ?_
        refine wp_skip ?_
        refine wp_seq ?_
        refine wp_block ?_
        refine wp_seq ?_
        refine region_rule ?_
        refine ops_rule (C := []) [] [] 2 [] 0 (fun φ56 => [(6, .int .i64 ((i53 : Nat) : Int)), (43, .int .i64 ((i53 : Nat) : Int))]) (fun φ56 => []) (fun φ56 => []) s trivial (fun φ56 => by kernel_rfl) ?_
        intro φ56 w56 s
        refine ops_done (by kernel_rfl) ?_
        refine wp_seq ?_
        refine region_rule ?_
        refine ops_rule (C := []) [] [] 2 [] 0 (fun φ57 => [(45, .int .i64 ((i53 : Nat) : Int)), (44, .string ⟨((l.take 120)).toArray⟩)]) (fun φ57 => []) (fun φ57 => []) s trivial (fun φ57 => by kernel_rfl) ?_
        intro φ57 w57 s
        refine sem_rule (Instr.sliceAt 9 (.string ⟨((l.take 120)).toArray⟩) none (some (.int .i64 ((i53 : Nat) : Int))) none) (some 46) (.string ⟨(((l.take 120).take i53)).toArray⟩) (by kernel_rfl) (run_takeS (s := (l.take 120)) (hi := i53) (by have hz1 := take_le l 120; have hz2 := nR_le (l.take 120); have hz3 := nR_le (l2.take 120); have hz4 := take_le l2 120; have hz5 := cnt_le (l.take 120) i53; have hz6 := hi53_0;  have hq0 := of_decide_eq_true hc12; have hq1 := of_decide_eq_false hc16; have hq2 := of_decide_eq_true hc55; omega)) ?_
        refine call_rule (some 47) s (check_c (l := ((l.take 120).take i53)) (mi := 200) hT (by have h7 := take_le l 120; have h8 := take_le l2 120; (try simp only [List.length_append]); (try rw [List.length_take]); omega)) (by kernel_rfl) ?_
        intro v58 I58 w58 le58 h58 s
        replace hT := U8.mono le58 hT
        replace hle52 := leMono le58 hle52
        obtain rfl := h58
        refine ops_rule (C := []) [] [] 1 [] 0 (fun φ59 => [(48, .bool (((ckE ((l.take 120).take i53) 200 : Nat) : Int) == ((0 : Nat) : Int)))]) (fun φ59 => []) (fun φ59 => []) s trivial (fun φ59 => by kernel_rfl) ?_
        intro φ59 w59 s
        rw [nat_eql (a := (ckE ((l.take 120).take i53) 200)) (b := 0)]
        refine ops_done (by kernel_rfl) ?_
        rcases Bool.eq_false_or_eq_true (decide ((ckE ((l.take 120).take i53) 200) = 0)) with hc60 | hc60
        ·
          rw [hc60]
          refine cond_true_rule (b := true) (by kernel_rfl) rfl ?_
          refine region_rule ?_
          refine ops_rule (C := []) [] [] 3 [] 0 (fun φ61 => [(5, .int .i64 (IntKind.wrap .i64 (((cntF (l.take 120) i53 : Nat) : Int) + ((1 : Nat) : Int)))), (50, .int .i64 (IntKind.wrap .i64 (((cntF (l.take 120) i53 : Nat) : Int) + ((1 : Nat) : Int)))), (49, .int .i64 ((cntF (l.take 120) i53 : Nat) : Int))]) (fun φ61 => []) (fun φ61 => []) s trivial (fun φ61 => by kernel_rfl) ?_
          intro φ61 w61 s
          rw [nat_addI (a := (cntF (l.take 120) i53)) (b := 1) (by have hz1 := take_le l 120; have hz2 := nR_le (l.take 120); have hz3 := nR_le (l2.take 120); have hz4 := take_le l2 120; have hz5 := cnt_le (l.take 120) i53; have hz6 := hi53_0;  have hq0 := of_decide_eq_true hc12; have hq1 := of_decide_eq_false hc16; have hq2 := of_decide_eq_true hc55; have hq3 := of_decide_eq_true hc60; omega)]
          refine ops_done (by kernel_rfl) ?_
          refine region_rule ?_
          refine ops_rule (C := []) [] [] 2 [] 0 (fun φ62 => [(41, .int .i64 (IntKind.wrap .i64 (((i53 : Nat) : Int) + ((1 : Nat) : Int)))), (51, .int .i64 (IntKind.wrap .i64 (((i53 : Nat) : Int) + ((1 : Nat) : Int))))]) (fun φ62 => []) (fun φ62 => []) s trivial (fun φ62 => by kernel_rfl) ?_
          intro φ62 w62 s
          rw [nat_addI (a := i53) (b := 1) (by have hz1 := take_le l 120; have hz2 := nR_le (l.take 120); have hz3 := nR_le (l2.take 120); have hz4 := take_le l2 120; have hz5 := cnt_le (l.take 120) i53; have hz6 := hi53_0;  have hq0 := of_decide_eq_true hc12; have hq1 := of_decide_eq_false hc16; have hq2 := of_decide_eq_true hc55; have hq3 := of_decide_eq_true hc60; omega)]
          refine ops_done (by kernel_rfl) ?_
          have hq9 := of_decide_eq_true hc55
          have hl9 := take_le l 120
          rw [← cnt_t (of_decide_eq_true hc60) hl9]
          exact ⟨⟨m53 - 1, i53 + 1, _, _, _, by omega, rfl, s, List.Sublist.slnil, by kernel_rfl, hle52, by show i53 + 1 + (m53 - 1) = (l.take 120).length + 1; omega⟩⟩
        ·
          rw [hc60]
          refine cond_false_rule (b := false) (by kernel_rfl) rfl ?_
          refine wp_skip ?_
          refine region_rule ?_
          refine ops_rule (C := []) [] [] 2 [] 0 (fun φ63 => [(41, .int .i64 (IntKind.wrap .i64 (((i53 : Nat) : Int) + ((1 : Nat) : Int)))), (51, .int .i64 (IntKind.wrap .i64 (((i53 : Nat) : Int) + ((1 : Nat) : Int))))]) (fun φ63 => []) (fun φ63 => []) s trivial (fun φ63 => by kernel_rfl) ?_
          intro φ63 w63 s
          rw [nat_addI (a := i53) (b := 1) (by have hz1 := take_le l 120; have hz2 := nR_le (l.take 120); have hz3 := nR_le (l2.take 120); have hz4 := take_le l2 120; have hz5 := cnt_le (l.take 120) i53; have hz6 := hi53_0;  have hq0 := of_decide_eq_true hc12; have hq1 := of_decide_eq_false hc16; have hq2 := of_decide_eq_true hc55; have hq3 := of_decide_eq_false hc60; omega)]
          refine ops_done (by kernel_rfl) ?_
          have hq9 := of_decide_eq_true hc55
          have hl9 := take_le l 120
          rw [← cnt_f (of_decide_eq_false hc60) hl9]
          exact ⟨⟨m53 - 1, i53 + 1, _, _, _, by omega, rfl, s, List.Sublist.slnil, by kernel_rfl, hle52, by show i53 + 1 + (m53 - 1) = (l.take 120).length + 1; omega⟩⟩
      ·
        rw [hc55]
        refine cond_false_rule (b := false) (by kernel_rfl) rfl ?_
        refine wp_exit ?_
        refine wp_seq ?_
        refine region_rule ?_
        refine ops_rule (C := []) [] [] 1 [] 0 (fun φ64 => [(52, .string ⟨((l.take 120)).toArray⟩)]) (fun φ64 => []) (fun φ64 => []) s trivial (fun φ64 => by kernel_rfl) ?_
        intro φ64 w64 s
        refine call_rule (some 53) s (check_c (l := (l.take 120)) (mi := 200) hT (by have h7 := take_le l 120; have h8 := take_le l2 120; (try simp only [List.length_append]); omega)) (by kernel_rfl) ?_
        intro v65 I65 w65 le65 h65 s
        replace hT := U8.mono le65 hT
        replace hle52 := leMono le65 hle52
        obtain rfl := h65
        refine ops_rule (C := []) [] [] 2 [] 0 (fun φ66 => [(55, .bool (((ckE (l.take 120) 200 : Nat) : Int) != ((0 : Nat) : Int))), (54, .bool (((ckE (l.take 120) 200 : Nat) : Int) != ((0 : Nat) : Int)))]) (fun φ66 => []) (fun φ66 => []) s trivial (fun φ66 => by kernel_rfl) ?_
        intro φ66 w66 s
        rw [nat_neq (a := (ckE (l.take 120) 200)) (b := 0)]
        rcases Bool.eq_false_or_eq_true (decide ((ckE (l.take 120) 200) ≠ 0)) with hc67 | hc67
        ·
          exact absurd (of_decide_eq_true hc12) (of_decide_eq_true hc67)
        ·
          rw [hc67]
          refine ops_rule (C := []) [] [] 2 [] 0 (fun φ68 => [(57, .string ⟨((l.take 120)).toArray⟩), (56, .int .i64 ((cntF (l.take 120) i53 : Nat) : Int))]) (fun φ68 => []) (fun φ68 => []) s trivial (fun φ68 => by kernel_rfl) ?_
          intro φ68 w68 s
          refine call_rule (some 58) s (runes_c (l := (l.take 120)) (by have h7 := take_le l 120; have h8 := take_le l2 120; (try simp only [List.length_append]); omega)) (by kernel_rfl) ?_
          intro v69 I69 w69 le69 h69 s
          replace hT := U8.mono le69 hT
          replace hle52 := leMono le69 hle52
          obtain rfl := h69
          refine ops_rule (C := []) [] [] 4 [] 0 (fun φ70 => [(4, .bool (((cntF (l.take 120) i53 : Nat) : Int) == (IntKind.wrap .i64 (((nR (l.take 120) : Nat) : Int) + ((1 : Nat) : Int))))), (61, .bool (((cntF (l.take 120) i53 : Nat) : Int) == (IntKind.wrap .i64 (((nR (l.take 120) : Nat) : Int) + ((1 : Nat) : Int))))), (60, .bool (((cntF (l.take 120) i53 : Nat) : Int) == (IntKind.wrap .i64 (((nR (l.take 120) : Nat) : Int) + ((1 : Nat) : Int))))), (59, .int .i64 (IntKind.wrap .i64 (((nR (l.take 120) : Nat) : Int) + ((1 : Nat) : Int))))]) (fun φ70 => []) (fun φ70 => []) s trivial (fun φ70 => by kernel_rfl) ?_
          intro φ70 w70 s
          rw [nat_addI (a := (nR (l.take 120))) (b := 1) (by have hz1 := take_le l 120; have hz2 := nR_le (l.take 120); have hz3 := nR_le (l2.take 120); have hz4 := take_le l2 120; have hz5 := cnt_le (l.take 120) i53; have hz6 := hi53_0;  have hq0 := of_decide_eq_true hc12; have hq1 := of_decide_eq_false hc16; have hq2 := of_decide_eq_false hc55; have hq3 := of_decide_eq_false hc67; omega)]
          rw [nat_eql (a := (cntF (l.take 120) i53)) (b := ((nR (l.take 120)) + 1))]
          refine ops_done (by kernel_rfl) ?_
          refine wp_ret ?_
          refine ret_rule (C := []) [] [] (.bool (decide ((cntF (l.take 120) i53) = ((nR (l.take 120)) + 1)))) [] [] s trivial (by kernel_rfl) ?_
          exact ⟨_, _, _, rfl, s, (congrArg Value.bool (decide_eq_true (by have hq9 := of_decide_eq_false hc55; have h8 := hi53_0; have e8 : i53 = (l.take 120).length + 1 := (by omega); rw [e8]; exact cnt_law (of_decide_eq_true hc12) (take_le l 120))))⟩
  ·
    rw [hc12]
    refine ops_rule (C := []) [] [] 4 [] 0 (fun φ71 => [(20, .bool false), (19, undef), (18, undef), (17, undef)]) (fun φ71 => []) (fun φ71 => []) s trivial (fun φ71 => by kernel_rfl) ?_
    intro φ71 w71 s
    refine ops_done (by kernel_rfl) ?_
    refine cond_false_rule (b := false) (by kernel_rfl) rfl ?_
    refine wp_skip ?_
    refine wp_seq ?_
    refine region_rule ?_
    refine ops_rule (C := []) [] [] 1 [] 0 (fun φ72 => [(5, .int .i64 0)]) (fun φ72 => []) (fun φ72 => []) s trivial (fun φ72 => by kernel_rfl) ?_
    intro φ72 w72 s
    refine ops_done (by kernel_rfl) ?_
    refine wp_seq ?_
    refine wp_seq ?_
    refine region_rule ?_
    refine ops_rule (C := []) [] [] 4 [] 0 (fun φ73 => [(41, .int .i64 0), (40, .int .i64 (IntKind.wrap .i64 ((((l.take 120).length : Nat) : Int) + ((1 : Nat) : Int)))), (39, .int .i64 (((l.take 120).length : Nat) : Int)), (38, .string ⟨((l.take 120)).toArray⟩)]) (fun φ73 => []) (fun φ73 => []) s trivial (fun φ73 => by kernel_rfl) ?_
    intro φ73 w73 s
    rw [nat_addI (a := ((l.take 120).length)) (b := 1) (by have hz1 := take_le l 120; have hz2 := nR_le (l.take 120); have hz3 := nR_le (l2.take 120); have hz4 := take_le l2 120;  have hq0 := of_decide_eq_false hc12; omega)]
    refine ops_done (by kernel_rfl) ?_
    refine wp_block ?_
    have hle74 := IM.Le.refl I10
    refine loop_rule (fun (x : Nat) => [(0, .string ⟨((l.take 120)).toArray⟩), (1, .string ⟨((l2.take 120)).toArray⟩), (4, .bool false), (40, .int .i64 ((((l.take 120).length) + 1 : Nat) : Int)), (41, .int .i64 ((x : Nat) : Int)), (5, .int .i64 ((cntF (l.take 120) x : Nat) : Int))]) (fun (x : Nat) => []) (fun m (x : Nat) J => IM.Le I10 J ∧ x + m = (l.take 120).length + 1) ((l.take 120).length + 1) 0 s (by kernel_rfl) List.Sublist.slnil ⟨IM.Le.refl _, Nat.zero_add _⟩ ?_
    rintro m75 i75 I75 w75 ev75 s ⟨le75, hi75_0⟩
    try dsimp only at s hi75_0 ⊢
    replace hT := U8.mono le75 hT
    replace hle74 := leMono le75 hle74
    refine wp_seq ?_
    refine region_rule ?_
    refine ops_rule (C := []) [] [] 1 [] 0 (fun φ76 => [(42, .bool (decide (((i75 : Nat) : Int) < ((((l.take 120).length) + 1 : Nat) : Int))))]) (fun φ76 => []) (fun φ76 => []) s trivial (fun φ76 => by kernel_rfl) ?_
    intro φ76 w76 s
    rw [nat_lss (a := i75) (b := (((l.take 120).length) + 1))]
    refine ops_done (by kernel_rfl) ?_
    refine wp_seq ?_
    rcases Bool.eq_false_or_eq_true (decide (i75 < (((l.take 120).length) + 1))) with hc77 | hc77
    ·
      rw [hc77]
      refine cond_true_rule (b := true) (by kernel_rfl) rfl ?_
      refine wp_skip ?_
      refine wp_seq ?_
      refine wp_block ?_
      refine wp_seq ?_
      refine region_rule ?_
      refine ops_rule (C := []) [] [] 2 [] 0 (fun φ78 => [(6, .int .i64 ((i75 : Nat) : Int)), (43, .int .i64 ((i75 : Nat) : Int))]) (fun φ78 => []) (fun φ78 => []) s trivial (fun φ78 => by kernel_rfl) ?_
      intro φ78 w78 s
      refine ops_done (by kernel_rfl) ?_
      refine wp_seq ?_
      refine region_rule ?_
      refine ops_rule (C := []) [] [] 2 [] 0 (fun φ79 => [(45, .int .i64 ((i75 : Nat) : Int)), (44, .string ⟨((l.take 120)).toArray⟩)]) (fun φ79 => []) (fun φ79 => []) s trivial (fun φ79 => by kernel_rfl) ?_
      intro φ79 w79 s
      refine sem_rule (Instr.sliceAt 9 (.string ⟨((l.take 120)).toArray⟩) none (some (.int .i64 ((i75 : Nat) : Int))) none) (some 46) (.string ⟨(((l.take 120).take i75)).toArray⟩) (by kernel_rfl) (run_takeS (s := (l.take 120)) (hi := i75) (by have hz1 := take_le l 120; have hz2 := nR_le (l.take 120); have hz3 := nR_le (l2.take 120); have hz4 := take_le l2 120; have hz5 := cnt_le (l.take 120) i75; have hz6 := hi75_0;  have hq0 := of_decide_eq_false hc12; have hq1 := of_decide_eq_true hc77; omega)) ?_
      refine call_rule (some 47) s (check_c (l := ((l.take 120).take i75)) (mi := 200) hT (by have h7 := take_le l 120; have h8 := take_le l2 120; (try simp only [List.length_append]); (try rw [List.length_take]); omega)) (by kernel_rfl) ?_
      intro v80 I80 w80 le80 h80 s
      replace hT := U8.mono le80 hT
      replace hle74 := leMono le80 hle74
      obtain rfl := h80
      refine ops_rule (C := []) [] [] 1 [] 0 (fun φ81 => [(48, .bool (((ckE ((l.take 120).take i75) 200 : Nat) : Int) == ((0 : Nat) : Int)))]) (fun φ81 => []) (fun φ81 => []) s trivial (fun φ81 => by kernel_rfl) ?_
      intro φ81 w81 s
      rw [nat_eql (a := (ckE ((l.take 120).take i75) 200)) (b := 0)]
      refine ops_done (by kernel_rfl) ?_
      rcases Bool.eq_false_or_eq_true (decide ((ckE ((l.take 120).take i75) 200) = 0)) with hc82 | hc82
      ·
        rw [hc82]
        refine cond_true_rule (b := true) (by kernel_rfl) rfl ?_
        refine region_rule ?_
        refine ops_rule (C := []) [] [] 3 [] 0 (fun φ83 => [(5, .int .i64 (IntKind.wrap .i64 (((cntF (l.take 120) i75 : Nat) : Int) + ((1 : Nat) : Int)))), (50, .int .i64 (IntKind.wrap .i64 (((cntF (l.take 120) i75 : Nat) : Int) + ((1 : Nat) : Int)))), (49, .int .i64 ((cntF (l.take 120) i75 : Nat) : Int))]) (fun φ83 => []) (fun φ83 => []) s trivial (fun φ83 => by kernel_rfl) ?_
        intro φ83 w83 s
        rw [nat_addI (a := (cntF (l.take 120) i75)) (b := 1) (by have hz1 := take_le l 120; have hz2 := nR_le (l.take 120); have hz3 := nR_le (l2.take 120); have hz4 := take_le l2 120; have hz5 := cnt_le (l.take 120) i75; have hz6 := hi75_0;  have hq0 := of_decide_eq_false hc12; have hq1 := of_decide_eq_true hc77; have hq2 := of_decide_eq_true hc82; omega)]
        refine ops_done (by kernel_rfl) ?_
        refine region_rule ?_
        refine ops_rule (C := []) [] [] 2 [] 0 (fun φ84 => [(41, .int .i64 (IntKind.wrap .i64 (((i75 : Nat) : Int) + ((1 : Nat) : Int)))), (51, .int .i64 (IntKind.wrap .i64 (((i75 : Nat) : Int) + ((1 : Nat) : Int))))]) (fun φ84 => []) (fun φ84 => []) s trivial (fun φ84 => by kernel_rfl) ?_
        intro φ84 w84 s
        rw [nat_addI (a := i75) (b := 1) (by have hz1 := take_le l 120; have hz2 := nR_le (l.take 120); have hz3 := nR_le (l2.take 120); have hz4 := take_le l2 120; have hz5 := cnt_le (l.take 120) i75; have hz6 := hi75_0;  have hq0 := of_decide_eq_false hc12; have hq1 := of_decide_eq_true hc77; have hq2 := of_decide_eq_true hc82; omega)]
        refine ops_done (by kernel_rfl) ?_
        have hq9 := of_decide_eq_true hc77
        have hl9 := take_le l 120
        rw [← cnt_t (of_decide_eq_true hc82) hl9]
        exact ⟨⟨m75 - 1, i75 + 1, _, _, _, by omega, rfl, s, List.Sublist.slnil, by kernel_rfl, hle74, by show i75 + 1 + (m75 - 1) = (l.take 120).length + 1; omega⟩⟩
      ·
        rw [hc82]
        refine cond_false_rule (b := false) (by kernel_rfl) rfl ?_
        refine wp_skip ?_
        refine region_rule ?_
        refine ops_rule (C := []) [] [] 2 [] 0 (fun φ85 => [(41, .int .i64 (IntKind.wrap .i64 (((i75 : Nat) : Int) + ((1 : Nat) : Int)))), (51, .int .i64 (IntKind.wrap .i64 (((i75 : Nat) : Int) + ((1 : Nat) : Int))))]) (fun φ85 => []) (fun φ85 => []) s trivial (fun φ85 => by kernel_rfl) ?_
        intro φ85 w85 s
        rw [nat_addI (a := i75) (b := 1) (by have hz1 := take_le l 120; have hz2 := nR_le (l.take 120); have hz3 := nR_le (l2.take 120); have hz4 := take_le l2 120; have hz5 := cnt_le (l.take 120) i75; have hz6 := hi75_0;  have hq0 := of_decide_eq_false hc12; have hq1 := of_decide_eq_true hc77; have hq2 := of_decide_eq_false hc82; omega)]
        refine ops_done (by kernel_rfl) ?_
        have hq9 := of_decide_eq_true hc77
        have hl9 := take_le l 120
        rw [← cnt_f (of_decide_eq_false hc82) hl9]
        exact ⟨⟨m75 - 1, i75 + 1, _, _, _, by omega, rfl, s, List.Sublist.slnil, by kernel_rfl, hle74, by show i75 + 1 + (m75 - 1) = (l.take 120).length + 1; omega⟩⟩
    ·
      rw [hc77]
      refine cond_false_rule (b := false) (by kernel_rfl) rfl ?_
      refine wp_exit ?_
      refine wp_seq ?_
      refine region_rule ?_
      refine ops_rule (C := []) [] [] 1 [] 0 (fun φ86 => [(52, .string ⟨((l.take 120)).toArray⟩)]) (fun φ86 => []) (fun φ86 => []) s trivial (fun φ86 => by kernel_rfl) ?_
      intro φ86 w86 s
      refine call_rule (some 53) s (check_c (l := (l.take 120)) (mi := 200) hT (by have h7 := take_le l 120; have h8 := take_le l2 120; (try simp only [List.length_append]); omega)) (by kernel_rfl) ?_
      intro v87 I87 w87 le87 h87 s
      replace hT := U8.mono le87 hT
      replace hle74 := leMono le87 hle74
      obtain rfl := h87
      refine ops_rule (C := []) [] [] 2 [] 0 (fun φ88 => [(55, .bool (((ckE (l.take 120) 200 : Nat) : Int) != ((0 : Nat) : Int))), (54, .bool (((ckE (l.take 120) 200 : Nat) : Int) != ((0 : Nat) : Int)))]) (fun φ88 => []) (fun φ88 => []) s trivial (fun φ88 => by kernel_rfl) ?_
      intro φ88 w88 s
      rw [nat_neq (a := (ckE (l.take 120) 200)) (b := 0)]
      rcases Bool.eq_false_or_eq_true (decide ((ckE (l.take 120) 200) ≠ 0)) with hc89 | hc89
      ·
        rw [hc89]
        refine ops_rule (C := []) [] [] 7 [] 0 (fun φ90 => [(4, .bool true), (61, .bool true), (60, undef), (59, undef), (58, undef), (57, undef), (56, undef)]) (fun φ90 => []) (fun φ90 => []) s trivial (fun φ90 => by kernel_rfl) ?_
        intro φ90 w90 s
        refine ops_done (by kernel_rfl) ?_
        refine wp_ret ?_
        refine ret_rule (C := []) [] [] (.bool true) [] [] s trivial (by kernel_rfl) ?_
        exact ⟨_, _, _, rfl, s, rfl⟩
      ·
        exact absurd (of_decide_eq_false hc12) (fun q => (of_decide_eq_false hc89) q)

end Go.Proofs.YtgmigcmhnmmdkaaDoor

/- The document's Unquote. -/
import Derived.Test.YtgmigcmhnmmdkaaDoorTqX8
set_option linter.all false
set_option maxRecDepth 100000
namespace Go.Proofs.YtgmigcmhnmmdkaaDoor
open Go.RowKit Go.Sep
attribute [local irreducible] Go.wpList Go.Code.wp

set_option maxHeartbeats 8000000 in
theorem refUnquote_c {I : IM} {l : List UInt8} (hn : l.length ≤ 1000000) : Fun Tryd.prog 31 #[.string ⟨(l).toArray⟩] I (fun v J => v = uqT (uqV l) (uqB l)) := by
  refine enter_rule 91 [(0, .string ⟨(l).toArray⟩)] Tryd.func31 rfl (by kernel_rfl) ?_
  intro w s
  refine wp_seq ?_
  refine region_rule ?_
  refine ops_rule (C := []) [] [] 2 [] 0 (fun φ1 => [(3, .bool false), (2, .string ⟨#[]⟩)]) (fun φ1 => []) (fun φ1 => []) s trivial (fun φ1 => by kernel_rfl) ?_
  intro φ1 w1 s
  refine ops_done (by kernel_rfl) ?_
  refine wp_seq ?_
  refine wp_seq ?_
  refine region_rule ?_
  refine ops_rule (C := []) [] [] 1 [] 0 (fun φ2 => [(6, .string ⟨(l).toArray⟩)]) (fun φ2 => []) (fun φ2 => []) s trivial (fun φ2 => by kernel_rfl) ?_
  intro φ2 w2 s
  refine sem_rule (binOp .eql 9 (.string ⟨(l).toArray⟩) (.string ⟨(([92, 45] : List UInt8)).toArray⟩)) (some 7) (.bool (decide (l = ([92, 45] : List UInt8)))) (by kernel_rfl) (run_eqS (x := l) (y := ([92, 45] : List UInt8))) ?_
  refine ops_done (by kernel_rfl) ?_
  rcases Bool.eq_false_or_eq_true (decide (l = ([92, 45] : List UInt8))) with hc3 | hc3
  ·
    rw [hc3]
    refine cond_true_rule (b := true) (by kernel_rfl) rfl ?_
    refine wp_seq ?_
    refine region_rule ?_
    refine ops_rule (C := []) [] [] 2 [] 0 (fun φ4 => [(3, .bool true), (2, .string ⟨#[]⟩)]) (fun φ4 => []) (fun φ4 => []) s trivial (fun φ4 => by kernel_rfl) ?_
    intro φ4 w4 s
    refine ops_done (by kernel_rfl) ?_
    refine wp_ret ?_
    refine ret_rule (C := []) [] [] (.tuple #[.string ⟨#[]⟩, .bool true]) [] [] s trivial (by kernel_rfl) ?_
    exact ⟨_, _, _, rfl, s, (uq_val (un_dash (of_decide_eq_true hc3)))⟩
  ·
    rw [hc3]
    refine cond_false_rule (b := false) (by kernel_rfl) rfl ?_
    refine wp_skip ?_
    refine wp_seq ?_
    refine region_rule ?_
    refine ops_rule (C := []) [] [] 1 [] 0 (fun φ5 => [(4, .slice none 0 0)]) (fun φ5 => []) (fun φ5 => []) s trivial (fun φ5 => by kernel_rfl) ?_
    intro φ5 w5 s
    refine ops_done (by kernel_rfl) ?_
    refine wp_seq ?_
    refine wp_seq ?_
    refine region_rule ?_
    refine ops_rule (C := []) [] [] 1 [] 0 (fun φ6 => [(5, .int .i64 0)]) (fun φ6 => []) (fun φ6 => []) s trivial (fun φ6 => by kernel_rfl) ?_
    intro φ6 w6 s
    refine ops_done (by kernel_rfl) ?_
    refine wp_block ?_
    have hle7 := IM.Le.refl I
    refine loop_rule (fun (x : Nat × List UInt8 × Value × List OB) => [(0, .string ⟨(l).toArray⟩), (2, .string ⟨#[]⟩), (3, .bool false), (5, .int .i64 ((x.1 : Nat) : Int)), (4, x.2.2.1)]) (fun (x : Nat × List UInt8 × Value × List OB) => [] ++ x.2.2.2) (fun m (x : Nat × List UInt8 × Value × List OB) J => IM.Le I J ∧ l.length ≤ x.1 + m ∧ RI l x.2.1 x.1 ∧ (x.2.1).length ≤ x.1 ∧ x.1 ≤ l.length ∧ RowH 5 1 x.2.2.1 (x.2.1).length ((x.2.1).map bV) x.2.2.2) (l.length) (0, [], .slice none 0 0, []) s (by kernel_rfl) (List.Sublist.refl _) ⟨IM.Le.refl _, by omega, ri_0 l, Nat.le_refl _, Nat.zero_le _, row_nilB⟩ ?_
    rintro m8 ⟨i8, o8, v8, F8⟩ I8 w8 ev8 s ⟨le8, hi8_0, hi8_1, hi8_2, hi8_3, hi8_4⟩
    try dsimp only at s hi8_0 hi8_1 hi8_2 hi8_3 hi8_4 ⊢
    replace hle7 := leMono le8 hle7
    refine wp_seq ?_
    refine wp_seq ?_
    refine region_rule ?_
    refine ops_rule (C := []) [] F8 4 [] 0 (fun φ9 => [(11, .bool (decide (((i8 : Nat) : Int) < ((l.length : Nat) : Int)))), (10, .int .i64 ((l.length : Nat) : Int)), (9, .string ⟨(l).toArray⟩), (8, .int .i64 ((i8 : Nat) : Int))]) (fun φ9 => []) (fun φ9 => []) s trivial (fun φ9 => by kernel_rfl) ?_
    intro φ9 w9 s
    rw [nat_lss (a := i8) (b := l.length)]
    refine ops_done (by kernel_rfl) ?_
    rcases Bool.eq_false_or_eq_true (decide (i8 < l.length)) with hc10 | hc10
    ·
      rw [hc10]
      refine cond_true_rule (b := true) (by kernel_rfl) rfl ?_
      refine wp_skip ?_
      refine wp_block ?_
      refine wp_seq ?_
      refine wp_seq ?_
      refine region_rule ?_
      refine ops_rule (C := []) [] F8 2 [] 0 (fun φ11 => [(13, .int .i64 ((i8 : Nat) : Int)), (12, .string ⟨(l).toArray⟩)]) (fun φ11 => []) (fun φ11 => []) s trivial (fun φ11 => by kernel_rfl) ?_
      intro φ11 w11 s
      refine sem_rule (Instr.index 9 (.string ⟨(l).toArray⟩) (.int .i64 ((i8 : Nat) : Int))) (some 14) (.int .u8 (((l.getD i8 0).toNat : Nat) : Int)) (by kernel_rfl) (run_idxK (s := l) (i := i8) (by have hz0 := hi8_3; have hz1 := hi8_2; have hz2 := dgt_lt (l.getD (i8 + 1) 0).toNat; have hz3 := dgt_lt (l.getD (i8 + 2) 0).toNat;  have hq0 := of_decide_eq_false hc3; have hq1 := of_decide_eq_true hc10; omega)) ?_
      refine ops_rule (C := []) [] F8 1 [] 0 (fun φ12 => [(15, .bool ((((l.getD i8 0).toNat : Nat) : Int) != ((92 : Nat) : Int)))]) (fun φ12 => []) (fun φ12 => []) s trivial (fun φ12 => by kernel_rfl) ?_
      intro φ12 w12 s
      rw [nat_neq (a := ((l.getD i8 0).toNat)) (b := 92)]
      refine ops_done (by kernel_rfl) ?_
      rcases Bool.eq_false_or_eq_true (decide (((l.getD i8 0).toNat) ≠ 92)) with hc13 | hc13
      ·
        rw [hc13]
        refine cond_true_rule (b := true) (by kernel_rfl) rfl ?_
        refine wp_seq ?_
        refine region_rule ?_
        refine ops_rule (C := []) [] F8 3 [] 0 (fun φ14 => [(18, .int .i64 ((i8 : Nat) : Int)), (17, .string ⟨(l).toArray⟩), (16, v8)]) (fun φ14 => []) (fun φ14 => []) s trivial (fun φ14 => by kernel_rfl) ?_
        intro φ14 w14 s
        refine sem_rule (Instr.index 9 (.string ⟨(l).toArray⟩) (.int .i64 ((i8 : Nat) : Int))) (some 19) (.int .u8 (((l.getD i8 0).toNat : Nat) : Int)) (by kernel_rfl) (run_idxK (s := l) (i := i8) (by have hz0 := hi8_3; have hz1 := hi8_2; have hz2 := dgt_lt (l.getD (i8 + 1) 0).toNat; have hz3 := dgt_lt (l.getD (i8 + 2) 0).toNat;  have hq0 := of_decide_eq_false hc3; have hq1 := of_decide_eq_true hc10; have hq2 := of_decide_eq_true hc13; omega)) ?_
        refine ops_rule (C := []) [] F8 1 [] 1 (fun φ15 => [(20, .slice (some ⟨(φ15 0), 0, none⟩) 1 1)]) (fun φ15 => [((φ15 0), .cells #[.int .u8 (((l.getD i8 0).toNat : Nat) : Int)] 5)]) (fun φ15 => []) s trivial (fun φ15 => by kernel_rfl) ?_
        intro φ15 w15 s
        refine append_rule (H := [((φ15 0), .cells #[.int .u8 (((l.getD i8 0).toNat : Nat) : Int)] 5)]) (F := F8) 22 22 5 Tryd.t5 (.int .u8 0) 1 1 (some 21) s Tryd.underlying22 (by kernel_rfl) (by kernel_rfl) (by kernel_rfl) (by kernel_rfl) (by kernel_rfl) (by decide) hi8_4 (src_own (H := [((φ15 0), .cells #[.int .u8 (((l.getD i8 0).toNat : Nat) : Int)] 5)]) s 0 (φ15 0) #[.int .u8 (((l.getD i8 0).toNat : Nat) : Int)] 5 22 5 1 1 1 [.int .u8 (((l.getD i8 0).toNat : Nat) : Int)] (by kernel_rfl) under22 (by kernel_rfl) (by kernel_rfl) (by kernel_rfl)) (by have hz0 := hi8_3; have hz1 := hi8_2; have hz2 := dgt_lt (l.getD (i8 + 1) 0).toNat; have hz3 := dgt_lt (l.getD (i8 + 2) 0).toNat;  (try simp only [maxLen, List.length_append, List.length_cons, List.length_nil]); omega) (by have hz0 := hi8_3; have hz1 := hi8_2; have hz2 := dgt_lt (l.getD (i8 + 1) 0).toNat; have hz3 := dgt_lt (l.getD (i8 + 2) 0).toNat;  (try simp only [maxLen, List.length_append, List.length_cons, List.length_nil]); omega) (by kernel_rfl) ?_
        intro v16 w16 F16 s h16
        replace h16 : RowH 5 1 v16 ((o8 ++ ([UInt8.ofNat ((l.getD i8 0).toNat)] : List UInt8)).length) ((o8 ++ ([UInt8.ofNat ((l.getD i8 0).toNat)] : List UInt8)).map bV) F16 := row_snoc (x := o8) (y := ([UInt8.ofNat ((l.getD i8 0).toNat)] : List UInt8)) h16 (by simp only [List.map_cons, List.map_nil]; exact cells_bytes1 (by have hz0 := hi8_3; have hz1 := hi8_2; have hz2 := dgt_lt (l.getD (i8 + 1) 0).toNat; have hz3 := dgt_lt (l.getD (i8 + 2) 0).toNat;  have := byte_lt (l.getD i8 0); have hq0 := of_decide_eq_false hc3; have hq1 := of_decide_eq_true hc10; have hq2 := of_decide_eq_true hc13; omega))
        refine ops_rule (C := []) [((φ15 0), .cells #[.int .u8 (((l.getD i8 0).toNat : Nat) : Int)] 5)] F16 1 [] 0 (fun φ17 => [(4, v16)]) (fun φ17 => [((φ15 0), .cells #[.int .u8 (((l.getD i8 0).toNat : Nat) : Int)] 5)]) (fun φ17 => []) s trivial (fun φ17 => by kernel_rfl) ?_
        intro φ17 w17 s
        refine ops_done (by kernel_rfl) ?_
        refine wp_seq ?_
        refine region_rule ?_
        refine ops_rule (C := []) [((φ15 0), .cells #[.int .u8 (((l.getD i8 0).toNat : Nat) : Int)] 5)] F16 3 [] 0 (fun φ18 => [(5, .int .i64 (IntKind.wrap .i64 (((i8 : Nat) : Int) + ((1 : Nat) : Int)))), (23, .int .i64 (IntKind.wrap .i64 (((i8 : Nat) : Int) + ((1 : Nat) : Int)))), (22, .int .i64 ((i8 : Nat) : Int))]) (fun φ18 => [((φ15 0), .cells #[.int .u8 (((l.getD i8 0).toNat : Nat) : Int)] 5)]) (fun φ18 => []) s trivial (fun φ18 => by kernel_rfl) ?_
        intro φ18 w18 s
        rw [nat_addI (a := i8) (b := 1) (by have hz0 := hi8_3; have hz1 := hi8_2; have hz2 := dgt_lt (l.getD (i8 + 1) 0).toNat; have hz3 := dgt_lt (l.getD (i8 + 2) 0).toNat;  have hq0 := of_decide_eq_false hc3; have hq1 := of_decide_eq_true hc10; have hq2 := of_decide_eq_true hc13; omega)]
        refine ops_done (by kernel_rfl) ?_
        refine wp_exit ?_
        exact ⟨⟨m8 - 1, (i8 + 1, (o8 ++ ([UInt8.ofNat ((l.getD i8 0).toNat)] : List UInt8)), v16, F16), _, _, _, by have hq0 := of_decide_eq_false hc3; have hq1 := of_decide_eq_true hc10; have hq2 := of_decide_eq_true hc13; omega, rfl, s, (List.Sublist.append (List.Sublist.cons _ List.Sublist.slnil) (List.Sublist.refl _)), by kernel_rfl, hle7, by have hq0 := of_decide_eq_false hc3; have hq1 := of_decide_eq_true hc10; have hq2 := of_decide_eq_true hc13; have h6 := hi8_0; show l.length ≤ i8 + 1 + (m8 - 1); omega, ri_1 hi8_1 (by have hq0 := of_decide_eq_false hc3; have hq1 := of_decide_eq_true hc10; have hq2 := of_decide_eq_true hc13; omega) (by have hq0 := of_decide_eq_false hc3; have hq1 := of_decide_eq_true hc10; have hq2 := of_decide_eq_true hc13; omega), by have h6 := hi8_2; show ((o8 ++ ([UInt8.ofNat ((l.getD i8 0).toNat)] : List UInt8))).length ≤ i8 + 1; rw [List.length_append, List.length_cons, List.length_nil]; omega, by have hq0 := of_decide_eq_false hc3; have hq1 := of_decide_eq_true hc10; have hq2 := of_decide_eq_true hc13; show i8 + 1 ≤ l.length; omega, h16⟩⟩
      ·
        rw [hc13]
        refine cond_false_rule (b := false) (by kernel_rfl) rfl ?_
        refine wp_skip ?_
        refine wp_seq ?_
        refine wp_seq ?_
        refine region_rule ?_
        refine ops_rule (C := []) [] F8 6 [] 0 (fun φ19 => [(29, .bool (decide ((IntKind.wrap .i64 (((i8 : Nat) : Int) + ((1 : Nat) : Int))) < ((l.length : Nat) : Int)))), (28, .bool (decide ((IntKind.wrap .i64 (((i8 : Nat) : Int) + ((1 : Nat) : Int))) < ((l.length : Nat) : Int)))), (27, .int .i64 ((l.length : Nat) : Int)), (26, .string ⟨(l).toArray⟩), (25, .int .i64 (IntKind.wrap .i64 (((i8 : Nat) : Int) + ((1 : Nat) : Int)))), (24, .int .i64 ((i8 : Nat) : Int))]) (fun φ19 => []) (fun φ19 => []) s trivial (fun φ19 => by kernel_rfl) ?_
        intro φ19 w19 s
        rw [nat_addI (a := i8) (b := 1) (by have hz0 := hi8_3; have hz1 := hi8_2; have hz2 := dgt_lt (l.getD (i8 + 1) 0).toNat; have hz3 := dgt_lt (l.getD (i8 + 2) 0).toNat;  have hq0 := of_decide_eq_false hc3; have hq1 := of_decide_eq_true hc10; have hq2 := of_decide_eq_false hc13; omega)]
        rw [nat_lss (a := (i8 + 1)) (b := l.length)]
        rcases Bool.eq_false_or_eq_true (decide ((i8 + 1) < l.length)) with hc20 | hc20
        ·
          rw [hc20]
          refine ops_rule (C := []) [] F8 3 [] 0 (fun φ21 => [(32, .int .i64 (IntKind.wrap .i64 (((i8 : Nat) : Int) + ((1 : Nat) : Int)))), (31, .int .i64 ((i8 : Nat) : Int)), (30, .string ⟨(l).toArray⟩)]) (fun φ21 => []) (fun φ21 => []) s trivial (fun φ21 => by kernel_rfl) ?_
          intro φ21 w21 s
          rw [nat_addI (a := i8) (b := 1) (by have hz0 := hi8_3; have hz1 := hi8_2; have hz2 := dgt_lt (l.getD (i8 + 1) 0).toNat; have hz3 := dgt_lt (l.getD (i8 + 2) 0).toNat;  have hq0 := of_decide_eq_false hc3; have hq1 := of_decide_eq_true hc10; have hq2 := of_decide_eq_false hc13; have hq3 := of_decide_eq_true hc20; omega)]
          refine sem_rule (Instr.index 9 (.string ⟨(l).toArray⟩) (.int .i64 ((i8 + 1 : Nat) : Int))) (some 33) (.int .u8 (((l.getD (i8 + 1) 0).toNat : Nat) : Int)) (by kernel_rfl) (run_idxK (s := l) (i := i8 + 1) (by have hz0 := hi8_3; have hz1 := hi8_2; have hz2 := dgt_lt (l.getD (i8 + 1) 0).toNat; have hz3 := dgt_lt (l.getD (i8 + 2) 0).toNat;  have hq0 := of_decide_eq_false hc3; have hq1 := of_decide_eq_true hc10; have hq2 := of_decide_eq_false hc13; have hq3 := of_decide_eq_true hc20; omega)) ?_
          refine ops_rule (C := []) [] F8 2 [] 0 (fun φ22 => [(35, .bool ((((l.getD (i8 + 1) 0).toNat : Nat) : Int) == ((92 : Nat) : Int))), (34, .bool ((((l.getD (i8 + 1) 0).toNat : Nat) : Int) == ((92 : Nat) : Int)))]) (fun φ22 => []) (fun φ22 => []) s trivial (fun φ22 => by kernel_rfl) ?_
          intro φ22 w22 s
          rw [nat_eql (a := ((l.getD (i8 + 1) 0).toNat)) (b := 92)]
          refine ops_done (by kernel_rfl) ?_
          rcases Bool.eq_false_or_eq_true (decide (((l.getD (i8 + 1) 0).toNat) = 92)) with hc23 | hc23
          ·
            rw [hc23]
            refine cond_true_rule (b := true) (by kernel_rfl) rfl ?_
            refine wp_seq ?_
            refine region_rule ?_
            refine ops_rule (C := []) [] F8 2 [] 1 (fun φ24 => [(37, .slice (some ⟨(φ24 0), 0, none⟩) 1 1), (36, v8)]) (fun φ24 => [((φ24 0), .cells #[.int .u8 92] 5)]) (fun φ24 => []) s trivial (fun φ24 => by kernel_rfl) ?_
            intro φ24 w24 s
            refine append_rule (H := [((φ24 0), .cells #[.int .u8 92] 5)]) (F := F8) 22 22 5 Tryd.t5 (.int .u8 0) 1 1 (some 38) s Tryd.underlying22 (by kernel_rfl) (by kernel_rfl) (by kernel_rfl) (by kernel_rfl) (by kernel_rfl) (by decide) hi8_4 (src_own (H := [((φ24 0), .cells #[.int .u8 92] 5)]) s 0 (φ24 0) #[.int .u8 92] 5 22 5 1 1 1 [.int .u8 92] (by kernel_rfl) under22 (by kernel_rfl) (by kernel_rfl) (by kernel_rfl)) (by have hz0 := hi8_3; have hz1 := hi8_2; have hz2 := dgt_lt (l.getD (i8 + 1) 0).toNat; have hz3 := dgt_lt (l.getD (i8 + 2) 0).toNat;  (try simp only [maxLen, List.length_append, List.length_cons, List.length_nil]); omega) (by have hz0 := hi8_3; have hz1 := hi8_2; have hz2 := dgt_lt (l.getD (i8 + 1) 0).toNat; have hz3 := dgt_lt (l.getD (i8 + 2) 0).toNat;  (try simp only [maxLen, List.length_append, List.length_cons, List.length_nil]); omega) (by kernel_rfl) ?_
            intro v25 w25 F25 s h25
            replace h25 : RowH 5 1 v25 ((o8 ++ ([92] : List UInt8)).length) ((o8 ++ ([92] : List UInt8)).map bV) F25 := row_snoc (x := o8) (y := ([92] : List UInt8)) h25 (by kernel_rfl)
            refine ops_rule (C := []) [((φ24 0), .cells #[.int .u8 92] 5)] F25 1 [] 0 (fun φ26 => [(4, v25)]) (fun φ26 => [((φ24 0), .cells #[.int .u8 92] 5)]) (fun φ26 => []) s trivial (fun φ26 => by kernel_rfl) ?_
            intro φ26 w26 s
            refine ops_done (by kernel_rfl) ?_
            refine wp_seq ?_
            refine region_rule ?_
            refine ops_rule (C := []) [((φ24 0), .cells #[.int .u8 92] 5)] F25 3 [] 0 (fun φ27 => [(5, .int .i64 (IntKind.wrap .i64 (((i8 : Nat) : Int) + ((2 : Nat) : Int)))), (40, .int .i64 (IntKind.wrap .i64 (((i8 : Nat) : Int) + ((2 : Nat) : Int)))), (39, .int .i64 ((i8 : Nat) : Int))]) (fun φ27 => [((φ24 0), .cells #[.int .u8 92] 5)]) (fun φ27 => []) s trivial (fun φ27 => by kernel_rfl) ?_
            intro φ27 w27 s
            rw [nat_addI (a := i8) (b := 2) (by have hz0 := hi8_3; have hz1 := hi8_2; have hz2 := dgt_lt (l.getD (i8 + 1) 0).toNat; have hz3 := dgt_lt (l.getD (i8 + 2) 0).toNat;  have hq0 := of_decide_eq_false hc3; have hq1 := of_decide_eq_true hc10; have hq2 := of_decide_eq_false hc13; have hq3 := of_decide_eq_true hc20; have hq4 := of_decide_eq_true hc23; omega)]
            refine ops_done (by kernel_rfl) ?_
            refine wp_exit ?_
            exact ⟨⟨m8 - 1, (i8 + 2, (o8 ++ ([92] : List UInt8)), v25, F25), _, _, _, by have hq0 := of_decide_eq_false hc3; have hq1 := of_decide_eq_true hc10; have hq2 := of_decide_eq_false hc13; have hq3 := of_decide_eq_true hc20; have hq4 := of_decide_eq_true hc23; omega, rfl, s, (List.Sublist.append (List.Sublist.cons _ List.Sublist.slnil) (List.Sublist.refl _)), by kernel_rfl, hle7, by have hq0 := of_decide_eq_false hc3; have hq1 := of_decide_eq_true hc10; have hq2 := of_decide_eq_false hc13; have hq3 := of_decide_eq_true hc20; have hq4 := of_decide_eq_true hc23; have h6 := hi8_0; show l.length ≤ i8 + 2 + (m8 - 1); omega, ri_2 hi8_1 (by have hq0 := of_decide_eq_false hc3; have hq1 := of_decide_eq_true hc10; have hq2 := of_decide_eq_false hc13; have hq3 := of_decide_eq_true hc20; have hq4 := of_decide_eq_true hc23; omega) (by have hq0 := of_decide_eq_false hc3; have hq1 := of_decide_eq_true hc10; have hq2 := of_decide_eq_false hc13; have hq3 := of_decide_eq_true hc20; have hq4 := of_decide_eq_true hc23; omega) (by have hq0 := of_decide_eq_false hc3; have hq1 := of_decide_eq_true hc10; have hq2 := of_decide_eq_false hc13; have hq3 := of_decide_eq_true hc20; have hq4 := of_decide_eq_true hc23; omega) (by have hq0 := of_decide_eq_false hc3; have hq1 := of_decide_eq_true hc10; have hq2 := of_decide_eq_false hc13; have hq3 := of_decide_eq_true hc20; have hq4 := of_decide_eq_true hc23; omega), by have h6 := hi8_2; show ((o8 ++ ([92] : List UInt8))).length ≤ i8 + 2; rw [List.length_append, List.length_cons, List.length_nil]; omega, by have hq0 := of_decide_eq_false hc3; have hq1 := of_decide_eq_true hc10; have hq2 := of_decide_eq_false hc13; have hq3 := of_decide_eq_true hc20; have hq4 := of_decide_eq_true hc23; show i8 + 2 ≤ l.length; omega, h25⟩⟩
          ·
            rw [hc23]
            refine cond_false_rule (b := false) (by kernel_rfl) rfl ?_
            refine wp_skip ?_
            refine wp_seq ?_
            refine wp_seq ?_
            refine region_rule ?_
            refine ops_rule (C := []) [] F8 6 [] 0 (fun φ28 => [(46, .bool (decide ((IntKind.wrap .i64 (((i8 : Nat) : Int) + ((2 : Nat) : Int))) ≥ ((l.length : Nat) : Int)))), (45, .bool (decide ((IntKind.wrap .i64 (((i8 : Nat) : Int) + ((2 : Nat) : Int))) ≥ ((l.length : Nat) : Int)))), (44, .int .i64 ((l.length : Nat) : Int)), (43, .string ⟨(l).toArray⟩), (42, .int .i64 (IntKind.wrap .i64 (((i8 : Nat) : Int) + ((2 : Nat) : Int)))), (41, .int .i64 ((i8 : Nat) : Int))]) (fun φ28 => []) (fun φ28 => []) s trivial (fun φ28 => by kernel_rfl) ?_
            intro φ28 w28 s
            rw [nat_addI (a := i8) (b := 2) (by have hz0 := hi8_3; have hz1 := hi8_2; have hz2 := dgt_lt (l.getD (i8 + 1) 0).toNat; have hz3 := dgt_lt (l.getD (i8 + 2) 0).toNat;  have hq0 := of_decide_eq_false hc3; have hq1 := of_decide_eq_true hc10; have hq2 := of_decide_eq_false hc13; have hq3 := of_decide_eq_true hc20; have hq4 := of_decide_eq_false hc23; omega)]
            rw [nat_geq (a := (i8 + 2)) (b := l.length)]
            rcases Bool.eq_false_or_eq_true (decide (l.length ≤ (i8 + 2))) with hc29 | hc29
            ·
              rw [hc29]
              refine ops_rule (C := []) [] F8 15 [] 0 (fun φ30 => [(61, .bool true), (60, undef), (59, undef), (58, undef), (57, undef), (56, undef), (55, undef), (54, .bool true), (53, .bool true), (52, undef), (51, undef), (50, undef), (49, undef), (48, undef), (47, undef)]) (fun φ30 => []) (fun φ30 => []) s trivial (fun φ30 => by kernel_rfl) ?_
              intro φ30 w30 s
              refine ops_done (by kernel_rfl) ?_
              refine cond_true_rule (b := true) (by kernel_rfl) rfl ?_
              refine wp_seq ?_
              refine region_rule ?_
              refine ops_rule (C := []) [] F8 2 [] 0 (fun φ31 => [(3, .bool false), (2, .string ⟨#[]⟩)]) (fun φ31 => []) (fun φ31 => []) s trivial (fun φ31 => by kernel_rfl) ?_
              intro φ31 w31 s
              refine ops_done (by kernel_rfl) ?_
              refine wp_ret ?_
              refine ret_rule (C := []) [] F8 (.tuple #[.string ⟨#[]⟩, .bool false]) [] [] s trivial (by kernel_rfl) ?_
              exact ⟨_, _, _, rfl, s, (uq_val (ri_no (of_decide_eq_false hc3) hi8_1 (of_decide_eq_true hc10) (by have hq0 := of_decide_eq_false hc3; have hq1 := of_decide_eq_true hc10; have hq2 := of_decide_eq_false hc13; have hq3 := of_decide_eq_true hc20; have hq4 := of_decide_eq_false hc23; have hq5 := of_decide_eq_true hc29; omega) (by have hq0 := of_decide_eq_false hc3; have hq1 := of_decide_eq_true hc10; have hq2 := of_decide_eq_false hc13; have hq3 := of_decide_eq_true hc20; have hq4 := of_decide_eq_false hc23; have hq5 := of_decide_eq_true hc29; omega) (by have hq0 := of_decide_eq_false hc3; have hq1 := of_decide_eq_true hc10; have hq2 := of_decide_eq_false hc13; have hq3 := of_decide_eq_true hc20; have hq4 := of_decide_eq_false hc23; have hq5 := of_decide_eq_true hc29; omega)))⟩
            ·
              rw [hc29]
              refine ops_rule (C := []) [] F8 3 [] 0 (fun φ32 => [(49, .int .i64 (IntKind.wrap .i64 (((i8 : Nat) : Int) + ((1 : Nat) : Int)))), (48, .int .i64 ((i8 : Nat) : Int)), (47, .string ⟨(l).toArray⟩)]) (fun φ32 => []) (fun φ32 => []) s trivial (fun φ32 => by kernel_rfl) ?_
              intro φ32 w32 s
              rw [nat_addI (a := i8) (b := 1) (by have hz0 := hi8_3; have hz1 := hi8_2; have hz2 := dgt_lt (l.getD (i8 + 1) 0).toNat; have hz3 := dgt_lt (l.getD (i8 + 2) 0).toNat;  have hq0 := of_decide_eq_false hc3; have hq1 := of_decide_eq_true hc10; have hq2 := of_decide_eq_false hc13; have hq3 := of_decide_eq_true hc20; have hq4 := of_decide_eq_false hc23; have hq5 := of_decide_eq_false hc29; omega)]
              refine sem_rule (Instr.index 9 (.string ⟨(l).toArray⟩) (.int .i64 ((i8 + 1 : Nat) : Int))) (some 50) (.int .u8 (((l.getD (i8 + 1) 0).toNat : Nat) : Int)) (by kernel_rfl) (run_idxK (s := l) (i := i8 + 1) (by have hz0 := hi8_3; have hz1 := hi8_2; have hz2 := dgt_lt (l.getD (i8 + 1) 0).toNat; have hz3 := dgt_lt (l.getD (i8 + 2) 0).toNat;  have hq0 := of_decide_eq_false hc3; have hq1 := of_decide_eq_true hc10; have hq2 := of_decide_eq_false hc13; have hq3 := of_decide_eq_true hc20; have hq4 := of_decide_eq_false hc23; have hq5 := of_decide_eq_false hc29; omega)) ?_
              refine call_rule (some 51) s (dgt_c (c := (l.getD (i8 + 1) 0).toNat) (byte_lt _)) (by kernel_rfl) ?_
              intro v33 I33 w33 le33 h33 s
              replace hle7 := leMono le33 hle7
              obtain rfl := h33
              refine ops_rule (C := []) [] F8 3 [] 0 (fun φ34 => [(54, .bool (decide (((dgt ((l.getD (i8 + 1) 0).toNat) : Nat) : Int) > ((15 : Nat) : Int)))), (53, .bool (decide (((dgt ((l.getD (i8 + 1) 0).toNat) : Nat) : Int) > ((15 : Nat) : Int)))), (52, .bool (decide (((dgt ((l.getD (i8 + 1) 0).toNat) : Nat) : Int) > ((15 : Nat) : Int))))]) (fun φ34 => []) (fun φ34 => []) s trivial (fun φ34 => by kernel_rfl) ?_
              intro φ34 w34 s
              rw [nat_gtr (a := (dgt ((l.getD (i8 + 1) 0).toNat))) (b := 15)]
              rcases Bool.eq_false_or_eq_true (decide (15 < (dgt ((l.getD (i8 + 1) 0).toNat)))) with hc35 | hc35
              ·
                rw [hc35]
                refine ops_rule (C := []) [] F8 7 [] 0 (fun φ36 => [(61, .bool true), (60, undef), (59, undef), (58, undef), (57, undef), (56, undef), (55, undef)]) (fun φ36 => []) (fun φ36 => []) s trivial (fun φ36 => by kernel_rfl) ?_
                intro φ36 w36 s
                refine ops_done (by kernel_rfl) ?_
                refine cond_true_rule (b := true) (by kernel_rfl) rfl ?_
                refine wp_seq ?_
                refine region_rule ?_
                refine ops_rule (C := []) [] F8 2 [] 0 (fun φ37 => [(3, .bool false), (2, .string ⟨#[]⟩)]) (fun φ37 => []) (fun φ37 => []) s trivial (fun φ37 => by kernel_rfl) ?_
                intro φ37 w37 s
                refine ops_done (by kernel_rfl) ?_
                refine wp_ret ?_
                refine ret_rule (C := []) [] F8 (.tuple #[.string ⟨#[]⟩, .bool false]) [] [] s trivial (by kernel_rfl) ?_
                exact ⟨_, _, _, rfl, s, (uq_val (ri_no (of_decide_eq_false hc3) hi8_1 (of_decide_eq_true hc10) (by have hq0 := of_decide_eq_false hc3; have hq1 := of_decide_eq_true hc10; have hq2 := of_decide_eq_false hc13; have hq3 := of_decide_eq_true hc20; have hq4 := of_decide_eq_false hc23; have hq5 := of_decide_eq_false hc29; have hq6 := of_decide_eq_true hc35; omega) (by have hq0 := of_decide_eq_false hc3; have hq1 := of_decide_eq_true hc10; have hq2 := of_decide_eq_false hc13; have hq3 := of_decide_eq_true hc20; have hq4 := of_decide_eq_false hc23; have hq5 := of_decide_eq_false hc29; have hq6 := of_decide_eq_true hc35; omega) (by have hq0 := of_decide_eq_false hc3; have hq1 := of_decide_eq_true hc10; have hq2 := of_decide_eq_false hc13; have hq3 := of_decide_eq_true hc20; have hq4 := of_decide_eq_false hc23; have hq5 := of_decide_eq_false hc29; have hq6 := of_decide_eq_true hc35; omega)))⟩
              ·
                rw [hc35]
                refine ops_rule (C := []) [] F8 3 [] 0 (fun φ38 => [(57, .int .i64 (IntKind.wrap .i64 (((i8 : Nat) : Int) + ((2 : Nat) : Int)))), (56, .int .i64 ((i8 : Nat) : Int)), (55, .string ⟨(l).toArray⟩)]) (fun φ38 => []) (fun φ38 => []) s trivial (fun φ38 => by kernel_rfl) ?_
                intro φ38 w38 s
                rw [nat_addI (a := i8) (b := 2) (by have hz0 := hi8_3; have hz1 := hi8_2; have hz2 := dgt_lt (l.getD (i8 + 1) 0).toNat; have hz3 := dgt_lt (l.getD (i8 + 2) 0).toNat;  have hq0 := of_decide_eq_false hc3; have hq1 := of_decide_eq_true hc10; have hq2 := of_decide_eq_false hc13; have hq3 := of_decide_eq_true hc20; have hq4 := of_decide_eq_false hc23; have hq5 := of_decide_eq_false hc29; have hq6 := of_decide_eq_false hc35; omega)]
                refine sem_rule (Instr.index 9 (.string ⟨(l).toArray⟩) (.int .i64 ((i8 + 2 : Nat) : Int))) (some 58) (.int .u8 (((l.getD (i8 + 2) 0).toNat : Nat) : Int)) (by kernel_rfl) (run_idxK (s := l) (i := i8 + 2) (by have hz0 := hi8_3; have hz1 := hi8_2; have hz2 := dgt_lt (l.getD (i8 + 1) 0).toNat; have hz3 := dgt_lt (l.getD (i8 + 2) 0).toNat;  have hq0 := of_decide_eq_false hc3; have hq1 := of_decide_eq_true hc10; have hq2 := of_decide_eq_false hc13; have hq3 := of_decide_eq_true hc20; have hq4 := of_decide_eq_false hc23; have hq5 := of_decide_eq_false hc29; have hq6 := of_decide_eq_false hc35; omega)) ?_
                refine call_rule (some 59) s (dgt_c (c := (l.getD (i8 + 2) 0).toNat) (byte_lt _)) (by kernel_rfl) ?_
                intro v39 I39 w39 le39 h39 s
                replace hle7 := leMono le39 hle7
                obtain rfl := h39
                refine ops_rule (C := []) [] F8 2 [] 0 (fun φ40 => [(61, .bool (decide (((dgt ((l.getD (i8 + 2) 0).toNat) : Nat) : Int) > ((15 : Nat) : Int)))), (60, .bool (decide (((dgt ((l.getD (i8 + 2) 0).toNat) : Nat) : Int) > ((15 : Nat) : Int))))]) (fun φ40 => []) (fun φ40 => []) s trivial (fun φ40 => by kernel_rfl) ?_
                intro φ40 w40 s
                rw [nat_gtr (a := (dgt ((l.getD (i8 + 2) 0).toNat))) (b := 15)]
                refine ops_done (by kernel_rfl) ?_
                rcases Bool.eq_false_or_eq_true (decide (15 < (dgt ((l.getD (i8 + 2) 0).toNat)))) with hc41 | hc41
                ·
                  rw [hc41]
                  refine cond_true_rule (b := true) (by kernel_rfl) rfl ?_
                  refine wp_seq ?_
                  refine region_rule ?_
                  refine ops_rule (C := []) [] F8 2 [] 0 (fun φ42 => [(3, .bool false), (2, .string ⟨#[]⟩)]) (fun φ42 => []) (fun φ42 => []) s trivial (fun φ42 => by kernel_rfl) ?_
                  intro φ42 w42 s
                  refine ops_done (by kernel_rfl) ?_
                  refine wp_ret ?_
                  refine ret_rule (C := []) [] F8 (.tuple #[.string ⟨#[]⟩, .bool false]) [] [] s trivial (by kernel_rfl) ?_
                  exact ⟨_, _, _, rfl, s, (uq_val (ri_no (of_decide_eq_false hc3) hi8_1 (of_decide_eq_true hc10) (by have hq0 := of_decide_eq_false hc3; have hq1 := of_decide_eq_true hc10; have hq2 := of_decide_eq_false hc13; have hq3 := of_decide_eq_true hc20; have hq4 := of_decide_eq_false hc23; have hq5 := of_decide_eq_false hc29; have hq6 := of_decide_eq_false hc35; have hq7 := of_decide_eq_true hc41; omega) (by have hq0 := of_decide_eq_false hc3; have hq1 := of_decide_eq_true hc10; have hq2 := of_decide_eq_false hc13; have hq3 := of_decide_eq_true hc20; have hq4 := of_decide_eq_false hc23; have hq5 := of_decide_eq_false hc29; have hq6 := of_decide_eq_false hc35; have hq7 := of_decide_eq_true hc41; omega) (by have hq0 := of_decide_eq_false hc3; have hq1 := of_decide_eq_true hc10; have hq2 := of_decide_eq_false hc13; have hq3 := of_decide_eq_true hc20; have hq4 := of_decide_eq_false hc23; have hq5 := of_decide_eq_false hc29; have hq6 := of_decide_eq_false hc35; have hq7 := of_decide_eq_true hc41; omega)))⟩
                ·
                  rw [hc41]
                  refine cond_false_rule (b := false) (by kernel_rfl) rfl ?_
                  refine wp_skip ?_
                  refine wp_seq ?_
                  refine drawF_rule (C := []) ⟨(fun φ43 xs43 => [.look 0 [] [], .look 0 [] [], .look 0 [] [], .sub 0 [] [] (.int .i64 (IntKind.wrap .i64 (((i8 : Nat) : Int) + ((1 : Nat) : Int)))), .ran (Instr.index 9 (.string ⟨(l).toArray⟩) (.int .i64 ((i8 + 1 : Nat) : Int))), .call 64 #[.int .u8 (((l.getD (i8 + 1) 0).toNat : Nat) : Int)], .sub 0 [] [] (.int .u8 (IntKind.wrap .u8 (((16 : Nat) : Int) * ((dgt ((l.getD (i8 + 1) 0).toNat) : Nat) : Int)))), .look 0 [] [], .look 0 [] [], .sub 0 [] [] (.int .i64 (IntKind.wrap .i64 (((i8 : Nat) : Int) + ((2 : Nat) : Int)))), .ran (Instr.index 9 (.string ⟨(l).toArray⟩) (.int .i64 ((i8 + 2 : Nat) : Int))), .call 64 #[.int .u8 (((l.getD (i8 + 2) 0).toNat : Nat) : Int)], .sub 0 [] [] (.int .u8 (IntKind.wrap .u8 (((16 * (dgt ((l.getD (i8 + 1) 0).toNat)) : Nat) : Int) + ((dgt ((l.getD (i8 + 2) 0).toNat) : Nat) : Int)))), .new, .row 0 (Builtin.append_ #[22, 22] 22 #[v8, .slice (some ⟨(φ43 13), 0, none⟩) 1 1]), .look 0 [] []]), (fun φ43 xs43 => [v8, .string ⟨(l).toArray⟩, .int .i64 ((i8 : Nat) : Int), .int .i64 ((i8 + 1 : Nat) : Int), .int .u8 (((l.getD (i8 + 1) 0).toNat : Nat) : Int), .int .u8 ((dgt ((l.getD (i8 + 1) 0).toNat) : Nat) : Int), .int .u8 ((16 * (dgt ((l.getD (i8 + 1) 0).toNat)) : Nat) : Int), .string ⟨(l).toArray⟩, .int .i64 ((i8 : Nat) : Int), .int .i64 ((i8 + 2 : Nat) : Int), .int .u8 (((l.getD (i8 + 2) 0).toNat : Nat) : Int), .int .u8 ((dgt ((l.getD (i8 + 2) 0).toNat) : Nat) : Int), .int .u8 (((16 * (dgt ((l.getD (i8 + 1) 0).toNat))) + (dgt ((l.getD (i8 + 2) 0).toNat)) : Nat) : Int), .slice (some ⟨(φ43 13), 0, none⟩) 1 1, .slice (some ⟨(xs43 14).n 0, 0, none⟩) (o8.length + 1) ((xs43 14).n 1), .slice (some ⟨(xs43 14).n 0, 0, none⟩) (o8.length + 1) ((xs43 14).n 1)]), (fun φ43 xs43 => [[]]), (fun φ43 xs43 => [[default, default, default, default, default, default, default, default, default, default, default, default, default, .cells #[.int .u8 (((16 * (dgt ((l.getD (i8 + 1) 0).toNat))) + (dgt ((l.getD (i8 + 2) 0).toNat)) : Nat) : Int)] 5, default, default]]), [], [1, 1, 1, 5, 6, 3, 5, 1, 1, 5, 6, 3, 5, 2, 7, 1]⟩ (fun j => ([MP.any, MP.any, MP.any, MP.any, MP.any, MP.any, MP.any, MP.any, MP.any, MP.any, MP.any, MP.any, MP.any, MP.any, MP.any, MP.any] : List MP).getD j MP.any) 14 F8 (fun x F => RowH 5 1 (.slice (some ⟨x.n 0, 0, none⟩) (o8.length + 1) (x.n 1)) (o8.length + 1) ((o8.map bV) ++ [.int .u8 (((16 * (dgt ((l.getD (i8 + 1) 0).toNat))) + (dgt ((l.getD (i8 + 2) 0).toNat)) : Nat) : Int)]) F) [5, 11] [3, 6, 9, 12] [4, 10] 0 (fun φ43 xs43 => [((φ43 13), .cells #[.int .u8 (((16 * (dgt ((l.getD (i8 + 1) 0).toNat))) + (dgt ((l.getD (i8 + 2) 0).toNat)) : Nat) : Int)] 5)]) (fun φ43 xs43 => (Builtin.append_ #[22, 22] 22 #[v8, .slice (some ⟨(φ43 13), 0, none⟩) 1 1] : Sem Value)) (fun φ43 xs43 => []) (fun φ43 xs43 => [(62, v8), (63, .string ⟨(l).toArray⟩), (64, .int .i64 ((i8 : Nat) : Int)), (65, .int .i64 ((i8 + 1 : Nat) : Int)), (66, .int .u8 (((l.getD (i8 + 1) 0).toNat : Nat) : Int)), (67, .int .u8 ((dgt ((l.getD (i8 + 1) 0).toNat) : Nat) : Int)), (68, .int .u8 ((16 * (dgt ((l.getD (i8 + 1) 0).toNat)) : Nat) : Int)), (69, .string ⟨(l).toArray⟩), (70, .int .i64 ((i8 : Nat) : Int)), (71, .int .i64 ((i8 + 2 : Nat) : Int)), (72, .int .u8 (((l.getD (i8 + 2) 0).toNat : Nat) : Int)), (73, .int .u8 ((dgt ((l.getD (i8 + 2) 0).toNat) : Nat) : Int)), (74, .int .u8 (((16 * (dgt ((l.getD (i8 + 1) 0).toNat))) + (dgt ((l.getD (i8 + 2) 0).toNat)) : Nat) : Int)), (75, .slice (some ⟨(φ43 13), 0, none⟩) 1 1), (76, .slice (some ⟨(xs43 14).n 0, 0, none⟩) (o8.length + 1) ((xs43 14).n 1)), (4, .slice (some ⟨(xs43 14).n 0, 0, none⟩) (o8.length + 1) ((xs43 14).n 1))]) (fun φ43 xs43 => [((φ43 13), .cells #[.int .u8 (((16 * (dgt ((l.getD (i8 + 1) 0).toNat))) + (dgt ((l.getD (i8 + 2) 0).toNat)) : Nat) : Int)] 5)]) (by decide) s trivial (by kernel_rfl) (by kernel_rfl) (fun _ _ => by kernel_rfl) (fun _ _ => by kernel_rfl) ⟨fun _ _ => by kernel_rfl, fun _ _ => by kernel_rfl, fun _ _ => by kernel_rfl, fun _ _ => by kernel_rfl⟩ (fun _ _ _ => by kernel_rfl) (fun _ _ => by kernel_rfl) (fun _ _ => by kernel_rfl) (fun _ _ => by kernel_rfl) (fun _ _ => by kernel_rfl) (fun _ _ => by kernel_rfl) ⟨kcast (A := ∀ (φ43 : Nat → Nat) (xs43 : Xs), (.int .i64 (IntKind.wrap .i64 (((i8 : Nat) : Int) + ((1 : Nat) : Int))) : Value) = .int .i64 ((i8 + 1 : Nat) : Int)) (by kernel_rfl) (fun φ43 xs43 => congrArg (Value.int .i64) ((nat_addI (a := i8) (b := 1) (by have hz0 := hi8_3; have hz1 := hi8_2; have hz2 := dgt_lt (l.getD (i8 + 1) 0).toNat; have hz3 := dgt_lt (l.getD (i8 + 2) 0).toNat;  have hq0 := of_decide_eq_false hc3; have hq1 := of_decide_eq_true hc10; have hq2 := of_decide_eq_false hc13; have hq3 := of_decide_eq_true hc20; have hq4 := of_decide_eq_false hc23; have hq5 := of_decide_eq_false hc29; have hq6 := of_decide_eq_false hc35; have hq7 := of_decide_eq_false hc41; omega)))), ⟨kcast (A := ∀ (φ43 : Nat → Nat) (xs43 : Xs), (.int .u8 (IntKind.wrap .u8 (((16 : Nat) : Int) * ((dgt ((l.getD (i8 + 1) 0).toNat) : Nat) : Int))) : Value) = .int .u8 ((16 * (dgt ((l.getD (i8 + 1) 0).toNat)) : Nat) : Int)) (by kernel_rfl) (fun φ43 xs43 => congrArg (Value.int .u8) ((nat_mulu8 (a := 16) (b := (dgt ((l.getD (i8 + 1) 0).toNat))) (by have hz0 := hi8_3; have hz1 := hi8_2; have hz2 := dgt_lt (l.getD (i8 + 1) 0).toNat; have hz3 := dgt_lt (l.getD (i8 + 2) 0).toNat;  have := byte_lt (l.getD (i8 + 1) 0); have hq0 := of_decide_eq_false hc3; have hq1 := of_decide_eq_true hc10; have hq2 := of_decide_eq_false hc13; have hq3 := of_decide_eq_true hc20; have hq4 := of_decide_eq_false hc23; have hq5 := of_decide_eq_false hc29; have hq6 := of_decide_eq_false hc35; have hq7 := of_decide_eq_false hc41; omega)))), ⟨kcast (A := ∀ (φ43 : Nat → Nat) (xs43 : Xs), (.int .i64 (IntKind.wrap .i64 (((i8 : Nat) : Int) + ((2 : Nat) : Int))) : Value) = .int .i64 ((i8 + 2 : Nat) : Int)) (by kernel_rfl) (fun φ43 xs43 => congrArg (Value.int .i64) ((nat_addI (a := i8) (b := 2) (by have hz0 := hi8_3; have hz1 := hi8_2; have hz2 := dgt_lt (l.getD (i8 + 1) 0).toNat; have hz3 := dgt_lt (l.getD (i8 + 2) 0).toNat;  have hq0 := of_decide_eq_false hc3; have hq1 := of_decide_eq_true hc10; have hq2 := of_decide_eq_false hc13; have hq3 := of_decide_eq_true hc20; have hq4 := of_decide_eq_false hc23; have hq5 := of_decide_eq_false hc29; have hq6 := of_decide_eq_false hc35; have hq7 := of_decide_eq_false hc41; omega)))), ⟨kcast (A := ∀ (φ43 : Nat → Nat) (xs43 : Xs), (.int .u8 (IntKind.wrap .u8 (((16 * (dgt ((l.getD (i8 + 1) 0).toNat)) : Nat) : Int) + ((dgt ((l.getD (i8 + 2) 0).toNat) : Nat) : Int))) : Value) = .int .u8 (((16 * (dgt ((l.getD (i8 + 1) 0).toNat))) + (dgt ((l.getD (i8 + 2) 0).toNat)) : Nat) : Int)) (by kernel_rfl) (fun φ43 xs43 => congrArg (Value.int .u8) ((nat_addu8 (a := (16 * (dgt ((l.getD (i8 + 1) 0).toNat)))) (b := (dgt ((l.getD (i8 + 2) 0).toNat))) (by have hz0 := hi8_3; have hz1 := hi8_2; have hz2 := dgt_lt (l.getD (i8 + 1) 0).toNat; have hz3 := dgt_lt (l.getD (i8 + 2) 0).toNat;  have := byte_lt (l.getD (i8 + 1) 0); have := byte_lt (l.getD (i8 + 2) 0); have hq0 := of_decide_eq_false hc3; have hq1 := of_decide_eq_true hc10; have hq2 := of_decide_eq_false hc13; have hq3 := of_decide_eq_true hc20; have hq4 := of_decide_eq_false hc23; have hq5 := of_decide_eq_false hc29; have hq6 := of_decide_eq_false hc35; have hq7 := of_decide_eq_false hc41; omega)))), trivial⟩⟩⟩⟩ ⟨kcast (A := ∀ (φ43 : Nat → Nat) (xs43 : Xs) (J : IM) (w : World), I39.Le J → J.Sub w → ((Instr.index 9 (.string ⟨(l).toArray⟩) (.int .i64 ((i8 + 1 : Nat) : Int))) : Sem Value).run Tryd.prog w = .ok (.int .u8 (((l.getD (i8 + 1) 0).toNat : Nat) : Int)) w) (by kernel_rfl) (fun φ43 xs43 J w hJ hS => run_idxK (s := l) (i := i8 + 1) (by have hz0 := hi8_3; have hz1 := hi8_2; have hz2 := dgt_lt (l.getD (i8 + 1) 0).toNat; have hz3 := dgt_lt (l.getD (i8 + 2) 0).toNat;  have hq0 := of_decide_eq_false hc3; have hq1 := of_decide_eq_true hc10; have hq2 := of_decide_eq_false hc13; have hq3 := of_decide_eq_true hc20; have hq4 := of_decide_eq_false hc23; have hq5 := of_decide_eq_false hc29; have hq6 := of_decide_eq_false hc35; have hq7 := of_decide_eq_false hc41; omega)), ⟨kcast (A := ∀ (φ43 : Nat → Nat) (xs43 : Xs) (J : IM) (w : World), I39.Le J → J.Sub w → ((Instr.index 9 (.string ⟨(l).toArray⟩) (.int .i64 ((i8 + 2 : Nat) : Int))) : Sem Value).run Tryd.prog w = .ok (.int .u8 (((l.getD (i8 + 2) 0).toNat : Nat) : Int)) w) (by kernel_rfl) (fun φ43 xs43 J w hJ hS => run_idxK (s := l) (i := i8 + 2) (by have hz0 := hi8_3; have hz1 := hi8_2; have hz2 := dgt_lt (l.getD (i8 + 1) 0).toNat; have hz3 := dgt_lt (l.getD (i8 + 2) 0).toNat;  have hq0 := of_decide_eq_false hc3; have hq1 := of_decide_eq_true hc10; have hq2 := of_decide_eq_false hc13; have hq3 := of_decide_eq_true hc20; have hq4 := of_decide_eq_false hc23; have hq5 := of_decide_eq_false hc29; have hq6 := of_decide_eq_false hc35; have hq7 := of_decide_eq_false hc41; omega)), trivial⟩⟩ (by kernel_rfl) (fun _ _ => by kernel_rfl) (fun _ _ => by kernel_rfl) ?row43 ⟨?c43_5, ?c43_11, trivial⟩ ?k43
                  case c43_5 =>
                    refine kcast (A := ∀ (φ43 : Nat → Nat) (xs43 : Xs) (J5_43 : IM), I39.Le J5_43 → Fun Tryd.prog 64 #[.int .u8 (((l.getD (i8 + 1) 0).toNat : Nat) : Int)] J5_43 (fun v J' => ∃ x : UX, v = .int .u8 ((dgt ((l.getD (i8 + 1) 0).toNat) : Nat) : Int) ∧ (True))) (by kernel_rfl) ?_
                    intro φ43 xs43 J5_43 leJ
                    exact Fun.mono (dgt_c (c := (l.getD (i8 + 1) 0).toNat) (byte_lt _)) (fun v J' _ h => ⟨UX.d, h, trivial⟩)
                  case c43_11 =>
                    refine kcast (A := ∀ (φ43 : Nat → Nat) (xs43 : Xs) (J11_43 : IM), I39.Le J11_43 → (True) → Fun Tryd.prog 64 #[.int .u8 (((l.getD (i8 + 2) 0).toNat : Nat) : Int)] J11_43 (fun v J' => ∃ x : UX, v = .int .u8 ((dgt ((l.getD (i8 + 2) 0).toNat) : Nat) : Int) ∧ (True))) (by kernel_rfl) ?_
                    intro φ43 xs43 J11_43 leJ
                    rintro _
                    exact Fun.mono (dgt_c (c := (l.getD (i8 + 2) 0).toNat) (byte_lt _)) (fun v J' _ h => ⟨UX.d, h, trivial⟩)
                  case row43 =>
                    refine kcast (A := ∀ (φ43 : Nat → Nat) (xs43 : Xs) (J : IM) (wz : World) (H2 : List OB), I39.Le J → (True) → (True) → (St w I [] J wz (([((φ43 13), .cells #[.int .u8 (((16 * (dgt ((l.getD (i8 + 1) 0).toNat))) + (dgt ((l.getD (i8 + 2) 0).toNat)) : Nat) : Int)] 5)] ++ H2) ++ F8)) → ∃ (x : UX) (J' : IM) (w' : World) (F' : List OB), ((Builtin.append_ #[22, 22] 22 #[v8, .slice (some ⟨(φ43 13), 0, none⟩) 1 1]) : Sem Value).run Tryd.prog wz = .ok (.slice (some ⟨x.n 0, 0, none⟩) (o8.length + 1) (x.n 1)) w' ∧ J.Le J' ∧ St w I [] J' w' (([((φ43 13), .cells #[.int .u8 (((16 * (dgt ((l.getD (i8 + 1) 0).toNat))) + (dgt ((l.getD (i8 + 2) 0).toNat)) : Nat) : Int)] 5)] ++ H2) ++ F') ∧ RowH 5 1 (.slice (some ⟨x.n 0, 0, none⟩) (o8.length + 1) (x.n 1)) (o8.length + 1) ((o8.map bV) ++ [.int .u8 (((16 * (dgt ((l.getD (i8 + 1) 0).toNat))) + (dgt ((l.getD (i8 + 2) 0).toNat)) : Nat) : Int)]) F') (by kernel_rfl) ?_
                    intro φ43 xs43 J wz H2 leJ 
                    rintro _ _
                    intro s9
                    obtain ⟨g9, cap9, w9, F9, hr9, s9, row9⟩ := append_rowS (H := [((φ43 13), .cells #[.int .u8 (((16 * (dgt ((l.getD (i8 + 1) 0).toNat))) + (dgt ((l.getD (i8 + 2) 0).toNat)) : Nat) : Int)] 5)] ++ H2) s9 22 22 22 5 Tryd.t5 (.int .u8 0) 1 1 Tryd.underlying22 (by kernel_rfl) (by kernel_rfl) (by kernel_rfl) (by kernel_rfl) (by kernel_rfl) (by decide) hi8_4 (src_own s9 0 (φ43 13) #[.int .u8 (((16 * (dgt ((l.getD (i8 + 1) 0).toNat))) + (dgt ((l.getD (i8 + 2) 0).toNat)) : Nat) : Int)] 5 22 5 1 1 1 [.int .u8 (((16 * (dgt ((l.getD (i8 + 1) 0).toNat))) + (dgt ((l.getD (i8 + 2) 0).toNat)) : Nat) : Int)] (by kernel_rfl) Tryd.underlying22 (by kernel_rfl) (by kernel_rfl) (by kernel_rfl)) (by simp only [maxLen]; omega) (by omega) (by omega)
                    exact ⟨{ UX.d with n := fun j => cond (Nat.beq j 0) g9 cap9 }, J, w9, F9, hr9, IM.Le.refl J, s9, row9⟩
                  case k43 =>
                    rintro φ43 xs43 I43 w43 F43 le43 s hrw43 _ _
                    replace hle7 := leMono le43 hle7
                    refine region_rule ?_
                    refine ops_rule (C := []) [((φ43 13), .cells #[.int .u8 (((16 * (dgt ((l.getD (i8 + 1) 0).toNat))) + (dgt ((l.getD (i8 + 2) 0).toNat)) : Nat) : Int)] 5)] F43 3 [] 0 (fun φ44 => [(5, .int .i64 (IntKind.wrap .i64 (((i8 : Nat) : Int) + ((3 : Nat) : Int)))), (78, .int .i64 (IntKind.wrap .i64 (((i8 : Nat) : Int) + ((3 : Nat) : Int)))), (77, .int .i64 ((i8 : Nat) : Int))]) (fun φ44 => [((φ43 13), .cells #[.int .u8 (((16 * (dgt ((l.getD (i8 + 1) 0).toNat))) + (dgt ((l.getD (i8 + 2) 0).toNat)) : Nat) : Int)] 5)]) (fun φ44 => []) s trivial (fun φ44 => by kernel_rfl) ?_
                    intro φ44 w44 s
                    rw [nat_addI (a := i8) (b := 3) (by have hz0 := hi8_3; have hz1 := hi8_2; have hz2 := dgt_lt (l.getD (i8 + 1) 0).toNat; have hz3 := dgt_lt (l.getD (i8 + 2) 0).toNat;  have hq0 := of_decide_eq_false hc3; have hq1 := of_decide_eq_true hc10; have hq2 := of_decide_eq_false hc13; have hq3 := of_decide_eq_true hc20; have hq4 := of_decide_eq_false hc23; have hq5 := of_decide_eq_false hc29; have hq6 := of_decide_eq_false hc35; have hq7 := of_decide_eq_false hc41; omega)]
                    refine ops_done (by kernel_rfl) ?_
                    have hrw9 := row_snoc (x := o8) (y := ([UInt8.ofNat (16 * (dgt ((l.getD (i8 + 1) 0).toNat)) + (dgt ((l.getD (i8 + 2) 0).toNat)))] : List UInt8)) hrw43 (by simp only [List.map_cons, List.map_nil]; exact cells_bytes1 (by have hq0 := of_decide_eq_false hc3; have hq1 := of_decide_eq_true hc10; have hq2 := of_decide_eq_false hc13; have hq3 := of_decide_eq_true hc20; have hq4 := of_decide_eq_false hc23; have hq5 := of_decide_eq_false hc29; have hq6 := of_decide_eq_false hc35; have hq7 := of_decide_eq_false hc41; omega))
                    exact ⟨⟨m8 - 1, (i8 + 3, (o8 ++ [UInt8.ofNat (16 * (dgt ((l.getD (i8 + 1) 0).toNat)) + (dgt ((l.getD (i8 + 2) 0).toNat)))]), .slice (some ⟨(xs43 14).n 0, 0, none⟩) (o8.length + 1) ((xs43 14).n 1), F43), _, _, _, by have hq0 := of_decide_eq_false hc3; have hq1 := of_decide_eq_true hc10; have hq2 := of_decide_eq_false hc13; have hq3 := of_decide_eq_true hc20; have hq4 := of_decide_eq_false hc23; have hq5 := of_decide_eq_false hc29; have hq6 := of_decide_eq_false hc35; have hq7 := of_decide_eq_false hc41; omega, rfl, s, (List.Sublist.append (List.Sublist.cons _ List.Sublist.slnil) (List.Sublist.refl _)), by kernel_rfl, hle7, by have hq0 := of_decide_eq_false hc3; have hq1 := of_decide_eq_true hc10; have hq2 := of_decide_eq_false hc13; have hq3 := of_decide_eq_true hc20; have hq4 := of_decide_eq_false hc23; have hq5 := of_decide_eq_false hc29; have hq6 := of_decide_eq_false hc35; have hq7 := of_decide_eq_false hc41; have h6 := hi8_0; show l.length ≤ i8 + 3 + (m8 - 1); omega, ri_3 hi8_1 (by have hq0 := of_decide_eq_false hc3; have hq1 := of_decide_eq_true hc10; have hq2 := of_decide_eq_false hc13; have hq3 := of_decide_eq_true hc20; have hq4 := of_decide_eq_false hc23; have hq5 := of_decide_eq_false hc29; have hq6 := of_decide_eq_false hc35; have hq7 := of_decide_eq_false hc41; omega) (by have hq0 := of_decide_eq_false hc3; have hq1 := of_decide_eq_true hc10; have hq2 := of_decide_eq_false hc13; have hq3 := of_decide_eq_true hc20; have hq4 := of_decide_eq_false hc23; have hq5 := of_decide_eq_false hc29; have hq6 := of_decide_eq_false hc35; have hq7 := of_decide_eq_false hc41; omega) (by have hq0 := of_decide_eq_false hc3; have hq1 := of_decide_eq_true hc10; have hq2 := of_decide_eq_false hc13; have hq3 := of_decide_eq_true hc20; have hq4 := of_decide_eq_false hc23; have hq5 := of_decide_eq_false hc29; have hq6 := of_decide_eq_false hc35; have hq7 := of_decide_eq_false hc41; omega), by have h6 := hi8_2; show ((o8 ++ [UInt8.ofNat (16 * (dgt ((l.getD (i8 + 1) 0).toNat)) + (dgt ((l.getD (i8 + 2) 0).toNat)))])).length ≤ i8 + 3; rw [List.length_append, List.length_cons, List.length_nil]; omega, by have hq0 := of_decide_eq_false hc3; have hq1 := of_decide_eq_true hc10; have hq2 := of_decide_eq_false hc13; have hq3 := of_decide_eq_true hc20; have hq4 := of_decide_eq_false hc23; have hq5 := of_decide_eq_false hc29; have hq6 := of_decide_eq_false hc35; have hq7 := of_decide_eq_false hc41; show i8 + 3 ≤ l.length; omega, hrw9⟩⟩
        ·
          rw [hc20]
          refine ops_rule (C := []) [] F8 6 [] 0 (fun φ45 => [(35, .bool false), (34, undef), (33, undef), (32, undef), (31, undef), (30, undef)]) (fun φ45 => []) (fun φ45 => []) s trivial (fun φ45 => by kernel_rfl) ?_
          intro φ45 w45 s
          refine ops_done (by kernel_rfl) ?_
          refine cond_false_rule (b := false) (by kernel_rfl) rfl ?_
          refine wp_skip ?_
          refine wp_seq ?_
          refine wp_seq ?_
          refine region_rule ?_
          refine ops_rule (C := []) [] F8 6 [] 0 (fun φ46 => [(46, .bool (decide ((IntKind.wrap .i64 (((i8 : Nat) : Int) + ((2 : Nat) : Int))) ≥ ((l.length : Nat) : Int)))), (45, .bool (decide ((IntKind.wrap .i64 (((i8 : Nat) : Int) + ((2 : Nat) : Int))) ≥ ((l.length : Nat) : Int)))), (44, .int .i64 ((l.length : Nat) : Int)), (43, .string ⟨(l).toArray⟩), (42, .int .i64 (IntKind.wrap .i64 (((i8 : Nat) : Int) + ((2 : Nat) : Int)))), (41, .int .i64 ((i8 : Nat) : Int))]) (fun φ46 => []) (fun φ46 => []) s trivial (fun φ46 => by kernel_rfl) ?_
          intro φ46 w46 s
          rw [nat_addI (a := i8) (b := 2) (by have hz0 := hi8_3; have hz1 := hi8_2; have hz2 := dgt_lt (l.getD (i8 + 1) 0).toNat; have hz3 := dgt_lt (l.getD (i8 + 2) 0).toNat;  have hq0 := of_decide_eq_false hc3; have hq1 := of_decide_eq_true hc10; have hq2 := of_decide_eq_false hc13; have hq3 := of_decide_eq_false hc20; omega)]
          rw [nat_geq (a := (i8 + 2)) (b := l.length)]
          rcases Bool.eq_false_or_eq_true (decide (l.length ≤ (i8 + 2))) with hc47 | hc47
          ·
            rw [hc47]
            refine ops_rule (C := []) [] F8 15 [] 0 (fun φ48 => [(61, .bool true), (60, undef), (59, undef), (58, undef), (57, undef), (56, undef), (55, undef), (54, .bool true), (53, .bool true), (52, undef), (51, undef), (50, undef), (49, undef), (48, undef), (47, undef)]) (fun φ48 => []) (fun φ48 => []) s trivial (fun φ48 => by kernel_rfl) ?_
            intro φ48 w48 s
            refine ops_done (by kernel_rfl) ?_
            refine cond_true_rule (b := true) (by kernel_rfl) rfl ?_
            refine wp_seq ?_
            refine region_rule ?_
            refine ops_rule (C := []) [] F8 2 [] 0 (fun φ49 => [(3, .bool false), (2, .string ⟨#[]⟩)]) (fun φ49 => []) (fun φ49 => []) s trivial (fun φ49 => by kernel_rfl) ?_
            intro φ49 w49 s
            refine ops_done (by kernel_rfl) ?_
            refine wp_ret ?_
            refine ret_rule (C := []) [] F8 (.tuple #[.string ⟨#[]⟩, .bool false]) [] [] s trivial (by kernel_rfl) ?_
            exact ⟨_, _, _, rfl, s, (uq_val (ri_no (of_decide_eq_false hc3) hi8_1 (of_decide_eq_true hc10) (by have hq0 := of_decide_eq_false hc3; have hq1 := of_decide_eq_true hc10; have hq2 := of_decide_eq_false hc13; have hq3 := of_decide_eq_false hc20; have hq4 := of_decide_eq_true hc47; omega) (by have hq0 := of_decide_eq_false hc3; have hq1 := of_decide_eq_true hc10; have hq2 := of_decide_eq_false hc13; have hq3 := of_decide_eq_false hc20; have hq4 := of_decide_eq_true hc47; omega) (by have hq0 := of_decide_eq_false hc3; have hq1 := of_decide_eq_true hc10; have hq2 := of_decide_eq_false hc13; have hq3 := of_decide_eq_false hc20; have hq4 := of_decide_eq_true hc47; omega)))⟩
          ·
            rw [hc47]
            refine ops_rule (C := []) [] F8 3 [] 0 (fun φ50 => [(49, .int .i64 (IntKind.wrap .i64 (((i8 : Nat) : Int) + ((1 : Nat) : Int)))), (48, .int .i64 ((i8 : Nat) : Int)), (47, .string ⟨(l).toArray⟩)]) (fun φ50 => []) (fun φ50 => []) s trivial (fun φ50 => by kernel_rfl) ?_
            intro φ50 w50 s
            rw [nat_addI (a := i8) (b := 1) (by have hz0 := hi8_3; have hz1 := hi8_2; have hz2 := dgt_lt (l.getD (i8 + 1) 0).toNat; have hz3 := dgt_lt (l.getD (i8 + 2) 0).toNat;  have hq0 := of_decide_eq_false hc3; have hq1 := of_decide_eq_true hc10; have hq2 := of_decide_eq_false hc13; have hq3 := of_decide_eq_false hc20; have hq4 := of_decide_eq_false hc47; omega)]
            refine sem_rule (Instr.index 9 (.string ⟨(l).toArray⟩) (.int .i64 ((i8 + 1 : Nat) : Int))) (some 50) (.int .u8 (((l.getD (i8 + 1) 0).toNat : Nat) : Int)) (by kernel_rfl) (run_idxK (s := l) (i := i8 + 1) (by have hz0 := hi8_3; have hz1 := hi8_2; have hz2 := dgt_lt (l.getD (i8 + 1) 0).toNat; have hz3 := dgt_lt (l.getD (i8 + 2) 0).toNat;  have hq0 := of_decide_eq_false hc3; have hq1 := of_decide_eq_true hc10; have hq2 := of_decide_eq_false hc13; have hq3 := of_decide_eq_false hc20; have hq4 := of_decide_eq_false hc47; omega)) ?_
            refine call_rule (some 51) s (dgt_c (c := (l.getD (i8 + 1) 0).toNat) (byte_lt _)) (by kernel_rfl) ?_
            intro v51 I51 w51 le51 h51 s
            replace hle7 := leMono le51 hle7
            obtain rfl := h51
            refine ops_rule (C := []) [] F8 3 [] 0 (fun φ52 => [(54, .bool (decide (((dgt ((l.getD (i8 + 1) 0).toNat) : Nat) : Int) > ((15 : Nat) : Int)))), (53, .bool (decide (((dgt ((l.getD (i8 + 1) 0).toNat) : Nat) : Int) > ((15 : Nat) : Int)))), (52, .bool (decide (((dgt ((l.getD (i8 + 1) 0).toNat) : Nat) : Int) > ((15 : Nat) : Int))))]) (fun φ52 => []) (fun φ52 => []) s trivial (fun φ52 => by kernel_rfl) ?_
            intro φ52 w52 s
            rw [nat_gtr (a := (dgt ((l.getD (i8 + 1) 0).toNat))) (b := 15)]
            rcases Bool.eq_false_or_eq_true (decide (15 < (dgt ((l.getD (i8 + 1) 0).toNat)))) with hc53 | hc53
            ·
              rw [hc53]
              refine ops_rule (C := []) [] F8 7 [] 0 (fun φ54 => [(61, .bool true), (60, undef), (59, undef), (58, undef), (57, undef), (56, undef), (55, undef)]) (fun φ54 => []) (fun φ54 => []) s trivial (fun φ54 => by kernel_rfl) ?_
              intro φ54 w54 s
              refine ops_done (by kernel_rfl) ?_
              refine cond_true_rule (b := true) (by kernel_rfl) rfl ?_
              refine wp_seq ?_
              refine region_rule ?_
              refine ops_rule (C := []) [] F8 2 [] 0 (fun φ55 => [(3, .bool false), (2, .string ⟨#[]⟩)]) (fun φ55 => []) (fun φ55 => []) s trivial (fun φ55 => by kernel_rfl) ?_
              intro φ55 w55 s
              refine ops_done (by kernel_rfl) ?_
              refine wp_ret ?_
              refine ret_rule (C := []) [] F8 (.tuple #[.string ⟨#[]⟩, .bool false]) [] [] s trivial (by kernel_rfl) ?_
              exact ⟨_, _, _, rfl, s, (uq_val (ri_no (of_decide_eq_false hc3) hi8_1 (of_decide_eq_true hc10) (by have hq0 := of_decide_eq_false hc3; have hq1 := of_decide_eq_true hc10; have hq2 := of_decide_eq_false hc13; have hq3 := of_decide_eq_false hc20; have hq4 := of_decide_eq_false hc47; have hq5 := of_decide_eq_true hc53; omega) (by have hq0 := of_decide_eq_false hc3; have hq1 := of_decide_eq_true hc10; have hq2 := of_decide_eq_false hc13; have hq3 := of_decide_eq_false hc20; have hq4 := of_decide_eq_false hc47; have hq5 := of_decide_eq_true hc53; omega) (by have hq0 := of_decide_eq_false hc3; have hq1 := of_decide_eq_true hc10; have hq2 := of_decide_eq_false hc13; have hq3 := of_decide_eq_false hc20; have hq4 := of_decide_eq_false hc47; have hq5 := of_decide_eq_true hc53; omega)))⟩
            ·
              rw [hc53]
              refine ops_rule (C := []) [] F8 3 [] 0 (fun φ56 => [(57, .int .i64 (IntKind.wrap .i64 (((i8 : Nat) : Int) + ((2 : Nat) : Int)))), (56, .int .i64 ((i8 : Nat) : Int)), (55, .string ⟨(l).toArray⟩)]) (fun φ56 => []) (fun φ56 => []) s trivial (fun φ56 => by kernel_rfl) ?_
              intro φ56 w56 s
              rw [nat_addI (a := i8) (b := 2) (by have hz0 := hi8_3; have hz1 := hi8_2; have hz2 := dgt_lt (l.getD (i8 + 1) 0).toNat; have hz3 := dgt_lt (l.getD (i8 + 2) 0).toNat;  have hq0 := of_decide_eq_false hc3; have hq1 := of_decide_eq_true hc10; have hq2 := of_decide_eq_false hc13; have hq3 := of_decide_eq_false hc20; have hq4 := of_decide_eq_false hc47; have hq5 := of_decide_eq_false hc53; omega)]
              refine sem_rule (Instr.index 9 (.string ⟨(l).toArray⟩) (.int .i64 ((i8 + 2 : Nat) : Int))) (some 58) (.int .u8 (((l.getD (i8 + 2) 0).toNat : Nat) : Int)) (by kernel_rfl) (run_idxK (s := l) (i := i8 + 2) (by have hz0 := hi8_3; have hz1 := hi8_2; have hz2 := dgt_lt (l.getD (i8 + 1) 0).toNat; have hz3 := dgt_lt (l.getD (i8 + 2) 0).toNat;  have hq0 := of_decide_eq_false hc3; have hq1 := of_decide_eq_true hc10; have hq2 := of_decide_eq_false hc13; have hq3 := of_decide_eq_false hc20; have hq4 := of_decide_eq_false hc47; have hq5 := of_decide_eq_false hc53; omega)) ?_
              refine call_rule (some 59) s (dgt_c (c := (l.getD (i8 + 2) 0).toNat) (byte_lt _)) (by kernel_rfl) ?_
              intro v57 I57 w57 le57 h57 s
              replace hle7 := leMono le57 hle7
              obtain rfl := h57
              refine ops_rule (C := []) [] F8 2 [] 0 (fun φ58 => [(61, .bool (decide (((dgt ((l.getD (i8 + 2) 0).toNat) : Nat) : Int) > ((15 : Nat) : Int)))), (60, .bool (decide (((dgt ((l.getD (i8 + 2) 0).toNat) : Nat) : Int) > ((15 : Nat) : Int))))]) (fun φ58 => []) (fun φ58 => []) s trivial (fun φ58 => by kernel_rfl) ?_
              intro φ58 w58 s
              rw [nat_gtr (a := (dgt ((l.getD (i8 + 2) 0).toNat))) (b := 15)]
              refine ops_done (by kernel_rfl) ?_
              rcases Bool.eq_false_or_eq_true (decide (15 < (dgt ((l.getD (i8 + 2) 0).toNat)))) with hc59 | hc59
              ·
                rw [hc59]
                refine cond_true_rule (b := true) (by kernel_rfl) rfl ?_
                refine wp_seq ?_
                refine region_rule ?_
                refine ops_rule (C := []) [] F8 2 [] 0 (fun φ60 => [(3, .bool false), (2, .string ⟨#[]⟩)]) (fun φ60 => []) (fun φ60 => []) s trivial (fun φ60 => by kernel_rfl) ?_
                intro φ60 w60 s
                refine ops_done (by kernel_rfl) ?_
                refine wp_ret ?_
                refine ret_rule (C := []) [] F8 (.tuple #[.string ⟨#[]⟩, .bool false]) [] [] s trivial (by kernel_rfl) ?_
                exact ⟨_, _, _, rfl, s, (uq_val (ri_no (of_decide_eq_false hc3) hi8_1 (of_decide_eq_true hc10) (by have hq0 := of_decide_eq_false hc3; have hq1 := of_decide_eq_true hc10; have hq2 := of_decide_eq_false hc13; have hq3 := of_decide_eq_false hc20; have hq4 := of_decide_eq_false hc47; have hq5 := of_decide_eq_false hc53; have hq6 := of_decide_eq_true hc59; omega) (by have hq0 := of_decide_eq_false hc3; have hq1 := of_decide_eq_true hc10; have hq2 := of_decide_eq_false hc13; have hq3 := of_decide_eq_false hc20; have hq4 := of_decide_eq_false hc47; have hq5 := of_decide_eq_false hc53; have hq6 := of_decide_eq_true hc59; omega) (by have hq0 := of_decide_eq_false hc3; have hq1 := of_decide_eq_true hc10; have hq2 := of_decide_eq_false hc13; have hq3 := of_decide_eq_false hc20; have hq4 := of_decide_eq_false hc47; have hq5 := of_decide_eq_false hc53; have hq6 := of_decide_eq_true hc59; omega)))⟩
              ·
                rw [hc59]
                refine cond_false_rule (b := false) (by kernel_rfl) rfl ?_
                refine wp_skip ?_
                refine wp_seq ?_
                refine drawF_rule (C := []) ⟨(fun φ61 xs61 => [.look 0 [] [], .look 0 [] [], .look 0 [] [], .sub 0 [] [] (.int .i64 (IntKind.wrap .i64 (((i8 : Nat) : Int) + ((1 : Nat) : Int)))), .ran (Instr.index 9 (.string ⟨(l).toArray⟩) (.int .i64 ((i8 + 1 : Nat) : Int))), .call 64 #[.int .u8 (((l.getD (i8 + 1) 0).toNat : Nat) : Int)], .sub 0 [] [] (.int .u8 (IntKind.wrap .u8 (((16 : Nat) : Int) * ((dgt ((l.getD (i8 + 1) 0).toNat) : Nat) : Int)))), .look 0 [] [], .look 0 [] [], .sub 0 [] [] (.int .i64 (IntKind.wrap .i64 (((i8 : Nat) : Int) + ((2 : Nat) : Int)))), .ran (Instr.index 9 (.string ⟨(l).toArray⟩) (.int .i64 ((i8 + 2 : Nat) : Int))), .call 64 #[.int .u8 (((l.getD (i8 + 2) 0).toNat : Nat) : Int)], .sub 0 [] [] (.int .u8 (IntKind.wrap .u8 (((16 * (dgt ((l.getD (i8 + 1) 0).toNat)) : Nat) : Int) + ((dgt ((l.getD (i8 + 2) 0).toNat) : Nat) : Int)))), .new, .row 0 (Builtin.append_ #[22, 22] 22 #[v8, .slice (some ⟨(φ61 13), 0, none⟩) 1 1]), .look 0 [] []]), (fun φ61 xs61 => [v8, .string ⟨(l).toArray⟩, .int .i64 ((i8 : Nat) : Int), .int .i64 ((i8 + 1 : Nat) : Int), .int .u8 (((l.getD (i8 + 1) 0).toNat : Nat) : Int), .int .u8 ((dgt ((l.getD (i8 + 1) 0).toNat) : Nat) : Int), .int .u8 ((16 * (dgt ((l.getD (i8 + 1) 0).toNat)) : Nat) : Int), .string ⟨(l).toArray⟩, .int .i64 ((i8 : Nat) : Int), .int .i64 ((i8 + 2 : Nat) : Int), .int .u8 (((l.getD (i8 + 2) 0).toNat : Nat) : Int), .int .u8 ((dgt ((l.getD (i8 + 2) 0).toNat) : Nat) : Int), .int .u8 (((16 * (dgt ((l.getD (i8 + 1) 0).toNat))) + (dgt ((l.getD (i8 + 2) 0).toNat)) : Nat) : Int), .slice (some ⟨(φ61 13), 0, none⟩) 1 1, .slice (some ⟨(xs61 14).n 0, 0, none⟩) (o8.length + 1) ((xs61 14).n 1), .slice (some ⟨(xs61 14).n 0, 0, none⟩) (o8.length + 1) ((xs61 14).n 1)]), (fun φ61 xs61 => [[]]), (fun φ61 xs61 => [[default, default, default, default, default, default, default, default, default, default, default, default, default, .cells #[.int .u8 (((16 * (dgt ((l.getD (i8 + 1) 0).toNat))) + (dgt ((l.getD (i8 + 2) 0).toNat)) : Nat) : Int)] 5, default, default]]), [], [1, 1, 1, 5, 6, 3, 5, 1, 1, 5, 6, 3, 5, 2, 7, 1]⟩ (fun j => ([MP.any, MP.any, MP.any, MP.any, MP.any, MP.any, MP.any, MP.any, MP.any, MP.any, MP.any, MP.any, MP.any, MP.any, MP.any, MP.any] : List MP).getD j MP.any) 14 F8 (fun x F => RowH 5 1 (.slice (some ⟨x.n 0, 0, none⟩) (o8.length + 1) (x.n 1)) (o8.length + 1) ((o8.map bV) ++ [.int .u8 (((16 * (dgt ((l.getD (i8 + 1) 0).toNat))) + (dgt ((l.getD (i8 + 2) 0).toNat)) : Nat) : Int)]) F) [5, 11] [3, 6, 9, 12] [4, 10] 0 (fun φ61 xs61 => [((φ61 13), .cells #[.int .u8 (((16 * (dgt ((l.getD (i8 + 1) 0).toNat))) + (dgt ((l.getD (i8 + 2) 0).toNat)) : Nat) : Int)] 5)]) (fun φ61 xs61 => (Builtin.append_ #[22, 22] 22 #[v8, .slice (some ⟨(φ61 13), 0, none⟩) 1 1] : Sem Value)) (fun φ61 xs61 => []) (fun φ61 xs61 => [(62, v8), (63, .string ⟨(l).toArray⟩), (64, .int .i64 ((i8 : Nat) : Int)), (65, .int .i64 ((i8 + 1 : Nat) : Int)), (66, .int .u8 (((l.getD (i8 + 1) 0).toNat : Nat) : Int)), (67, .int .u8 ((dgt ((l.getD (i8 + 1) 0).toNat) : Nat) : Int)), (68, .int .u8 ((16 * (dgt ((l.getD (i8 + 1) 0).toNat)) : Nat) : Int)), (69, .string ⟨(l).toArray⟩), (70, .int .i64 ((i8 : Nat) : Int)), (71, .int .i64 ((i8 + 2 : Nat) : Int)), (72, .int .u8 (((l.getD (i8 + 2) 0).toNat : Nat) : Int)), (73, .int .u8 ((dgt ((l.getD (i8 + 2) 0).toNat) : Nat) : Int)), (74, .int .u8 (((16 * (dgt ((l.getD (i8 + 1) 0).toNat))) + (dgt ((l.getD (i8 + 2) 0).toNat)) : Nat) : Int)), (75, .slice (some ⟨(φ61 13), 0, none⟩) 1 1), (76, .slice (some ⟨(xs61 14).n 0, 0, none⟩) (o8.length + 1) ((xs61 14).n 1)), (4, .slice (some ⟨(xs61 14).n 0, 0, none⟩) (o8.length + 1) ((xs61 14).n 1))]) (fun φ61 xs61 => [((φ61 13), .cells #[.int .u8 (((16 * (dgt ((l.getD (i8 + 1) 0).toNat))) + (dgt ((l.getD (i8 + 2) 0).toNat)) : Nat) : Int)] 5)]) (by decide) s trivial (by kernel_rfl) (by kernel_rfl) (fun _ _ => by kernel_rfl) (fun _ _ => by kernel_rfl) ⟨fun _ _ => by kernel_rfl, fun _ _ => by kernel_rfl, fun _ _ => by kernel_rfl, fun _ _ => by kernel_rfl⟩ (fun _ _ _ => by kernel_rfl) (fun _ _ => by kernel_rfl) (fun _ _ => by kernel_rfl) (fun _ _ => by kernel_rfl) (fun _ _ => by kernel_rfl) (fun _ _ => by kernel_rfl) ⟨kcast (A := ∀ (φ61 : Nat → Nat) (xs61 : Xs), (.int .i64 (IntKind.wrap .i64 (((i8 : Nat) : Int) + ((1 : Nat) : Int))) : Value) = .int .i64 ((i8 + 1 : Nat) : Int)) (by kernel_rfl) (fun φ61 xs61 => congrArg (Value.int .i64) ((nat_addI (a := i8) (b := 1) (by have hz0 := hi8_3; have hz1 := hi8_2; have hz2 := dgt_lt (l.getD (i8 + 1) 0).toNat; have hz3 := dgt_lt (l.getD (i8 + 2) 0).toNat;  have hq0 := of_decide_eq_false hc3; have hq1 := of_decide_eq_true hc10; have hq2 := of_decide_eq_false hc13; have hq3 := of_decide_eq_false hc20; have hq4 := of_decide_eq_false hc47; have hq5 := of_decide_eq_false hc53; have hq6 := of_decide_eq_false hc59; omega)))), ⟨kcast (A := ∀ (φ61 : Nat → Nat) (xs61 : Xs), (.int .u8 (IntKind.wrap .u8 (((16 : Nat) : Int) * ((dgt ((l.getD (i8 + 1) 0).toNat) : Nat) : Int))) : Value) = .int .u8 ((16 * (dgt ((l.getD (i8 + 1) 0).toNat)) : Nat) : Int)) (by kernel_rfl) (fun φ61 xs61 => congrArg (Value.int .u8) ((nat_mulu8 (a := 16) (b := (dgt ((l.getD (i8 + 1) 0).toNat))) (by have hz0 := hi8_3; have hz1 := hi8_2; have hz2 := dgt_lt (l.getD (i8 + 1) 0).toNat; have hz3 := dgt_lt (l.getD (i8 + 2) 0).toNat;  have := byte_lt (l.getD (i8 + 1) 0); have hq0 := of_decide_eq_false hc3; have hq1 := of_decide_eq_true hc10; have hq2 := of_decide_eq_false hc13; have hq3 := of_decide_eq_false hc20; have hq4 := of_decide_eq_false hc47; have hq5 := of_decide_eq_false hc53; have hq6 := of_decide_eq_false hc59; omega)))), ⟨kcast (A := ∀ (φ61 : Nat → Nat) (xs61 : Xs), (.int .i64 (IntKind.wrap .i64 (((i8 : Nat) : Int) + ((2 : Nat) : Int))) : Value) = .int .i64 ((i8 + 2 : Nat) : Int)) (by kernel_rfl) (fun φ61 xs61 => congrArg (Value.int .i64) ((nat_addI (a := i8) (b := 2) (by have hz0 := hi8_3; have hz1 := hi8_2; have hz2 := dgt_lt (l.getD (i8 + 1) 0).toNat; have hz3 := dgt_lt (l.getD (i8 + 2) 0).toNat;  have hq0 := of_decide_eq_false hc3; have hq1 := of_decide_eq_true hc10; have hq2 := of_decide_eq_false hc13; have hq3 := of_decide_eq_false hc20; have hq4 := of_decide_eq_false hc47; have hq5 := of_decide_eq_false hc53; have hq6 := of_decide_eq_false hc59; omega)))), ⟨kcast (A := ∀ (φ61 : Nat → Nat) (xs61 : Xs), (.int .u8 (IntKind.wrap .u8 (((16 * (dgt ((l.getD (i8 + 1) 0).toNat)) : Nat) : Int) + ((dgt ((l.getD (i8 + 2) 0).toNat) : Nat) : Int))) : Value) = .int .u8 (((16 * (dgt ((l.getD (i8 + 1) 0).toNat))) + (dgt ((l.getD (i8 + 2) 0).toNat)) : Nat) : Int)) (by kernel_rfl) (fun φ61 xs61 => congrArg (Value.int .u8) ((nat_addu8 (a := (16 * (dgt ((l.getD (i8 + 1) 0).toNat)))) (b := (dgt ((l.getD (i8 + 2) 0).toNat))) (by have hz0 := hi8_3; have hz1 := hi8_2; have hz2 := dgt_lt (l.getD (i8 + 1) 0).toNat; have hz3 := dgt_lt (l.getD (i8 + 2) 0).toNat;  have := byte_lt (l.getD (i8 + 1) 0); have := byte_lt (l.getD (i8 + 2) 0); have hq0 := of_decide_eq_false hc3; have hq1 := of_decide_eq_true hc10; have hq2 := of_decide_eq_false hc13; have hq3 := of_decide_eq_false hc20; have hq4 := of_decide_eq_false hc47; have hq5 := of_decide_eq_false hc53; have hq6 := of_decide_eq_false hc59; omega)))), trivial⟩⟩⟩⟩ ⟨kcast (A := ∀ (φ61 : Nat → Nat) (xs61 : Xs) (J : IM) (w : World), I57.Le J → J.Sub w → ((Instr.index 9 (.string ⟨(l).toArray⟩) (.int .i64 ((i8 + 1 : Nat) : Int))) : Sem Value).run Tryd.prog w = .ok (.int .u8 (((l.getD (i8 + 1) 0).toNat : Nat) : Int)) w) (by kernel_rfl) (fun φ61 xs61 J w hJ hS => run_idxK (s := l) (i := i8 + 1) (by have hz0 := hi8_3; have hz1 := hi8_2; have hz2 := dgt_lt (l.getD (i8 + 1) 0).toNat; have hz3 := dgt_lt (l.getD (i8 + 2) 0).toNat;  have hq0 := of_decide_eq_false hc3; have hq1 := of_decide_eq_true hc10; have hq2 := of_decide_eq_false hc13; have hq3 := of_decide_eq_false hc20; have hq4 := of_decide_eq_false hc47; have hq5 := of_decide_eq_false hc53; have hq6 := of_decide_eq_false hc59; omega)), ⟨kcast (A := ∀ (φ61 : Nat → Nat) (xs61 : Xs) (J : IM) (w : World), I57.Le J → J.Sub w → ((Instr.index 9 (.string ⟨(l).toArray⟩) (.int .i64 ((i8 + 2 : Nat) : Int))) : Sem Value).run Tryd.prog w = .ok (.int .u8 (((l.getD (i8 + 2) 0).toNat : Nat) : Int)) w) (by kernel_rfl) (fun φ61 xs61 J w hJ hS => run_idxK (s := l) (i := i8 + 2) (by have hz0 := hi8_3; have hz1 := hi8_2; have hz2 := dgt_lt (l.getD (i8 + 1) 0).toNat; have hz3 := dgt_lt (l.getD (i8 + 2) 0).toNat;  have hq0 := of_decide_eq_false hc3; have hq1 := of_decide_eq_true hc10; have hq2 := of_decide_eq_false hc13; have hq3 := of_decide_eq_false hc20; have hq4 := of_decide_eq_false hc47; have hq5 := of_decide_eq_false hc53; have hq6 := of_decide_eq_false hc59; omega)), trivial⟩⟩ (by kernel_rfl) (fun _ _ => by kernel_rfl) (fun _ _ => by kernel_rfl) ?row61 ⟨?c61_5, ?c61_11, trivial⟩ ?k61
                case c61_5 =>
                  refine kcast (A := ∀ (φ61 : Nat → Nat) (xs61 : Xs) (J5_61 : IM), I57.Le J5_61 → Fun Tryd.prog 64 #[.int .u8 (((l.getD (i8 + 1) 0).toNat : Nat) : Int)] J5_61 (fun v J' => ∃ x : UX, v = .int .u8 ((dgt ((l.getD (i8 + 1) 0).toNat) : Nat) : Int) ∧ (True))) (by kernel_rfl) ?_
                  intro φ61 xs61 J5_61 leJ
                  exact Fun.mono (dgt_c (c := (l.getD (i8 + 1) 0).toNat) (byte_lt _)) (fun v J' _ h => ⟨UX.d, h, trivial⟩)
                case c61_11 =>
                  refine kcast (A := ∀ (φ61 : Nat → Nat) (xs61 : Xs) (J11_61 : IM), I57.Le J11_61 → (True) → Fun Tryd.prog 64 #[.int .u8 (((l.getD (i8 + 2) 0).toNat : Nat) : Int)] J11_61 (fun v J' => ∃ x : UX, v = .int .u8 ((dgt ((l.getD (i8 + 2) 0).toNat) : Nat) : Int) ∧ (True))) (by kernel_rfl) ?_
                  intro φ61 xs61 J11_61 leJ
                  rintro _
                  exact Fun.mono (dgt_c (c := (l.getD (i8 + 2) 0).toNat) (byte_lt _)) (fun v J' _ h => ⟨UX.d, h, trivial⟩)
                case row61 =>
                  refine kcast (A := ∀ (φ61 : Nat → Nat) (xs61 : Xs) (J : IM) (wz : World) (H2 : List OB), I57.Le J → (True) → (True) → (St w I [] J wz (([((φ61 13), .cells #[.int .u8 (((16 * (dgt ((l.getD (i8 + 1) 0).toNat))) + (dgt ((l.getD (i8 + 2) 0).toNat)) : Nat) : Int)] 5)] ++ H2) ++ F8)) → ∃ (x : UX) (J' : IM) (w' : World) (F' : List OB), ((Builtin.append_ #[22, 22] 22 #[v8, .slice (some ⟨(φ61 13), 0, none⟩) 1 1]) : Sem Value).run Tryd.prog wz = .ok (.slice (some ⟨x.n 0, 0, none⟩) (o8.length + 1) (x.n 1)) w' ∧ J.Le J' ∧ St w I [] J' w' (([((φ61 13), .cells #[.int .u8 (((16 * (dgt ((l.getD (i8 + 1) 0).toNat))) + (dgt ((l.getD (i8 + 2) 0).toNat)) : Nat) : Int)] 5)] ++ H2) ++ F') ∧ RowH 5 1 (.slice (some ⟨x.n 0, 0, none⟩) (o8.length + 1) (x.n 1)) (o8.length + 1) ((o8.map bV) ++ [.int .u8 (((16 * (dgt ((l.getD (i8 + 1) 0).toNat))) + (dgt ((l.getD (i8 + 2) 0).toNat)) : Nat) : Int)]) F') (by kernel_rfl) ?_
                  intro φ61 xs61 J wz H2 leJ 
                  rintro _ _
                  intro s9
                  obtain ⟨g9, cap9, w9, F9, hr9, s9, row9⟩ := append_rowS (H := [((φ61 13), .cells #[.int .u8 (((16 * (dgt ((l.getD (i8 + 1) 0).toNat))) + (dgt ((l.getD (i8 + 2) 0).toNat)) : Nat) : Int)] 5)] ++ H2) s9 22 22 22 5 Tryd.t5 (.int .u8 0) 1 1 Tryd.underlying22 (by kernel_rfl) (by kernel_rfl) (by kernel_rfl) (by kernel_rfl) (by kernel_rfl) (by decide) hi8_4 (src_own s9 0 (φ61 13) #[.int .u8 (((16 * (dgt ((l.getD (i8 + 1) 0).toNat))) + (dgt ((l.getD (i8 + 2) 0).toNat)) : Nat) : Int)] 5 22 5 1 1 1 [.int .u8 (((16 * (dgt ((l.getD (i8 + 1) 0).toNat))) + (dgt ((l.getD (i8 + 2) 0).toNat)) : Nat) : Int)] (by kernel_rfl) Tryd.underlying22 (by kernel_rfl) (by kernel_rfl) (by kernel_rfl)) (by simp only [maxLen]; omega) (by omega) (by omega)
                  exact ⟨{ UX.d with n := fun j => cond (Nat.beq j 0) g9 cap9 }, J, w9, F9, hr9, IM.Le.refl J, s9, row9⟩
                case k61 =>
                  rintro φ61 xs61 I61 w61 F61 le61 s hrw61 _ _
                  replace hle7 := leMono le61 hle7
                  refine region_rule ?_
                  refine ops_rule (C := []) [((φ61 13), .cells #[.int .u8 (((16 * (dgt ((l.getD (i8 + 1) 0).toNat))) + (dgt ((l.getD (i8 + 2) 0).toNat)) : Nat) : Int)] 5)] F61 3 [] 0 (fun φ62 => [(5, .int .i64 (IntKind.wrap .i64 (((i8 : Nat) : Int) + ((3 : Nat) : Int)))), (78, .int .i64 (IntKind.wrap .i64 (((i8 : Nat) : Int) + ((3 : Nat) : Int)))), (77, .int .i64 ((i8 : Nat) : Int))]) (fun φ62 => [((φ61 13), .cells #[.int .u8 (((16 * (dgt ((l.getD (i8 + 1) 0).toNat))) + (dgt ((l.getD (i8 + 2) 0).toNat)) : Nat) : Int)] 5)]) (fun φ62 => []) s trivial (fun φ62 => by kernel_rfl) ?_
                  intro φ62 w62 s
                  rw [nat_addI (a := i8) (b := 3) (by have hz0 := hi8_3; have hz1 := hi8_2; have hz2 := dgt_lt (l.getD (i8 + 1) 0).toNat; have hz3 := dgt_lt (l.getD (i8 + 2) 0).toNat;  have hq0 := of_decide_eq_false hc3; have hq1 := of_decide_eq_true hc10; have hq2 := of_decide_eq_false hc13; have hq3 := of_decide_eq_false hc20; have hq4 := of_decide_eq_false hc47; have hq5 := of_decide_eq_false hc53; have hq6 := of_decide_eq_false hc59; omega)]
                  refine ops_done (by kernel_rfl) ?_
                  have hrw9 := row_snoc (x := o8) (y := ([UInt8.ofNat (16 * (dgt ((l.getD (i8 + 1) 0).toNat)) + (dgt ((l.getD (i8 + 2) 0).toNat)))] : List UInt8)) hrw61 (by simp only [List.map_cons, List.map_nil]; exact cells_bytes1 (by have hq0 := of_decide_eq_false hc3; have hq1 := of_decide_eq_true hc10; have hq2 := of_decide_eq_false hc13; have hq3 := of_decide_eq_false hc20; have hq4 := of_decide_eq_false hc47; have hq5 := of_decide_eq_false hc53; have hq6 := of_decide_eq_false hc59; omega))
                  exact ⟨⟨m8 - 1, (i8 + 3, (o8 ++ [UInt8.ofNat (16 * (dgt ((l.getD (i8 + 1) 0).toNat)) + (dgt ((l.getD (i8 + 2) 0).toNat)))]), .slice (some ⟨(xs61 14).n 0, 0, none⟩) (o8.length + 1) ((xs61 14).n 1), F61), _, _, _, by have hq0 := of_decide_eq_false hc3; have hq1 := of_decide_eq_true hc10; have hq2 := of_decide_eq_false hc13; have hq3 := of_decide_eq_false hc20; have hq4 := of_decide_eq_false hc47; have hq5 := of_decide_eq_false hc53; have hq6 := of_decide_eq_false hc59; omega, rfl, s, (List.Sublist.append (List.Sublist.cons _ List.Sublist.slnil) (List.Sublist.refl _)), by kernel_rfl, hle7, by have hq0 := of_decide_eq_false hc3; have hq1 := of_decide_eq_true hc10; have hq2 := of_decide_eq_false hc13; have hq3 := of_decide_eq_false hc20; have hq4 := of_decide_eq_false hc47; have hq5 := of_decide_eq_false hc53; have hq6 := of_decide_eq_false hc59; have h6 := hi8_0; show l.length ≤ i8 + 3 + (m8 - 1); omega, ri_3 hi8_1 (by have hq0 := of_decide_eq_false hc3; have hq1 := of_decide_eq_true hc10; have hq2 := of_decide_eq_false hc13; have hq3 := of_decide_eq_false hc20; have hq4 := of_decide_eq_false hc47; have hq5 := of_decide_eq_false hc53; have hq6 := of_decide_eq_false hc59; omega) (by have hq0 := of_decide_eq_false hc3; have hq1 := of_decide_eq_true hc10; have hq2 := of_decide_eq_false hc13; have hq3 := of_decide_eq_false hc20; have hq4 := of_decide_eq_false hc47; have hq5 := of_decide_eq_false hc53; have hq6 := of_decide_eq_false hc59; omega) (by have hq0 := of_decide_eq_false hc3; have hq1 := of_decide_eq_true hc10; have hq2 := of_decide_eq_false hc13; have hq3 := of_decide_eq_false hc20; have hq4 := of_decide_eq_false hc47; have hq5 := of_decide_eq_false hc53; have hq6 := of_decide_eq_false hc59; omega), by have h6 := hi8_2; show ((o8 ++ [UInt8.ofNat (16 * (dgt ((l.getD (i8 + 1) 0).toNat)) + (dgt ((l.getD (i8 + 2) 0).toNat)))])).length ≤ i8 + 3; rw [List.length_append, List.length_cons, List.length_nil]; omega, by have hq0 := of_decide_eq_false hc3; have hq1 := of_decide_eq_true hc10; have hq2 := of_decide_eq_false hc13; have hq3 := of_decide_eq_false hc20; have hq4 := of_decide_eq_false hc47; have hq5 := of_decide_eq_false hc53; have hq6 := of_decide_eq_false hc59; show i8 + 3 ≤ l.length; omega, hrw9⟩⟩
    ·
      rw [hc10]
      refine cond_false_rule (b := false) (by kernel_rfl) rfl ?_
      refine wp_exit ?_
      refine wp_seq ?_
      refine wp_seq ?_
      refine region_rule ?_
      refine ops_rule (C := []) [] F8 4 [] 0 (fun φ63 => [(82, .bool (((l.length : Nat) : Int) == ((0 : Nat) : Int))), (81, .bool (((l.length : Nat) : Int) == ((0 : Nat) : Int))), (80, .int .i64 ((l.length : Nat) : Int)), (79, .string ⟨(l).toArray⟩)]) (fun φ63 => []) (fun φ63 => []) s trivial (fun φ63 => by kernel_rfl) ?_
      intro φ63 w63 s
      rw [nat_eql (a := l.length) (b := 0)]
      rcases Bool.eq_false_or_eq_true (decide (l.length = 0)) with hc64 | hc64
      ·
        rw [hc64]
        refine ops_rule (C := []) [] F8 6 [] 0 (fun φ65 => [(88, .bool true), (87, undef), (86, undef), (85, undef), (84, undef), (83, undef)]) (fun φ65 => []) (fun φ65 => []) s trivial (fun φ65 => by kernel_rfl) ?_
        intro φ65 w65 s
        refine ops_done (by kernel_rfl) ?_
        refine cond_true_rule (b := true) (by kernel_rfl) rfl ?_
        refine wp_seq ?_
        refine region_rule ?_
        refine ops_rule (C := []) [] F8 2 [] 0 (fun φ66 => [(3, .bool false), (2, .string ⟨#[]⟩)]) (fun φ66 => []) (fun φ66 => []) s trivial (fun φ66 => by kernel_rfl) ?_
        intro φ66 w66 s
        refine ops_done (by kernel_rfl) ?_
        refine wp_ret ?_
        refine ret_rule (C := []) [] F8 (.tuple #[.string ⟨#[]⟩, .bool false]) [] [] s trivial (by kernel_rfl) ?_
        exact ⟨_, _, _, rfl, s, (uq_val (un_nil (List.length_eq_zero_iff.1 (of_decide_eq_true hc64))))⟩
      ·
        rw [hc64]
        refine ops_rule (C := []) [] F8 1 [] 0 (fun φ67 => [(83, v8)]) (fun φ67 => []) (fun φ67 => []) s trivial (fun φ67 => by kernel_rfl) ?_
        intro φ67 w67 s
        obtain ⟨I68, le68, hb68, s⟩ := freeze_row (H := []) (F := F8) s hi8_4
        replace hle7 := leMono le68 hle7
        obtain ⟨a68, c68, hv68, hc68, hb68⟩ := hb68.open
        subst hv68
        refine sem_rule (convert 22 9 (.slice a68 ((o8).length) c68)) (some 84) (.string ⟨(o8).toArray⟩) (by kernel_rfl) (run_toS s.sub hb68) ?_
        refine call_rule (some 85) s (refQuote_c (l := o8) (by have h7 := hi8_2; have h8 := hi8_3; omega)) (by kernel_rfl) ?_
        intro v69 I69 w69 le69 h69 s
        replace hle7 := leMono le69 hle7
        replace hb68 := BSl.mono le69 hb68
        obtain rfl := h69
        refine ops_rule (C := []) [] [] 1 [] 0 (fun φ70 => [(86, .string ⟨(l).toArray⟩)]) (fun φ70 => []) (fun φ70 => []) s trivial (fun φ70 => by kernel_rfl) ?_
        intro φ70 w70 s
        refine sem_rule (binOp .neq 9 (.string ⟨((quoteS o8)).toArray⟩) (.string ⟨(l).toArray⟩)) (some 87) (.bool (!(decide ((quoteS o8) = l)))) (by kernel_rfl) (run_neS (x := (quoteS o8)) (y := l)) ?_
        refine ops_rule (C := []) [] [] 1 [] 0 (fun φ71 => [(88, .bool (!(decide ((quoteS o8) = l))))]) (fun φ71 => []) (fun φ71 => []) s trivial (fun φ71 => by kernel_rfl) ?_
        intro φ71 w71 s
        refine ops_done (by kernel_rfl) ?_
        rcases Bool.eq_false_or_eq_true (decide ((quoteS o8) = l)) with hc72 | hc72
        ·
          rw [hc72]
          refine cond_false_rule (b := false) (by kernel_rfl) rfl ?_
          refine wp_skip ?_
          refine wp_seq ?_
          refine region_rule ?_
          refine ops_rule (C := []) [] [] 1 [] 0 (fun φ73 => [(89, .slice a68 ((o8).length) c68)]) (fun φ73 => []) (fun φ73 => []) s trivial (fun φ73 => by kernel_rfl) ?_
          intro φ73 w73 s
          refine sem_rule (convert 22 9 (.slice a68 ((o8).length) c68)) (some 90) (.string ⟨(o8).toArray⟩) (by kernel_rfl) (run_toS s.sub hb68) ?_
          refine ops_rule (C := []) [] [] 2 [] 0 (fun φ74 => [(3, .bool true), (2, .string ⟨(o8).toArray⟩)]) (fun φ74 => []) (fun φ74 => []) s trivial (fun φ74 => by kernel_rfl) ?_
          intro φ74 w74 s
          refine ops_done (by kernel_rfl) ?_
          refine wp_ret ?_
          refine ret_rule (C := []) [] [] (.tuple #[.string ⟨(o8).toArray⟩, .bool true]) [] [] s trivial (by kernel_rfl) ?_
          exact ⟨_, _, _, rfl, s, (uq_val (ri_yes (of_decide_eq_true hc72)))⟩
        ·
          rw [hc72]
          refine cond_true_rule (b := true) (by kernel_rfl) rfl ?_
          refine wp_seq ?_
          refine region_rule ?_
          refine ops_rule (C := []) [] [] 2 [] 0 (fun φ75 => [(3, .bool false), (2, .string ⟨#[]⟩)]) (fun φ75 => []) (fun φ75 => []) s trivial (fun φ75 => by kernel_rfl) ?_
          intro φ75 w75 s
          refine ops_done (by kernel_rfl) ?_
          refine wp_ret ?_
          refine ret_rule (C := []) [] [] (.tuple #[.string ⟨#[]⟩, .bool false]) [] [] s trivial (by kernel_rfl) ?_
          exact ⟨_, _, _, rfl, s, (uq_val (ri_end (of_decide_eq_false hc3) hi8_1 (of_decide_eq_false hc10) (of_decide_eq_false hc72)))⟩

end Go.Proofs.YtgmigcmhnmmdkaaDoor

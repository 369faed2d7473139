/- TextQuotes. -/
import Derived.Test.YtgmigcmhnmmdkaaDoorTqX9
set_option linter.all false
set_option maxRecDepth 100000
namespace Go.Proofs.YtgmigcmhnmmdkaaDoor
open Go.RowKit Go.Sep
attribute [local irreducible] Go.wpList Go.Code.wp

theorem unquoteQ_c {I : IM} {l : List UInt8} (hn : (quoteS l).length ≤ 1000000) : Fun Tryd.prog 30 #[.string ⟨(quoteS l).toArray⟩] I (fun v J => v = uqT l true) := (unquote_c hn).mono fun v J _ h => h.trans (uq_back l).symm
theorem uqV_le (l : List UInt8) : (uqV l).length ≤ l.length := by
  rcases uq_spec l with ⟨_, e⟩ | ⟨_, e, _⟩
  · by_cases h : uqV l = []
    · rw [h]; exact Nat.zero_le _
    · rw [← quoteS_n h] at e
      have := quoL_ge (uqV l)
      rw [e] at this; exact this
  · rw [e]; exact Nat.zero_le _
theorem run_eqB {w : World} {b : Bool} : (binOp .eql 4 (.bool b) (.bool b)).run Tryd.prog w = .ok (.bool true) w := by cases b <;> kernel_rfl

set_option maxHeartbeats 4000000 in
theorem textQuotes_c {I : IM} {l l2 : List UInt8} (hT : U8 I) (hn : l.length ≤ 9223372036854775807) (hn2 : l2.length ≤ 9223372036854775807) : Fun Tryd.prog 6 #[.string ⟨(l).toArray⟩, .string ⟨(l2).toArray⟩] I (fun v J => v = .bool true) := by
  refine enter_rule 96 [(0, .string ⟨(l).toArray⟩), (1, .string ⟨(l2).toArray⟩)] Tryd.func6 rfl (by kernel_rfl) ?_
  intro w s
  refine wp_seq ?_
  refine region_rule ?_
  refine ops_rule (C := []) [] [] 1 [] 0 (fun φ1 => [(4, .bool false)]) (fun φ1 => []) (fun φ1 => []) s trivial (fun φ1 => by kernel_rfl) ?_
  intro φ1 w1 s
  refine ops_done (by kernel_rfl) ?_
  refine wp_seq ?_
  refine wp_seq ?_
  refine region_rule ?_
  refine call_rule (some 13) s (awakeT_c hT) (by kernel_rfl) ?_
  intro v2 I2 w2 le2 h2 s
  replace hT := U8.mono le2 hT
  obtain rfl := h2
  refine ops_rule (C := []) [] [] 1 [] 0 (fun φ3 => [(14, .bool false)]) (fun φ3 => []) (fun φ3 => []) s trivial (fun φ3 => by kernel_rfl) ?_
  intro φ3 w3 s
  refine ops_done (by kernel_rfl) ?_
  refine cond_false_rule (b := false) (by kernel_rfl) rfl ?_
  refine wp_skip ?_
  refine wp_seq ?_
  refine region_rule ?_
  refine ops_rule (C := []) [] [] 1 [] 0 (fun φ4 => [(15, .string ⟨(l).toArray⟩)]) (fun φ4 => []) (fun φ4 => []) s trivial (fun φ4 => by kernel_rfl) ?_
  intro φ4 w4 s
  refine call_rule (some 16) s (few_c (l := l) (by omega)) (by kernel_rfl) ?_
  intro v5 I5 w5 le5 h5 s
  replace hT := U8.mono le5 hT
  obtain rfl := h5
  refine ops_rule (C := []) [] [] 1 [] 0 (fun φ6 => [(17, .string ⟨(l2).toArray⟩)]) (fun φ6 => []) (fun φ6 => []) s trivial (fun φ6 => by kernel_rfl) ?_
  intro φ6 w6 s
  refine call_rule (some 18) s (few_c (l := l2) (by omega)) (by kernel_rfl) ?_
  intro v7 I7 w7 le7 h7 s
  replace hT := U8.mono le7 hT
  obtain rfl := h7
  refine ops_rule (C := []) [] [] 2 [] 0 (fun φ8 => [(1, .string ⟨((l2.take 120)).toArray⟩), (0, .string ⟨((l.take 120)).toArray⟩)]) (fun φ8 => []) (fun φ8 => []) s trivial (fun φ8 => by kernel_rfl) ?_
  intro φ8 w8 s
  refine ops_done (by kernel_rfl) ?_
  refine wp_seq ?_
  refine region_rule ?_
  refine ops_rule (C := []) [] [] 1 [] 0 (fun φ9 => [(19, .string ⟨((l.take 120)).toArray⟩)]) (fun φ9 => []) (fun φ9 => []) s trivial (fun φ9 => by kernel_rfl) ?_
  intro φ9 w9 s
  refine call_rule (some 20) s (quote_c (l := (l.take 120)) (by have hz1 := take_le l 120; have hz2 := take_le l2 120; have hz3 := quoteS_le (l.take 120); have hz4 := uqV_le (l2.take 120); omega)) (by kernel_rfl) ?_
  intro v10 I10 w10 le10 h10 s
  replace hT := U8.mono le10 hT
  obtain rfl := h10
  refine ops_rule (C := []) [] [] 1 [] 0 (fun φ11 => [(5, .string ⟨((quoteS (l.take 120))).toArray⟩)]) (fun φ11 => []) (fun φ11 => []) s trivial (fun φ11 => by kernel_rfl) ?_
  intro φ11 w11 s
  refine ops_done (by kernel_rfl) ?_
  refine wp_seq ?_
  refine region_rule ?_
  refine ops_rule (C := []) [] [] 1 [] 0 (fun φ12 => [(22, .string ⟨((quoteS (l.take 120))).toArray⟩)]) (fun φ12 => []) (fun φ12 => []) s trivial (fun φ12 => by kernel_rfl) ?_
  intro φ12 w12 s
  refine call_rule (some 23) s (unquoteQ_c (l := (l.take 120)) (by have hz1 := take_le l 120; have hz2 := take_le l2 120; have hz3 := quoteS_le (l.take 120); have hz4 := uqV_le (l2.take 120); omega)) (by kernel_rfl) ?_
  intro v13 I13 w13 le13 h13 s
  replace hT := U8.mono le13 hT
  obtain rfl := h13
  refine ops_rule (C := []) [] [] 5 [] 0 (fun φ14 => [(7, .bool true), (6, .string ⟨((l.take 120)).toArray⟩), (25, .bool true), (24, .string ⟨((l.take 120)).toArray⟩), (21, .tuple #[.string ⟨((l.take 120)).toArray⟩, .bool true])]) (fun φ14 => []) (fun φ14 => []) s trivial (fun φ14 => by kernel_rfl) ?_
  intro φ14 w14 s
  refine ops_done (by kernel_rfl) ?_
  refine wp_seq ?_
  refine region_rule ?_
  refine ops_rule (C := []) [] [] 1 [] 0 (fun φ15 => [(27, .string ⟨((l2.take 120)).toArray⟩)]) (fun φ15 => []) (fun φ15 => []) s trivial (fun φ15 => by kernel_rfl) ?_
  intro φ15 w15 s
  refine call_rule (some 28) s (unquote_c (l := (l2.take 120)) (by have hz1 := take_le l 120; have hz2 := take_le l2 120; have hz3 := quoteS_le (l.take 120); have hz4 := uqV_le (l2.take 120); omega)) (by kernel_rfl) ?_
  intro v16 I16 w16 le16 h16 s
  replace hT := U8.mono le16 hT
  obtain rfl := h16
  refine ops_rule (C := []) [] [] 5 [] 0 (fun φ17 => [(9, .bool (uqB (l2.take 120))), (8, .string ⟨((uqV (l2.take 120))).toArray⟩), (30, .bool (uqB (l2.take 120))), (29, .string ⟨((uqV (l2.take 120))).toArray⟩), (26, .tuple #[.string ⟨((uqV (l2.take 120))).toArray⟩, .bool (uqB (l2.take 120))])]) (fun φ17 => []) (fun φ17 => []) s trivial (fun φ17 => by kernel_rfl) ?_
  intro φ17 w17 s
  refine ops_done (by kernel_rfl) ?_
  refine wp_seq ?_
  refine region_rule ?_
  refine ops_rule (C := []) [] [] 1 [] 0 (fun φ18 => [(32, .string ⟨((l2.take 120)).toArray⟩)]) (fun φ18 => []) (fun φ18 => []) s trivial (fun φ18 => by kernel_rfl) ?_
  intro φ18 w18 s
  refine call_rule (some 33) s (refUnquote_c (l := (l2.take 120)) (by have hz1 := take_le l 120; have hz2 := take_le l2 120; have hz3 := quoteS_le (l.take 120); have hz4 := uqV_le (l2.take 120); omega)) (by kernel_rfl) ?_
  intro v19 I19 w19 le19 h19 s
  replace hT := U8.mono le19 hT
  obtain rfl := h19
  refine ops_rule (C := []) [] [] 5 [] 0 (fun φ20 => [(11, .bool (uqB (l2.take 120))), (10, .string ⟨((uqV (l2.take 120))).toArray⟩), (35, .bool (uqB (l2.take 120))), (34, .string ⟨((uqV (l2.take 120))).toArray⟩), (31, .tuple #[.string ⟨((uqV (l2.take 120))).toArray⟩, .bool (uqB (l2.take 120))])]) (fun φ20 => []) (fun φ20 => []) s trivial (fun φ20 => by kernel_rfl) ?_
  intro φ20 w20 s
  refine ops_done (by kernel_rfl) ?_
  refine wp_seq ?_
  refine wp_seq ?_
  refine region_rule ?_
  refine ops_rule (C := []) [] [] 3 [] 0 (fun φ21 => [(38, .int .i64 0), (37, .int .i64 (((quoteS (l.take 120)).length : Nat) : Int)), (36, .string ⟨((quoteS (l.take 120))).toArray⟩)]) (fun φ21 => []) (fun φ21 => []) s trivial (fun φ21 => by kernel_rfl) ?_
  intro φ21 w21 s
  refine ops_done (by kernel_rfl) ?_
  refine wp_block ?_
  have hle22 := IM.Le.refl I19
  refine loop_rule (fun (x : Nat) => [(0, .string ⟨((l.take 120)).toArray⟩), (1, .string ⟨((l2.take 120)).toArray⟩), (4, .bool false), (5, .string ⟨((quoteS (l.take 120))).toArray⟩), (6, .string ⟨((l.take 120)).toArray⟩), (7, .bool true), (8, .string ⟨((uqV (l2.take 120))).toArray⟩), (9, .bool (uqB (l2.take 120))), (10, .string ⟨((uqV (l2.take 120))).toArray⟩), (11, .bool (uqB (l2.take 120))), (37, .int .i64 (((quoteS (l.take 120)).length : Nat) : Int)), (38, .int .i64 ((x : Nat) : Int))]) (fun (x : Nat) => []) (fun m (x : Nat) J => IM.Le I19 J ∧ x + m = (quoteS (l.take 120)).length) ((quoteS (l.take 120)).length) 0 s (by kernel_rfl) List.Sublist.slnil ⟨IM.Le.refl _, Nat.zero_add _⟩ ?_
  rintro m23 i23 I23 w23 ev23 s ⟨le23, hi23_0⟩
  try dsimp only at s hi23_0 ⊢
  replace hT := U8.mono le23 hT
  replace hle22 := leMono le23 hle22
  refine wp_seq ?_
  refine region_rule ?_
  refine ops_rule (C := []) [] [] 1 [] 0 (fun φ24 => [(39, .bool (decide (((i23 : Nat) : Int) < (((quoteS (l.take 120)).length : Nat) : Int))))]) (fun φ24 => []) (fun φ24 => []) s trivial (fun φ24 => by kernel_rfl) ?_
  intro φ24 w24 s
  rw [nat_lss (a := i23) (b := ((quoteS (l.take 120)).length))]
  refine ops_done (by kernel_rfl) ?_
  refine wp_seq ?_
  rcases Bool.eq_false_or_eq_true (decide (i23 < ((quoteS (l.take 120)).length))) with hc25 | hc25
  ·
    rw [hc25]
    refine cond_true_rule (b := true) (by kernel_rfl) rfl ?_
    refine wp_skip ?_
    refine wp_seq ?_
    refine wp_block ?_
    refine wp_seq ?_
    refine region_rule ?_
    refine ops_rule (C := []) [] [] 2 [] 0 (fun φ26 => [(12, .int .i64 ((i23 : Nat) : Int)), (40, .int .i64 ((i23 : Nat) : Int))]) (fun φ26 => []) (fun φ26 => []) s trivial (fun φ26 => by kernel_rfl) ?_
    intro φ26 w26 s
    refine ops_done (by kernel_rfl) ?_
    refine wp_seq ?_
    refine region_rule ?_
    refine ops_rule (C := []) [] [] 2 [] 0 (fun φ27 => [(42, .int .i64 ((i23 : Nat) : Int)), (41, .string ⟨((quoteS (l.take 120))).toArray⟩)]) (fun φ27 => []) (fun φ27 => []) s trivial (fun φ27 => by kernel_rfl) ?_
    intro φ27 w27 s
    refine sem_rule (Instr.index 9 (.string ⟨((quoteS (l.take 120))).toArray⟩) (.int .i64 ((i23 : Nat) : Int))) (some 43) (.int .u8 ((((quoteS (l.take 120)).getD i23 0).toNat : Nat) : Int)) (by kernel_rfl) (run_idxK (s := (quoteS (l.take 120))) (i := i23) (by have hz1 := take_le l 120; have hz2 := take_le l2 120; have hz3 := quoteS_le (l.take 120); have hz4 := uqV_le (l2.take 120); have hq0 := of_decide_eq_true hc25; omega)) ?_
    refine ops_rule (C := []) [] [] 2 [] 0 (fun φ28 => [(45, .bool (decide (((((quoteS (l.take 120)).getD i23 0).toNat : Nat) : Int) ≤ ((32 : Nat) : Int)))), (44, .bool (decide (((((quoteS (l.take 120)).getD i23 0).toNat : Nat) : Int) ≤ ((32 : Nat) : Int))))]) (fun φ28 => []) (fun φ28 => []) s trivial (fun φ28 => by kernel_rfl) ?_
    intro φ28 w28 s
    rw [nat_leq (a := (((quoteS (l.take 120)).getD i23 0).toNat)) (b := 32)]
    rcases Bool.eq_false_or_eq_true (decide ((((quoteS (l.take 120)).getD i23 0).toNat) ≤ 32)) with hc29 | hc29
    ·
      exact absurd (of_decide_eq_true hc29) (by have h7 := word_at (l := (l.take 120)) (of_decide_eq_true hc25); unfold wordB at h7; omega)
    ·
      rw [hc29]
      refine ops_rule (C := []) [] [] 2 [] 0 (fun φ30 => [(47, .int .i64 ((i23 : Nat) : Int)), (46, .string ⟨((quoteS (l.take 120))).toArray⟩)]) (fun φ30 => []) (fun φ30 => []) s trivial (fun φ30 => by kernel_rfl) ?_
      intro φ30 w30 s
      refine sem_rule (Instr.index 9 (.string ⟨((quoteS (l.take 120))).toArray⟩) (.int .i64 ((i23 : Nat) : Int))) (some 48) (.int .u8 ((((quoteS (l.take 120)).getD i23 0).toNat : Nat) : Int)) (by kernel_rfl) (run_idxK (s := (quoteS (l.take 120))) (i := i23) (by have hz1 := take_le l 120; have hz2 := take_le l2 120; have hz3 := quoteS_le (l.take 120); have hz4 := uqV_le (l2.take 120); have hq0 := of_decide_eq_true hc25; have hq1 := of_decide_eq_false hc29; omega)) ?_
      refine ops_rule (C := []) [] [] 3 [] 0 (fun φ31 => [(51, .bool (decide (((((quoteS (l.take 120)).getD i23 0).toNat : Nat) : Int) > ((126 : Nat) : Int)))), (50, .bool (decide (((((quoteS (l.take 120)).getD i23 0).toNat : Nat) : Int) > ((126 : Nat) : Int)))), (49, .bool (decide (((((quoteS (l.take 120)).getD i23 0).toNat : Nat) : Int) > ((126 : Nat) : Int))))]) (fun φ31 => []) (fun φ31 => []) s trivial (fun φ31 => by kernel_rfl) ?_
      intro φ31 w31 s
      rw [nat_gtr (a := (((quoteS (l.take 120)).getD i23 0).toNat)) (b := 126)]
      rcases Bool.eq_false_or_eq_true (decide (126 < (((quoteS (l.take 120)).getD i23 0).toNat))) with hc32 | hc32
      ·
        exact absurd (of_decide_eq_true hc32) (by have h7 := word_at (l := (l.take 120)) (of_decide_eq_true hc25); unfold wordB at h7; omega)
      ·
        rw [hc32]
        refine ops_rule (C := []) [] [] 2 [] 0 (fun φ33 => [(53, .int .i64 ((i23 : Nat) : Int)), (52, .string ⟨((quoteS (l.take 120))).toArray⟩)]) (fun φ33 => []) (fun φ33 => []) s trivial (fun φ33 => by kernel_rfl) ?_
        intro φ33 w33 s
        refine sem_rule (Instr.index 9 (.string ⟨((quoteS (l.take 120))).toArray⟩) (.int .i64 ((i23 : Nat) : Int))) (some 54) (.int .u8 ((((quoteS (l.take 120)).getD i23 0).toNat : Nat) : Int)) (by kernel_rfl) (run_idxK (s := (quoteS (l.take 120))) (i := i23) (by have hz1 := take_le l 120; have hz2 := take_le l2 120; have hz3 := quoteS_le (l.take 120); have hz4 := uqV_le (l2.take 120); have hq0 := of_decide_eq_true hc25; have hq1 := of_decide_eq_false hc29; have hq2 := of_decide_eq_false hc32; omega)) ?_
        refine ops_rule (C := []) [] [] 3 [] 0 (fun φ34 => [(57, .bool (((((quoteS (l.take 120)).getD i23 0).toNat : Nat) : Int) == ((59 : Nat) : Int))), (56, .bool (((((quoteS (l.take 120)).getD i23 0).toNat : Nat) : Int) == ((59 : Nat) : Int))), (55, .bool (((((quoteS (l.take 120)).getD i23 0).toNat : Nat) : Int) == ((59 : Nat) : Int)))]) (fun φ34 => []) (fun φ34 => []) s trivial (fun φ34 => by kernel_rfl) ?_
        intro φ34 w34 s
        rw [nat_eql (a := (((quoteS (l.take 120)).getD i23 0).toNat)) (b := 59)]
        rcases Bool.eq_false_or_eq_true (decide ((((quoteS (l.take 120)).getD i23 0).toNat) = 59)) with hc35 | hc35
        ·
          exact absurd (of_decide_eq_true hc35) (by have h7 := word_at (l := (l.take 120)) (of_decide_eq_true hc25); unfold wordB at h7; omega)
        ·
          rw [hc35]
          refine ops_rule (C := []) [] [] 2 [] 0 (fun φ36 => [(59, .int .i64 ((i23 : Nat) : Int)), (58, .string ⟨((quoteS (l.take 120))).toArray⟩)]) (fun φ36 => []) (fun φ36 => []) s trivial (fun φ36 => by kernel_rfl) ?_
          intro φ36 w36 s
          refine sem_rule (Instr.index 9 (.string ⟨((quoteS (l.take 120))).toArray⟩) (.int .i64 ((i23 : Nat) : Int))) (some 60) (.int .u8 ((((quoteS (l.take 120)).getD i23 0).toNat : Nat) : Int)) (by kernel_rfl) (run_idxK (s := (quoteS (l.take 120))) (i := i23) (by have hz1 := take_le l 120; have hz2 := take_le l2 120; have hz3 := quoteS_le (l.take 120); have hz4 := uqV_le (l2.take 120); have hq0 := of_decide_eq_true hc25; have hq1 := of_decide_eq_false hc29; have hq2 := of_decide_eq_false hc32; have hq3 := of_decide_eq_false hc35; omega)) ?_
          refine ops_rule (C := []) [] [] 2 [] 0 (fun φ37 => [(62, .bool (((((quoteS (l.take 120)).getD i23 0).toNat : Nat) : Int) == ((34 : Nat) : Int))), (61, .bool (((((quoteS (l.take 120)).getD i23 0).toNat : Nat) : Int) == ((34 : Nat) : Int)))]) (fun φ37 => []) (fun φ37 => []) s trivial (fun φ37 => by kernel_rfl) ?_
          intro φ37 w37 s
          rw [nat_eql (a := (((quoteS (l.take 120)).getD i23 0).toNat)) (b := 34)]
          refine ops_done (by kernel_rfl) ?_
          rcases Bool.eq_false_or_eq_true (decide ((((quoteS (l.take 120)).getD i23 0).toNat) = 34)) with hc38 | hc38
          ·
            exact absurd (of_decide_eq_true hc38) (by have h7 := word_at (l := (l.take 120)) (of_decide_eq_true hc25); unfold wordB at h7; omega)
          ·
            rw [hc38]
            refine cond_false_rule (b := false) (by kernel_rfl) rfl ?_
            refine wp_skip ?_
            refine region_rule ?_
            refine ops_rule (C := []) [] [] 2 [] 0 (fun φ39 => [(38, .int .i64 (IntKind.wrap .i64 (((i23 : Nat) : Int) + ((1 : Nat) : Int)))), (63, .int .i64 (IntKind.wrap .i64 (((i23 : Nat) : Int) + ((1 : Nat) : Int))))]) (fun φ39 => []) (fun φ39 => []) s trivial (fun φ39 => by kernel_rfl) ?_
            intro φ39 w39 s
            rw [nat_addI (a := i23) (b := 1) (by have hz1 := take_le l 120; have hz2 := take_le l2 120; have hz3 := quoteS_le (l.take 120); have hz4 := uqV_le (l2.take 120); have hq0 := of_decide_eq_true hc25; have hq1 := of_decide_eq_false hc29; have hq2 := of_decide_eq_false hc32; have hq3 := of_decide_eq_false hc35; have hq4 := of_decide_eq_false hc38; omega)]
            refine ops_done (by kernel_rfl) ?_
            have hq9 := of_decide_eq_true hc25
            exact ⟨⟨m23 - 1, i23 + 1, _, _, _, by omega, rfl, s, List.Sublist.slnil, by kernel_rfl, hle22, by show i23 + 1 + (m23 - 1) = (quoteS (l.take 120)).length; omega⟩⟩
  ·
    rw [hc25]
    refine cond_false_rule (b := false) (by kernel_rfl) rfl ?_
    refine wp_exit ?_
    refine wp_seq ?_
    refine region_rule ?_
    refine ops_rule (C := []) [] [] 2 [] 0 (fun φ40 => [(65, .string ⟨((l.take 120)).toArray⟩), (64, .string ⟨((quoteS (l.take 120))).toArray⟩)]) (fun φ40 => []) (fun φ40 => []) s trivial (fun φ40 => by kernel_rfl) ?_
    intro φ40 w40 s
    refine call_rule (some 66) s (refQuote_c (l := (l.take 120)) (by have hz1 := take_le l 120; have hz2 := take_le l2 120; have hz3 := quoteS_le (l.take 120); have hz4 := uqV_le (l2.take 120); omega)) (by kernel_rfl) ?_
    intro v41 I41 w41 le41 h41 s
    replace hT := U8.mono le41 hT
    replace hle22 := leMono le41 hle22
    obtain rfl := h41
    refine sem_rule (binOp .eql 9 (.string ⟨((quoteS (l.take 120))).toArray⟩) (.string ⟨((quoteS (l.take 120))).toArray⟩)) (some 67) (.bool true) (by kernel_rfl) ((run_eqT (x := (quoteS (l.take 120))))) ?_
    refine ops_rule (C := []) [] [] 6 [] 0 (fun φ42 => [(73, .string ⟨((l.take 120)).toArray⟩), (72, .string ⟨((l.take 120)).toArray⟩), (71, .bool true), (70, .bool true), (69, .bool true), (68, .bool true)]) (fun φ42 => []) (fun φ42 => []) s trivial (fun φ42 => by kernel_rfl) ?_
    intro φ42 w42 s
    refine sem_rule (binOp .eql 9 (.string ⟨((l.take 120)).toArray⟩) (.string ⟨((l.take 120)).toArray⟩)) (some 74) (.bool true) (by kernel_rfl) ((run_eqT (x := (l.take 120)))) ?_
    refine ops_rule (C := []) [] [] 4 [] 0 (fun φ43 => [(78, .string ⟨((uqV (l2.take 120))).toArray⟩), (77, .string ⟨((uqV (l2.take 120))).toArray⟩), (76, .bool true), (75, .bool true)]) (fun φ43 => []) (fun φ43 => []) s trivial (fun φ43 => by kernel_rfl) ?_
    intro φ43 w43 s
    refine sem_rule (binOp .eql 9 (.string ⟨((uqV (l2.take 120))).toArray⟩) (.string ⟨((uqV (l2.take 120))).toArray⟩)) (some 79) (.bool true) (by kernel_rfl) ((run_eqT (x := (uqV (l2.take 120))))) ?_
    refine ops_rule (C := []) [] [] 4 [] 0 (fun φ44 => [(83, .bool (uqB (l2.take 120))), (82, .bool (uqB (l2.take 120))), (81, .bool true), (80, .bool true)]) (fun φ44 => []) (fun φ44 => []) s trivial (fun φ44 => by kernel_rfl) ?_
    intro φ44 w44 s
    refine sem_rule (binOp .eql 4 (.bool (uqB (l2.take 120))) (.bool (uqB (l2.take 120)))) (some 84) (.bool true) (by kernel_rfl) (run_eqB) ?_
    refine ops_rule (C := []) [] [] 5 [] 0 (fun φ45 => [(89, .bool (!(uqB (l2.take 120)))), (88, .bool (!(uqB (l2.take 120)))), (87, .bool (uqB (l2.take 120))), (86, .bool true), (85, .bool true)]) (fun φ45 => []) (fun φ45 => []) s trivial (fun φ45 => by kernel_rfl) ?_
    intro φ45 w45 s
    rcases Bool.eq_false_or_eq_true (uqB (l2.take 120)) with hc46 | hc46
    ·
      rw [hc46]
      refine ops_rule (C := []) [] [] 1 [] 0 (fun φ47 => [(90, .string ⟨((uqV (l2.take 120))).toArray⟩)]) (fun φ47 => []) (fun φ47 => []) s trivial (fun φ47 => by kernel_rfl) ?_
      intro φ47 w47 s
      refine call_rule (some 91) s (quote_c (l := (uqV (l2.take 120))) (by have hz1 := take_le l 120; have hz2 := take_le l2 120; have hz3 := quoteS_le (l.take 120); have hz4 := uqV_le (l2.take 120); omega)) (by kernel_rfl) ?_
      intro v48 I48 w48 le48 h48 s
      replace hT := U8.mono le48 hT
      replace hle22 := leMono le48 hle22
      obtain rfl := h48
      refine ops_rule (C := []) [] [] 1 [] 0 (fun φ49 => [(92, .string ⟨((l2.take 120)).toArray⟩)]) (fun φ49 => []) (fun φ49 => []) s trivial (fun φ49 => by kernel_rfl) ?_
      intro φ49 w49 s
      refine sem_rule (binOp .eql 9 (.string ⟨((quoteS (uqV (l2.take 120)))).toArray⟩) (.string ⟨((l2.take 120)).toArray⟩)) (some 93) (.bool (decide ((quoteS (uqV (l2.take 120))) = (l2.take 120)))) (by kernel_rfl) (run_eqS (x := (quoteS (uqV (l2.take 120)))) (y := (l2.take 120))) ?_
      refine ops_rule (C := []) [] [] 3 [] 0 (fun φ50 => [(4, .bool (decide ((quoteS (uqV (l2.take 120))) = (l2.take 120)))), (95, .bool (decide ((quoteS (uqV (l2.take 120))) = (l2.take 120)))), (94, .bool (decide ((quoteS (uqV (l2.take 120))) = (l2.take 120))))]) (fun φ50 => []) (fun φ50 => []) s trivial (fun φ50 => by kernel_rfl) ?_
      intro φ50 w50 s
      refine ops_done (by kernel_rfl) ?_
      refine wp_ret ?_
      refine ret_rule (C := []) [] [] (.bool (decide ((quoteS (uqV (l2.take 120))) = (l2.take 120)))) [] [] s trivial (by kernel_rfl) ?_
      exact ⟨_, _, _, rfl, s, (congrArg Value.bool (decide_eq_true (uq_again hc46)))⟩
    ·
      rw [hc46]
      refine ops_rule (C := []) [] [] 7 [] 0 (fun φ51 => [(4, .bool true), (95, .bool true), (94, .bool true), (93, undef), (92, undef), (91, undef), (90, undef)]) (fun φ51 => []) (fun φ51 => []) s trivial (fun φ51 => by kernel_rfl) ?_
      intro φ51 w51 s
      refine ops_done (by kernel_rfl) ?_
      refine wp_ret ?_
      refine ret_rule (C := []) [] [] (.bool true) [] [] s trivial (by kernel_rfl) ?_
      exact ⟨_, _, _, rfl, s, rfl⟩

end Go.Proofs.YtgmigcmhnmmdkaaDoor

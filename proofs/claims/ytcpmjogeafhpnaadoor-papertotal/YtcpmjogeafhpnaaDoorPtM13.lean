/- The number in front, of any bytes. -/
import Derived.Test.YtcpmjogeafhpnaaDoorPtM12
set_option linter.all false
set_option maxRecDepth 100000
namespace Go.Proofs.YtcpmjogeafhpnaaDoor
open Go.RowKit Go.Sep
attribute [local irreducible] Go.wpList Go.Code.wp

set_option maxHeartbeats 2000000 in
theorem numberG_c {I : IM} {l : List UInt8} {a : Option Addr} {m c : Nat} (hl : BSl I l (.slice a m c)) (hn9 : l.length ≤ 1000000) : Fun Tryd.prog 128 #[.slice a m c] I (fun v J => v = .tuple #[.int .u64 ((numN l : Nat) : Int), .int .i64 ((numK l : Nat) : Int)]) := by
  obtain ⟨rfl, -⟩ := hl.cap
  refine enter_rule 49 [(0, .slice a l.length c)] Tryd.func128 rfl (by kernel_rfl) ?_
  intro w s
  refine wp_seq ?_
  refine region_rule ?_
  refine ops_rule (C := []) [] [] 2 [] 0 (fun φ1 => [(3, .int .i64 0), (2, .int .u64 0)]) (fun φ1 => []) (fun φ1 => []) s trivial (fun φ1 => by kernel_rfl) ?_
  intro φ1 w1 s
  refine ops_done (by kernel_rfl) ?_
  refine wp_seq ?_
  refine region_rule ?_
  refine ops_rule (C := []) [] [] 1 [] 0 (fun φ2 => [(4, .int .u64 0)]) (fun φ2 => []) (fun φ2 => []) s trivial (fun φ2 => by kernel_rfl) ?_
  intro φ2 w2 s
  refine ops_done (by kernel_rfl) ?_
  refine wp_seq ?_
  refine wp_seq ?_
  refine region_rule ?_
  refine ops_rule (C := []) [] [] 4 [] 0 (fun φ3 => [(12, .int .i64 0), (11, .int .i64 (if ((10 : Nat) : Int) < ((l.length : Nat) : Int) then ((10 : Nat) : Int) else ((l.length : Nat) : Int))), (10, .int .i64 ((l.length : Nat) : Int)), (9, .slice a l.length c)]) (fun φ3 => []) (fun φ3 => []) s trivial (fun φ3 => by kernel_rfl) ?_
  intro φ3 w3 s
  rw [nat_min (a := l.length) (b := 10)]
  refine ops_done (by kernel_rfl) ?_
  refine wp_block ?_
  have hle4 := IM.Le.refl I
  refine loop_rule (fun (x : Nat × Nat) => [(0, .slice a l.length c), (11, .int .i64 ((min l.length 10 : Nat) : Int)), (4, .int .u64 ((x.2 : Nat) : Int)), (12, .int .i64 ((x.1 : Nat) : Int))]) (fun (x : Nat × Nat) => []) (fun m (x : Nat × Nat) J => IM.Le I J ∧ x.1 + m = 10 ∧ DecG l x.1 x.2) (10) (0, 0) s (by kernel_rfl) List.Sublist.slnil ⟨IM.Le.refl _, rfl, DecG.start l⟩ ?_
  rintro m5 ⟨i5, acc5⟩ I5 w5 ev5 s ⟨le5, hi5_0, hi5_1⟩
  try dsimp only at s hi5_0 hi5_1 ⊢
  replace hl := BSl.mono le5 hl
  replace hle4 := leMono le5 hle4
  refine wp_seq ?_
  refine region_rule ?_
  refine ops_rule (C := []) [] [] 1 [] 0 (fun φ6 => [(13, .bool (decide (((i5 : Nat) : Int) < ((min l.length 10 : Nat) : Int))))]) (fun φ6 => []) (fun φ6 => []) s trivial (fun φ6 => by kernel_rfl) ?_
  intro φ6 w6 s
  rw [nat_lss (a := i5) (b := (min l.length 10))]
  refine ops_done (by kernel_rfl) ?_
  refine wp_seq ?_
  rcases Bool.eq_false_or_eq_true (decide (i5 < (min l.length 10))) with hc7 | hc7
  ·
    rw [hc7]
    refine cond_true_rule (b := true) (by kernel_rfl) rfl ?_
    refine wp_skip ?_
    refine wp_seq ?_
    refine wp_block ?_
    refine wp_seq ?_
    refine region_rule ?_
    refine ops_rule (C := []) [] [] 2 [] 0 (fun φ8 => [(5, .int .i64 ((i5 : Nat) : Int)), (14, .int .i64 ((i5 : Nat) : Int))]) (fun φ8 => []) (fun φ8 => []) s trivial (fun φ8 => by kernel_rfl) ?_
    intro φ8 w8 s
    refine ops_done (by kernel_rfl) ?_
    refine wp_seq ?_
    refine region_rule ?_
    refine ops_rule (C := []) [] [] 2 [] 0 (fun φ9 => [(16, .int .i64 ((i5 : Nat) : Int)), (15, .slice a l.length c)]) (fun φ9 => []) (fun φ9 => []) s trivial (fun φ9 => by kernel_rfl) ?_
    intro φ9 w9 s
    refine sem_rule (Instr.indexAt 61 (.slice a l.length c) (.int .i64 ((i5 : Nat) : Int))) (some 17) (.pointer (pAt a i5)) (by kernel_rfl) (bsl_idx hl (by have hd1 := hi5_1.le; have hd2 := hi5_1.len; have hq0 := of_decide_eq_true hc7; omega)) ?_
    refine sem_rule (Instr.loadAt 5 (.pointer (pAt a i5))) (some 18) (.int .u8 (((l.getD i5 0).toNat : Nat) : Int)) (by kernel_rfl) (bsl_ld s.sub hl (by have hd1 := hi5_1.le; have hd2 := hi5_1.len; have hq0 := of_decide_eq_true hc7; omega)) ?_
    refine ops_rule (C := []) [] [] 1 [] 0 (fun φ10 => [(6, .int .u8 (((l.getD i5 0).toNat : Nat) : Int))]) (fun φ10 => []) (fun φ10 => []) s trivial (fun φ10 => by kernel_rfl) ?_
    intro φ10 w10 s
    refine ops_done (by kernel_rfl) ?_
    refine wp_seq ?_
    refine region_rule ?_
    refine ops_rule (C := []) [] [] 2 [] 0 (fun φ11 => [(20, .int .u8 (((l.getD i5 0).toNat : Nat) : Int)), (19, .int .u64 ((acc5 : Nat) : Int))]) (fun φ11 => []) (fun φ11 => []) s trivial (fun φ11 => by kernel_rfl) ?_
    intro φ11 w11 s
    refine sem_rule (binOp .andNot 5 (.int .u8 (((l.getD i5 0).toNat : Nat) : Int)) (.int .u8 ((128 : Nat) : Int))) (some 21) (.int .u8 ((bandn 8 ((l.getD i5 0).toNat) 128 : Nat) : Int)) (by kernel_rfl) (run_bit8.2.2.2) ?_
    refine ops_rule (C := []) [] [] 3 [] 0 (fun φ12 => [(24, .int .i64 (IntKind.wrap .i64 (((i5 : Nat) : Int) * ((7 : Nat) : Int)))), (23, .int .i64 ((i5 : Nat) : Int)), (22, .int .u64 (IntKind.wrap .u64 ((bandn 8 ((l.getD i5 0).toNat) 128 : Nat) : Int)))]) (fun φ12 => []) (fun φ12 => []) s trivial (fun φ12 => by kernel_rfl) ?_
    intro φ12 w12 s
    rw [nat_mulI (a := i5) (b := 7) (by have hd1 := hi5_1.le; have hd2 := hi5_1.len; have hq0 := of_decide_eq_true hc7; omega)]
    rw [nat_wrapU (a := (bandn 8 ((l.getD i5 0).toNat) 128)) (by have := bandn8_lt (a := (l.getD i5 0).toNat) (b := 128); omega)]
    refine sem_rule (binOp .shl 114 (.int .u64 ((bandn 8 ((l.getD i5 0).toNat) 128 : Nat) : Int)) (.int .i64 ((i5 * 7 : Nat) : Int))) (some 25) (.int .u64 ((bshl 64 (bandn 8 ((l.getD i5 0).toNat) 128) (i5 * 7) : Nat) : Int)) (by kernel_rfl) (run_shlU (.inr (.inr (.inl rfl)))) ?_
    refine sem_rule (binOp .or 114 (.int .u64 ((acc5 : Nat) : Int)) (.int .u64 ((bshl 64 (bandn 8 ((l.getD i5 0).toNat) 128) (i5 * 7) : Nat) : Int))) (some 26) (.int .u64 ((bor 64 acc5 (bshl 64 (bandn 8 ((l.getD i5 0).toNat) 128) (i5 * 7)) : Nat) : Int)) (by kernel_rfl) (run_bit64.2.2.1) ?_
    refine ops_rule (C := []) [] [] 1 [] 0 (fun φ13 => [(4, .int .u64 ((bor 64 acc5 (bshl 64 (bandn 8 ((l.getD i5 0).toNat) 128) (i5 * 7)) : Nat) : Int))]) (fun φ13 => []) (fun φ13 => []) s trivial (fun φ13 => by kernel_rfl) ?_
    intro φ13 w13 s
    refine ops_done (by kernel_rfl) ?_
    refine wp_seq ?_
    refine wp_seq ?_
    refine region_rule ?_
    refine ops_rule (C := []) [] [] 2 [] 0 (fun φ14 => [(28, .bool (decide ((((l.getD i5 0).toNat : Nat) : Int) ≥ ((128 : Nat) : Int)))), (27, .int .u8 (((l.getD i5 0).toNat : Nat) : Int))]) (fun φ14 => []) (fun φ14 => []) s trivial (fun φ14 => by kernel_rfl) ?_
    intro φ14 w14 s
    rw [nat_geq (a := ((l.getD i5 0).toNat)) (b := 128)]
    refine ops_done (by kernel_rfl) ?_
    rcases Bool.eq_false_or_eq_true (decide (128 ≤ ((l.getD i5 0).toNat))) with hc15 | hc15
    ·
      rw [hc15]
      refine cond_true_rule (b := true) (by kernel_rfl) rfl ?_
      refine wp_exit ?_
      refine region_rule ?_
      refine ops_rule (C := []) [] [] 2 [] 0 (fun φ16 => [(12, .int .i64 (IntKind.wrap .i64 (((i5 : Nat) : Int) + ((1 : Nat) : Int)))), (48, .int .i64 (IntKind.wrap .i64 (((i5 : Nat) : Int) + ((1 : Nat) : Int))))]) (fun φ16 => []) (fun φ16 => []) s trivial (fun φ16 => by kernel_rfl) ?_
      intro φ16 w16 s
      rw [nat_addI (a := i5) (b := 1) (by have hd1 := hi5_1.le; have hd2 := hi5_1.len; have hq0 := of_decide_eq_true hc7; have hq1 := of_decide_eq_true hc15; omega)]
      refine ops_done (by kernel_rfl) ?_
      have hs9 := DecG.step hi5_1 (by have := of_decide_eq_true hc7; omega) (by have := of_decide_eq_true hc7; omega) (of_decide_eq_true hc15)
      exact ⟨⟨m5 - 1, (i5 + 1, bor 64 acc5 (bshl 64 (bandn 8 ((l.getD i5 0).toNat) 128) (i5 * 7))), _, _, _, by have := hi5_0; have := hi5_1.le; have : i5 < 10 := (by have := of_decide_eq_true hc7; omega); omega, rfl, s, List.Sublist.slnil, by kernel_rfl, hle4, by have := hi5_0; have := hi5_1.le; have : i5 < 10 := (by have := of_decide_eq_true hc7; omega); show i5 + 1 + (m5 - 1) = 10; omega, hs9⟩⟩
    ·
      rw [hc15]
      refine cond_false_rule (b := false) (by kernel_rfl) rfl ?_
      refine wp_skip ?_
      refine wp_seq ?_
      refine region_rule ?_
      refine ops_rule (C := []) [] [] 3 [] 0 (fun φ17 => [(31, .bool (decide (((i5 : Nat) : Int) > ((0 : Nat) : Int)))), (30, .bool (decide (((i5 : Nat) : Int) > ((0 : Nat) : Int)))), (29, .int .i64 ((i5 : Nat) : Int))]) (fun φ17 => []) (fun φ17 => []) s trivial (fun φ17 => by kernel_rfl) ?_
      intro φ17 w17 s
      rw [nat_gtr (a := i5) (b := 0)]
      rcases Bool.eq_false_or_eq_true (decide (0 < i5)) with hc18 | hc18
      ·
        rw [hc18]
        refine ops_rule (C := []) [] [] 4 [] 0 (fun φ19 => [(7, .bool ((((l.getD i5 0).toNat : Nat) : Int) == ((0 : Nat) : Int))), (34, .bool ((((l.getD i5 0).toNat : Nat) : Int) == ((0 : Nat) : Int))), (33, .bool ((((l.getD i5 0).toNat : Nat) : Int) == ((0 : Nat) : Int))), (32, .int .u8 (((l.getD i5 0).toNat : Nat) : Int))]) (fun φ19 => []) (fun φ19 => []) s trivial (fun φ19 => by kernel_rfl) ?_
        intro φ19 w19 s
        rw [nat_eql (a := ((l.getD i5 0).toNat)) (b := 0)]
        refine ops_done (by kernel_rfl) ?_
        refine wp_seq ?_
        refine region_rule ?_
        refine ops_rule (C := []) [] [] 3 [] 0 (fun φ20 => [(37, .bool (((i5 : Nat) : Int) == ((9 : Nat) : Int))), (36, .bool (((i5 : Nat) : Int) == ((9 : Nat) : Int))), (35, .int .i64 ((i5 : Nat) : Int))]) (fun φ20 => []) (fun φ20 => []) s trivial (fun φ20 => by kernel_rfl) ?_
        intro φ20 w20 s
        rw [nat_eql (a := i5) (b := 9)]
        rcases Bool.eq_false_or_eq_true (decide (i5 = 9)) with hc21 | hc21
        ·
          rw [hc21]
          refine ops_rule (C := []) [] [] 4 [] 0 (fun φ22 => [(8, .bool (decide ((((l.getD i5 0).toNat : Nat) : Int) > ((1 : Nat) : Int)))), (40, .bool (decide ((((l.getD i5 0).toNat : Nat) : Int) > ((1 : Nat) : Int)))), (39, .bool (decide ((((l.getD i5 0).toNat : Nat) : Int) > ((1 : Nat) : Int)))), (38, .int .u8 (((l.getD i5 0).toNat : Nat) : Int))]) (fun φ22 => []) (fun φ22 => []) s trivial (fun φ22 => by kernel_rfl) ?_
          intro φ22 w22 s
          rw [nat_gtr (a := ((l.getD i5 0).toNat)) (b := 1)]
          refine ops_done (by kernel_rfl) ?_
          refine wp_seq ?_
          refine wp_seq ?_
          refine region_rule ?_
          refine ops_rule (C := []) [] [] 2 [] 0 (fun φ23 => [(42, .bool (decide (((l.getD i5 0).toNat) = 0))), (41, .bool (decide (((l.getD i5 0).toNat) = 0)))]) (fun φ23 => []) (fun φ23 => []) s trivial (fun φ23 => by kernel_rfl) ?_
          intro φ23 w23 s
          rcases Bool.eq_false_or_eq_true (decide (((l.getD i5 0).toNat) = 0)) with hc24 | hc24
          ·
            rw [hc24]
            refine ops_rule (C := []) [] [] 2 [] 0 (fun φ25 => [(44, .bool true), (43, undef)]) (fun φ25 => []) (fun φ25 => []) s trivial (fun φ25 => by kernel_rfl) ?_
            intro φ25 w25 s
            refine ops_done (by kernel_rfl) ?_
            refine cond_true_rule (b := true) (by kernel_rfl) rfl ?_
            refine wp_seq ?_
            refine region_rule ?_
            refine ops_rule (C := []) [] [] 2 [] 0 (fun φ26 => [(3, .int .i64 0), (2, .int .u64 0)]) (fun φ26 => []) (fun φ26 => []) s trivial (fun φ26 => by kernel_rfl) ?_
            intro φ26 w26 s
            refine ops_done (by kernel_rfl) ?_
            refine wp_ret ?_
            refine ret_rule (C := []) [] [] (.tuple #[.int .u64 0, .int .i64 0]) [] [] s trivial (by kernel_rfl) ?_
            exact ⟨_, _, _, rfl, s, (by have hq0 := of_decide_eq_true hc7; have hq1 := of_decide_eq_false hc15; have hq2 := of_decide_eq_true hc18; have hq3 := of_decide_eq_true hc21; have hq4 := of_decide_eq_true hc24; have h9 := DecG.bad0 hi5_1 (by have := of_decide_eq_true hc7; omega) (by have := of_decide_eq_true hc7; omega) (of_decide_eq_false hc15) (by omega); rw [h9.1, h9.2]; rfl)⟩
          ·
            rw [hc24]
            refine ops_rule (C := []) [] [] 2 [] 0 (fun φ27 => [(44, .bool (decide (1 < ((l.getD i5 0).toNat)))), (43, .bool (decide (1 < ((l.getD i5 0).toNat))))]) (fun φ27 => []) (fun φ27 => []) s trivial (fun φ27 => by kernel_rfl) ?_
            intro φ27 w27 s
            refine ops_done (by kernel_rfl) ?_
            rcases Bool.eq_false_or_eq_true (decide (1 < ((l.getD i5 0).toNat))) with hc28 | hc28
            ·
              rw [hc28]
              refine cond_true_rule (b := true) (by kernel_rfl) rfl ?_
              refine wp_seq ?_
              refine region_rule ?_
              refine ops_rule (C := []) [] [] 2 [] 0 (fun φ29 => [(3, .int .i64 0), (2, .int .u64 0)]) (fun φ29 => []) (fun φ29 => []) s trivial (fun φ29 => by kernel_rfl) ?_
              intro φ29 w29 s
              refine ops_done (by kernel_rfl) ?_
              refine wp_ret ?_
              refine ret_rule (C := []) [] [] (.tuple #[.int .u64 0, .int .i64 0]) [] [] s trivial (by kernel_rfl) ?_
              exact ⟨_, _, _, rfl, s, (by have hq0 := of_decide_eq_true hc7; have hq1 := of_decide_eq_false hc15; have hq2 := of_decide_eq_true hc18; have hq3 := of_decide_eq_true hc21; have hq4 := of_decide_eq_false hc24; have hq5 := of_decide_eq_true hc28; have h9 := DecG.bad0 hi5_1 (by have := of_decide_eq_true hc7; omega) (by have := of_decide_eq_true hc7; omega) (of_decide_eq_false hc15) (by omega); rw [h9.1, h9.2]; rfl)⟩
            ·
              rw [hc28]
              refine cond_false_rule (b := false) (by kernel_rfl) rfl ?_
              refine wp_skip ?_
              refine wp_seq ?_
              refine region_rule ?_
              refine ops_rule (C := []) [] [] 5 [] 0 (fun φ30 => [(3, .int .i64 (IntKind.wrap .i64 (((i5 : Nat) : Int) + ((1 : Nat) : Int)))), (2, .int .u64 ((bor 64 acc5 (bshl 64 (bandn 8 ((l.getD i5 0).toNat) 128) (i5 * 7)) : Nat) : Int)), (47, .int .i64 (IntKind.wrap .i64 (((i5 : Nat) : Int) + ((1 : Nat) : Int)))), (46, .int .i64 ((i5 : Nat) : Int)), (45, .int .u64 ((bor 64 acc5 (bshl 64 (bandn 8 ((l.getD i5 0).toNat) 128) (i5 * 7)) : Nat) : Int))]) (fun φ30 => []) (fun φ30 => []) s trivial (fun φ30 => by kernel_rfl) ?_
              intro φ30 w30 s
              rw [nat_addI (a := i5) (b := 1) (by have hd1 := hi5_1.le; have hd2 := hi5_1.len; have hq0 := of_decide_eq_true hc7; have hq1 := of_decide_eq_false hc15; have hq2 := of_decide_eq_true hc18; have hq3 := of_decide_eq_true hc21; have hq4 := of_decide_eq_false hc24; have hq5 := of_decide_eq_false hc28; omega)]
              refine ops_done (by kernel_rfl) ?_
              refine wp_ret ?_
              refine ret_rule (C := []) [] [] (.tuple #[.int .u64 ((bor 64 acc5 (bshl 64 (bandn 8 ((l.getD i5 0).toNat) 128) (i5 * 7)) : Nat) : Int), .int .i64 ((i5 + 1 : Nat) : Int)]) [] [] s trivial (by kernel_rfl) ?_
              exact ⟨_, _, _, rfl, s, (by have hq0 := of_decide_eq_true hc7; have hq1 := of_decide_eq_false hc15; have hq2 := of_decide_eq_true hc18; have hq3 := of_decide_eq_true hc21; have hq4 := of_decide_eq_false hc24; have hq5 := of_decide_eq_false hc28; have h9 := DecG.good hi5_1 (by have := of_decide_eq_true hc7; omega) (by have := of_decide_eq_true hc7; omega) (of_decide_eq_false hc15) (by omega) (by omega); rw [← h9.1, ← h9.2])⟩
        ·
          rw [hc21]
          refine ops_rule (C := []) [] [] 4 [] 0 (fun φ31 => [(8, .bool false), (40, .bool false), (39, undef), (38, undef)]) (fun φ31 => []) (fun φ31 => []) s trivial (fun φ31 => by kernel_rfl) ?_
          intro φ31 w31 s
          refine ops_done (by kernel_rfl) ?_
          refine wp_seq ?_
          refine wp_seq ?_
          refine region_rule ?_
          refine ops_rule (C := []) [] [] 2 [] 0 (fun φ32 => [(42, .bool (decide (((l.getD i5 0).toNat) = 0))), (41, .bool (decide (((l.getD i5 0).toNat) = 0)))]) (fun φ32 => []) (fun φ32 => []) s trivial (fun φ32 => by kernel_rfl) ?_
          intro φ32 w32 s
          rcases Bool.eq_false_or_eq_true (decide (((l.getD i5 0).toNat) = 0)) with hc33 | hc33
          ·
            rw [hc33]
            refine ops_rule (C := []) [] [] 2 [] 0 (fun φ34 => [(44, .bool true), (43, undef)]) (fun φ34 => []) (fun φ34 => []) s trivial (fun φ34 => by kernel_rfl) ?_
            intro φ34 w34 s
            refine ops_done (by kernel_rfl) ?_
            refine cond_true_rule (b := true) (by kernel_rfl) rfl ?_
            refine wp_seq ?_
            refine region_rule ?_
            refine ops_rule (C := []) [] [] 2 [] 0 (fun φ35 => [(3, .int .i64 0), (2, .int .u64 0)]) (fun φ35 => []) (fun φ35 => []) s trivial (fun φ35 => by kernel_rfl) ?_
            intro φ35 w35 s
            refine ops_done (by kernel_rfl) ?_
            refine wp_ret ?_
            refine ret_rule (C := []) [] [] (.tuple #[.int .u64 0, .int .i64 0]) [] [] s trivial (by kernel_rfl) ?_
            exact ⟨_, _, _, rfl, s, (by have hq0 := of_decide_eq_true hc7; have hq1 := of_decide_eq_false hc15; have hq2 := of_decide_eq_true hc18; have hq3 := of_decide_eq_false hc21; have hq4 := of_decide_eq_true hc33; have h9 := DecG.bad0 hi5_1 (by have := of_decide_eq_true hc7; omega) (by have := of_decide_eq_true hc7; omega) (of_decide_eq_false hc15) (by omega); rw [h9.1, h9.2]; rfl)⟩
          ·
            rw [hc33]
            refine ops_rule (C := []) [] [] 2 [] 0 (fun φ36 => [(44, .bool false), (43, .bool false)]) (fun φ36 => []) (fun φ36 => []) s trivial (fun φ36 => by kernel_rfl) ?_
            intro φ36 w36 s
            refine ops_done (by kernel_rfl) ?_
            refine cond_false_rule (b := false) (by kernel_rfl) rfl ?_
            refine wp_skip ?_
            refine wp_seq ?_
            refine region_rule ?_
            refine ops_rule (C := []) [] [] 5 [] 0 (fun φ37 => [(3, .int .i64 (IntKind.wrap .i64 (((i5 : Nat) : Int) + ((1 : Nat) : Int)))), (2, .int .u64 ((bor 64 acc5 (bshl 64 (bandn 8 ((l.getD i5 0).toNat) 128) (i5 * 7)) : Nat) : Int)), (47, .int .i64 (IntKind.wrap .i64 (((i5 : Nat) : Int) + ((1 : Nat) : Int)))), (46, .int .i64 ((i5 : Nat) : Int)), (45, .int .u64 ((bor 64 acc5 (bshl 64 (bandn 8 ((l.getD i5 0).toNat) 128) (i5 * 7)) : Nat) : Int))]) (fun φ37 => []) (fun φ37 => []) s trivial (fun φ37 => by kernel_rfl) ?_
            intro φ37 w37 s
            rw [nat_addI (a := i5) (b := 1) (by have hd1 := hi5_1.le; have hd2 := hi5_1.len; have hq0 := of_decide_eq_true hc7; have hq1 := of_decide_eq_false hc15; have hq2 := of_decide_eq_true hc18; have hq3 := of_decide_eq_false hc21; have hq4 := of_decide_eq_false hc33; omega)]
            refine ops_done (by kernel_rfl) ?_
            refine wp_ret ?_
            refine ret_rule (C := []) [] [] (.tuple #[.int .u64 ((bor 64 acc5 (bshl 64 (bandn 8 ((l.getD i5 0).toNat) 128) (i5 * 7)) : Nat) : Int), .int .i64 ((i5 + 1 : Nat) : Int)]) [] [] s trivial (by kernel_rfl) ?_
            exact ⟨_, _, _, rfl, s, (by have hq0 := of_decide_eq_true hc7; have hq1 := of_decide_eq_false hc15; have hq2 := of_decide_eq_true hc18; have hq3 := of_decide_eq_false hc21; have hq4 := of_decide_eq_false hc33; have h9 := DecG.good hi5_1 (by have := of_decide_eq_true hc7; omega) (by have := of_decide_eq_true hc7; omega) (of_decide_eq_false hc15) (by omega) (by omega); rw [← h9.1, ← h9.2])⟩
      ·
        rw [hc18]
        refine ops_rule (C := []) [] [] 4 [] 0 (fun φ38 => [(7, .bool false), (34, .bool false), (33, undef), (32, undef)]) (fun φ38 => []) (fun φ38 => []) s trivial (fun φ38 => by kernel_rfl) ?_
        intro φ38 w38 s
        refine ops_done (by kernel_rfl) ?_
        refine wp_seq ?_
        refine region_rule ?_
        refine ops_rule (C := []) [] [] 3 [] 0 (fun φ39 => [(37, .bool (((i5 : Nat) : Int) == ((9 : Nat) : Int))), (36, .bool (((i5 : Nat) : Int) == ((9 : Nat) : Int))), (35, .int .i64 ((i5 : Nat) : Int))]) (fun φ39 => []) (fun φ39 => []) s trivial (fun φ39 => by kernel_rfl) ?_
        intro φ39 w39 s
        rw [nat_eql (a := i5) (b := 9)]
        rcases Bool.eq_false_or_eq_true (decide (i5 = 9)) with hc40 | hc40
        ·
          rw [hc40]
          refine ops_rule (C := []) [] [] 4 [] 0 (fun φ41 => [(8, .bool (decide ((((l.getD i5 0).toNat : Nat) : Int) > ((1 : Nat) : Int)))), (40, .bool (decide ((((l.getD i5 0).toNat : Nat) : Int) > ((1 : Nat) : Int)))), (39, .bool (decide ((((l.getD i5 0).toNat : Nat) : Int) > ((1 : Nat) : Int)))), (38, .int .u8 (((l.getD i5 0).toNat : Nat) : Int))]) (fun φ41 => []) (fun φ41 => []) s trivial (fun φ41 => by kernel_rfl) ?_
          intro φ41 w41 s
          rw [nat_gtr (a := ((l.getD i5 0).toNat)) (b := 1)]
          refine ops_done (by kernel_rfl) ?_
          refine wp_seq ?_
          refine wp_seq ?_
          refine region_rule ?_
          refine ops_rule (C := []) [] [] 4 [] 0 (fun φ42 => [(44, .bool (decide (1 < ((l.getD i5 0).toNat)))), (43, .bool (decide (1 < ((l.getD i5 0).toNat)))), (42, .bool false), (41, .bool false)]) (fun φ42 => []) (fun φ42 => []) s trivial (fun φ42 => by kernel_rfl) ?_
          intro φ42 w42 s
          refine ops_done (by kernel_rfl) ?_
          rcases Bool.eq_false_or_eq_true (decide (1 < ((l.getD i5 0).toNat))) with hc43 | hc43
          ·
            rw [hc43]
            refine cond_true_rule (b := true) (by kernel_rfl) rfl ?_
            refine wp_seq ?_
            refine region_rule ?_
            refine ops_rule (C := []) [] [] 2 [] 0 (fun φ44 => [(3, .int .i64 0), (2, .int .u64 0)]) (fun φ44 => []) (fun φ44 => []) s trivial (fun φ44 => by kernel_rfl) ?_
            intro φ44 w44 s
            refine ops_done (by kernel_rfl) ?_
            refine wp_ret ?_
            refine ret_rule (C := []) [] [] (.tuple #[.int .u64 0, .int .i64 0]) [] [] s trivial (by kernel_rfl) ?_
            exact ⟨_, _, _, rfl, s, (by have hq0 := of_decide_eq_true hc7; have hq1 := of_decide_eq_false hc15; have hq2 := of_decide_eq_false hc18; have hq3 := of_decide_eq_true hc40; have hq4 := of_decide_eq_true hc43; have h9 := DecG.bad0 hi5_1 (by have := of_decide_eq_true hc7; omega) (by have := of_decide_eq_true hc7; omega) (of_decide_eq_false hc15) (by omega); rw [h9.1, h9.2]; rfl)⟩
          ·
            rw [hc43]
            refine cond_false_rule (b := false) (by kernel_rfl) rfl ?_
            refine wp_skip ?_
            refine wp_seq ?_
            refine region_rule ?_
            refine ops_rule (C := []) [] [] 5 [] 0 (fun φ45 => [(3, .int .i64 (IntKind.wrap .i64 (((i5 : Nat) : Int) + ((1 : Nat) : Int)))), (2, .int .u64 ((bor 64 acc5 (bshl 64 (bandn 8 ((l.getD i5 0).toNat) 128) (i5 * 7)) : Nat) : Int)), (47, .int .i64 (IntKind.wrap .i64 (((i5 : Nat) : Int) + ((1 : Nat) : Int)))), (46, .int .i64 ((i5 : Nat) : Int)), (45, .int .u64 ((bor 64 acc5 (bshl 64 (bandn 8 ((l.getD i5 0).toNat) 128) (i5 * 7)) : Nat) : Int))]) (fun φ45 => []) (fun φ45 => []) s trivial (fun φ45 => by kernel_rfl) ?_
            intro φ45 w45 s
            rw [nat_addI (a := i5) (b := 1) (by have hd1 := hi5_1.le; have hd2 := hi5_1.len; have hq0 := of_decide_eq_true hc7; have hq1 := of_decide_eq_false hc15; have hq2 := of_decide_eq_false hc18; have hq3 := of_decide_eq_true hc40; have hq4 := of_decide_eq_false hc43; omega)]
            refine ops_done (by kernel_rfl) ?_
            refine wp_ret ?_
            refine ret_rule (C := []) [] [] (.tuple #[.int .u64 ((bor 64 acc5 (bshl 64 (bandn 8 ((l.getD i5 0).toNat) 128) (i5 * 7)) : Nat) : Int), .int .i64 ((i5 + 1 : Nat) : Int)]) [] [] s trivial (by kernel_rfl) ?_
            exact ⟨_, _, _, rfl, s, (by have hq0 := of_decide_eq_true hc7; have hq1 := of_decide_eq_false hc15; have hq2 := of_decide_eq_false hc18; have hq3 := of_decide_eq_true hc40; have hq4 := of_decide_eq_false hc43; have h9 := DecG.good hi5_1 (by have := of_decide_eq_true hc7; omega) (by have := of_decide_eq_true hc7; omega) (of_decide_eq_false hc15) (by omega) (by omega); rw [← h9.1, ← h9.2])⟩
        ·
          rw [hc40]
          refine ops_rule (C := []) [] [] 4 [] 0 (fun φ46 => [(8, .bool false), (40, .bool false), (39, undef), (38, undef)]) (fun φ46 => []) (fun φ46 => []) s trivial (fun φ46 => by kernel_rfl) ?_
          intro φ46 w46 s
          refine ops_done (by kernel_rfl) ?_
          refine wp_seq ?_
          refine wp_seq ?_
          refine region_rule ?_
          refine ops_rule (C := []) [] [] 4 [] 0 (fun φ47 => [(44, .bool false), (43, .bool false), (42, .bool false), (41, .bool false)]) (fun φ47 => []) (fun φ47 => []) s trivial (fun φ47 => by kernel_rfl) ?_
          intro φ47 w47 s
          refine ops_done (by kernel_rfl) ?_
          refine cond_false_rule (b := false) (by kernel_rfl) rfl ?_
          refine wp_skip ?_
          refine wp_seq ?_
          refine region_rule ?_
          refine ops_rule (C := []) [] [] 5 [] 0 (fun φ48 => [(3, .int .i64 (IntKind.wrap .i64 (((i5 : Nat) : Int) + ((1 : Nat) : Int)))), (2, .int .u64 ((bor 64 acc5 (bshl 64 (bandn 8 ((l.getD i5 0).toNat) 128) (i5 * 7)) : Nat) : Int)), (47, .int .i64 (IntKind.wrap .i64 (((i5 : Nat) : Int) + ((1 : Nat) : Int)))), (46, .int .i64 ((i5 : Nat) : Int)), (45, .int .u64 ((bor 64 acc5 (bshl 64 (bandn 8 ((l.getD i5 0).toNat) 128) (i5 * 7)) : Nat) : Int))]) (fun φ48 => []) (fun φ48 => []) s trivial (fun φ48 => by kernel_rfl) ?_
          intro φ48 w48 s
          rw [nat_addI (a := i5) (b := 1) (by have hd1 := hi5_1.le; have hd2 := hi5_1.len; have hq0 := of_decide_eq_true hc7; have hq1 := of_decide_eq_false hc15; have hq2 := of_decide_eq_false hc18; have hq3 := of_decide_eq_false hc40; omega)]
          refine ops_done (by kernel_rfl) ?_
          refine wp_ret ?_
          refine ret_rule (C := []) [] [] (.tuple #[.int .u64 ((bor 64 acc5 (bshl 64 (bandn 8 ((l.getD i5 0).toNat) 128) (i5 * 7)) : Nat) : Int), .int .i64 ((i5 + 1 : Nat) : Int)]) [] [] s trivial (by kernel_rfl) ?_
          exact ⟨_, _, _, rfl, s, (by have hq0 := of_decide_eq_true hc7; have hq1 := of_decide_eq_false hc15; have hq2 := of_decide_eq_false hc18; have hq3 := of_decide_eq_false hc40; have h9 := DecG.good hi5_1 (by have := of_decide_eq_true hc7; omega) (by have := of_decide_eq_true hc7; omega) (of_decide_eq_false hc15) (by omega) (by omega); rw [← h9.1, ← h9.2])⟩
  ·
    rw [hc7]
    refine cond_false_rule (b := false) (by kernel_rfl) rfl ?_
    refine wp_exit ?_
    refine wp_seq ?_
    refine region_rule ?_
    refine ops_rule (C := []) [] [] 2 [] 0 (fun φ49 => [(3, .int .i64 0), (2, .int .u64 0)]) (fun φ49 => []) (fun φ49 => []) s trivial (fun φ49 => by kernel_rfl) ?_
    intro φ49 w49 s
    refine ops_done (by kernel_rfl) ?_
    refine wp_ret ?_
    refine ret_rule (C := []) [] [] (.tuple #[.int .u64 0, .int .i64 0]) [] [] s trivial (by kernel_rfl) ?_
    exact ⟨_, _, _, rfl, s, (by have h9 := DecG.out hi5_1 (of_decide_eq_false hc7); rw [h9.1, h9.2]; rfl)⟩

end Go.Proofs.YtcpmjogeafhpnaaDoor

/- The program reads. -/
set_option linter.all false
set_option maxRecDepth 100000
namespace Go.Proofs.YtcpmjogeafhpnaaDoor
open Go.RowKit Go.Sep
attribute [local irreducible] Go.wpList Go.Code.wp

set_option maxHeartbeats 2000000 in
theorem byteG_c {I : IM} {l : List UInt8} {a : Option Addr} {k c r e : Nat} (hl : BSl I l (.slice a k c)) (hn9 : l.length ≤ 1000000) : FunM Tryd.prog 55 #[.pointer (some ⟨r, 0, none⟩)] I [(r, .cells #[.slice a k c, .int .i64 ((e : Nat) : Int)] 126)] (fun v J H' => ∃ b' : OB, H' = [b'] ∧ b'.1 = r ∧ ∃ (a' : Option Addr) (k' c' : Nat), v = .int .u8 ((byV l e : Nat) : Int) ∧ b' = (r, .cells #[.slice a' k' c', .int .i64 ((byE l e : Nat) : Int)] 126) ∧ BSl J (l.drop (byD l e)) (.slice a' k' c')) := by
  obtain ⟨rfl, -⟩ := hl.cap
  refine enterM_rule 31 [(0, .pointer (some ⟨r, 0, none⟩))] Tryd.func55 rfl (by kernel_rfl) ?_
  intro w s
  refine wp_seq ?_
  refine region_rule ?_
  refine ops_rule (C := []) [(r, .cells #[.slice a l.length c, .int .i64 ((e : Nat) : Int)] 126)] [] 1 [] 0 (fun φ1 => [(2, .int .u8 0)]) (fun φ1 => [(r, .cells #[.slice a l.length c, .int .i64 ((e : Nat) : Int)] 126)]) (fun φ1 => []) s trivial (fun φ1 => by kernel_rfl) ?_
  intro φ1 w1 s
  refine ops_done (by kernel_rfl) ?_
  refine wp_seq ?_
  refine wp_seq ?_
  refine region_rule ?_
  refine ops_rule (C := []) [(r, .cells #[.slice a l.length c, .int .i64 ((e : Nat) : Int)] 126)] [] 1 [] 0 (fun φ2 => [(4, .pointer (some ⟨r, 0, none⟩))]) (fun φ2 => [(r, .cells #[.slice a l.length c, .int .i64 ((e : Nat) : Int)] 126)]) (fun φ2 => []) s trivial (fun φ2 => by kernel_rfl) ?_
  intro φ2 w2 s
  refine callB_rule (b := (r, .cells #[.slice a l.length c, .int .i64 ((e : Nat) : Int)] 126)) (H := [(r, .cells #[.slice a l.length c, .int .i64 ((e : Nat) : Int)] 126)]) (F := []) (Hr := []) (some 5) 0 s (by kernel_rfl) (by kernel_rfl) (errI_c (r := r) (v0 := .slice a l.length c) (e := e)) (by kernel_rfl) ?_
  rintro v3 I3 w3 b3 le3 - h3 s
  replace hl := BSl.mono le3 hl
  obtain ⟨rfl, rfl⟩ := h3
  refine ops_rule (C := []) [(r, .cells #[.slice a l.length c, .int .i64 ((e : Nat) : Int)] 126)] [] 1 [] 0 (fun φ4 => [(6, .bool (((e : Nat) : Int) != ((0 : Nat) : Int)))]) (fun φ4 => [(r, .cells #[.slice a l.length c, .int .i64 ((e : Nat) : Int)] 126)]) (fun φ4 => []) s trivial (fun φ4 => by kernel_rfl) ?_
  intro φ4 w4 s
  rw [nat_neq (a := e) (b := 0)]
  refine ops_done (by kernel_rfl) ?_
  rcases Bool.eq_false_or_eq_true (decide (e ≠ 0)) with hc5 | hc5
  ·
    rw [hc5]
    refine cond_true_rule (b := true) (by kernel_rfl) rfl ?_
    refine wp_seq ?_
    refine region_rule ?_
    refine ops_rule (C := []) [(r, .cells #[.slice a l.length c, .int .i64 ((e : Nat) : Int)] 126)] [] 1 [] 0 (fun φ6 => [(2, .int .u8 0)]) (fun φ6 => [(r, .cells #[.slice a l.length c, .int .i64 ((e : Nat) : Int)] 126)]) (fun φ6 => []) s trivial (fun φ6 => by kernel_rfl) ?_
    intro φ6 w6 s
    refine ops_done (by kernel_rfl) ?_
    refine wp_ret ?_
    refine ret_rule (C := []) [(r, .cells #[.slice a l.length c, .int .i64 ((e : Nat) : Int)] 126)] [] (.int .u8 0) [] [] s trivial (by kernel_rfl) ?_
    exact ⟨_, _, _, rfl, s, (by have hq0 := of_decide_eq_true hc5;  exact ⟨_, rfl, rfl, _, _, _, (by unfold byV; first | (rw [if_pos (by omega)]; try rfl) | (rw [if_neg (by omega)]; try rfl)), (by unfold byE; first | (rw [if_pos (by omega)]; try rfl) | (rw [if_neg (by omega)]; try rfl)), bsl_eq hl (by unfold byD; first | (rw [if_pos (by omega)]; done) | (rw [if_neg (by omega)]; done) | (rw [if_pos (by omega)]; rfl) | (rw [if_neg (by omega)]; rfl))⟩)⟩
  ·
    rw [hc5]
    refine cond_false_rule (b := false) (by kernel_rfl) rfl ?_
    refine wp_skip ?_
    refine wp_seq ?_
    refine wp_seq ?_
    refine region_rule ?_
    refine ops_rule (C := []) [(r, .cells #[.slice a l.length c, .int .i64 ((e : Nat) : Int)] 126)] [] 6 [.o 0] 0 (fun φ7 => [(12, .bool (((l.length : Nat) : Int) == ((0 : Nat) : Int))), (11, .int .i64 ((l.length : Nat) : Int)), (10, .slice a l.length c), (9, .pointer (some ⟨r, 0, none⟩)), (8, .pointer (some ⟨r, 0, none⟩)), (7, .pointer (some ⟨r, 0, none⟩))]) (fun φ7 => [(r, .cells #[.slice a l.length c, .int .i64 ((e : Nat) : Int)] 126)]) (fun φ7 => [r]) s trivial (fun φ7 => by kernel_rfl) ?_
    intro φ7 w7 s
    rw [nat_eql (a := l.length) (b := 0)]
    refine ops_done (by kernel_rfl) ?_
    rcases Bool.eq_false_or_eq_true (decide (l.length = 0)) with hc8 | hc8
    ·
      rw [hc8]
      refine cond_true_rule (b := true) (by kernel_rfl) rfl ?_
      refine wp_seq ?_
      refine region_rule ?_
      refine ops_rule (C := []) [(r, .cells #[.slice a l.length c, .int .i64 ((e : Nat) : Int)] 126)] [] 4 [.o 0] 0 (fun φ9 => [(15, .pointer (some ⟨r, 1, none⟩)), (14, .pointer (some ⟨r, 0, none⟩)), (13, .pointer (some ⟨r, 0, none⟩))]) (fun φ9 => [(r, .cells #[.slice a l.length c, .int .i64 6] 126)]) (fun φ9 => [r]) s trivial (fun φ9 => by kernel_rfl) ?_
      intro φ9 w9 s
      refine ops_done (by kernel_rfl) ?_
      refine wp_seq ?_
      refine region_rule ?_
      refine ops_rule (C := []) [(r, .cells #[.slice a l.length c, .int .i64 6] 126)] [] 1 [] 0 (fun φ10 => [(2, .int .u8 0)]) (fun φ10 => [(r, .cells #[.slice a l.length c, .int .i64 6] 126)]) (fun φ10 => []) s trivial (fun φ10 => by kernel_rfl) ?_
      intro φ10 w10 s
      refine ops_done (by kernel_rfl) ?_
      refine wp_ret ?_
      refine ret_rule (C := []) [(r, .cells #[.slice a l.length c, .int .i64 6] 126)] [] (.int .u8 0) [] [] s trivial (by kernel_rfl) ?_
      exact ⟨_, _, _, rfl, s, (by have hq0 := of_decide_eq_false hc5; have hq1 := of_decide_eq_true hc8;  exact ⟨_, rfl, rfl, _, _, _, (by unfold byV; first | (rw [if_pos (by omega)]; try rfl) | (rw [if_neg (by omega)]; try rfl)), (by unfold byE; first | (rw [if_pos (by omega)]; try rfl) | (rw [if_neg (by omega)]; try rfl)), bsl_eq hl (by unfold byD; first | (rw [if_pos (by omega)]; done) | (rw [if_neg (by omega)]; done) | (rw [if_pos (by omega)]; rfl) | (rw [if_neg (by omega)]; rfl))⟩)⟩
    ·
      rw [hc8]
      refine cond_false_rule (b := false) (by kernel_rfl) rfl ?_
      refine wp_skip ?_
      refine wp_seq ?_
      refine region_rule ?_
      refine ops_rule (C := []) [(r, .cells #[.slice a l.length c, .int .i64 ((e : Nat) : Int)] 126)] [] 4 [.o 0] 0 (fun φ11 => [(19, .slice a l.length c), (18, .pointer (some ⟨r, 0, none⟩)), (17, .pointer (some ⟨r, 0, none⟩)), (16, .pointer (some ⟨r, 0, none⟩))]) (fun φ11 => [(r, .cells #[.slice a l.length c, .int .i64 ((e : Nat) : Int)] 126)]) (fun φ11 => [r]) s trivial (fun φ11 => by kernel_rfl) ?_
      intro φ11 w11 s
      refine sem_rule (Instr.indexAt 61 (.slice a l.length c) (.int .i64 ((0 : Nat) : Int))) (some 20) (.pointer (pAt a 0)) (by kernel_rfl) (bsl_idx hl (by  have hq0 := of_decide_eq_false hc5; have hq1 := of_decide_eq_false hc8; omega)) ?_
      refine sem_rule (Instr.loadAt 5 (.pointer (pAt a 0))) (some 21) (.int .u8 (((l.getD 0 0).toNat : Nat) : Int)) (by kernel_rfl) (bsl_ld s.sub hl (by  have hq0 := of_decide_eq_false hc5; have hq1 := of_decide_eq_false hc8; omega)) ?_
      refine ops_rule (C := []) [(r, .cells #[.slice a l.length c, .int .i64 ((e : Nat) : Int)] 126)] [] 1 [] 0 (fun φ12 => [(3, .int .u8 (((l.getD 0 0).toNat : Nat) : Int))]) (fun φ12 => [(r, .cells #[.slice a l.length c, .int .i64 ((e : Nat) : Int)] 126)]) (fun φ12 => []) s trivial (fun φ12 => by kernel_rfl) ?_
      intro φ12 w12 s
      refine ops_done (by kernel_rfl) ?_
      refine wp_seq ?_
      refine region_rule ?_
      refine ops_rule (C := []) [(r, .cells #[.slice a l.length c, .int .i64 ((e : Nat) : Int)] 126)] [] 5 [.o 0] 0 (fun φ13 => [(26, .slice a l.length c), (25, .pointer (some ⟨r, 0, none⟩)), (24, .pointer (some ⟨r, 0, none⟩)), (23, .pointer (some ⟨r, 0, none⟩)), (22, .pointer (some ⟨r, 0, none⟩))]) (fun φ13 => [(r, .cells #[.slice a l.length c, .int .i64 ((e : Nat) : Int)] 126)]) (fun φ13 => [r]) s trivial (fun φ13 => by kernel_rfl) ?_
      intro φ13 w13 s
      refine sem_rule (Instr.sliceAt 61 (.slice a l.length c) (some (.int .i64 ((1 : Nat) : Int))) none none) (some 27) (.slice (subA a 1 c) (l.length - 1) (c - 1)) (by kernel_rfl) (run_from (by have hcp := (BSl.cap hl).2; (try simp only [List.length_drop, List.length_take, List.length_append, List.length_cons, List.length_nil] at hcp ⊢);  have hq0 := of_decide_eq_false hc5; have hq1 := of_decide_eq_false hc8; omega)) ?_
      refine ops_rule (C := []) [(r, .cells #[.slice a l.length c, .int .i64 ((e : Nat) : Int)] 126)] [] 3 [.o 0] 0 (fun φ14 => [(29, .pointer (some ⟨r, 0, none⟩)), (28, .pointer (some ⟨r, 0, none⟩))]) (fun φ14 => [(r, .cells #[.slice (subA a 1 c) (l.length - 1) (c - 1), .int .i64 ((e : Nat) : Int)] 126)]) (fun φ14 => [r]) s trivial (fun φ14 => by kernel_rfl) ?_
      intro φ14 w14 s
      refine ops_done (by kernel_rfl) ?_
      refine wp_seq ?_
      refine region_rule ?_
      refine ops_rule (C := []) [(r, .cells #[.slice (subA a 1 c) (l.length - 1) (c - 1), .int .i64 ((e : Nat) : Int)] 126)] [] 2 [] 0 (fun φ15 => [(2, .int .u8 (((l.getD 0 0).toNat : Nat) : Int)), (30, .int .u8 (((l.getD 0 0).toNat : Nat) : Int))]) (fun φ15 => [(r, .cells #[.slice (subA a 1 c) (l.length - 1) (c - 1), .int .i64 ((e : Nat) : Int)] 126)]) (fun φ15 => []) s trivial (fun φ15 => by kernel_rfl) ?_
      intro φ15 w15 s
      refine ops_done (by kernel_rfl) ?_
      refine wp_ret ?_
      refine ret_rule (C := []) [(r, .cells #[.slice (subA a 1 c) (l.length - 1) (c - 1), .int .i64 ((e : Nat) : Int)] 126)] [] (.int .u8 (((l.getD 0 0).toNat : Nat) : Int)) [] [] s trivial (by kernel_rfl) ?_
      exact ⟨_, _, _, rfl, s, (by have hq0 := of_decide_eq_false hc5; have hq1 := of_decide_eq_false hc8;  exact ⟨_, rfl, rfl, _, _, _, (by unfold byV; first | (rw [if_pos (by omega)]; try rfl) | (rw [if_neg (by omega)]; try rfl)), (by unfold byE; first | (rw [if_pos (by omega)]; try rfl) | (rw [if_neg (by omega)]; try rfl)), bsl_eq (bsl_from (lo := 1) hl (by have hcp := (BSl.cap hl).2; (try simp only [List.length_drop, List.length_take, List.length_append, List.length_cons, List.length_nil] at hcp ⊢);  have hq0 := of_decide_eq_false hc5; have hq1 := of_decide_eq_false hc8; omega)) (by unfold byD; first | (rw [if_pos (by omega)]; done) | (rw [if_neg (by omega)]; done) | (rw [if_pos (by omega)]; rfl) | (rw [if_neg (by omega)]; rfl))⟩)⟩

set_option maxHeartbeats 2000000 in
theorem numG_c {I : IM} {l : List UInt8} {a : Option Addr} {k c r e : Nat} (hl : BSl I l (.slice a k c)) (hn9 : l.length ≤ 1000000) : FunM Tryd.prog 114 #[.pointer (some ⟨r, 0, none⟩)] I [(r, .cells #[.slice a k c, .int .i64 ((e : Nat) : Int)] 126)] (fun v J H' => ∃ b' : OB, H' = [b'] ∧ b'.1 = r ∧ ∃ (a' : Option Addr) (k' c' : Nat), v = .int .u64 ((nuV l e : Nat) : Int) ∧ b' = (r, .cells #[.slice a' k' c', .int .i64 ((nuE l e : Nat) : Int)] 126) ∧ BSl J (l.drop (nuD l e)) (.slice a' k' c')) := by
  obtain ⟨rfl, -⟩ := hl.cap
  refine enterM_rule 31 [(0, .pointer (some ⟨r, 0, none⟩))] Tryd.func114 rfl (by kernel_rfl) ?_
  intro w s
  refine wp_seq ?_
  refine region_rule ?_
  refine ops_rule (C := []) [(r, .cells #[.slice a l.length c, .int .i64 ((e : Nat) : Int)] 126)] [] 1 [] 0 (fun φ1 => [(2, .int .u64 0)]) (fun φ1 => [(r, .cells #[.slice a l.length c, .int .i64 ((e : Nat) : Int)] 126)]) (fun φ1 => []) s trivial (fun φ1 => by kernel_rfl) ?_
  intro φ1 w1 s
  refine ops_done (by kernel_rfl) ?_
  refine wp_seq ?_
  refine wp_seq ?_
  refine region_rule ?_
  refine ops_rule (C := []) [(r, .cells #[.slice a l.length c, .int .i64 ((e : Nat) : Int)] 126)] [] 1 [] 0 (fun φ2 => [(5, .pointer (some ⟨r, 0, none⟩))]) (fun φ2 => [(r, .cells #[.slice a l.length c, .int .i64 ((e : Nat) : Int)] 126)]) (fun φ2 => []) s trivial (fun φ2 => by kernel_rfl) ?_
  intro φ2 w2 s
  refine callB_rule (b := (r, .cells #[.slice a l.length c, .int .i64 ((e : Nat) : Int)] 126)) (H := [(r, .cells #[.slice a l.length c, .int .i64 ((e : Nat) : Int)] 126)]) (F := []) (Hr := []) (some 6) 0 s (by kernel_rfl) (by kernel_rfl) (errI_c (r := r) (v0 := .slice a l.length c) (e := e)) (by kernel_rfl) ?_
  rintro v3 I3 w3 b3 le3 - h3 s
  replace hl := BSl.mono le3 hl
  obtain ⟨rfl, rfl⟩ := h3
  refine ops_rule (C := []) [(r, .cells #[.slice a l.length c, .int .i64 ((e : Nat) : Int)] 126)] [] 1 [] 0 (fun φ4 => [(7, .bool (((e : Nat) : Int) != ((0 : Nat) : Int)))]) (fun φ4 => [(r, .cells #[.slice a l.length c, .int .i64 ((e : Nat) : Int)] 126)]) (fun φ4 => []) s trivial (fun φ4 => by kernel_rfl) ?_
  intro φ4 w4 s
  rw [nat_neq (a := e) (b := 0)]
  refine ops_done (by kernel_rfl) ?_
  rcases Bool.eq_false_or_eq_true (decide (e ≠ 0)) with hc5 | hc5
  ·
    rw [hc5]
    refine cond_true_rule (b := true) (by kernel_rfl) rfl ?_
    refine wp_seq ?_
    refine region_rule ?_
    refine ops_rule (C := []) [(r, .cells #[.slice a l.length c, .int .i64 ((e : Nat) : Int)] 126)] [] 1 [] 0 (fun φ6 => [(2, .int .u64 0)]) (fun φ6 => [(r, .cells #[.slice a l.length c, .int .i64 ((e : Nat) : Int)] 126)]) (fun φ6 => []) s trivial (fun φ6 => by kernel_rfl) ?_
    intro φ6 w6 s
    refine ops_done (by kernel_rfl) ?_
    refine wp_ret ?_
    refine ret_rule (C := []) [(r, .cells #[.slice a l.length c, .int .i64 ((e : Nat) : Int)] 126)] [] (.int .u64 0) [] [] s trivial (by kernel_rfl) ?_
    exact ⟨_, _, _, rfl, s, (by have hq0 := of_decide_eq_true hc5;  exact ⟨_, rfl, rfl, _, _, _, (by have hz9 := @numK_zero l; unfold nuV; first | (rw [if_pos (by omega)]; done) | (rw [if_neg (by omega)]; rfl) | (rw [if_pos (by omega), hz9 (by omega)]; rfl)), (by unfold nuE; first | (rw [if_pos (by omega)]; try rfl) | (rw [if_neg (by omega)]; try rfl)), bsl_eq hl (by unfold nuD; first | (rw [if_pos (by omega)]; done) | (rw [if_neg (by omega)]; rfl) | (rw [if_pos (by omega), show numK l = 0 by omega]; rfl))⟩)⟩
  ·
    rw [hc5]
    refine cond_false_rule (b := false) (by kernel_rfl) rfl ?_
    refine wp_skip ?_
    refine wp_seq ?_
    refine region_rule ?_
    refine ops_rule (C := []) [(r, .cells #[.slice a l.length c, .int .i64 ((e : Nat) : Int)] 126)] [] 4 [.o 0] 0 (fun φ7 => [(12, .slice a l.length c), (11, .pointer (some ⟨r, 0, none⟩)), (10, .pointer (some ⟨r, 0, none⟩)), (9, .pointer (some ⟨r, 0, none⟩))]) (fun φ7 => [(r, .cells #[.slice a l.length c, .int .i64 ((e : Nat) : Int)] 126)]) (fun φ7 => [r]) s trivial (fun φ7 => by kernel_rfl) ?_
    intro φ7 w7 s
    refine call_rule (some 13) s (numberG_c hl (by omega)) (by kernel_rfl) ?_
    intro v8 I8 w8 le8 h8 s
    replace hl := BSl.mono le8 hl
    obtain rfl := h8
    refine ops_rule (C := []) [(r, .cells #[.slice a l.length c, .int .i64 ((e : Nat) : Int)] 126)] [] 5 [] 0 (fun φ9 => [(4, .int .i64 ((numK l : Nat) : Int)), (3, .int .u64 ((numN l : Nat) : Int)), (15, .int .i64 ((numK l : Nat) : Int)), (14, .int .u64 ((numN l : Nat) : Int)), (8, .tuple #[.int .u64 ((numN l : Nat) : Int), .int .i64 ((numK l : Nat) : Int)])]) (fun φ9 => [(r, .cells #[.slice a l.length c, .int .i64 ((e : Nat) : Int)] 126)]) (fun φ9 => []) s trivial (fun φ9 => by kernel_rfl) ?_
    intro φ9 w9 s
    refine ops_done (by kernel_rfl) ?_
    refine wp_seq ?_
    refine wp_seq ?_
    refine region_rule ?_
    refine ops_rule (C := []) [(r, .cells #[.slice a l.length c, .int .i64 ((e : Nat) : Int)] 126)] [] 2 [] 0 (fun φ10 => [(17, .bool (((numK l : Nat) : Int) == ((0 : Nat) : Int))), (16, .int .i64 ((numK l : Nat) : Int))]) (fun φ10 => [(r, .cells #[.slice a l.length c, .int .i64 ((e : Nat) : Int)] 126)]) (fun φ10 => []) s trivial (fun φ10 => by kernel_rfl) ?_
    intro φ10 w10 s
    rw [nat_eql (a := (numK l)) (b := 0)]
    refine ops_done (by kernel_rfl) ?_
    rcases Bool.eq_false_or_eq_true (decide ((numK l) = 0)) with hc11 | hc11
    ·
      rw [hc11]
      refine cond_true_rule (b := true) (by kernel_rfl) rfl ?_
      refine wp_seq ?_
      refine region_rule ?_
      refine ops_rule (C := []) [(r, .cells #[.slice a l.length c, .int .i64 ((e : Nat) : Int)] 126)] [] 4 [.o 0] 0 (fun φ12 => [(20, .pointer (some ⟨r, 1, none⟩)), (19, .pointer (some ⟨r, 0, none⟩)), (18, .pointer (some ⟨r, 0, none⟩))]) (fun φ12 => [(r, .cells #[.slice a l.length c, .int .i64 6] 126)]) (fun φ12 => [r]) s trivial (fun φ12 => by kernel_rfl) ?_
      intro φ12 w12 s
      refine ops_done (by kernel_rfl) ?_
      refine wp_seq ?_
      refine region_rule ?_
      refine ops_rule (C := []) [(r, .cells #[.slice a l.length c, .int .i64 6] 126)] [] 1 [] 0 (fun φ13 => [(2, .int .u64 0)]) (fun φ13 => [(r, .cells #[.slice a l.length c, .int .i64 6] 126)]) (fun φ13 => []) s trivial (fun φ13 => by kernel_rfl) ?_
      intro φ13 w13 s
      refine ops_done (by kernel_rfl) ?_
      refine wp_ret ?_
      refine ret_rule (C := []) [(r, .cells #[.slice a l.length c, .int .i64 6] 126)] [] (.int .u64 0) [] [] s trivial (by kernel_rfl) ?_
      exact ⟨_, _, _, rfl, s, (by have hq0 := of_decide_eq_false hc5; have hq1 := of_decide_eq_true hc11;  exact ⟨_, rfl, rfl, _, _, _, (by have hz9 := @numK_zero l; unfold nuV; first | (rw [if_pos (by omega)]; done) | (rw [if_neg (by omega)]; rfl) | (rw [if_pos (by omega), hz9 (by omega)]; rfl)), (by unfold nuE; first | (rw [if_pos (by omega)]; try rfl) | (rw [if_neg (by omega)]; try rfl)), bsl_eq hl (by unfold nuD; first | (rw [if_pos (by omega)]; done) | (rw [if_neg (by omega)]; rfl) | (rw [if_pos (by omega), show numK l = 0 by omega]; rfl))⟩)⟩
    ·
      rw [hc11]
      refine cond_false_rule (b := false) (by kernel_rfl) rfl ?_
      refine wp_skip ?_
      refine wp_seq ?_
      refine region_rule ?_
      refine ops_rule (C := []) [(r, .cells #[.slice a l.length c, .int .i64 ((e : Nat) : Int)] 126)] [] 6 [.o 0] 0 (fun φ14 => [(26, .int .i64 ((numK l : Nat) : Int)), (25, .slice a l.length c), (24, .pointer (some ⟨r, 0, none⟩)), (23, .pointer (some ⟨r, 0, none⟩)), (22, .pointer (some ⟨r, 0, none⟩)), (21, .pointer (some ⟨r, 0, none⟩))]) (fun φ14 => [(r, .cells #[.slice a l.length c, .int .i64 ((e : Nat) : Int)] 126)]) (fun φ14 => [r]) s trivial (fun φ14 => by kernel_rfl) ?_
      intro φ14 w14 s
      refine sem_rule (Instr.sliceAt 61 (.slice a l.length c) (some (.int .i64 ((numK l : Nat) : Int))) none none) (some 27) (.slice (subA a (numK l) c) (l.length - (numK l)) (c - (numK l))) (by kernel_rfl) (run_from (by have hcp := (BSl.cap hl).2; (try simp only [List.length_drop, List.length_take, List.length_append, List.length_cons, List.length_nil] at hcp ⊢); have hk9 := numK_le l; have hn8 := numN_lt l; have hq0 := of_decide_eq_false hc5; have hq1 := of_decide_eq_false hc11; omega)) ?_
      refine ops_rule (C := []) [(r, .cells #[.slice a l.length c, .int .i64 ((e : Nat) : Int)] 126)] [] 3 [.o 0] 0 (fun φ15 => [(29, .pointer (some ⟨r, 0, none⟩)), (28, .pointer (some ⟨r, 0, none⟩))]) (fun φ15 => [(r, .cells #[.slice (subA a (numK l) c) (l.length - (numK l)) (c - (numK l)), .int .i64 ((e : Nat) : Int)] 126)]) (fun φ15 => [r]) s trivial (fun φ15 => by kernel_rfl) ?_
      intro φ15 w15 s
      refine ops_done (by kernel_rfl) ?_
      refine wp_seq ?_
      refine region_rule ?_
      refine ops_rule (C := []) [(r, .cells #[.slice (subA a (numK l) c) (l.length - (numK l)) (c - (numK l)), .int .i64 ((e : Nat) : Int)] 126)] [] 2 [] 0 (fun φ16 => [(2, .int .u64 ((numN l : Nat) : Int)), (30, .int .u64 ((numN l : Nat) : Int))]) (fun φ16 => [(r, .cells #[.slice (subA a (numK l) c) (l.length - (numK l)) (c - (numK l)), .int .i64 ((e : Nat) : Int)] 126)]) (fun φ16 => []) s trivial (fun φ16 => by kernel_rfl) ?_
      intro φ16 w16 s
      refine ops_done (by kernel_rfl) ?_
      refine wp_ret ?_
      refine ret_rule (C := []) [(r, .cells #[.slice (subA a (numK l) c) (l.length - (numK l)) (c - (numK l)), .int .i64 ((e : Nat) : Int)] 126)] [] (.int .u64 ((numN l : Nat) : Int)) [] [] s trivial (by kernel_rfl) ?_
      exact ⟨_, _, _, rfl, s, (by have hq0 := of_decide_eq_false hc5; have hq1 := of_decide_eq_false hc11;  exact ⟨_, rfl, rfl, _, _, _, (by have hz9 := @numK_zero l; unfold nuV; first | (rw [if_pos (by omega)]; done) | (rw [if_neg (by omega)]; rfl) | (rw [if_pos (by omega), hz9 (by omega)]; rfl)), (by unfold nuE; first | (rw [if_pos (by omega)]; try rfl) | (rw [if_neg (by omega)]; try rfl)), bsl_eq (bsl_from (lo := numK l) hl (by have hcp := (BSl.cap hl).2; (try simp only [List.length_drop, List.length_take, List.length_append, List.length_cons, List.length_nil] at hcp ⊢); have hk9 := numK_le l; have hn8 := numN_lt l; have hq0 := of_decide_eq_false hc5; have hq1 := of_decide_eq_false hc11; omega)) (by unfold nuD; first | (rw [if_pos (by omega)]; done) | (rw [if_neg (by omega)]; rfl) | (rw [if_pos (by omega), show numK l = 0 by omega]; rfl))⟩)⟩

set_option maxHeartbeats 2000000 in
theorem failG_c {I : IM} {l : List UInt8} {a : Option Addr} {k c r e q : Nat} (hl : BSl I l (.slice a k c)) (hn9 : l.length ≤ 1000000) : FunM Tryd.prog 96 #[.pointer (some ⟨r, 0, none⟩), .int .i64 ((q : Nat) : Int)] I [(r, .cells #[.slice a k c, .int .i64 ((e : Nat) : Int)] 126)] (fun v J H' => ∃ b' : OB, H' = [b'] ∧ b'.1 = r ∧ ∃ (a' : Option Addr) (k' c' : Nat), v = .tuple #[] ∧ b' = (r, .cells #[.slice a' k' c', .int .i64 ((faE q e : Nat) : Int)] 126) ∧ BSl J (l.drop (0)) (.slice a' k' c')) := by
  obtain ⟨rfl, -⟩ := hl.cap
  refine enterM_rule 11 [(0, .pointer (some ⟨r, 0, none⟩)), (1, .int .i64 ((q : Nat) : Int))] Tryd.func96 rfl (by kernel_rfl) ?_
  intro w s
  refine wp_seq ?_
  refine region_rule ?_
  refine ops_rule (C := []) [(r, .cells #[.slice a l.length c, .int .i64 ((e : Nat) : Int)] 126)] [] 1 [] 0 (fun φ1 => [(4, .pointer (some ⟨r, 0, none⟩))]) (fun φ1 => [(r, .cells #[.slice a l.length c, .int .i64 ((e : Nat) : Int)] 126)]) (fun φ1 => []) s trivial (fun φ1 => by kernel_rfl) ?_
  intro φ1 w1 s
  refine callB_rule (b := (r, .cells #[.slice a l.length c, .int .i64 ((e : Nat) : Int)] 126)) (H := [(r, .cells #[.slice a l.length c, .int .i64 ((e : Nat) : Int)] 126)]) (F := []) (Hr := []) (some 5) 0 s (by kernel_rfl) (by kernel_rfl) (errI_c (r := r) (v0 := .slice a l.length c) (e := e)) (by kernel_rfl) ?_
  rintro v2 I2 w2 b2 le2 - h2 s
  replace hl := BSl.mono le2 hl
  obtain ⟨rfl, rfl⟩ := h2
  refine ops_rule (C := []) [(r, .cells #[.slice a l.length c, .int .i64 ((e : Nat) : Int)] 126)] [] 1 [] 0 (fun φ3 => [(6, .bool (((e : Nat) : Int) == ((0 : Nat) : Int)))]) (fun φ3 => [(r, .cells #[.slice a l.length c, .int .i64 ((e : Nat) : Int)] 126)]) (fun φ3 => []) s trivial (fun φ3 => by kernel_rfl) ?_
  intro φ3 w3 s
  rw [nat_eql (a := e) (b := 0)]
  refine ops_done (by kernel_rfl) ?_
  rcases Bool.eq_false_or_eq_true (decide (e = 0)) with hc4 | hc4
  ·
    rw [hc4]
    refine cond_true_rule (b := true) (by kernel_rfl) rfl ?_
    refine region_rule ?_
    refine ops_rule (C := []) [(r, .cells #[.slice a l.length c, .int .i64 ((e : Nat) : Int)] 126)] [] 5 [.o 0] 0 (fun φ5 => [(10, .pointer (some ⟨r, 1, none⟩)), (9, .pointer (some ⟨r, 0, none⟩)), (8, .int .i64 ((q : Nat) : Int)), (7, .pointer (some ⟨r, 0, none⟩))]) (fun φ5 => [(r, .cells #[.slice a l.length c, .int .i64 ((q : Nat) : Int)] 126)]) (fun φ5 => [r]) s trivial (fun φ5 => by kernel_rfl) ?_
    intro φ5 w5 s
    refine ops_done (by kernel_rfl) ?_
    refine end_rule (C := []) [(r, .cells #[.slice a l.length c, .int .i64 ((q : Nat) : Int)] 126)] [] (.tuple #[]) [] [] s trivial (by kernel_rfl) ?_
    exact ⟨_, _, _, rfl, s, (by have hq0 := of_decide_eq_true hc4;  exact ⟨_, rfl, rfl, _, _, _, (by rfl), (by unfold faE; first | (rw [if_pos (by omega)]; try rfl) | (rw [if_neg (by omega)]; try rfl)), bsl_eq hl (by rfl)⟩)⟩
  ·
    rw [hc4]
    refine cond_false_rule (b := false) (by kernel_rfl) rfl ?_
    refine wp_skip ?_
    refine end_rule (C := []) [(r, .cells #[.slice a l.length c, .int .i64 ((e : Nat) : Int)] 126)] [] (.tuple #[]) [] [] s trivial (by kernel_rfl) ?_
    exact ⟨_, _, _, rfl, s, (by have hq0 := of_decide_eq_false hc4;  exact ⟨_, rfl, rfl, _, _, _, (by rfl), (by unfold faE; first | (rw [if_pos (by omega)]; try rfl) | (rw [if_neg (by omega)]; try rfl)), bsl_eq hl (by rfl)⟩)⟩

set_option maxHeartbeats 2000000 in
theorem endG_c {I : IM} {l : List UInt8} {a : Option Addr} {k c r e : Nat} (hl : BSl I l (.slice a k c)) (hn9 : l.length ≤ 1000000) : FunM Tryd.prog 56 #[.pointer (some ⟨r, 0, none⟩)] I [(r, .cells #[.slice a k c, .int .i64 ((e : Nat) : Int)] 126)] (fun v J H' => ∃ b' : OB, H' = [b'] ∧ b'.1 = r ∧ ∃ (a' : Option Addr) (k' c' : Nat), v = .int .i64 ((enE l e : Nat) : Int) ∧ b' = (r, .cells #[.slice a' k' c', .int .i64 ((enE l e : Nat) : Int)] 126) ∧ BSl J (l.drop (0)) (.slice a' k' c')) := by
  obtain ⟨rfl, -⟩ := hl.cap
  refine enterM_rule 10 [(0, .pointer (some ⟨r, 0, none⟩))] Tryd.func56 rfl (by kernel_rfl) ?_
  intro w s
  refine wp_seq ?_
  refine region_rule ?_
  refine ops_rule (C := []) [(r, .cells #[.slice a l.length c, .int .i64 ((e : Nat) : Int)] 126)] [] 1 [] 0 (fun φ1 => [(2, .int .i64 0)]) (fun φ1 => [(r, .cells #[.slice a l.length c, .int .i64 ((e : Nat) : Int)] 126)]) (fun φ1 => []) s trivial (fun φ1 => by kernel_rfl) ?_
  intro φ1 w1 s
  refine ops_done (by kernel_rfl) ?_
  refine wp_seq ?_
  refine wp_seq ?_
  refine region_rule ?_
  refine ops_rule (C := []) [(r, .cells #[.slice a l.length c, .int .i64 ((e : Nat) : Int)] 126)] [] 1 [] 0 (fun φ2 => [(3, .pointer (some ⟨r, 0, none⟩))]) (fun φ2 => [(r, .cells #[.slice a l.length c, .int .i64 ((e : Nat) : Int)] 126)]) (fun φ2 => []) s trivial (fun φ2 => by kernel_rfl) ?_
  intro φ2 w2 s
  refine callB_rule (b := (r, .cells #[.slice a l.length c, .int .i64 ((e : Nat) : Int)] 126)) (H := [(r, .cells #[.slice a l.length c, .int .i64 ((e : Nat) : Int)] 126)]) (F := []) (Hr := []) (some 4) 0 s (by kernel_rfl) (by kernel_rfl) (leftI_c (r := r) (a := a) (k := l.length) (c := c) (e := e)) (by kernel_rfl) ?_
  rintro v3 I3 w3 b3 le3 - h3 s
  replace hl := BSl.mono le3 hl
  obtain ⟨rfl, rfl⟩ := h3
  refine ops_rule (C := []) [(r, .cells #[.slice a l.length c, .int .i64 ((e : Nat) : Int)] 126)] [] 1 [] 0 (fun φ4 => [(5, .bool (decide (((l.length : Nat) : Int) > ((0 : Nat) : Int))))]) (fun φ4 => [(r, .cells #[.slice a l.length c, .int .i64 ((e : Nat) : Int)] 126)]) (fun φ4 => []) s trivial (fun φ4 => by kernel_rfl) ?_
  intro φ4 w4 s
  rw [nat_gtr (a := l.length) (b := 0)]
  refine ops_done (by kernel_rfl) ?_
  rcases Bool.eq_false_or_eq_true (decide (0 < l.length)) with hc5 | hc5
  ·
    rw [hc5]
    refine cond_true_rule (b := true) (by kernel_rfl) rfl ?_
    refine region_rule ?_
    refine ops_rule (C := []) [(r, .cells #[.slice a l.length c, .int .i64 ((e : Nat) : Int)] 126)] [] 1 [] 0 (fun φ6 => [(6, .pointer (some ⟨r, 0, none⟩))]) (fun φ6 => [(r, .cells #[.slice a l.length c, .int .i64 ((e : Nat) : Int)] 126)]) (fun φ6 => []) s trivial (fun φ6 => by kernel_rfl) ?_
    intro φ6 w6 s
    refine callB_rule (b := (r, .cells #[.slice a l.length c, .int .i64 ((e : Nat) : Int)] 126)) (H := [(r, .cells #[.slice a l.length c, .int .i64 ((e : Nat) : Int)] 126)]) (F := []) (Hr := []) (some 7) 0 s (by kernel_rfl) (by kernel_rfl) (failG_c (r := r) (e := e) (q := 6) hl (by omega)) (by kernel_rfl) ?_
    rintro v7 I7 w7 b7 le7 - h7 s
    replace hl := BSl.mono le7 hl
    obtain ⟨a7, k7, c7, rfl, rfl, h7_0⟩ := h7
    refine ops_done (by kernel_rfl) ?_
    refine wp_seq ?_
    refine region_rule ?_
    refine ops_rule (C := []) [(r, .cells #[.slice a7 k7 c7, .int .i64 ((faE 6 e : Nat) : Int)] 126)] [] 1 [] 0 (fun φ8 => [(8, .pointer (some ⟨r, 0, none⟩))]) (fun φ8 => [(r, .cells #[.slice a7 k7 c7, .int .i64 ((faE 6 e : Nat) : Int)] 126)]) (fun φ8 => []) s trivial (fun φ8 => by kernel_rfl) ?_
    intro φ8 w8 s
    refine callB_rule (b := (r, .cells #[.slice a7 k7 c7, .int .i64 ((faE 6 e : Nat) : Int)] 126)) (H := [(r, .cells #[.slice a7 k7 c7, .int .i64 ((faE 6 e : Nat) : Int)] 126)]) (F := []) (Hr := []) (some 9) 0 s (by kernel_rfl) (by kernel_rfl) (errI_c (r := r) (v0 := .slice a7 k7 c7) (e := faE 6 e)) (by kernel_rfl) ?_
    rintro v9 I9 w9 b9 le9 - h9 s
    replace hl := BSl.mono le9 hl
    replace h7_0 := BSl.mono le9 h7_0
    obtain ⟨rfl, rfl⟩ := h9
    refine ops_rule (C := []) [(r, .cells #[.slice a7 k7 c7, .int .i64 ((faE 6 e : Nat) : Int)] 126)] [] 1 [] 0 (fun φ10 => [(2, .int .i64 ((faE 6 e : Nat) : Int))]) (fun φ10 => [(r, .cells #[.slice a7 k7 c7, .int .i64 ((faE 6 e : Nat) : Int)] 126)]) (fun φ10 => []) s trivial (fun φ10 => by kernel_rfl) ?_
    intro φ10 w10 s
    refine ops_done (by kernel_rfl) ?_
    refine wp_ret ?_
    refine ret_rule (C := []) [(r, .cells #[.slice a7 k7 c7, .int .i64 ((faE 6 e : Nat) : Int)] 126)] [] (.int .i64 ((faE 6 e : Nat) : Int)) [] [] s trivial (by kernel_rfl) ?_
    exact ⟨_, _, _, rfl, s, (by have hq0 := of_decide_eq_true hc5;  exact ⟨_, rfl, rfl, _, _, _, (by first | rw [enE_pos (by omega)] | rw [enE_none (by omega)]), (by first | rw [enE_pos (by omega)] | rw [enE_none (by omega)]), bsl_eq h7_0 (by rfl)⟩)⟩
  ·
    rw [hc5]
    refine cond_false_rule (b := false) (by kernel_rfl) rfl ?_
    refine wp_skip ?_
    refine wp_seq ?_
    refine region_rule ?_
    refine ops_rule (C := []) [(r, .cells #[.slice a l.length c, .int .i64 ((e : Nat) : Int)] 126)] [] 1 [] 0 (fun φ11 => [(8, .pointer (some ⟨r, 0, none⟩))]) (fun φ11 => [(r, .cells #[.slice a l.length c, .int .i64 ((e : Nat) : Int)] 126)]) (fun φ11 => []) s trivial (fun φ11 => by kernel_rfl) ?_
    intro φ11 w11 s
    refine callB_rule (b := (r, .cells #[.slice a l.length c, .int .i64 ((e : Nat) : Int)] 126)) (H := [(r, .cells #[.slice a l.length c, .int .i64 ((e : Nat) : Int)] 126)]) (F := []) (Hr := []) (some 9) 0 s (by kernel_rfl) (by kernel_rfl) (errI_c (r := r) (v0 := .slice a l.length c) (e := e)) (by kernel_rfl) ?_
    rintro v12 I12 w12 b12 le12 - h12 s
    replace hl := BSl.mono le12 hl
    obtain ⟨rfl, rfl⟩ := h12
    refine ops_rule (C := []) [(r, .cells #[.slice a l.length c, .int .i64 ((e : Nat) : Int)] 126)] [] 1 [] 0 (fun φ13 => [(2, .int .i64 ((e : Nat) : Int))]) (fun φ13 => [(r, .cells #[.slice a l.length c, .int .i64 ((e : Nat) : Int)] 126)]) (fun φ13 => []) s trivial (fun φ13 => by kernel_rfl) ?_
    intro φ13 w13 s
    refine ops_done (by kernel_rfl) ?_
    refine wp_ret ?_
    refine ret_rule (C := []) [(r, .cells #[.slice a l.length c, .int .i64 ((e : Nat) : Int)] 126)] [] (.int .i64 ((e : Nat) : Int)) [] [] s trivial (by kernel_rfl) ?_
    exact ⟨_, _, _, rfl, s, (by have hq0 := of_decide_eq_false hc5;  exact ⟨_, rfl, rfl, _, _, _, (by first | rw [enE_pos (by omega)] | rw [enE_none (by omega)]), (by first | rw [enE_pos (by omega)] | rw [enE_none (by omega)]), bsl_eq hl (by rfl)⟩)⟩

set_option maxHeartbeats 2000000 in
theorem textG_c {I : IM} {l : List UInt8} {a : Option Addr} {k c r e z : Nat} (hl : BSl I l (.slice a k c)) (hn9 : l.length ≤ 1000000) (hz : z < 9223372036854775808) : FunM Tryd.prog 115 #[.pointer (some ⟨r, 0, none⟩), .int .i64 ((z : Nat) : Int)] I [(r, .cells #[.slice a k c, .int .i64 ((e : Nat) : Int)] 126)] (fun v J H' => ∃ b' : OB, H' = [b'] ∧ b'.1 = r ∧ ∃ (a' : Option Addr) (k' c' : Nat), v = .string ⟨(teV l e ((z : Nat) : Int)).toArray⟩ ∧ b' = (r, .cells #[.slice a' k' c', .int .i64 ((teE l e ((z : Nat) : Int) : Nat) : Int)] 126) ∧ BSl J (l.drop (teD l e ((z : Nat) : Int))) (.slice a' k' c')) := by
  obtain ⟨rfl, -⟩ := hl.cap
  refine enterM_rule 62 [(0, .pointer (some ⟨r, 0, none⟩)), (1, .int .i64 ((z : Nat) : Int))] Tryd.func115 rfl (by kernel_rfl) ?_
  intro w s
  refine wp_seq ?_
  refine region_rule ?_
  refine ops_rule (C := []) [(r, .cells #[.slice a l.length c, .int .i64 ((e : Nat) : Int)] 126)] [] 1 [] 0 (fun φ1 => [(4, .string ⟨#[]⟩)]) (fun φ1 => [(r, .cells #[.slice a l.length c, .int .i64 ((e : Nat) : Int)] 126)]) (fun φ1 => []) s trivial (fun φ1 => by kernel_rfl) ?_
  intro φ1 w1 s
  refine ops_done (by kernel_rfl) ?_
  refine wp_seq ?_
  refine wp_seq ?_
  refine region_rule ?_
  refine ops_rule (C := []) [(r, .cells #[.slice a l.length c, .int .i64 ((e : Nat) : Int)] 126)] [] 1 [] 0 (fun φ2 => [(8, .pointer (some ⟨r, 0, none⟩))]) (fun φ2 => [(r, .cells #[.slice a l.length c, .int .i64 ((e : Nat) : Int)] 126)]) (fun φ2 => []) s trivial (fun φ2 => by kernel_rfl) ?_
  intro φ2 w2 s
  refine callB_rule (b := (r, .cells #[.slice a l.length c, .int .i64 ((e : Nat) : Int)] 126)) (H := [(r, .cells #[.slice a l.length c, .int .i64 ((e : Nat) : Int)] 126)]) (F := []) (Hr := []) (some 9) 0 s (by kernel_rfl) (by kernel_rfl) (errI_c (r := r) (v0 := .slice a l.length c) (e := e)) (by kernel_rfl) ?_
  rintro v3 I3 w3 b3 le3 - h3 s
  replace hl := BSl.mono le3 hl
  obtain ⟨rfl, rfl⟩ := h3
  refine ops_rule (C := []) [(r, .cells #[.slice a l.length c, .int .i64 ((e : Nat) : Int)] 126)] [] 1 [] 0 (fun φ4 => [(10, .bool (((e : Nat) : Int) != ((0 : Nat) : Int)))]) (fun φ4 => [(r, .cells #[.slice a l.length c, .int .i64 ((e : Nat) : Int)] 126)]) (fun φ4 => []) s trivial (fun φ4 => by kernel_rfl) ?_
  intro φ4 w4 s
  rw [nat_neq (a := e) (b := 0)]
  refine ops_done (by kernel_rfl) ?_
  rcases Bool.eq_false_or_eq_true (decide (e ≠ 0)) with hc5 | hc5
  ·
    rw [hc5]
    refine cond_true_rule (b := true) (by kernel_rfl) rfl ?_
    refine wp_seq ?_
    refine region_rule ?_
    refine ops_rule (C := []) [(r, .cells #[.slice a l.length c, .int .i64 ((e : Nat) : Int)] 126)] [] 1 [] 0 (fun φ6 => [(4, .string ⟨#[]⟩)]) (fun φ6 => [(r, .cells #[.slice a l.length c, .int .i64 ((e : Nat) : Int)] 126)]) (fun φ6 => []) s trivial (fun φ6 => by kernel_rfl) ?_
    intro φ6 w6 s
    refine ops_done (by kernel_rfl) ?_
    refine wp_ret ?_
    refine ret_rule (C := []) [(r, .cells #[.slice a l.length c, .int .i64 ((e : Nat) : Int)] 126)] [] (.string ⟨#[]⟩) [] [] s trivial (by kernel_rfl) ?_
    exact ⟨_, _, _, rfl, s, (by have hq0 := of_decide_eq_true hc5;  exact ⟨_, rfl, rfl, _, _, _, (by unfold teV; first | (rw [if_pos (by unfold okT; omega)]; done) | (rw [if_neg (by unfold okT; omega)]; done) | (rw [if_pos (by unfold okT; omega)]; rfl) | (rw [if_neg (by unfold okT; omega)]; rfl)), (by unfold teE; first | (rw [if_neg (by omega)]; done) | (rw [if_pos (by omega), if_pos (by omega)]; rfl) | (rw [if_pos (by omega), if_neg (by omega), if_pos (by omega)]; rfl) | (rw [if_pos (by omega), if_neg (by omega), if_neg (by omega), if_pos (by omega)]; rfl) | (rw [if_pos (by omega), if_neg (by omega), if_neg (by omega), if_neg (by omega), show e = 0 by omega]; done) | (rw [if_pos (by omega), if_neg (by omega), if_neg (by omega), if_neg (by omega), show e = 0 by omega]; rfl)), bsl_eq hl (by unfold teD; first | (rw [if_neg (by unfold okT; omega)]; rfl) | (rw [if_pos (by unfold okT; omega), ← List.drop_drop]))⟩)⟩
  ·
    rw [hc5]
    refine cond_false_rule (b := false) (by kernel_rfl) rfl ?_
    refine wp_skip ?_
    refine wp_seq ?_
    refine region_rule ?_
    refine ops_rule (C := []) [(r, .cells #[.slice a l.length c, .int .i64 ((e : Nat) : Int)] 126)] [] 4 [.o 0] 0 (fun φ7 => [(15, .slice a l.length c), (14, .pointer (some ⟨r, 0, none⟩)), (13, .pointer (some ⟨r, 0, none⟩)), (12, .pointer (some ⟨r, 0, none⟩))]) (fun φ7 => [(r, .cells #[.slice a l.length c, .int .i64 ((e : Nat) : Int)] 126)]) (fun φ7 => [r]) s trivial (fun φ7 => by kernel_rfl) ?_
    intro φ7 w7 s
    refine call_rule (some 16) s (numberG_c hl (by omega)) (by kernel_rfl) ?_
    intro v8 I8 w8 le8 h8 s
    replace hl := BSl.mono le8 hl
    obtain rfl := h8
    refine ops_rule (C := []) [(r, .cells #[.slice a l.length c, .int .i64 ((e : Nat) : Int)] 126)] [] 5 [] 0 (fun φ9 => [(6, .int .i64 ((numK l : Nat) : Int)), (5, .int .u64 ((numN l : Nat) : Int)), (18, .int .i64 ((numK l : Nat) : Int)), (17, .int .u64 ((numN l : Nat) : Int)), (11, .tuple #[.int .u64 ((numN l : Nat) : Int), .int .i64 ((numK l : Nat) : Int)])]) (fun φ9 => [(r, .cells #[.slice a l.length c, .int .i64 ((e : Nat) : Int)] 126)]) (fun φ9 => []) s trivial (fun φ9 => by kernel_rfl) ?_
    intro φ9 w9 s
    refine ops_done (by kernel_rfl) ?_
    refine wp_seq ?_
    refine region_rule ?_
    refine ops_rule (C := []) [(r, .cells #[.slice a l.length c, .int .i64 ((e : Nat) : Int)] 126)] [] 5 [.o 0] 0 (fun φ10 => [(23, .int .i64 ((numK l : Nat) : Int)), (22, .slice a l.length c), (21, .pointer (some ⟨r, 0, none⟩)), (20, .pointer (some ⟨r, 0, none⟩)), (19, .pointer (some ⟨r, 0, none⟩))]) (fun φ10 => [(r, .cells #[.slice a l.length c, .int .i64 ((e : Nat) : Int)] 126)]) (fun φ10 => [r]) s trivial (fun φ10 => by kernel_rfl) ?_
    intro φ10 w10 s
    refine sem_rule (Instr.sliceAt 61 (.slice a l.length c) (some (.int .i64 ((numK l : Nat) : Int))) none none) (some 24) (.slice (subA a (numK l) c) (l.length - (numK l)) (c - (numK l))) (by kernel_rfl) (run_from (by have hcp := (BSl.cap hl).2; (try simp only [List.length_drop, List.length_take, List.length_append, List.length_cons, List.length_nil] at hcp ⊢); have hk9 := numK_le l; have hn8 := numN_lt l; have hq0 := of_decide_eq_false hc5; omega)) ?_
    refine ops_rule (C := []) [(r, .cells #[.slice a l.length c, .int .i64 ((e : Nat) : Int)] 126)] [] 1 [] 0 (fun φ11 => [(7, .slice (subA a (numK l) c) (l.length - (numK l)) (c - (numK l)))]) (fun φ11 => [(r, .cells #[.slice a l.length c, .int .i64 ((e : Nat) : Int)] 126)]) (fun φ11 => []) s trivial (fun φ11 => by kernel_rfl) ?_
    intro φ11 w11 s
    refine ops_done (by kernel_rfl) ?_
    refine wp_seq ?_
    refine wp_block ?_
    refine wp_seq ?_
    refine region_rule ?_
    refine ops_rule (C := []) [(r, .cells #[.slice a l.length c, .int .i64 ((e : Nat) : Int)] 126)] [] 3 [] 0 (fun φ12 => [(35, .bool (((numK l : Nat) : Int) == ((0 : Nat) : Int))), (37, .bool (((numK l : Nat) : Int) == ((0 : Nat) : Int))), (36, .int .i64 ((numK l : Nat) : Int))]) (fun φ12 => [(r, .cells #[.slice a l.length c, .int .i64 ((e : Nat) : Int)] 126)]) (fun φ12 => []) s trivial (fun φ12 => by kernel_rfl) ?_
    intro φ12 w12 s
    rw [nat_eql (a := (numK l)) (b := 0)]
    refine ops_done (by kernel_rfl) ?_
    rcases Bool.eq_false_or_eq_true (decide ((numK l) = 0)) with hc13 | hc13
    ·
      rw [hc13]
      refine cond_true_rule (b := true) (by kernel_rfl) rfl ?_
      refine region_rule ?_
      refine ops_rule (C := []) [(r, .cells #[.slice a l.length c, .int .i64 ((e : Nat) : Int)] 126)] [] 4 [.o 0] 0 (fun φ14 => [(40, .pointer (some ⟨r, 1, none⟩)), (39, .pointer (some ⟨r, 0, none⟩)), (38, .pointer (some ⟨r, 0, none⟩))]) (fun φ14 => [(r, .cells #[.slice a l.length c, .int .i64 6] 126)]) (fun φ14 => [r]) s trivial (fun φ14 => by kernel_rfl) ?_
      intro φ14 w14 s
      refine ops_done (by kernel_rfl) ?_
      refine wp_seq ?_
      refine region_rule ?_
      refine ops_rule (C := []) [(r, .cells #[.slice a l.length c, .int .i64 6] 126)] [] 1 [] 0 (fun φ15 => [(4, .string ⟨#[]⟩)]) (fun φ15 => [(r, .cells #[.slice a l.length c, .int .i64 6] 126)]) (fun φ15 => []) s trivial (fun φ15 => by kernel_rfl) ?_
      intro φ15 w15 s
      refine ops_done (by kernel_rfl) ?_
      refine wp_ret ?_
      refine ret_rule (C := []) [(r, .cells #[.slice a l.length c, .int .i64 6] 126)] [] (.string ⟨#[]⟩) [] [] s trivial (by kernel_rfl) ?_
      exact ⟨_, _, _, rfl, s, (by have hq0 := of_decide_eq_false hc5; have hq1 := of_decide_eq_true hc13;  exact ⟨_, rfl, rfl, _, _, _, (by unfold teV; first | (rw [if_pos (by unfold okT; omega)]; done) | (rw [if_neg (by unfold okT; omega)]; done) | (rw [if_pos (by unfold okT; omega)]; rfl) | (rw [if_neg (by unfold okT; omega)]; rfl)), (by unfold teE; first | (rw [if_neg (by omega)]; done) | (rw [if_pos (by omega), if_pos (by omega)]; rfl) | (rw [if_pos (by omega), if_neg (by omega), if_pos (by omega)]; rfl) | (rw [if_pos (by omega), if_neg (by omega), if_neg (by omega), if_pos (by omega)]; rfl) | (rw [if_pos (by omega), if_neg (by omega), if_neg (by omega), if_neg (by omega), show e = 0 by omega]; done) | (rw [if_pos (by omega), if_neg (by omega), if_neg (by omega), if_neg (by omega), show e = 0 by omega]; rfl)), bsl_eq hl (by unfold teD; first | (rw [if_neg (by unfold okT; omega)]; rfl) | (rw [if_pos (by unfold okT; omega), ← List.drop_drop]))⟩)⟩
    ·
      rw [hc13]
      refine cond_false_rule (b := false) (by kernel_rfl) rfl ?_
      refine wp_seq ?_
      refine region_rule ?_
      refine ops_rule (C := []) [(r, .cells #[.slice a l.length c, .int .i64 ((e : Nat) : Int)] 126)] [] 3 [] 0 (fun φ16 => [(44, .bool (decide (((z : Nat) : Int) < ((0 : Nat) : Int)))), (43, .bool (decide (((z : Nat) : Int) < ((0 : Nat) : Int)))), (42, .int .i64 ((z : Nat) : Int))]) (fun φ16 => [(r, .cells #[.slice a l.length c, .int .i64 ((e : Nat) : Int)] 126)]) (fun φ16 => []) s trivial (fun φ16 => by kernel_rfl) ?_
      intro φ16 w16 s
      rw [nat_lss (a := z) (b := 0)]
      rcases Bool.eq_false_or_eq_true (decide (z < 0)) with hc17 | hc17
      ·
        rw [hc17]
        refine ops_rule (C := []) [(r, .cells #[.slice a l.length c, .int .i64 ((e : Nat) : Int)] 126)] [] 6 [] 0 (fun φ18 => [(41, .bool true), (49, .bool true), (48, undef), (47, undef), (46, undef), (45, undef)]) (fun φ18 => [(r, .cells #[.slice a l.length c, .int .i64 ((e : Nat) : Int)] 126)]) (fun φ18 => []) s trivial (fun φ18 => by kernel_rfl) ?_
        intro φ18 w18 s
        refine ops_done (by kernel_rfl) ?_
        refine cond_true_rule (b := true) (by kernel_rfl) rfl ?_
        refine region_rule ?_
        refine ops_rule (C := []) [(r, .cells #[.slice a l.length c, .int .i64 ((e : Nat) : Int)] 126)] [] 4 [.o 0] 0 (fun φ19 => [(52, .pointer (some ⟨r, 1, none⟩)), (51, .pointer (some ⟨r, 0, none⟩)), (50, .pointer (some ⟨r, 0, none⟩))]) (fun φ19 => [(r, .cells #[.slice a l.length c, .int .i64 9] 126)]) (fun φ19 => [r]) s trivial (fun φ19 => by kernel_rfl) ?_
        intro φ19 w19 s
        refine ops_done (by kernel_rfl) ?_
        refine wp_seq ?_
        refine region_rule ?_
        refine ops_rule (C := []) [(r, .cells #[.slice a l.length c, .int .i64 9] 126)] [] 1 [] 0 (fun φ20 => [(4, .string ⟨#[]⟩)]) (fun φ20 => [(r, .cells #[.slice a l.length c, .int .i64 9] 126)]) (fun φ20 => []) s trivial (fun φ20 => by kernel_rfl) ?_
        intro φ20 w20 s
        refine ops_done (by kernel_rfl) ?_
        refine wp_ret ?_
        refine ret_rule (C := []) [(r, .cells #[.slice a l.length c, .int .i64 9] 126)] [] (.string ⟨#[]⟩) [] [] s trivial (by kernel_rfl) ?_
        exact ⟨_, _, _, rfl, s, (by have hq0 := of_decide_eq_false hc5; have hq1 := of_decide_eq_false hc13; have hq2 := of_decide_eq_true hc17;  exact ⟨_, rfl, rfl, _, _, _, (by unfold teV; first | (rw [if_pos (by unfold okT; omega)]; done) | (rw [if_neg (by unfold okT; omega)]; done) | (rw [if_pos (by unfold okT; omega)]; rfl) | (rw [if_neg (by unfold okT; omega)]; rfl)), (by unfold teE; first | (rw [if_neg (by omega)]; done) | (rw [if_pos (by omega), if_pos (by omega)]; rfl) | (rw [if_pos (by omega), if_neg (by omega), if_pos (by omega)]; rfl) | (rw [if_pos (by omega), if_neg (by omega), if_neg (by omega), if_pos (by omega)]; rfl) | (rw [if_pos (by omega), if_neg (by omega), if_neg (by omega), if_neg (by omega), show e = 0 by omega]; done) | (rw [if_pos (by omega), if_neg (by omega), if_neg (by omega), if_neg (by omega), show e = 0 by omega]; rfl)), bsl_eq hl (by unfold teD; first | (rw [if_neg (by unfold okT; omega)]; rfl) | (rw [if_pos (by unfold okT; omega), ← List.drop_drop]))⟩)⟩
      ·
        rw [hc17]
        refine ops_rule (C := []) [(r, .cells #[.slice a l.length c, .int .i64 ((e : Nat) : Int)] 126)] [] 6 [] 0 (fun φ21 => [(41, .bool (decide (((numN l : Nat) : Int) > (IntKind.wrap .u64 ((z : Nat) : Int))))), (49, .bool (decide (((numN l : Nat) : Int) > (IntKind.wrap .u64 ((z : Nat) : Int))))), (48, .bool (decide (((numN l : Nat) : Int) > (IntKind.wrap .u64 ((z : Nat) : Int))))), (47, .int .u64 (IntKind.wrap .u64 ((z : Nat) : Int))), (46, .int .i64 ((z : Nat) : Int)), (45, .int .u64 ((numN l : Nat) : Int))]) (fun φ21 => [(r, .cells #[.slice a l.length c, .int .i64 ((e : Nat) : Int)] 126)]) (fun φ21 => []) s trivial (fun φ21 => by kernel_rfl) ?_
        intro φ21 w21 s
        rw [nat_wrapU (a := z) (by have hk9 := numK_le l; have hn8 := numN_lt l; have hq0 := of_decide_eq_false hc5; have hq1 := of_decide_eq_false hc13; have hq2 := of_decide_eq_false hc17; omega)]
        rw [nat_gtr (a := (numN l)) (b := z)]
        refine ops_done (by kernel_rfl) ?_
        rcases Bool.eq_false_or_eq_true (decide (z < (numN l))) with hc22 | hc22
        ·
          rw [hc22]
          refine cond_true_rule (b := true) (by kernel_rfl) rfl ?_
          refine region_rule ?_
          refine ops_rule (C := []) [(r, .cells #[.slice a l.length c, .int .i64 ((e : Nat) : Int)] 126)] [] 4 [.o 0] 0 (fun φ23 => [(52, .pointer (some ⟨r, 1, none⟩)), (51, .pointer (some ⟨r, 0, none⟩)), (50, .pointer (some ⟨r, 0, none⟩))]) (fun φ23 => [(r, .cells #[.slice a l.length c, .int .i64 9] 126)]) (fun φ23 => [r]) s trivial (fun φ23 => by kernel_rfl) ?_
          intro φ23 w23 s
          refine ops_done (by kernel_rfl) ?_
          refine wp_seq ?_
          refine region_rule ?_
          refine ops_rule (C := []) [(r, .cells #[.slice a l.length c, .int .i64 9] 126)] [] 1 [] 0 (fun φ24 => [(4, .string ⟨#[]⟩)]) (fun φ24 => [(r, .cells #[.slice a l.length c, .int .i64 9] 126)]) (fun φ24 => []) s trivial (fun φ24 => by kernel_rfl) ?_
          intro φ24 w24 s
          refine ops_done (by kernel_rfl) ?_
          refine wp_ret ?_
          refine ret_rule (C := []) [(r, .cells #[.slice a l.length c, .int .i64 9] 126)] [] (.string ⟨#[]⟩) [] [] s trivial (by kernel_rfl) ?_
          exact ⟨_, _, _, rfl, s, (by have hq0 := of_decide_eq_false hc5; have hq1 := of_decide_eq_false hc13; have hq2 := of_decide_eq_false hc17; have hq3 := of_decide_eq_true hc22;  exact ⟨_, rfl, rfl, _, _, _, (by unfold teV; first | (rw [if_pos (by unfold okT; omega)]; done) | (rw [if_neg (by unfold okT; omega)]; done) | (rw [if_pos (by unfold okT; omega)]; rfl) | (rw [if_neg (by unfold okT; omega)]; rfl)), (by unfold teE; first | (rw [if_neg (by omega)]; done) | (rw [if_pos (by omega), if_pos (by omega)]; rfl) | (rw [if_pos (by omega), if_neg (by omega), if_pos (by omega)]; rfl) | (rw [if_pos (by omega), if_neg (by omega), if_neg (by omega), if_pos (by omega)]; rfl) | (rw [if_pos (by omega), if_neg (by omega), if_neg (by omega), if_neg (by omega), show e = 0 by omega]; done) | (rw [if_pos (by omega), if_neg (by omega), if_neg (by omega), if_neg (by omega), show e = 0 by omega]; rfl)), bsl_eq hl (by unfold teD; first | (rw [if_neg (by unfold okT; omega)]; rfl) | (rw [if_pos (by unfold okT; omega), ← List.drop_drop]))⟩)⟩
        ·
          rw [hc22]
          refine cond_false_rule (b := false) (by kernel_rfl) rfl ?_
          refine wp_seq ?_
          refine region_rule ?_
          refine ops_rule (C := []) [(r, .cells #[.slice a l.length c, .int .i64 ((e : Nat) : Int)] 126)] [] 6 [] 0 (fun φ25 => [(53, .bool (decide (((numN l : Nat) : Int) > (IntKind.wrap .u64 (((l.length - (numK l)) : Nat) : Int))))), (58, .bool (decide (((numN l : Nat) : Int) > (IntKind.wrap .u64 (((l.length - (numK l)) : Nat) : Int))))), (57, .int .u64 (IntKind.wrap .u64 (((l.length - (numK l)) : Nat) : Int))), (56, .int .i64 (((l.length - (numK l)) : Nat) : Int)), (55, .slice (subA a (numK l) c) (l.length - (numK l)) (c - (numK l))), (54, .int .u64 ((numN l : Nat) : Int))]) (fun φ25 => [(r, .cells #[.slice a l.length c, .int .i64 ((e : Nat) : Int)] 126)]) (fun φ25 => []) s trivial (fun φ25 => by kernel_rfl) ?_
          intro φ25 w25 s
          rw [nat_wrapU (a := (l.length - (numK l))) (by have hk9 := numK_le l; have hn8 := numN_lt l; have hq0 := of_decide_eq_false hc5; have hq1 := of_decide_eq_false hc13; have hq2 := of_decide_eq_false hc17; have hq3 := of_decide_eq_false hc22; (try simp only [List.length_drop, List.length_take, List.length_append, List.length_cons, List.length_nil]); omega)]
          rw [nat_gtr (a := (numN l)) (b := (l.length - (numK l)))]
          refine ops_done (by kernel_rfl) ?_
          rcases Bool.eq_false_or_eq_true (decide ((l.length - (numK l)) < (numN l))) with hc26 | hc26
          ·
            rw [hc26]
            refine cond_true_rule (b := true) (by kernel_rfl) rfl ?_
            refine region_rule ?_
            refine ops_rule (C := []) [(r, .cells #[.slice a l.length c, .int .i64 ((e : Nat) : Int)] 126)] [] 4 [.o 0] 0 (fun φ27 => [(61, .pointer (some ⟨r, 1, none⟩)), (60, .pointer (some ⟨r, 0, none⟩)), (59, .pointer (some ⟨r, 0, none⟩))]) (fun φ27 => [(r, .cells #[.slice a l.length c, .int .i64 6] 126)]) (fun φ27 => [r]) s trivial (fun φ27 => by kernel_rfl) ?_
            intro φ27 w27 s
            refine ops_done (by kernel_rfl) ?_
            refine wp_seq ?_
            refine region_rule ?_
            refine ops_rule (C := []) [(r, .cells #[.slice a l.length c, .int .i64 6] 126)] [] 1 [] 0 (fun φ28 => [(4, .string ⟨#[]⟩)]) (fun φ28 => [(r, .cells #[.slice a l.length c, .int .i64 6] 126)]) (fun φ28 => []) s trivial (fun φ28 => by kernel_rfl) ?_
            intro φ28 w28 s
            refine ops_done (by kernel_rfl) ?_
            refine wp_ret ?_
            refine ret_rule (C := []) [(r, .cells #[.slice a l.length c, .int .i64 6] 126)] [] (.string ⟨#[]⟩) [] [] s trivial (by kernel_rfl) ?_
            exact ⟨_, _, _, rfl, s, (by have hq0 := of_decide_eq_false hc5; have hq1 := of_decide_eq_false hc13; have hq2 := of_decide_eq_false hc17; have hq3 := of_decide_eq_false hc22; have hq4 := of_decide_eq_true hc26;  exact ⟨_, rfl, rfl, _, _, _, (by unfold teV; first | (rw [if_pos (by unfold okT; omega)]; done) | (rw [if_neg (by unfold okT; omega)]; done) | (rw [if_pos (by unfold okT; omega)]; rfl) | (rw [if_neg (by unfold okT; omega)]; rfl)), (by unfold teE; first | (rw [if_neg (by omega)]; done) | (rw [if_pos (by omega), if_pos (by omega)]; rfl) | (rw [if_pos (by omega), if_neg (by omega), if_pos (by omega)]; rfl) | (rw [if_pos (by omega), if_neg (by omega), if_neg (by omega), if_pos (by omega)]; rfl) | (rw [if_pos (by omega), if_neg (by omega), if_neg (by omega), if_neg (by omega), show e = 0 by omega]; done) | (rw [if_pos (by omega), if_neg (by omega), if_neg (by omega), if_neg (by omega), show e = 0 by omega]; rfl)), bsl_eq hl (by unfold teD; first | (rw [if_neg (by unfold okT; omega)]; rfl) | (rw [if_pos (by unfold okT; omega), ← List.drop_drop]))⟩)⟩
          ·
            rw [hc26]
            refine cond_false_rule (b := false) (by kernel_rfl) rfl ?_
            refine wp_seq ?_
            refine region_rule ?_
            refine ops_rule (C := []) [(r, .cells #[.slice a l.length c, .int .i64 ((e : Nat) : Int)] 126)] [] 3 [] 0 (fun φ29 => [(27, .int .u64 ((numN l : Nat) : Int)), (26, .slice (subA a (numK l) c) (l.length - (numK l)) (c - (numK l))), (25, .pointer (some ⟨r, 0, none⟩))]) (fun φ29 => [(r, .cells #[.slice a l.length c, .int .i64 ((e : Nat) : Int)] 126)]) (fun φ29 => []) s trivial (fun φ29 => by kernel_rfl) ?_
            intro φ29 w29 s
            refine sem_rule (Instr.sliceAt 61 (.slice (subA a (numK l) c) (l.length - (numK l)) (c - (numK l))) (some (.int .u64 ((numN l : Nat) : Int))) none none) (some 28) (.slice (subA (subA a (numK l) c) (numN l) (c - (numK l))) ((l.length - (numK l)) - (numN l)) ((c - (numK l)) - (numN l))) (by kernel_rfl) (run_from (by have hcp := (BSl.cap (bsl_from (lo := numK l) hl (by have hcp := (BSl.cap hl).2; (try simp only [List.length_drop, List.length_take, List.length_append, List.length_cons, List.length_nil] at hcp ⊢); have hk9 := numK_le l; have hn8 := numN_lt l; have hq0 := of_decide_eq_false hc5; omega))).2; (try simp only [List.length_drop, List.length_take, List.length_append, List.length_cons, List.length_nil] at hcp ⊢); have hk9 := numK_le l; have hn8 := numN_lt l; have hq0 := of_decide_eq_false hc5; have hq1 := of_decide_eq_false hc13; have hq2 := of_decide_eq_false hc17; have hq3 := of_decide_eq_false hc22; have hq4 := of_decide_eq_false hc26; omega)) ?_
            refine ops_rule (C := []) [(r, .cells #[.slice a l.length c, .int .i64 ((e : Nat) : Int)] 126)] [] 3 [.o 0] 0 (fun φ30 => [(30, .pointer (some ⟨r, 0, none⟩)), (29, .pointer (some ⟨r, 0, none⟩))]) (fun φ30 => [(r, .cells #[.slice (subA (subA a (numK l) c) (numN l) (c - (numK l))) ((l.length - (numK l)) - (numN l)) ((c - (numK l)) - (numN l)), .int .i64 ((e : Nat) : Int)] 126)]) (fun φ30 => [r]) s trivial (fun φ30 => by kernel_rfl) ?_
            intro φ30 w30 s
            refine ops_done (by kernel_rfl) ?_
            refine wp_seq ?_
            refine region_rule ?_
            refine ops_rule (C := []) [(r, .cells #[.slice (subA (subA a (numK l) c) (numN l) (c - (numK l))) ((l.length - (numK l)) - (numN l)) ((c - (numK l)) - (numN l)), .int .i64 ((e : Nat) : Int)] 126)] [] 2 [] 0 (fun φ31 => [(32, .int .u64 ((numN l : Nat) : Int)), (31, .slice (subA a (numK l) c) (l.length - (numK l)) (c - (numK l)))]) (fun φ31 => [(r, .cells #[.slice (subA (subA a (numK l) c) (numN l) (c - (numK l))) ((l.length - (numK l)) - (numN l)) ((c - (numK l)) - (numN l)), .int .i64 ((e : Nat) : Int)] 126)]) (fun φ31 => []) s trivial (fun φ31 => by kernel_rfl) ?_
            intro φ31 w31 s
            refine sem_rule (Instr.sliceAt 61 (.slice (subA a (numK l) c) (l.length - (numK l)) (c - (numK l))) none (some (.int .u64 ((numN l : Nat) : Int))) none) (some 33) (.slice (subA a (numK l) c) (numN l) (c - (numK l))) (by kernel_rfl) (run_to (by have hcp := (BSl.cap (bsl_from (lo := numK l) hl (by have hcp := (BSl.cap hl).2; (try simp only [List.length_drop, List.length_take, List.length_append, List.length_cons, List.length_nil] at hcp ⊢); have hk9 := numK_le l; have hn8 := numN_lt l; have hq0 := of_decide_eq_false hc5; omega))).2; (try simp only [List.length_drop, List.length_take, List.length_append, List.length_cons, List.length_nil] at hcp ⊢); have hk9 := numK_le l; have hn8 := numN_lt l; have hq0 := of_decide_eq_false hc5; have hq1 := of_decide_eq_false hc13; have hq2 := of_decide_eq_false hc17; have hq3 := of_decide_eq_false hc22; have hq4 := of_decide_eq_false hc26; omega)) ?_
            refine sem_rule (convert 61 9 (.slice (subA a (numK l) c) (numN l) (c - (numK l)))) (some 34) (.string ⟨(((l.drop (numK l)).take (numN l))).toArray⟩) (by kernel_rfl) (run_b2s s.sub (bsl_to (hi := numN l) (bsl_from (lo := numK l) hl (by have hcp := (BSl.cap hl).2; (try simp only [List.length_drop, List.length_take, List.length_append, List.length_cons, List.length_nil] at hcp ⊢); have hk9 := numK_le l; have hn8 := numN_lt l; have hq0 := of_decide_eq_false hc5; omega)) (by have hcp := (BSl.cap (bsl_from (lo := numK l) hl (by have hcp := (BSl.cap hl).2; (try simp only [List.length_drop, List.length_take, List.length_append, List.length_cons, List.length_nil] at hcp ⊢); have hk9 := numK_le l; have hn8 := numN_lt l; have hq0 := of_decide_eq_false hc5; omega))).2; (try simp only [List.length_drop, List.length_take, List.length_append, List.length_cons, List.length_nil] at hcp ⊢); have hk9 := numK_le l; have hn8 := numN_lt l; have hq0 := of_decide_eq_false hc5; have hq1 := of_decide_eq_false hc13; have hq2 := of_decide_eq_false hc17; have hq3 := of_decide_eq_false hc22; have hq4 := of_decide_eq_false hc26; omega))) ?_
            refine ops_rule (C := []) [(r, .cells #[.slice (subA (subA a (numK l) c) (numN l) (c - (numK l))) ((l.length - (numK l)) - (numN l)) ((c - (numK l)) - (numN l)), .int .i64 ((e : Nat) : Int)] 126)] [] 1 [] 0 (fun φ32 => [(4, .string ⟨(((l.drop (numK l)).take (numN l))).toArray⟩)]) (fun φ32 => [(r, .cells #[.slice (subA (subA a (numK l) c) (numN l) (c - (numK l))) ((l.length - (numK l)) - (numN l)) ((c - (numK l)) - (numN l)), .int .i64 ((e : Nat) : Int)] 126)]) (fun φ32 => []) s trivial (fun φ32 => by kernel_rfl) ?_
            intro φ32 w32 s
            refine ops_done (by kernel_rfl) ?_
            refine wp_ret ?_
            refine ret_rule (C := []) [(r, .cells #[.slice (subA (subA a (numK l) c) (numN l) (c - (numK l))) ((l.length - (numK l)) - (numN l)) ((c - (numK l)) - (numN l)), .int .i64 ((e : Nat) : Int)] 126)] [] (.string ⟨(((l.drop (numK l)).take (numN l))).toArray⟩) [] [] s trivial (by kernel_rfl) ?_
            exact ⟨_, _, _, rfl, s, (by have hq0 := of_decide_eq_false hc5; have hq1 := of_decide_eq_false hc13; have hq2 := of_decide_eq_false hc17; have hq3 := of_decide_eq_false hc22; have hq4 := of_decide_eq_false hc26;  exact ⟨_, rfl, rfl, _, _, _, (by unfold teV; first | (rw [if_pos (by unfold okT; omega)]; done) | (rw [if_neg (by unfold okT; omega)]; done) | (rw [if_pos (by unfold okT; omega)]; rfl) | (rw [if_neg (by unfold okT; omega)]; rfl)), (by unfold teE; first | (rw [if_neg (by omega)]; done) | (rw [if_pos (by omega), if_pos (by omega)]; rfl) | (rw [if_pos (by omega), if_neg (by omega), if_pos (by omega)]; rfl) | (rw [if_pos (by omega), if_neg (by omega), if_neg (by omega), if_pos (by omega)]; rfl) | (rw [if_pos (by omega), if_neg (by omega), if_neg (by omega), if_neg (by omega), show e = 0 by omega]; done) | (rw [if_pos (by omega), if_neg (by omega), if_neg (by omega), if_neg (by omega), show e = 0 by omega]; rfl)), bsl_eq (bsl_from (lo := numN l) (bsl_from (lo := numK l) hl (by have hcp := (BSl.cap hl).2; (try simp only [List.length_drop, List.length_take, List.length_append, List.length_cons, List.length_nil] at hcp ⊢); have hk9 := numK_le l; have hn8 := numN_lt l; have hq0 := of_decide_eq_false hc5; omega)) (by have hcp := (BSl.cap (bsl_from (lo := numK l) hl (by have hcp := (BSl.cap hl).2; (try simp only [List.length_drop, List.length_take, List.length_append, List.length_cons, List.length_nil] at hcp ⊢); have hk9 := numK_le l; have hn8 := numN_lt l; have hq0 := of_decide_eq_false hc5; omega))).2; (try simp only [List.length_drop, List.length_take, List.length_append, List.length_cons, List.length_nil] at hcp ⊢); have hk9 := numK_le l; have hn8 := numN_lt l; have hq0 := of_decide_eq_false hc5; have hq1 := of_decide_eq_false hc13; have hq2 := of_decide_eq_false hc17; have hq3 := of_decide_eq_false hc22; have hq4 := of_decide_eq_false hc26; omega)) (by unfold teD; first | (rw [if_neg (by unfold okT; omega)]; rfl) | (rw [if_pos (by unfold okT; omega), ← List.drop_drop]))⟩)⟩

end Go.Proofs.YtcpmjogeafhpnaaDoor


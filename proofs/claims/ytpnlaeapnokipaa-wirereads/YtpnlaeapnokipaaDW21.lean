/- The number in front, of any bytes. -/
import Derived.Test.YtpnlaeapnokipaaDW17
import Derived.Test.YtpnlaeapnokipaaDC7
set_option linter.all false
set_option maxRecDepth 100000
namespace Go.Proofs.Ytpnlaeapnokipaa
open Go.RowKit Go.Sep
attribute [local irreducible] Go.wpList Go.Code.wp

set_option maxHeartbeats 2000000 in
theorem numberG_c {I : IM} {l : List UInt8} {a : Option Addr} {m c : Nat} (hl : BSl I l (.slice a m c)) (hn9 : l.length ≤ 1000000) : Fun Try.prog 75 #[.slice a m c] I (fun v J => v = .tuple #[.int .u64 ((numN l : Nat) : Int), .int .i64 ((numK l : Nat) : Int)]) := by
  obtain ⟨rfl, -⟩ := hl.cap
  refine enter_rule 49 [(0, .slice a l.length c)] Try.func75 rfl (by kernel_rfl) ?_
  intro w s
  refine wp_seq ?_
  refine region_rule ?_
  refine ops_rule (C := []) [] [] 2 [] 0 (fun φ1 => [(3, .int .i64 0), (2, .int .u64 0)]) (fun φ1 => []) (fun φ1 => []) s trivial (fun φ1 => by kernel_rfl) ?_
  intro φ1 w1 s
  refine ops_done (by kernel_rfl) ?_
  refine wp_seq ?_
  refine region_rule ?_
  refine ops_rule (C := []) [] [] 1 [] 0 (fun φ2 => [(4, .int .u64 0)]) (fun φ2 => []) (fun φ2 => []) s trivial (fun φ2 => by kernel_rfl) ?_
  intro φ2 w2 s
  refine ops_done (by kernel_rfl) ?_
  refine wp_seq ?_
  refine wp_seq ?_
  refine region_rule ?_
  refine ops_rule (C := []) [] [] 4 [] 0 (fun φ3 => [(12, .int .i64 0), (11, .int .i64 (if ((10 : Nat) : Int) < ((l.length : Nat) : Int) then ((10 : Nat) : Int) else ((l.length : Nat) : Int))), (10, .int .i64 ((l.length : Nat) : Int)), (9, .slice a l.length c)]) (fun φ3 => []) (fun φ3 => []) s trivial (fun φ3 => by kernel_rfl) ?_
  intro φ3 w3 s
  rw [nat_min (a := l.length) (b := 10)]
  refine ops_done (by kernel_rfl) ?_
  refine wp_block ?_
  have hle4 := IM.Le.refl I
  refine loop_rule (fun (x : Nat × Nat) => [(0, .slice a l.length c), (11, .int .i64 ((min l.length 10 : Nat) : Int)), (4, .int .u64 ((x.2 : Nat) : Int)), (12, .int .i64 ((x.1 : Nat) : Int))]) (fun (x : Nat × Nat) => []) (fun m (x : Nat × Nat) J => IM.Le I J ∧ x.1 + m = 10 ∧ DecG l x.1 x.2) (10) (0, 0) s (by kernel_rfl) List.Sublist.slnil ⟨IM.Le.refl _, rfl, DecG.start l⟩ ?_
  rintro m5 ⟨i5, acc5⟩ I5 w5 ev5 s ⟨le5, hi5_0, hi5_1⟩
  try dsimp only at s hi5_0 hi5_1 ⊢
  replace hl := BSl.mono le5 hl
  replace hle4 := leMono le5 hle4
  refine wp_seq ?_
  refine region_rule ?_
  refine ops_rule (C := []) [] [] 1 [] 0 (fun φ6 => [(13, .bool (decide (((i5 : Nat) : Int) < ((min l.length 10 : Nat) : Int))))]) (fun φ6 => []) (fun φ6 => []) s trivial (fun φ6 => by kernel_rfl) ?_
  intro φ6 w6 s
  rw [nat_lss (a := i5) (b := (min l.length 10))]
  refine ops_done (by kernel_rfl) ?_
  refine wp_seq ?_
  rcases Bool.eq_false_or_eq_true (decide (i5 < (min l.length 10))) with hc7 | hc7
  ·
    rw [hc7]
    refine cond_true_rule (b := true) (by kernel_rfl) rfl ?_
    refine wp_skip ?_
    refine wp_seq ?_
    refine wp_block ?_
    refine wp_seq ?_
    refine region_rule ?_
    refine ops_rule (C := []) [] [] 2 [] 0 (fun φ8 => [(5, .int .i64 ((i5 : Nat) : Int)), (14, .int .i64 ((i5 : Nat) : Int))]) (fun φ8 => []) (fun φ8 => []) s trivial (fun φ8 => by kernel_rfl) ?_
    intro φ8 w8 s
    refine ops_done (by kernel_rfl) ?_
    refine wp_seq ?_
    refine region_rule ?_
    refine ops_rule (C := []) [] [] 2 [] 0 (fun φ9 => [(16, .int .i64 ((i5 : Nat) : Int)), (15, .slice a l.length c)]) (fun φ9 => []) (fun φ9 => []) s trivial (fun φ9 => by kernel_rfl) ?_
    intro φ9 w9 s
    refine sem_rule (Instr.indexAt 34 (.slice a l.length c) (.int .i64 ((i5 : Nat) : Int))) (some 17) (.pointer (pAt a i5)) (by kernel_rfl) (bsl_idx hl (by have hd1 := hi5_1.le; have hd2 := hi5_1.len; have hq0 := of_decide_eq_true hc7; omega)) ?_
    refine sem_rule (Instr.loadAt 5 (.pointer (pAt a i5))) (some 18) (.int .u8 (((l.getD i5 0).toNat : Nat) : Int)) (by kernel_rfl) (bsl_ld s.sub hl (by have hd1 := hi5_1.le; have hd2 := hi5_1.len; have hq0 := of_decide_eq_true hc7; omega)) ?_
    refine ops_rule (C := []) [] [] 1 [] 0 (fun φ10 => [(6, .int .u8 (((l.getD i5 0).toNat : Nat) : Int))]) (fun φ10 => []) (fun φ10 => []) s trivial (fun φ10 => by kernel_rfl) ?_
    intro φ10 w10 s
    refine ops_done (by kernel_rfl) ?_
    refine wp_seq ?_
    refine region_rule ?_
    refine ops_rule (C := []) [] [] 2 [] 0 (fun φ11 => [(20, .int .u8 (((l.getD i5 0).toNat : Nat) : Int)), (19, .int .u64 ((acc5 : Nat) : Int))]) (fun φ11 => []) (fun φ11 => []) s trivial (fun φ11 => by kernel_rfl) ?_
    intro φ11 w11 s
    refine sem_rule (binOp .andNot 5 (.int .u8 (((l.getD i5 0).toNat : Nat) : Int)) (.int .u8 ((128 : Nat) : Int))) (some 21) (.int .u8 ((bandn 8 ((l.getD i5 0).toNat) 128 : Nat) : Int)) (by kernel_rfl) (run_bit8.2.2.2) ?_
    refine ops_rule (C := []) [] [] 3 [] 0 (fun φ12 => [(24, .int .i64 (IntKind.wrap .i64 (((i5 : Nat) : Int) * ((7 : Nat) : Int)))), (23, .int .i64 ((i5 : Nat) : Int)), (22, .int .u64 (IntKind.wrap .u64 ((bandn 8 ((l.getD i5 0).toNat) 128 : Nat) : Int)))]) (fun φ12 => []) (fun φ12 => []) s trivial (fun φ12 => by kernel_rfl) ?_
    intro φ12 w12 s
    rw [nat_mulI (a := i5) (b := 7) (by have hd1 := hi5_1.le; have hd2 := hi5_1.len; have hq0 := of_decide_eq_true hc7; omega)]
    rw [nat_wrapU (a := (bandn 8 ((l.getD i5 0).toNat) 128)) (by have := bandn8_lt (a := (l.getD i5 0).toNat) (b := 128); omega)]
    refine sem_rule (binOp .shl 27 (.int .u64 ((bandn 8 ((l.getD i5 0).toNat) 128 : Nat) : Int)) (.int .i64 ((i5 * 7 : Nat) : Int))) (some 25) (.int .u64 ((bshl 64 (bandn 8 ((l.getD i5 0).toNat) 128) (i5 * 7) : Nat) : Int)) (by kernel_rfl) (run_shlU (.inr (.inr (.inl rfl)))) ?_
    refine sem_rule (binOp .or 27 (.int .u64 ((acc5 : Nat) : Int)) (.int .u64 ((bshl 64 (bandn 8 ((l.getD i5 0).toNat) 128) (i5 * 7) : Nat) : Int))) (some 26) (.int .u64 ((bor 64 acc5 (bshl 64 (bandn 8 ((l.getD i5 0).toNat) 128) (i5 * 7)) : Nat) : Int)) (by kernel_rfl) (run_bit64.2.2.1) ?_
    refine ops_rule (C := []) [] [] 1 [] 0 (fun φ13 => [(4, .int .u64 ((bor 64 acc5 (bshl 64 (bandn 8 ((l.getD i5 0).toNat) 128) (i5 * 7)) : Nat) : Int))]) (fun φ13 => []) (fun φ13 => []) s trivial (fun φ13 => by kernel_rfl) ?_
    intro φ13 w13 s
    refine ops_done (by kernel_rfl) ?_
    refine wp_seq ?_
    refine wp_seq ?_
    refine region_rule ?_
    refine ops_rule (C := []) [] [] 2 [] 0 (fun φ14 => [(28, .bool (decide ((((l.getD i5 0).toNat : Nat) : Int) ≥ ((128 : Nat) : Int)))), (27, .int .u8 (((l.getD i5 0).toNat : Nat) : Int))]) (fun φ14 => []) (fun φ14 => []) s trivial (fun φ14 => by kernel_rfl) ?_
    intro φ14 w14 s
    rw [nat_geq (a := ((l.getD i5 0).toNat)) (b := 128)]
    refine ops_done (by kernel_rfl) ?_
    rcases Bool.eq_false_or_eq_true (decide (128 ≤ ((l.getD i5 0).toNat))) with hc15 | hc15
    ·
      rw [hc15]
      refine cond_true_rule (b := true) (by kernel_rfl) rfl ?_
      refine wp_exit ?_
      refine region_rule ?_
      refine ops_rule (C := []) [] [] 2 [] 0 (fun φ16 => [(12, .int .i64 (IntKind.wrap .i64 (((i5 : Nat) : Int) + ((1 : Nat) : Int)))), (48, .int .i64 (IntKind.wrap .i64 (((i5 : Nat) : Int) + ((1 : Nat) : Int))))]) (fun φ16 => []) (fun φ16 => []) s trivial (fun φ16 => by kernel_rfl) ?_
      intro φ16 w16 s
      rw [nat_addI (a := i5) (b := 1) (by have hd1 := hi5_1.le; have hd2 := hi5_1.len; have hq0 := of_decide_eq_true hc7; have hq1 := of_decide_eq_true hc15; omega)]
      refine ops_done (by kernel_rfl) ?_
      have hs9 := DecG.step hi5_1 (by have := of_decide_eq_true hc7; omega) (by have := of_decide_eq_true hc7; omega) (of_decide_eq_true hc15)
      exact ⟨⟨m5 - 1, (i5 + 1, bor 64 acc5 (bshl 64 (bandn 8 ((l.getD i5 0).toNat) 128) (i5 * 7))), _, _, _, by have := hi5_0; have := hi5_1.le; have : i5 < 10 := (by have := of_decide_eq_true hc7; omega); omega, rfl, s, List.Sublist.slnil, by kernel_rfl, hle4, by have := hi5_0; have := hi5_1.le; have : i5 < 10 := (by have := of_decide_eq_true hc7; omega); show i5 + 1 + (m5 - 1) = 10; omega, hs9⟩⟩
    ·
      rw [hc15]
      refine cond_false_rule (b := false) (by kernel_rfl) rfl ?_
      refine wp_skip ?_
      refine wp_seq ?_
      refine region_rule ?_
      refine ops_rule (C := []) [] [] 3 [] 0 (fun φ17 => [(31, .bool (decide (((i5 : Nat) : Int) > ((0 : Nat) : Int)))), (30, .bool (decide (((i5 : Nat) : Int) > ((0 : Nat) : Int)))), (29, .int .i64 ((i5 : Nat) : Int))]) (fun φ17 => []) (fun φ17 => []) s trivial (fun φ17 => by kernel_rfl) ?_
      intro φ17 w17 s
      rw [nat_gtr (a := i5) (b := 0)]
      rcases Bool.eq_false_or_eq_true (decide (0 < i5)) with hc18 | hc18
      ·
        rw [hc18]
        refine ops_rule (C := []) [] [] 4 [] 0 (fun φ19 => [(7, .bool ((((l.getD i5 0).toNat : Nat) : Int) == ((0 : Nat) : Int))), (34, .bool ((((l.getD i5 0).toNat : Nat) : Int) == ((0 : Nat) : Int))), (33, .bool ((((l.getD i5 0).toNat : Nat) : Int) == ((0 : Nat) : Int))), (32, .int .u8 (((l.getD i5 0).toNat : Nat) : Int))]) (fun φ19 => []) (fun φ19 => []) s trivial (fun φ19 => by kernel_rfl) ?_
        intro φ19 w19 s
        rw [nat_eql (a := ((l.getD i5 0).toNat)) (b := 0)]
        refine ops_done (by kernel_rfl) ?_
        refine wp_seq ?_
        refine region_rule ?_
        refine ops_rule (C := []) [] [] 3 [] 0 (fun φ20 => [(37, .bool (((i5 : Nat) : Int) == ((9 : Nat) : Int))), (36, .bool (((i5 : Nat) : Int) == ((9 : Nat) : Int))), (35, .int .i64 ((i5 : Nat) : Int))]) (fun φ20 => []) (fun φ20 => []) s trivial (fun φ20 => by kernel_rfl) ?_
        intro φ20 w20 s
        rw [nat_eql (a := i5) (b := 9)]
        rcases Bool.eq_false_or_eq_true (decide (i5 = 9)) with hc21 | hc21
        ·
          rw [hc21]
          refine ops_rule (C := []) [] [] 4 [] 0 (fun φ22 => [(8, .bool (decide ((((l.getD i5 0).toNat : Nat) : Int) > ((1 : Nat) : Int)))), (40, .bool (decide ((((l.getD i5 0).toNat : Nat) : Int) > ((1 : Nat) : Int)))), (39, .bool (decide ((((l.getD i5 0).toNat : Nat) : Int) > ((1 : Nat) : Int)))), (38, .int .u8 (((l.getD i5 0).toNat : Nat) : Int))]) (fun φ22 => []) (fun φ22 => []) s trivial (fun φ22 => by kernel_rfl) ?_
          intro φ22 w22 s
          rw [nat_gtr (a := ((l.getD i5 0).toNat)) (b := 1)]
          refine ops_done (by kernel_rfl) ?_
          refine wp_seq ?_
          refine wp_seq ?_
          refine region_rule ?_
          refine ops_rule (C := []) [] [] 2 [] 0 (fun φ23 => [(42, .bool (decide (((l.getD i5 0).toNat) = 0))), (41, .bool (decide (((l.getD i5 0).toNat) = 0)))]) (fun φ23 => []) (fun φ23 => []) s trivial (fun φ23 => by kernel_rfl) ?_
          intro φ23 w23 s
          rcases Bool.eq_false_or_eq_true (decide (((l.getD i5 0).toNat) = 0)) with hc24 | hc24
          ·
            rw [hc24]
            refine ops_rule (C := []) [] [] 2 [] 0 (fun φ25 => [(44, .bool true), (43, undef)]) (fun φ25 => []) (fun φ25 => []) s trivial (fun φ25 => by kernel_rfl) ?_
            intro φ25 w25 s
            refine ops_done (by kernel_rfl) ?_
            refine cond_true_rule (b := true) (by kernel_rfl) rfl ?_
            refine wp_seq ?_
            refine region_rule ?_
            refine ops_rule (C := []) [] [] 2 [] 0 (fun φ26 => [(3, .int .i64 0), (2, .int .u64 0)]) (fun φ26 => []) (fun φ26 => []) s trivial (fun φ26 => by kernel_rfl) ?_
            intro φ26 w26 s
            refine ops_done (by kernel_rfl) ?_
            refine wp_ret ?_
            refine ret_rule (C := []) [] [] (.tuple #[.int .u64 0, .int .i64 0]) [] [] s trivial (by kernel_rfl) ?_
            exact ⟨_, _, _, rfl, s, (by have hq0 := of_decide_eq_true hc7; have hq1 := of_decide_eq_false hc15; have hq2 := of_decide_eq_true hc18; have hq3 := of_decide_eq_true hc21; have hq4 := of_decide_eq_true hc24; have h9 := DecG.bad0 hi5_1 (by have := of_decide_eq_true hc7; omega) (by have := of_decide_eq_true hc7; omega) (of_decide_eq_false hc15) (by omega); rw [h9.1, h9.2]; rfl)⟩
          ·
            rw [hc24]
            refine ops_rule (C := []) [] [] 2 [] 0 (fun φ27 => [(44, .bool (decide (1 < ((l.getD i5 0).toNat)))), (43, .bool (decide (1 < ((l.getD i5 0).toNat))))]) (fun φ27 => []) (fun φ27 => []) s trivial (fun φ27 => by kernel_rfl) ?_
            intro φ27 w27 s
            refine ops_done (by kernel_rfl) ?_
            rcases Bool.eq_false_or_eq_true (decide (1 < ((l.getD i5 0).toNat))) with hc28 | hc28
            ·
              rw [hc28]
              refine cond_true_rule (b := true) (by kernel_rfl) rfl ?_
              refine wp_seq ?_
              refine region_rule ?_
              refine ops_rule (C := []) [] [] 2 [] 0 (fun φ29 => [(3, .int .i64 0), (2, .int .u64 0)]) (fun φ29 => []) (fun φ29 => []) s trivial (fun φ29 => by kernel_rfl) ?_
              intro φ29 w29 s
              refine ops_done (by kernel_rfl) ?_
              refine wp_ret ?_
              refine ret_rule (C := []) [] [] (.tuple #[.int .u64 0, .int .i64 0]) [] [] s trivial (by kernel_rfl) ?_
              exact ⟨_, _, _, rfl, s, (by have hq0 := of_decide_eq_true hc7; have hq1 := of_decide_eq_false hc15; have hq2 := of_decide_eq_true hc18; have hq3 := of_decide_eq_true hc21; have hq4 := of_decide_eq_false hc24; have hq5 := of_decide_eq_true hc28; have h9 := DecG.bad0 hi5_1 (by have := of_decide_eq_true hc7; omega) (by have := of_decide_eq_true hc7; omega) (of_decide_eq_false hc15) (by omega); rw [h9.1, h9.2]; rfl)⟩
            ·
              rw [hc28]
              refine cond_false_rule (b := false) (by kernel_rfl) rfl ?_
              refine wp_skip ?_
              refine wp_seq ?_
              refine region_rule ?_
              refine ops_rule (C := []) [] [] 5 [] 0 (fun φ30 => [(3, .int .i64 (IntKind.wrap .i64 (((i5 : Nat) : Int) + ((1 : Nat) : Int)))), (2, .int .u64 ((bor 64 acc5 (bshl 64 (bandn 8 ((l.getD i5 0).toNat) 128) (i5 * 7)) : Nat) : Int)), (47, .int .i64 (IntKind.wrap .i64 (((i5 : Nat) : Int) + ((1 : Nat) : Int)))), (46, .int .i64 ((i5 : Nat) : Int)), (45, .int .u64 ((bor 64 acc5 (bshl 64 (bandn 8 ((l.getD i5 0).toNat) 128) (i5 * 7)) : Nat) : Int))]) (fun φ30 => []) (fun φ30 => []) s trivial (fun φ30 => by kernel_rfl) ?_
              intro φ30 w30 s
              rw [nat_addI (a := i5) (b := 1) (by have hd1 := hi5_1.le; have hd2 := hi5_1.len; have hq0 := of_decide_eq_true hc7; have hq1 := of_decide_eq_false hc15; have hq2 := of_decide_eq_true hc18; have hq3 := of_decide_eq_true hc21; have hq4 := of_decide_eq_false hc24; have hq5 := of_decide_eq_false hc28; omega)]
              refine ops_done (by kernel_rfl) ?_
              refine wp_ret ?_
              refine ret_rule (C := []) [] [] (.tuple #[.int .u64 ((bor 64 acc5 (bshl 64 (bandn 8 ((l.getD i5 0).toNat) 128) (i5 * 7)) : Nat) : Int), .int .i64 ((i5 + 1 : Nat) : Int)]) [] [] s trivial (by kernel_rfl) ?_
              exact ⟨_, _, _, rfl, s, (by have hq0 := of_decide_eq_true hc7; have hq1 := of_decide_eq_false hc15; have hq2 := of_decide_eq_true hc18; have hq3 := of_decide_eq_true hc21; have hq4 := of_decide_eq_false hc24; have hq5 := of_decide_eq_false hc28; have h9 := DecG.good hi5_1 (by have := of_decide_eq_true hc7; omega) (by have := of_decide_eq_true hc7; omega) (of_decide_eq_false hc15) (by omega) (by omega); rw [← h9.1, ← h9.2])⟩
        ·
          rw [hc21]
          refine ops_rule (C := []) [] [] 4 [] 0 (fun φ31 => [(8, .bool false), (40, .bool false), (39, undef), (38, undef)]) (fun φ31 => []) (fun φ31 => []) s trivial (fun φ31 => by kernel_rfl) ?_
          intro φ31 w31 s
          refine ops_done (by kernel_rfl) ?_
          refine wp_seq ?_
          refine wp_seq ?_
          refine region_rule ?_
          refine ops_rule (C := []) [] [] 2 [] 0 (fun φ32 => [(42, .bool (decide (((l.getD i5 0).toNat) = 0))), (41, .bool (decide (((l.getD i5 0).toNat) = 0)))]) (fun φ32 => []) (fun φ32 => []) s trivial (fun φ32 => by kernel_rfl) ?_
          intro φ32 w32 s
          rcases Bool.eq_false_or_eq_true (decide (((l.getD i5 0).toNat) = 0)) with hc33 | hc33
          ·
            rw [hc33]
            refine ops_rule (C := []) [] [] 2 [] 0 (fun φ34 => [(44, .bool true), (43, undef)]) (fun φ34 => []) (fun φ34 => []) s trivial (fun φ34 => by kernel_rfl) ?_
            intro φ34 w34 s
            refine ops_done (by kernel_rfl) ?_
            refine cond_true_rule (b := true) (by kernel_rfl) rfl ?_
            refine wp_seq ?_
            refine region_rule ?_
            refine ops_rule (C := []) [] [] 2 [] 0 (fun φ35 => [(3, .int .i64 0), (2, .int .u64 0)]) (fun φ35 => []) (fun φ35 => []) s trivial (fun φ35 => by kernel_rfl) ?_
            intro φ35 w35 s
            refine ops_done (by kernel_rfl) ?_
            refine wp_ret ?_
            refine ret_rule (C := []) [] [] (.tuple #[.int .u64 0, .int .i64 0]) [] [] s trivial (by kernel_rfl) ?_
            exact ⟨_, _, _, rfl, s, (by have hq0 := of_decide_eq_true hc7; have hq1 := of_decide_eq_false hc15; have hq2 := of_decide_eq_true hc18; have hq3 := of_decide_eq_false hc21; have hq4 := of_decide_eq_true hc33; have h9 := DecG.bad0 hi5_1 (by have := of_decide_eq_true hc7; omega) (by have := of_decide_eq_true hc7; omega) (of_decide_eq_false hc15) (by omega); rw [h9.1, h9.2]; rfl)⟩
          ·
            rw [hc33]
            refine ops_rule (C := []) [] [] 2 [] 0 (fun φ36 => [(44, .bool false), (43, .bool false)]) (fun φ36 => []) (fun φ36 => []) s trivial (fun φ36 => by kernel_rfl) ?_
            intro φ36 w36 s
            refine ops_done (by kernel_rfl) ?_
            refine cond_false_rule (b := false) (by kernel_rfl) rfl ?_
            refine wp_skip ?_
            refine wp_seq ?_
            refine region_rule ?_
            refine ops_rule (C := []) [] [] 5 [] 0 (fun φ37 => [(3, .int .i64 (IntKind.wrap .i64 (((i5 : Nat) : Int) + ((1 : Nat) : Int)))), (2, .int .u64 ((bor 64 acc5 (bshl 64 (bandn 8 ((l.getD i5 0).toNat) 128) (i5 * 7)) : Nat) : Int)), (47, .int .i64 (IntKind.wrap .i64 (((i5 : Nat) : Int) + ((1 : Nat) : Int)))), (46, .int .i64 ((i5 : Nat) : Int)), (45, .int .u64 ((bor 64 acc5 (bshl 64 (bandn 8 ((l.getD i5 0).toNat) 128) (i5 * 7)) : Nat) : Int))]) (fun φ37 => []) (fun φ37 => []) s trivial (fun φ37 => by kernel_rfl) ?_
            intro φ37 w37 s
            rw [nat_addI (a := i5) (b := 1) (by have hd1 := hi5_1.le; have hd2 := hi5_1.len; have hq0 := of_decide_eq_true hc7; have hq1 := of_decide_eq_false hc15; have hq2 := of_decide_eq_true hc18; have hq3 := of_decide_eq_false hc21; have hq4 := of_decide_eq_false hc33; omega)]
            refine ops_done (by kernel_rfl) ?_
            refine wp_ret ?_
            refine ret_rule (C := []) [] [] (.tuple #[.int .u64 ((bor 64 acc5 (bshl 64 (bandn 8 ((l.getD i5 0).toNat) 128) (i5 * 7)) : Nat) : Int), .int .i64 ((i5 + 1 : Nat) : Int)]) [] [] s trivial (by kernel_rfl) ?_
            exact ⟨_, _, _, rfl, s, (by have hq0 := of_decide_eq_true hc7; have hq1 := of_decide_eq_false hc15; have hq2 := of_decide_eq_true hc18; have hq3 := of_decide_eq_false hc21; have hq4 := of_decide_eq_false hc33; have h9 := DecG.good hi5_1 (by have := of_decide_eq_true hc7; omega) (by have := of_decide_eq_true hc7; omega) (of_decide_eq_false hc15) (by omega) (by omega); rw [← h9.1, ← h9.2])⟩
      ·
        rw [hc18]
        refine ops_rule (C := []) [] [] 4 [] 0 (fun φ38 => [(7, .bool false), (34, .bool false), (33, undef), (32, undef)]) (fun φ38 => []) (fun φ38 => []) s trivial (fun φ38 => by kernel_rfl) ?_
        intro φ38 w38 s
        refine ops_done (by kernel_rfl) ?_
        refine wp_seq ?_
        refine region_rule ?_
        refine ops_rule (C := []) [] [] 3 [] 0 (fun φ39 => [(37, .bool (((i5 : Nat) : Int) == ((9 : Nat) : Int))), (36, .bool (((i5 : Nat) : Int) == ((9 : Nat) : Int))), (35, .int .i64 ((i5 : Nat) : Int))]) (fun φ39 => []) (fun φ39 => []) s trivial (fun φ39 => by kernel_rfl) ?_
        intro φ39 w39 s
        rw [nat_eql (a := i5) (b := 9)]
        rcases Bool.eq_false_or_eq_true (decide (i5 = 9)) with hc40 | hc40
        ·
          rw [hc40]
          refine ops_rule (C := []) [] [] 4 [] 0 (fun φ41 => [(8, .bool (decide ((((l.getD i5 0).toNat : Nat) : Int) > ((1 : Nat) : Int)))), (40, .bool (decide ((((l.getD i5 0).toNat : Nat) : Int) > ((1 : Nat) : Int)))), (39, .bool (decide ((((l.getD i5 0).toNat : Nat) : Int) > ((1 : Nat) : Int)))), (38, .int .u8 (((l.getD i5 0).toNat : Nat) : Int))]) (fun φ41 => []) (fun φ41 => []) s trivial (fun φ41 => by kernel_rfl) ?_
          intro φ41 w41 s
          rw [nat_gtr (a := ((l.getD i5 0).toNat)) (b := 1)]
          refine ops_done (by kernel_rfl) ?_
          refine wp_seq ?_
          refine wp_seq ?_
          refine region_rule ?_
          refine ops_rule (C := []) [] [] 4 [] 0 (fun φ42 => [(44, .bool (decide (1 < ((l.getD i5 0).toNat)))), (43, .bool (decide (1 < ((l.getD i5 0).toNat)))), (42, .bool false), (41, .bool false)]) (fun φ42 => []) (fun φ42 => []) s trivial (fun φ42 => by kernel_rfl) ?_
          intro φ42 w42 s
          refine ops_done (by kernel_rfl) ?_
          rcases Bool.eq_false_or_eq_true (decide (1 < ((l.getD i5 0).toNat))) with hc43 | hc43
          ·
            rw [hc43]
            refine cond_true_rule (b := true) (by kernel_rfl) rfl ?_
            refine wp_seq ?_
            refine region_rule ?_
            refine ops_rule (C := []) [] [] 2 [] 0 (fun φ44 => [(3, .int .i64 0), (2, .int .u64 0)]) (fun φ44 => []) (fun φ44 => []) s trivial (fun φ44 => by kernel_rfl) ?_
            intro φ44 w44 s
            refine ops_done (by kernel_rfl) ?_
            refine wp_ret ?_
            refine ret_rule (C := []) [] [] (.tuple #[.int .u64 0, .int .i64 0]) [] [] s trivial (by kernel_rfl) ?_
            exact ⟨_, _, _, rfl, s, (by have hq0 := of_decide_eq_true hc7; have hq1 := of_decide_eq_false hc15; have hq2 := of_decide_eq_false hc18; have hq3 := of_decide_eq_true hc40; have hq4 := of_decide_eq_true hc43; have h9 := DecG.bad0 hi5_1 (by have := of_decide_eq_true hc7; omega) (by have := of_decide_eq_true hc7; omega) (of_decide_eq_false hc15) (by omega); rw [h9.1, h9.2]; rfl)⟩
          ·
            rw [hc43]
            refine cond_false_rule (b := false) (by kernel_rfl) rfl ?_
            refine wp_skip ?_
            refine wp_seq ?_
            refine region_rule ?_
            refine ops_rule (C := []) [] [] 5 [] 0 (fun φ45 => [(3, .int .i64 (IntKind.wrap .i64 (((i5 : Nat) : Int) + ((1 : Nat) : Int)))), (2, .int .u64 ((bor 64 acc5 (bshl 64 (bandn 8 ((l.getD i5 0).toNat) 128) (i5 * 7)) : Nat) : Int)), (47, .int .i64 (IntKind.wrap .i64 (((i5 : Nat) : Int) + ((1 : Nat) : Int)))), (46, .int .i64 ((i5 : Nat) : Int)), (45, .int .u64 ((bor 64 acc5 (bshl 64 (bandn 8 ((l.getD i5 0).toNat) 128) (i5 * 7)) : Nat) : Int))]) (fun φ45 => []) (fun φ45 => []) s trivial (fun φ45 => by kernel_rfl) ?_
            intro φ45 w45 s
            rw [nat_addI (a := i5) (b := 1) (by have hd1 := hi5_1.le; have hd2 := hi5_1.len; have hq0 := of_decide_eq_true hc7; have hq1 := of_decide_eq_false hc15; have hq2 := of_decide_eq_false hc18; have hq3 := of_decide_eq_true hc40; have hq4 := of_decide_eq_false hc43; omega)]
            refine ops_done (by kernel_rfl) ?_
            refine wp_ret ?_
            refine ret_rule (C := []) [] [] (.tuple #[.int .u64 ((bor 64 acc5 (bshl 64 (bandn 8 ((l.getD i5 0).toNat) 128) (i5 * 7)) : Nat) : Int), .int .i64 ((i5 + 1 : Nat) : Int)]) [] [] s trivial (by kernel_rfl) ?_
            exact ⟨_, _, _, rfl, s, (by have hq0 := of_decide_eq_true hc7; have hq1 := of_decide_eq_false hc15; have hq2 := of_decide_eq_false hc18; have hq3 := of_decide_eq_true hc40; have hq4 := of_decide_eq_false hc43; have h9 := DecG.good hi5_1 (by have := of_decide_eq_true hc7; omega) (by have := of_decide_eq_true hc7; omega) (of_decide_eq_false hc15) (by omega) (by omega); rw [← h9.1, ← h9.2])⟩
        ·
          rw [hc40]
          refine ops_rule (C := []) [] [] 4 [] 0 (fun φ46 => [(8, .bool false), (40, .bool false), (39, undef), (38, undef)]) (fun φ46 => []) (fun φ46 => []) s trivial (fun φ46 => by kernel_rfl) ?_
          intro φ46 w46 s
          refine ops_done (by kernel_rfl) ?_
          refine wp_seq ?_
          refine wp_seq ?_
          refine region_rule ?_
          refine ops_rule (C := []) [] [] 4 [] 0 (fun φ47 => [(44, .bool false), (43, .bool false), (42, .bool false), (41, .bool false)]) (fun φ47 => []) (fun φ47 => []) s trivial (fun φ47 => by kernel_rfl) ?_
          intro φ47 w47 s
          refine ops_done (by kernel_rfl) ?_
          refine cond_false_rule (b := false) (by kernel_rfl) rfl ?_
          refine wp_skip ?_
          refine wp_seq ?_
          refine region_rule ?_
          refine ops_rule (C := []) [] [] 5 [] 0 (fun φ48 => [(3, .int .i64 (IntKind.wrap .i64 (((i5 : Nat) : Int) + ((1 : Nat) : Int)))), (2, .int .u64 ((bor 64 acc5 (bshl 64 (bandn 8 ((l.getD i5 0).toNat) 128) (i5 * 7)) : Nat) : Int)), (47, .int .i64 (IntKind.wrap .i64 (((i5 : Nat) : Int) + ((1 : Nat) : Int)))), (46, .int .i64 ((i5 : Nat) : Int)), (45, .int .u64 ((bor 64 acc5 (bshl 64 (bandn 8 ((l.getD i5 0).toNat) 128) (i5 * 7)) : Nat) : Int))]) (fun φ48 => []) (fun φ48 => []) s trivial (fun φ48 => by kernel_rfl) ?_
          intro φ48 w48 s
          rw [nat_addI (a := i5) (b := 1) (by have hd1 := hi5_1.le; have hd2 := hi5_1.len; have hq0 := of_decide_eq_true hc7; have hq1 := of_decide_eq_false hc15; have hq2 := of_decide_eq_false hc18; have hq3 := of_decide_eq_false hc40; omega)]
          refine ops_done (by kernel_rfl) ?_
          refine wp_ret ?_
          refine ret_rule (C := []) [] [] (.tuple #[.int .u64 ((bor 64 acc5 (bshl 64 (bandn 8 ((l.getD i5 0).toNat) 128) (i5 * 7)) : Nat) : Int), .int .i64 ((i5 + 1 : Nat) : Int)]) [] [] s trivial (by kernel_rfl) ?_
          exact ⟨_, _, _, rfl, s, (by have hq0 := of_decide_eq_true hc7; have hq1 := of_decide_eq_false hc15; have hq2 := of_decide_eq_false hc18; have hq3 := of_decide_eq_false hc40; have h9 := DecG.good hi5_1 (by have := of_decide_eq_true hc7; omega) (by have := of_decide_eq_true hc7; omega) (of_decide_eq_false hc15) (by omega) (by omega); rw [← h9.1, ← h9.2])⟩
  ·
    rw [hc7]
    refine cond_false_rule (b := false) (by kernel_rfl) rfl ?_
    refine wp_exit ?_
    refine wp_seq ?_
    refine region_rule ?_
    refine ops_rule (C := []) [] [] 2 [] 0 (fun φ49 => [(3, .int .i64 0), (2, .int .u64 0)]) (fun φ49 => []) (fun φ49 => []) s trivial (fun φ49 => by kernel_rfl) ?_
    intro φ49 w49 s
    refine ops_done (by kernel_rfl) ?_
    refine wp_ret ?_
    refine ret_rule (C := []) [] [] (.tuple #[.int .u64 0, .int .i64 0]) [] [] s trivial (by kernel_rfl) ?_
    exact ⟨_, _, _, rfl, s, (by have h9 := DecG.out hi5_1 (of_decide_eq_false hc7); rw [h9.1, h9.2]; rfl)⟩

end Go.Proofs.Ytpnlaeapnokipaa

/- The document's sign. -/
import Derived.Test.YtcpmjogeafhpnaaDoorCoM17
set_option linter.all false
set_option maxRecDepth 100000
namespace Go.Proofs.YtcpmjogeafhpnaaDoor.Tx
open Go.RowKit Go.Sep
attribute [local irreducible] Go.wpList Go.Code.wp

set_option maxHeartbeats 4000000 in
theorem sign_c {I : IM} {l : List UInt8} {p : Nat} (hn : l.length ≤ 1000000000) (hp : p < l.length) : Fun Tryd.prog 103 #[.string ⟨(l).toArray⟩, .int .i64 ((p : Nat) : Int)] I (fun v J => v = sgV (sgX l p) (dW l p) (!(dB l p))) := by
  refine enter_rule 101 [(0, .string ⟨(l).toArray⟩), (1, .int .i64 ((p : Nat) : Int))] Tryd.func103 rfl (by kernel_rfl) ?_
  intro w s
  refine wp_seq ?_
  refine region_rule ?_
  refine ops_rule (C := []) [] [] 3 [] 0 (fun φ1 => [(6, .bool false), (5, .int .i64 0), (4, .int .i64 0)]) (fun φ1 => []) (fun φ1 => []) s trivial (fun φ1 => by kernel_rfl) ?_
  intro φ1 w1 s
  refine ops_done (by kernel_rfl) ?_
  refine wp_seq ?_
  refine region_rule ?_
  refine ops_rule (C := []) [] [] 2 [] 0 (fun φ2 => [(13, .int .i64 ((p : Nat) : Int)), (12, .string ⟨(l).toArray⟩)]) (fun φ2 => []) (fun φ2 => []) s trivial (fun φ2 => by kernel_rfl) ?_
  intro φ2 w2 s
  refine sem_rule (Instr.index 9 (.string ⟨(l).toArray⟩) (.int .i64 ((p : Nat) : Int))) (some 14) (.int .u8 (((l.getD p 0).toNat : Nat) : Int)) (by kernel_rfl) (run_idxK (s := l) (i := p) (by   (try simp only [List.length_drop, List.length_take, List.length_append, List.length_cons, List.length_nil]); omega)) ?_
  refine ops_rule (C := []) [] [] 2 [] 0 (fun φ3 => [(7, .int .i64 (IntKind.wrap .i64 (((l.getD p 0).toNat : Nat) : Int))), (15, .int .i64 (IntKind.wrap .i64 (((l.getD p 0).toNat : Nat) : Int)))]) (fun φ3 => []) (fun φ3 => []) s trivial (fun φ3 => by kernel_rfl) ?_
  intro φ3 w3 s
  rw [nat_wrapI (a := ((l.getD p 0).toNat)) (by  have := byte_lt (l.getD p 0);  omega)]
  refine ops_done (by kernel_rfl) ?_
  refine wp_seq ?_
  refine region_rule ?_
  refine ops_rule (C := []) [] [] 3 [] 0 (fun φ4 => [(10, .int .i64 0), (9, .int .i64 0), (8, .int .i64 0)]) (fun φ4 => []) (fun φ4 => []) s trivial (fun φ4 => by kernel_rfl) ?_
  intro φ4 w4 s
  refine ops_done (by kernel_rfl) ?_
  refine wp_seq ?_
  refine wp_block ?_
  refine wp_seq ?_
  refine region_rule ?_
  refine ops_rule (C := []) [] [] 3 [] 0 (fun φ5 => [(16, .bool (decide ((((l.getD p 0).toNat : Nat) : Int) < ((128 : Nat) : Int)))), (18, .bool (decide ((((l.getD p 0).toNat : Nat) : Int) < ((128 : Nat) : Int)))), (17, .int .i64 (((l.getD p 0).toNat : Nat) : Int))]) (fun φ5 => []) (fun φ5 => []) s trivial (fun φ5 => by kernel_rfl) ?_
  intro φ5 w5 s
  rw [nat_lss (a := ((l.getD p 0).toNat)) (b := 128)]
  refine ops_done (by kernel_rfl) ?_
  rcases Bool.eq_false_or_eq_true (decide (((l.getD p 0).toNat) < 128)) with hc6 | hc6
  ·
    rw [hc6]
    refine cond_true_rule (b := true) (by kernel_rfl) rfl ?_
    refine wp_seq ?_
    refine region_rule ?_
    refine ops_rule (C := []) [] [] 4 [] 0 (fun φ7 => [(6, .bool true), (5, .int .i64 1), (4, .int .i64 (((l.getD p 0).toNat : Nat) : Int)), (19, .int .i64 (((l.getD p 0).toNat : Nat) : Int))]) (fun φ7 => []) (fun φ7 => []) s trivial (fun φ7 => by kernel_rfl) ?_
    intro φ7 w7 s
    refine ops_done (by kernel_rfl) ?_
    refine wp_ret ?_
    refine ret_rule (C := []) [] [] (.tuple #[.int .i64 (((l.getD p 0).toNat : Nat) : Int), .int .i64 1, .bool true]) [] [] s trivial (by kernel_rfl) ?_
    exact ⟨_, _, _, rfl, s, (sgn_good (l := l) (p := p) (x := (l.getD p 0).toNat) (w := 1) (by have z0 := byte_lt (l.getD p 0); have z1 := byte_lt (l.getD (p + 1) 0); have z2 := byte_lt (l.getD (p + 2) 0); have z3 := byte_lt (l.getD (p + 3) 0); have hq0 := of_decide_eq_true hc6; unfold Lib.decodeN; (repeat' split) <;> first | with_reducible rfl | (exfalso; omega) | (refine Prod.ext ?_ ?_ <;> dsimp only <;> omega)) (by have z0 := byte_lt (l.getD p 0); have z1 := byte_lt (l.getD (p + 1) 0); have z2 := byte_lt (l.getD (p + 2) 0); have z3 := byte_lt (l.getD (p + 3) 0); have hq0 := of_decide_eq_true hc6; omega))⟩
  ·
    rw [hc6]
    refine cond_false_rule (b := false) (by kernel_rfl) rfl ?_
    refine wp_seq ?_
    refine region_rule ?_
    refine ops_rule (C := []) [] [] 3 [] 0 (fun φ8 => [(23, .bool (decide ((((l.getD p 0).toNat : Nat) : Int) ≥ ((192 : Nat) : Int)))), (22, .bool (decide ((((l.getD p 0).toNat : Nat) : Int) ≥ ((192 : Nat) : Int)))), (21, .int .i64 (((l.getD p 0).toNat : Nat) : Int))]) (fun φ8 => []) (fun φ8 => []) s trivial (fun φ8 => by kernel_rfl) ?_
    intro φ8 w8 s
    rw [nat_geq (a := ((l.getD p 0).toNat)) (b := 192)]
    rcases Bool.eq_false_or_eq_true (decide (192 ≤ ((l.getD p 0).toNat))) with hc9 | hc9
    ·
      rw [hc9]
      refine ops_rule (C := []) [] [] 4 [] 0 (fun φ10 => [(20, .bool (decide ((((l.getD p 0).toNat : Nat) : Int) < ((224 : Nat) : Int)))), (26, .bool (decide ((((l.getD p 0).toNat : Nat) : Int) < ((224 : Nat) : Int)))), (25, .bool (decide ((((l.getD p 0).toNat : Nat) : Int) < ((224 : Nat) : Int)))), (24, .int .i64 (((l.getD p 0).toNat : Nat) : Int))]) (fun φ10 => []) (fun φ10 => []) s trivial (fun φ10 => by kernel_rfl) ?_
      intro φ10 w10 s
      rw [nat_lss (a := ((l.getD p 0).toNat)) (b := 224)]
      refine ops_done (by kernel_rfl) ?_
      rcases Bool.eq_false_or_eq_true (decide (((l.getD p 0).toNat) < 224)) with hc11 | hc11
      ·
        rw [hc11]
        refine cond_true_rule (b := true) (by kernel_rfl) rfl ?_
        refine region_rule ?_
        refine ops_rule (C := []) [] [] 5 [] 0 (fun φ12 => [(10, .int .i64 (IntKind.wrap .i64 ((((l.getD p 0).toNat : Nat) : Int) - ((192 : Nat) : Int)))), (9, .int .i64 128), (8, .int .i64 2), (28, .int .i64 (IntKind.wrap .i64 ((((l.getD p 0).toNat : Nat) : Int) - ((192 : Nat) : Int)))), (27, .int .i64 (((l.getD p 0).toNat : Nat) : Int))]) (fun φ12 => []) (fun φ12 => []) s trivial (fun φ12 => by kernel_rfl) ?_
        intro φ12 w12 s
        rw [nat_subI (a := ((l.getD p 0).toNat)) (b := 192) (by  have := byte_lt (l.getD p 0); have hq0 := of_decide_eq_false hc6; have hq1 := of_decide_eq_true hc9; have hq2 := of_decide_eq_true hc11; omega) (by  have := byte_lt (l.getD p 0); have hq0 := of_decide_eq_false hc6; have hq1 := of_decide_eq_true hc9; have hq2 := of_decide_eq_true hc11; omega)]
        refine ops_done (by kernel_rfl) ?_
        refine wp_seq ?_
        refine wp_seq ?_
        refine region_rule ?_
        refine ops_rule (C := []) [] [] 1 [] 0 (fun φ13 => [(11, .int .i64 1)]) (fun φ13 => []) (fun φ13 => []) s trivial (fun φ13 => by kernel_rfl) ?_
        intro φ13 w13 s
        refine ops_done (by kernel_rfl) ?_
        refine wp_block ?_
        refine Go.wp_loop_rounds 5 ?_
        refine rounds_step (n := 4) ?_
        refine wp_seq ?_
        refine wp_seq ?_
        refine region_rule ?_
        refine ops_rule (C := []) [] [] 3 [] 0 (fun φ14 => [(49, .bool true), (48, .int .i64 2), (47, .int .i64 1)]) (fun φ14 => []) (fun φ14 => []) s trivial (fun φ14 => by kernel_rfl) ?_
        intro φ14 w14 s
        refine ops_done (by kernel_rfl) ?_
        refine cond_true_rule (b := true) (by kernel_rfl) rfl ?_
        refine wp_skip ?_
        refine wp_seq ?_
        refine wp_block ?_
        refine wp_seq ?_
        refine wp_seq ?_
        refine region_rule ?_
        refine ops_rule (C := []) [] [] 7 [] 0 (fun φ15 => [(58, .bool (decide ((IntKind.wrap .i64 (((p : Nat) : Int) + ((1 : Nat) : Int))) ≥ (((l).length : Nat) : Int)))), (57, .bool (decide ((IntKind.wrap .i64 (((p : Nat) : Int) + ((1 : Nat) : Int))) ≥ (((l).length : Nat) : Int)))), (56, .int .i64 (((l).length : Nat) : Int)), (55, .string ⟨(l).toArray⟩), (54, .int .i64 (IntKind.wrap .i64 (((p : Nat) : Int) + ((1 : Nat) : Int)))), (53, .int .i64 1), (52, .int .i64 ((p : Nat) : Int))]) (fun φ15 => []) (fun φ15 => []) s trivial (fun φ15 => by kernel_rfl) ?_
        intro φ15 w15 s
        rw [nat_addI (a := p) (b := 1) (by  have hq0 := of_decide_eq_false hc6; have hq1 := of_decide_eq_true hc9; have hq2 := of_decide_eq_true hc11; omega)]
        rw [nat_geq (a := (p + 1)) (b := ((l).length))]
        rcases Bool.eq_false_or_eq_true (decide (((l).length) ≤ (p + 1))) with hc16 | hc16
        ·
          rw [hc16]
          refine ops_rule (C := []) [] [] 15 [] 0 (fun φ17 => [(73, .bool true), (72, undef), (71, undef), (70, undef), (69, undef), (68, undef), (67, undef), (66, .bool true), (65, .bool true), (64, undef), (63, undef), (62, undef), (61, undef), (60, undef), (59, undef)]) (fun φ17 => []) (fun φ17 => []) s trivial (fun φ17 => by kernel_rfl) ?_
          intro φ17 w17 s
          refine ops_done (by kernel_rfl) ?_
          refine cond_true_rule (b := true) (by kernel_rfl) rfl ?_
          refine wp_seq ?_
          refine region_rule ?_
          refine ops_rule (C := []) [] [] 3 [] 0 (fun φ18 => [(6, .bool false), (5, .int .i64 1), (4, .int .i64 0)]) (fun φ18 => []) (fun φ18 => []) s trivial (fun φ18 => by kernel_rfl) ?_
          intro φ18 w18 s
          refine ops_done (by kernel_rfl) ?_
          refine wp_ret ?_
          refine ret_rule (C := []) [] [] (.tuple #[.int .i64 0, .int .i64 1, .bool false]) [] [] s trivial (by kernel_rfl) ?_
          exact ⟨_, _, _, rfl, s, (sgn_bad (l := l) (p := p) (by have z0 := byte_lt (l.getD p 0); have z1 := byte_lt (l.getD (p + 1) 0); have z2 := byte_lt (l.getD (p + 2) 0); have z3 := byte_lt (l.getD (p + 3) 0); have hq0 := of_decide_eq_false hc6; have hq1 := of_decide_eq_true hc9; have hq2 := of_decide_eq_true hc11; have hq3 := of_decide_eq_true hc16; unfold Lib.decodeN; (repeat' split) <;> first | with_reducible rfl | (exfalso; omega) | (refine Prod.ext ?_ ?_ <;> dsimp only <;> omega)))⟩
        ·
          rw [hc16]
          refine ops_rule (C := []) [] [] 4 [] 0 (fun φ19 => [(62, .int .i64 (IntKind.wrap .i64 (((p : Nat) : Int) + ((1 : Nat) : Int)))), (61, .int .i64 1), (60, .int .i64 ((p : Nat) : Int)), (59, .string ⟨(l).toArray⟩)]) (fun φ19 => []) (fun φ19 => []) s trivial (fun φ19 => by kernel_rfl) ?_
          intro φ19 w19 s
          rw [nat_addI (a := p) (b := 1) (by  have hq0 := of_decide_eq_false hc6; have hq1 := of_decide_eq_true hc9; have hq2 := of_decide_eq_true hc11; have hq3 := of_decide_eq_false hc16; omega)]
          refine sem_rule (Instr.index 9 (.string ⟨(l).toArray⟩) (.int .i64 ((p + 1 : Nat) : Int))) (some 63) (.int .u8 (((l.getD (p + 1) 0).toNat : Nat) : Int)) (by kernel_rfl) (run_idxK (s := l) (i := p + 1) (by  have hq0 := of_decide_eq_false hc6; have hq1 := of_decide_eq_true hc9; have hq2 := of_decide_eq_true hc11; have hq3 := of_decide_eq_false hc16; (try simp only [List.length_drop, List.length_take, List.length_append, List.length_cons, List.length_nil]); omega)) ?_
          refine ops_rule (C := []) [] [] 3 [] 0 (fun φ20 => [(66, .bool (decide ((((l.getD (p + 1) 0).toNat : Nat) : Int) < ((128 : Nat) : Int)))), (65, .bool (decide ((((l.getD (p + 1) 0).toNat : Nat) : Int) < ((128 : Nat) : Int)))), (64, .bool (decide ((((l.getD (p + 1) 0).toNat : Nat) : Int) < ((128 : Nat) : Int))))]) (fun φ20 => []) (fun φ20 => []) s trivial (fun φ20 => by kernel_rfl) ?_
          intro φ20 w20 s
          rw [nat_lss (a := ((l.getD (p + 1) 0).toNat)) (b := 128)]
          rcases Bool.eq_false_or_eq_true (decide (((l.getD (p + 1) 0).toNat) < 128)) with hc21 | hc21
          ·
            rw [hc21]
            refine ops_rule (C := []) [] [] 7 [] 0 (fun φ22 => [(73, .bool true), (72, undef), (71, undef), (70, undef), (69, undef), (68, undef), (67, undef)]) (fun φ22 => []) (fun φ22 => []) s trivial (fun φ22 => by kernel_rfl) ?_
            intro φ22 w22 s
            refine ops_done (by kernel_rfl) ?_
            refine cond_true_rule (b := true) (by kernel_rfl) rfl ?_
            refine wp_seq ?_
            refine region_rule ?_
            refine ops_rule (C := []) [] [] 3 [] 0 (fun φ23 => [(6, .bool false), (5, .int .i64 1), (4, .int .i64 0)]) (fun φ23 => []) (fun φ23 => []) s trivial (fun φ23 => by kernel_rfl) ?_
            intro φ23 w23 s
            refine ops_done (by kernel_rfl) ?_
            refine wp_ret ?_
            refine ret_rule (C := []) [] [] (.tuple #[.int .i64 0, .int .i64 1, .bool false]) [] [] s trivial (by kernel_rfl) ?_
            exact ⟨_, _, _, rfl, s, (sgn_bad (l := l) (p := p) (by have z0 := byte_lt (l.getD p 0); have z1 := byte_lt (l.getD (p + 1) 0); have z2 := byte_lt (l.getD (p + 2) 0); have z3 := byte_lt (l.getD (p + 3) 0); have hq0 := of_decide_eq_false hc6; have hq1 := of_decide_eq_true hc9; have hq2 := of_decide_eq_true hc11; have hq3 := of_decide_eq_false hc16; have hq4 := of_decide_eq_true hc21; unfold Lib.decodeN; (repeat' split) <;> first | with_reducible rfl | (exfalso; omega) | (refine Prod.ext ?_ ?_ <;> dsimp only <;> omega)))⟩
          ·
            rw [hc21]
            refine ops_rule (C := []) [] [] 4 [] 0 (fun φ24 => [(70, .int .i64 (IntKind.wrap .i64 (((p : Nat) : Int) + ((1 : Nat) : Int)))), (69, .int .i64 1), (68, .int .i64 ((p : Nat) : Int)), (67, .string ⟨(l).toArray⟩)]) (fun φ24 => []) (fun φ24 => []) s trivial (fun φ24 => by kernel_rfl) ?_
            intro φ24 w24 s
            rw [nat_addI (a := p) (b := 1) (by  have hq0 := of_decide_eq_false hc6; have hq1 := of_decide_eq_true hc9; have hq2 := of_decide_eq_true hc11; have hq3 := of_decide_eq_false hc16; have hq4 := of_decide_eq_false hc21; omega)]
            refine sem_rule (Instr.index 9 (.string ⟨(l).toArray⟩) (.int .i64 ((p + 1 : Nat) : Int))) (some 71) (.int .u8 (((l.getD (p + 1) 0).toNat : Nat) : Int)) (by kernel_rfl) (run_idxK (s := l) (i := p + 1) (by  have hq0 := of_decide_eq_false hc6; have hq1 := of_decide_eq_true hc9; have hq2 := of_decide_eq_true hc11; have hq3 := of_decide_eq_false hc16; have hq4 := of_decide_eq_false hc21; (try simp only [List.length_drop, List.length_take, List.length_append, List.length_cons, List.length_nil]); omega)) ?_
            refine ops_rule (C := []) [] [] 2 [] 0 (fun φ25 => [(73, .bool (decide ((((l.getD (p + 1) 0).toNat : Nat) : Int) > ((191 : Nat) : Int)))), (72, .bool (decide ((((l.getD (p + 1) 0).toNat : Nat) : Int) > ((191 : Nat) : Int))))]) (fun φ25 => []) (fun φ25 => []) s trivial (fun φ25 => by kernel_rfl) ?_
            intro φ25 w25 s
            rw [nat_gtr (a := ((l.getD (p + 1) 0).toNat)) (b := 191)]
            refine ops_done (by kernel_rfl) ?_
            rcases Bool.eq_false_or_eq_true (decide (191 < ((l.getD (p + 1) 0).toNat))) with hc26 | hc26
            ·
              rw [hc26]
              refine cond_true_rule (b := true) (by kernel_rfl) rfl ?_
              refine wp_seq ?_
              refine region_rule ?_
              refine ops_rule (C := []) [] [] 3 [] 0 (fun φ27 => [(6, .bool false), (5, .int .i64 1), (4, .int .i64 0)]) (fun φ27 => []) (fun φ27 => []) s trivial (fun φ27 => by kernel_rfl) ?_
              intro φ27 w27 s
              refine ops_done (by kernel_rfl) ?_
              refine wp_ret ?_
              refine ret_rule (C := []) [] [] (.tuple #[.int .i64 0, .int .i64 1, .bool false]) [] [] s trivial (by kernel_rfl) ?_
              exact ⟨_, _, _, rfl, s, (sgn_bad (l := l) (p := p) (by have z0 := byte_lt (l.getD p 0); have z1 := byte_lt (l.getD (p + 1) 0); have z2 := byte_lt (l.getD (p + 2) 0); have z3 := byte_lt (l.getD (p + 3) 0); have hq0 := of_decide_eq_false hc6; have hq1 := of_decide_eq_true hc9; have hq2 := of_decide_eq_true hc11; have hq3 := of_decide_eq_false hc16; have hq4 := of_decide_eq_false hc21; have hq5 := of_decide_eq_true hc26; unfold Lib.decodeN; (repeat' split) <;> first | with_reducible rfl | (exfalso; omega) | (refine Prod.ext ?_ ?_ <;> dsimp only <;> omega)))⟩
            ·
              rw [hc26]
              refine cond_false_rule (b := false) (by kernel_rfl) rfl ?_
              refine wp_skip ?_
              refine region_rule ?_
              refine ops_rule (C := []) [] [] 6 [] 0 (fun φ28 => [(79, .int .i64 (IntKind.wrap .i64 (((p : Nat) : Int) + ((1 : Nat) : Int)))), (78, .int .i64 1), (77, .int .i64 ((p : Nat) : Int)), (76, .string ⟨(l).toArray⟩), (75, .int .i64 (IntKind.wrap .i64 (((64 : Nat) : Int) * ((((l.getD p 0).toNat) - 192 : Nat) : Int)))), (74, .int .i64 ((((l.getD p 0).toNat) - 192 : Nat) : Int))]) (fun φ28 => []) (fun φ28 => []) s trivial (fun φ28 => by kernel_rfl) ?_
              intro φ28 w28 s
              rw [nat_addI (a := p) (b := 1) (by  have hq0 := of_decide_eq_false hc6; have hq1 := of_decide_eq_true hc9; have hq2 := of_decide_eq_true hc11; have hq3 := of_decide_eq_false hc16; have hq4 := of_decide_eq_false hc21; have hq5 := of_decide_eq_false hc26; omega)]
              rw [nat_mulI (a := 64) (b := (((l.getD p 0).toNat) - 192)) (by  have := byte_lt (l.getD p 0); have hq0 := of_decide_eq_false hc6; have hq1 := of_decide_eq_true hc9; have hq2 := of_decide_eq_true hc11; have hq3 := of_decide_eq_false hc16; have hq4 := of_decide_eq_false hc21; have hq5 := of_decide_eq_false hc26; omega)]
              refine sem_rule (Instr.index 9 (.string ⟨(l).toArray⟩) (.int .i64 ((p + 1 : Nat) : Int))) (some 80) (.int .u8 (((l.getD (p + 1) 0).toNat : Nat) : Int)) (by kernel_rfl) (run_idxK (s := l) (i := p + 1) (by  have hq0 := of_decide_eq_false hc6; have hq1 := of_decide_eq_true hc9; have hq2 := of_decide_eq_true hc11; have hq3 := of_decide_eq_false hc16; have hq4 := of_decide_eq_false hc21; have hq5 := of_decide_eq_false hc26; (try simp only [List.length_drop, List.length_take, List.length_append, List.length_cons, List.length_nil]); omega)) ?_
              refine ops_rule (C := []) [] [] 4 [] 0 (fun φ29 => [(10, .int .i64 (IntKind.wrap .i64 ((IntKind.wrap .i64 (((64 * (((l.getD p 0).toNat) - 192) : Nat) : Int) + (IntKind.wrap .i64 (((l.getD (p + 1) 0).toNat : Nat) : Int)))) - ((128 : Nat) : Int)))), (83, .int .i64 (IntKind.wrap .i64 ((IntKind.wrap .i64 (((64 * (((l.getD p 0).toNat) - 192) : Nat) : Int) + (IntKind.wrap .i64 (((l.getD (p + 1) 0).toNat : Nat) : Int)))) - ((128 : Nat) : Int)))), (82, .int .i64 (IntKind.wrap .i64 (((64 * (((l.getD p 0).toNat) - 192) : Nat) : Int) + (IntKind.wrap .i64 (((l.getD (p + 1) 0).toNat : Nat) : Int))))), (81, .int .i64 (IntKind.wrap .i64 (((l.getD (p + 1) 0).toNat : Nat) : Int)))]) (fun φ29 => []) (fun φ29 => []) s trivial (fun φ29 => by kernel_rfl) ?_
              intro φ29 w29 s
              rw [nat_wrapI (a := ((l.getD (p + 1) 0).toNat)) (by  have := byte_lt (l.getD (p + 1) 0); have hq0 := of_decide_eq_false hc6; have hq1 := of_decide_eq_true hc9; have hq2 := of_decide_eq_true hc11; have hq3 := of_decide_eq_false hc16; have hq4 := of_decide_eq_false hc21; have hq5 := of_decide_eq_false hc26; omega)]
              rw [nat_addI (a := (64 * (((l.getD p 0).toNat) - 192))) (b := ((l.getD (p + 1) 0).toNat)) (by  have := byte_lt (l.getD (p + 1) 0); have := byte_lt (l.getD p 0); have hq0 := of_decide_eq_false hc6; have hq1 := of_decide_eq_true hc9; have hq2 := of_decide_eq_true hc11; have hq3 := of_decide_eq_false hc16; have hq4 := of_decide_eq_false hc21; have hq5 := of_decide_eq_false hc26; omega)]
              rw [nat_subI (a := ((64 * (((l.getD p 0).toNat) - 192)) + ((l.getD (p + 1) 0).toNat))) (b := 128) (by  have := byte_lt (l.getD (p + 1) 0); have := byte_lt (l.getD p 0); have hq0 := of_decide_eq_false hc6; have hq1 := of_decide_eq_true hc9; have hq2 := of_decide_eq_true hc11; have hq3 := of_decide_eq_false hc16; have hq4 := of_decide_eq_false hc21; have hq5 := of_decide_eq_false hc26; omega) (by  have := byte_lt (l.getD (p + 1) 0); have := byte_lt (l.getD p 0); have hq0 := of_decide_eq_false hc6; have hq1 := of_decide_eq_true hc9; have hq2 := of_decide_eq_true hc11; have hq3 := of_decide_eq_false hc16; have hq4 := of_decide_eq_false hc21; have hq5 := of_decide_eq_false hc26; omega)]
              refine ops_done (by kernel_rfl) ?_
              refine region_rule ?_
              refine ops_rule (C := []) [] [] 3 [] 0 (fun φ30 => [(11, .int .i64 2), (51, .int .i64 2), (50, .int .i64 1)]) (fun φ30 => []) (fun φ30 => []) s trivial (fun φ30 => by kernel_rfl) ?_
              intro φ30 w30 s
              refine ops_done (by kernel_rfl) ?_
              refine rounds_step (n := 3) ?_
              refine wp_seq ?_
              refine wp_seq ?_
              refine region_rule ?_
              refine ops_rule (C := []) [] [] 3 [] 0 (fun φ31 => [(49, .bool false), (48, .int .i64 2), (47, .int .i64 2)]) (fun φ31 => []) (fun φ31 => []) s trivial (fun φ31 => by kernel_rfl) ?_
              intro φ31 w31 s
              refine ops_done (by kernel_rfl) ?_
              refine cond_false_rule (b := false) (by kernel_rfl) rfl ?_
              refine wp_exit ?_
              refine wp_seq ?_
              refine wp_seq ?_
              refine region_rule ?_
              refine ops_rule (C := []) [] [] 4 [] 0 (fun φ32 => [(87, .bool (decide (((((64 * (((l.getD p 0).toNat) - 192)) + ((l.getD (p + 1) 0).toNat)) - 128 : Nat) : Int) < ((128 : Nat) : Int)))), (86, .bool (decide (((((64 * (((l.getD p 0).toNat) - 192)) + ((l.getD (p + 1) 0).toNat)) - 128 : Nat) : Int) < ((128 : Nat) : Int)))), (85, .int .i64 128), (84, .int .i64 ((((64 * (((l.getD p 0).toNat) - 192)) + ((l.getD (p + 1) 0).toNat)) - 128 : Nat) : Int))]) (fun φ32 => []) (fun φ32 => []) s trivial (fun φ32 => by kernel_rfl) ?_
              intro φ32 w32 s
              rw [nat_lss (a := (((64 * (((l.getD p 0).toNat) - 192)) + ((l.getD (p + 1) 0).toNat)) - 128)) (b := 128)]
              rcases Bool.eq_false_or_eq_true (decide ((((64 * (((l.getD p 0).toNat) - 192)) + ((l.getD (p + 1) 0).toNat)) - 128) < 128)) with hc33 | hc33
              ·
                rw [hc33]
                refine ops_rule (C := []) [] [] 11 [] 0 (fun φ34 => [(98, .bool true), (97, undef), (96, undef), (95, undef), (94, undef), (93, undef), (92, undef), (91, .bool true), (90, .bool true), (89, undef), (88, undef)]) (fun φ34 => []) (fun φ34 => []) s trivial (fun φ34 => by kernel_rfl) ?_
                intro φ34 w34 s
                refine ops_done (by kernel_rfl) ?_
                refine cond_true_rule (b := true) (by kernel_rfl) rfl ?_
                refine wp_seq ?_
                refine region_rule ?_
                refine ops_rule (C := []) [] [] 3 [] 0 (fun φ35 => [(6, .bool false), (5, .int .i64 1), (4, .int .i64 0)]) (fun φ35 => []) (fun φ35 => []) s trivial (fun φ35 => by kernel_rfl) ?_
                intro φ35 w35 s
                refine ops_done (by kernel_rfl) ?_
                refine wp_ret ?_
                refine ret_rule (C := []) [] [] (.tuple #[.int .i64 0, .int .i64 1, .bool false]) [] [] s trivial (by kernel_rfl) ?_
                exact ⟨_, _, _, rfl, s, (sgn_bad (l := l) (p := p) (by have z0 := byte_lt (l.getD p 0); have z1 := byte_lt (l.getD (p + 1) 0); have z2 := byte_lt (l.getD (p + 2) 0); have z3 := byte_lt (l.getD (p + 3) 0); have hq0 := of_decide_eq_false hc6; have hq1 := of_decide_eq_true hc9; have hq2 := of_decide_eq_true hc11; have hq3 := of_decide_eq_false hc16; have hq4 := of_decide_eq_false hc21; have hq5 := of_decide_eq_false hc26; have hq6 := of_decide_eq_true hc33; unfold Lib.decodeN; (repeat' split) <;> first | with_reducible rfl | (exfalso; omega) | (refine Prod.ext ?_ ?_ <;> dsimp only <;> omega)))⟩
              ·
                rw [hc33]
                refine ops_rule (C := []) [] [] 4 [] 0 (fun φ36 => [(91, .bool (decide (((((64 * (((l.getD p 0).toNat) - 192)) + ((l.getD (p + 1) 0).toNat)) - 128 : Nat) : Int) > ((1114111 : Nat) : Int)))), (90, .bool (decide (((((64 * (((l.getD p 0).toNat) - 192)) + ((l.getD (p + 1) 0).toNat)) - 128 : Nat) : Int) > ((1114111 : Nat) : Int)))), (89, .bool (decide (((((64 * (((l.getD p 0).toNat) - 192)) + ((l.getD (p + 1) 0).toNat)) - 128 : Nat) : Int) > ((1114111 : Nat) : Int)))), (88, .int .i64 ((((64 * (((l.getD p 0).toNat) - 192)) + ((l.getD (p + 1) 0).toNat)) - 128 : Nat) : Int))]) (fun φ36 => []) (fun φ36 => []) s trivial (fun φ36 => by kernel_rfl) ?_
                intro φ36 w36 s
                rw [nat_gtr (a := (((64 * (((l.getD p 0).toNat) - 192)) + ((l.getD (p + 1) 0).toNat)) - 128)) (b := 1114111)]
                rcases Bool.eq_false_or_eq_true (decide (1114111 < (((64 * (((l.getD p 0).toNat) - 192)) + ((l.getD (p + 1) 0).toNat)) - 128))) with hc37 | hc37
                ·
                  rw [hc37]
                  refine ops_rule (C := []) [] [] 7 [] 0 (fun φ38 => [(98, .bool true), (97, undef), (96, undef), (95, undef), (94, undef), (93, undef), (92, undef)]) (fun φ38 => []) (fun φ38 => []) s trivial (fun φ38 => by kernel_rfl) ?_
                  intro φ38 w38 s
                  refine ops_done (by kernel_rfl) ?_
                  refine cond_true_rule (b := true) (by kernel_rfl) rfl ?_
                  refine wp_seq ?_
                  refine region_rule ?_
                  refine ops_rule (C := []) [] [] 3 [] 0 (fun φ39 => [(6, .bool false), (5, .int .i64 1), (4, .int .i64 0)]) (fun φ39 => []) (fun φ39 => []) s trivial (fun φ39 => by kernel_rfl) ?_
                  intro φ39 w39 s
                  refine ops_done (by kernel_rfl) ?_
                  refine wp_ret ?_
                  refine ret_rule (C := []) [] [] (.tuple #[.int .i64 0, .int .i64 1, .bool false]) [] [] s trivial (by kernel_rfl) ?_
                  exact ⟨_, _, _, rfl, s, (sgn_bad (l := l) (p := p) (by have z0 := byte_lt (l.getD p 0); have z1 := byte_lt (l.getD (p + 1) 0); have z2 := byte_lt (l.getD (p + 2) 0); have z3 := byte_lt (l.getD (p + 3) 0); have hq0 := of_decide_eq_false hc6; have hq1 := of_decide_eq_true hc9; have hq2 := of_decide_eq_true hc11; have hq3 := of_decide_eq_false hc16; have hq4 := of_decide_eq_false hc21; have hq5 := of_decide_eq_false hc26; have hq6 := of_decide_eq_false hc33; have hq7 := of_decide_eq_true hc37; unfold Lib.decodeN; (repeat' split) <;> first | with_reducible rfl | (exfalso; omega) | (refine Prod.ext ?_ ?_ <;> dsimp only <;> omega)))⟩
                ·
                  rw [hc37]
                  refine ops_rule (C := []) [] [] 3 [] 0 (fun φ40 => [(94, .bool (decide (((((64 * (((l.getD p 0).toNat) - 192)) + ((l.getD (p + 1) 0).toNat)) - 128 : Nat) : Int) ≥ ((55296 : Nat) : Int)))), (93, .bool (decide (((((64 * (((l.getD p 0).toNat) - 192)) + ((l.getD (p + 1) 0).toNat)) - 128 : Nat) : Int) ≥ ((55296 : Nat) : Int)))), (92, .int .i64 ((((64 * (((l.getD p 0).toNat) - 192)) + ((l.getD (p + 1) 0).toNat)) - 128 : Nat) : Int))]) (fun φ40 => []) (fun φ40 => []) s trivial (fun φ40 => by kernel_rfl) ?_
                  intro φ40 w40 s
                  rw [nat_geq (a := (((64 * (((l.getD p 0).toNat) - 192)) + ((l.getD (p + 1) 0).toNat)) - 128)) (b := 55296)]
                  rcases Bool.eq_false_or_eq_true (decide (55296 ≤ (((64 * (((l.getD p 0).toNat) - 192)) + ((l.getD (p + 1) 0).toNat)) - 128))) with hc41 | hc41
                  ·
                    rw [hc41]
                    refine ops_rule (C := []) [] [] 4 [] 0 (fun φ42 => [(98, .bool (decide (((((64 * (((l.getD p 0).toNat) - 192)) + ((l.getD (p + 1) 0).toNat)) - 128 : Nat) : Int) < ((57344 : Nat) : Int)))), (97, .bool (decide (((((64 * (((l.getD p 0).toNat) - 192)) + ((l.getD (p + 1) 0).toNat)) - 128 : Nat) : Int) < ((57344 : Nat) : Int)))), (96, .bool (decide (((((64 * (((l.getD p 0).toNat) - 192)) + ((l.getD (p + 1) 0).toNat)) - 128 : Nat) : Int) < ((57344 : Nat) : Int)))), (95, .int .i64 ((((64 * (((l.getD p 0).toNat) - 192)) + ((l.getD (p + 1) 0).toNat)) - 128 : Nat) : Int))]) (fun φ42 => []) (fun φ42 => []) s trivial (fun φ42 => by kernel_rfl) ?_
                    intro φ42 w42 s
                    rw [nat_lss (a := (((64 * (((l.getD p 0).toNat) - 192)) + ((l.getD (p + 1) 0).toNat)) - 128)) (b := 57344)]
                    refine ops_done (by kernel_rfl) ?_
                    rcases Bool.eq_false_or_eq_true (decide ((((64 * (((l.getD p 0).toNat) - 192)) + ((l.getD (p + 1) 0).toNat)) - 128) < 57344)) with hc43 | hc43
                    ·
                      rw [hc43]
                      refine cond_true_rule (b := true) (by kernel_rfl) rfl ?_
                      refine wp_seq ?_
                      refine region_rule ?_
                      refine ops_rule (C := []) [] [] 3 [] 0 (fun φ44 => [(6, .bool false), (5, .int .i64 1), (4, .int .i64 0)]) (fun φ44 => []) (fun φ44 => []) s trivial (fun φ44 => by kernel_rfl) ?_
                      intro φ44 w44 s
                      refine ops_done (by kernel_rfl) ?_
                      refine wp_ret ?_
                      refine ret_rule (C := []) [] [] (.tuple #[.int .i64 0, .int .i64 1, .bool false]) [] [] s trivial (by kernel_rfl) ?_
                      exact ⟨_, _, _, rfl, s, (sgn_bad (l := l) (p := p) (by have z0 := byte_lt (l.getD p 0); have z1 := byte_lt (l.getD (p + 1) 0); have z2 := byte_lt (l.getD (p + 2) 0); have z3 := byte_lt (l.getD (p + 3) 0); have hq0 := of_decide_eq_false hc6; have hq1 := of_decide_eq_true hc9; have hq2 := of_decide_eq_true hc11; have hq3 := of_decide_eq_false hc16; have hq4 := of_decide_eq_false hc21; have hq5 := of_decide_eq_false hc26; have hq6 := of_decide_eq_false hc33; have hq7 := of_decide_eq_false hc37; have hq8 := of_decide_eq_true hc41; have hq9 := of_decide_eq_true hc43; unfold Lib.decodeN; (repeat' split) <;> first | with_reducible rfl | (exfalso; omega) | (refine Prod.ext ?_ ?_ <;> dsimp only <;> omega)))⟩
                    ·
                      rw [hc43]
                      refine cond_false_rule (b := false) (by kernel_rfl) rfl ?_
                      refine wp_skip ?_
                      refine wp_seq ?_
                      refine region_rule ?_
                      refine ops_rule (C := []) [] [] 5 [] 0 (fun φ45 => [(6, .bool true), (5, .int .i64 2), (4, .int .i64 ((((64 * (((l.getD p 0).toNat) - 192)) + ((l.getD (p + 1) 0).toNat)) - 128 : Nat) : Int)), (100, .int .i64 2), (99, .int .i64 ((((64 * (((l.getD p 0).toNat) - 192)) + ((l.getD (p + 1) 0).toNat)) - 128 : Nat) : Int))]) (fun φ45 => []) (fun φ45 => []) s trivial (fun φ45 => by kernel_rfl) ?_
                      intro φ45 w45 s
                      refine ops_done (by kernel_rfl) ?_
                      refine wp_ret ?_
                      refine ret_rule (C := []) [] [] (.tuple #[.int .i64 ((((64 * (((l.getD p 0).toNat) - 192)) + ((l.getD (p + 1) 0).toNat)) - 128 : Nat) : Int), .int .i64 2, .bool true]) [] [] s trivial (by kernel_rfl) ?_
                      exact ⟨_, _, _, rfl, s, (sgn_good (l := l) (p := p) (x := ((64 * (((l.getD p 0).toNat) - 192)) + ((l.getD (p + 1) 0).toNat)) - 128) (w := 2) (by have z0 := byte_lt (l.getD p 0); have z1 := byte_lt (l.getD (p + 1) 0); have z2 := byte_lt (l.getD (p + 2) 0); have z3 := byte_lt (l.getD (p + 3) 0); have hq0 := of_decide_eq_false hc6; have hq1 := of_decide_eq_true hc9; have hq2 := of_decide_eq_true hc11; have hq3 := of_decide_eq_false hc16; have hq4 := of_decide_eq_false hc21; have hq5 := of_decide_eq_false hc26; have hq6 := of_decide_eq_false hc33; have hq7 := of_decide_eq_false hc37; have hq8 := of_decide_eq_true hc41; have hq9 := of_decide_eq_false hc43; unfold Lib.decodeN; (repeat' split) <;> first | with_reducible rfl | (exfalso; omega) | (refine Prod.ext ?_ ?_ <;> dsimp only <;> omega)) (by have z0 := byte_lt (l.getD p 0); have z1 := byte_lt (l.getD (p + 1) 0); have z2 := byte_lt (l.getD (p + 2) 0); have z3 := byte_lt (l.getD (p + 3) 0); have hq0 := of_decide_eq_false hc6; have hq1 := of_decide_eq_true hc9; have hq2 := of_decide_eq_true hc11; have hq3 := of_decide_eq_false hc16; have hq4 := of_decide_eq_false hc21; have hq5 := of_decide_eq_false hc26; have hq6 := of_decide_eq_false hc33; have hq7 := of_decide_eq_false hc37; have hq8 := of_decide_eq_true hc41; have hq9 := of_decide_eq_false hc43; omega))⟩
                  ·
                    rw [hc41]
                    refine ops_rule (C := []) [] [] 4 [] 0 (fun φ46 => [(98, .bool false), (97, .bool false), (96, undef), (95, undef)]) (fun φ46 => []) (fun φ46 => []) s trivial (fun φ46 => by kernel_rfl) ?_
                    intro φ46 w46 s
                    refine ops_done (by kernel_rfl) ?_
                    refine cond_false_rule (b := false) (by kernel_rfl) rfl ?_
                    refine wp_skip ?_
                    refine wp_seq ?_
                    refine region_rule ?_
                    refine ops_rule (C := []) [] [] 5 [] 0 (fun φ47 => [(6, .bool true), (5, .int .i64 2), (4, .int .i64 ((((64 * (((l.getD p 0).toNat) - 192)) + ((l.getD (p + 1) 0).toNat)) - 128 : Nat) : Int)), (100, .int .i64 2), (99, .int .i64 ((((64 * (((l.getD p 0).toNat) - 192)) + ((l.getD (p + 1) 0).toNat)) - 128 : Nat) : Int))]) (fun φ47 => []) (fun φ47 => []) s trivial (fun φ47 => by kernel_rfl) ?_
                    intro φ47 w47 s
                    refine ops_done (by kernel_rfl) ?_
                    refine wp_ret ?_
                    refine ret_rule (C := []) [] [] (.tuple #[.int .i64 ((((64 * (((l.getD p 0).toNat) - 192)) + ((l.getD (p + 1) 0).toNat)) - 128 : Nat) : Int), .int .i64 2, .bool true]) [] [] s trivial (by kernel_rfl) ?_
                    exact ⟨_, _, _, rfl, s, (sgn_good (l := l) (p := p) (x := ((64 * (((l.getD p 0).toNat) - 192)) + ((l.getD (p + 1) 0).toNat)) - 128) (w := 2) (by have z0 := byte_lt (l.getD p 0); have z1 := byte_lt (l.getD (p + 1) 0); have z2 := byte_lt (l.getD (p + 2) 0); have z3 := byte_lt (l.getD (p + 3) 0); have hq0 := of_decide_eq_false hc6; have hq1 := of_decide_eq_true hc9; have hq2 := of_decide_eq_true hc11; have hq3 := of_decide_eq_false hc16; have hq4 := of_decide_eq_false hc21; have hq5 := of_decide_eq_false hc26; have hq6 := of_decide_eq_false hc33; have hq7 := of_decide_eq_false hc37; have hq8 := of_decide_eq_false hc41; unfold Lib.decodeN; (repeat' split) <;> first | with_reducible rfl | (exfalso; omega) | (refine Prod.ext ?_ ?_ <;> dsimp only <;> omega)) (by have z0 := byte_lt (l.getD p 0); have z1 := byte_lt (l.getD (p + 1) 0); have z2 := byte_lt (l.getD (p + 2) 0); have z3 := byte_lt (l.getD (p + 3) 0); have hq0 := of_decide_eq_false hc6; have hq1 := of_decide_eq_true hc9; have hq2 := of_decide_eq_true hc11; have hq3 := of_decide_eq_false hc16; have hq4 := of_decide_eq_false hc21; have hq5 := of_decide_eq_false hc26; have hq6 := of_decide_eq_false hc33; have hq7 := of_decide_eq_false hc37; have hq8 := of_decide_eq_false hc41; omega))⟩
      ·
        rw [hc11]
        refine cond_false_rule (b := false) (by kernel_rfl) rfl ?_
        refine wp_seq ?_
        refine region_rule ?_
        refine ops_rule (C := []) [] [] 3 [] 0 (fun φ48 => [(32, .bool (decide ((((l.getD p 0).toNat : Nat) : Int) ≥ ((224 : Nat) : Int)))), (31, .bool (decide ((((l.getD p 0).toNat : Nat) : Int) ≥ ((224 : Nat) : Int)))), (30, .int .i64 (((l.getD p 0).toNat : Nat) : Int))]) (fun φ48 => []) (fun φ48 => []) s trivial (fun φ48 => by kernel_rfl) ?_
        intro φ48 w48 s
        rw [nat_geq (a := ((l.getD p 0).toNat)) (b := 224)]
        rcases Bool.eq_false_or_eq_true (decide (224 ≤ ((l.getD p 0).toNat))) with hc49 | hc49
        ·
          rw [hc49]
          refine ops_rule (C := []) [] [] 4 [] 0 (fun φ50 => [(29, .bool (decide ((((l.getD p 0).toNat : Nat) : Int) < ((240 : Nat) : Int)))), (35, .bool (decide ((((l.getD p 0).toNat : Nat) : Int) < ((240 : Nat) : Int)))), (34, .bool (decide ((((l.getD p 0).toNat : Nat) : Int) < ((240 : Nat) : Int)))), (33, .int .i64 (((l.getD p 0).toNat : Nat) : Int))]) (fun φ50 => []) (fun φ50 => []) s trivial (fun φ50 => by kernel_rfl) ?_
          intro φ50 w50 s
          rw [nat_lss (a := ((l.getD p 0).toNat)) (b := 240)]
          refine ops_done (by kernel_rfl) ?_
          rcases Bool.eq_false_or_eq_true (decide (((l.getD p 0).toNat) < 240)) with hc51 | hc51
          ·
            rw [hc51]
            refine cond_true_rule (b := true) (by kernel_rfl) rfl ?_
            refine region_rule ?_
            refine ops_rule (C := []) [] [] 5 [] 0 (fun φ52 => [(10, .int .i64 (IntKind.wrap .i64 ((((l.getD p 0).toNat : Nat) : Int) - ((224 : Nat) : Int)))), (9, .int .i64 2048), (8, .int .i64 3), (37, .int .i64 (IntKind.wrap .i64 ((((l.getD p 0).toNat : Nat) : Int) - ((224 : Nat) : Int)))), (36, .int .i64 (((l.getD p 0).toNat : Nat) : Int))]) (fun φ52 => []) (fun φ52 => []) s trivial (fun φ52 => by kernel_rfl) ?_
            intro φ52 w52 s
            rw [nat_subI (a := ((l.getD p 0).toNat)) (b := 224) (by  have := byte_lt (l.getD p 0); have hq0 := of_decide_eq_false hc6; have hq1 := of_decide_eq_true hc9; have hq2 := of_decide_eq_false hc11; have hq3 := of_decide_eq_true hc49; have hq4 := of_decide_eq_true hc51; omega) (by  have := byte_lt (l.getD p 0); have hq0 := of_decide_eq_false hc6; have hq1 := of_decide_eq_true hc9; have hq2 := of_decide_eq_false hc11; have hq3 := of_decide_eq_true hc49; have hq4 := of_decide_eq_true hc51; omega)]
            refine ops_done (by kernel_rfl) ?_
            refine wp_seq ?_
            refine wp_seq ?_
            refine region_rule ?_
            refine ops_rule (C := []) [] [] 1 [] 0 (fun φ53 => [(11, .int .i64 1)]) (fun φ53 => []) (fun φ53 => []) s trivial (fun φ53 => by kernel_rfl) ?_
            intro φ53 w53 s
            refine ops_done (by kernel_rfl) ?_
            refine wp_block ?_
            refine Go.wp_loop_rounds 5 ?_
            refine rounds_step (n := 4) ?_
            refine wp_seq ?_
            refine wp_seq ?_
            refine region_rule ?_
            refine ops_rule (C := []) [] [] 3 [] 0 (fun φ54 => [(49, .bool true), (48, .int .i64 3), (47, .int .i64 1)]) (fun φ54 => []) (fun φ54 => []) s trivial (fun φ54 => by kernel_rfl) ?_
            intro φ54 w54 s
            refine ops_done (by kernel_rfl) ?_
            refine cond_true_rule (b := true) (by kernel_rfl) rfl ?_
            refine wp_skip ?_
            refine wp_seq ?_
            refine wp_block ?_
            refine wp_seq ?_
            refine wp_seq ?_
            refine region_rule ?_
            refine ops_rule (C := []) [] [] 7 [] 0 (fun φ55 => [(58, .bool (decide ((IntKind.wrap .i64 (((p : Nat) : Int) + ((1 : Nat) : Int))) ≥ (((l).length : Nat) : Int)))), (57, .bool (decide ((IntKind.wrap .i64 (((p : Nat) : Int) + ((1 : Nat) : Int))) ≥ (((l).length : Nat) : Int)))), (56, .int .i64 (((l).length : Nat) : Int)), (55, .string ⟨(l).toArray⟩), (54, .int .i64 (IntKind.wrap .i64 (((p : Nat) : Int) + ((1 : Nat) : Int)))), (53, .int .i64 1), (52, .int .i64 ((p : Nat) : Int))]) (fun φ55 => []) (fun φ55 => []) s trivial (fun φ55 => by kernel_rfl) ?_
            intro φ55 w55 s
            rw [nat_addI (a := p) (b := 1) (by  have hq0 := of_decide_eq_false hc6; have hq1 := of_decide_eq_true hc9; have hq2 := of_decide_eq_false hc11; have hq3 := of_decide_eq_true hc49; have hq4 := of_decide_eq_true hc51; omega)]
            rw [nat_geq (a := (p + 1)) (b := ((l).length))]
            rcases Bool.eq_false_or_eq_true (decide (((l).length) ≤ (p + 1))) with hc56 | hc56
            ·
              rw [hc56]
              refine ops_rule (C := []) [] [] 15 [] 0 (fun φ57 => [(73, .bool true), (72, undef), (71, undef), (70, undef), (69, undef), (68, undef), (67, undef), (66, .bool true), (65, .bool true), (64, undef), (63, undef), (62, undef), (61, undef), (60, undef), (59, undef)]) (fun φ57 => []) (fun φ57 => []) s trivial (fun φ57 => by kernel_rfl) ?_
              intro φ57 w57 s
              refine ops_done (by kernel_rfl) ?_
              refine cond_true_rule (b := true) (by kernel_rfl) rfl ?_
              refine wp_seq ?_
              refine region_rule ?_
              refine ops_rule (C := []) [] [] 3 [] 0 (fun φ58 => [(6, .bool false), (5, .int .i64 1), (4, .int .i64 0)]) (fun φ58 => []) (fun φ58 => []) s trivial (fun φ58 => by kernel_rfl) ?_
              intro φ58 w58 s
              refine ops_done (by kernel_rfl) ?_
              refine wp_ret ?_
              refine ret_rule (C := []) [] [] (.tuple #[.int .i64 0, .int .i64 1, .bool false]) [] [] s trivial (by kernel_rfl) ?_
              exact ⟨_, _, _, rfl, s, (sgn_bad (l := l) (p := p) (by have z0 := byte_lt (l.getD p 0); have z1 := byte_lt (l.getD (p + 1) 0); have z2 := byte_lt (l.getD (p + 2) 0); have z3 := byte_lt (l.getD (p + 3) 0); have hq0 := of_decide_eq_false hc6; have hq1 := of_decide_eq_true hc9; have hq2 := of_decide_eq_false hc11; have hq3 := of_decide_eq_true hc49; have hq4 := of_decide_eq_true hc51; have hq5 := of_decide_eq_true hc56; unfold Lib.decodeN; (repeat' split) <;> first | with_reducible rfl | (exfalso; omega) | (refine Prod.ext ?_ ?_ <;> dsimp only <;> omega)))⟩
            ·
              rw [hc56]
              refine ops_rule (C := []) [] [] 4 [] 0 (fun φ59 => [(62, .int .i64 (IntKind.wrap .i64 (((p : Nat) : Int) + ((1 : Nat) : Int)))), (61, .int .i64 1), (60, .int .i64 ((p : Nat) : Int)), (59, .string ⟨(l).toArray⟩)]) (fun φ59 => []) (fun φ59 => []) s trivial (fun φ59 => by kernel_rfl) ?_
              intro φ59 w59 s
              rw [nat_addI (a := p) (b := 1) (by  have hq0 := of_decide_eq_false hc6; have hq1 := of_decide_eq_true hc9; have hq2 := of_decide_eq_false hc11; have hq3 := of_decide_eq_true hc49; have hq4 := of_decide_eq_true hc51; have hq5 := of_decide_eq_false hc56; omega)]
              refine sem_rule (Instr.index 9 (.string ⟨(l).toArray⟩) (.int .i64 ((p + 1 : Nat) : Int))) (some 63) (.int .u8 (((l.getD (p + 1) 0).toNat : Nat) : Int)) (by kernel_rfl) (run_idxK (s := l) (i := p + 1) (by  have hq0 := of_decide_eq_false hc6; have hq1 := of_decide_eq_true hc9; have hq2 := of_decide_eq_false hc11; have hq3 := of_decide_eq_true hc49; have hq4 := of_decide_eq_true hc51; have hq5 := of_decide_eq_false hc56; (try simp only [List.length_drop, List.length_take, List.length_append, List.length_cons, List.length_nil]); omega)) ?_
              refine ops_rule (C := []) [] [] 3 [] 0 (fun φ60 => [(66, .bool (decide ((((l.getD (p + 1) 0).toNat : Nat) : Int) < ((128 : Nat) : Int)))), (65, .bool (decide ((((l.getD (p + 1) 0).toNat : Nat) : Int) < ((128 : Nat) : Int)))), (64, .bool (decide ((((l.getD (p + 1) 0).toNat : Nat) : Int) < ((128 : Nat) : Int))))]) (fun φ60 => []) (fun φ60 => []) s trivial (fun φ60 => by kernel_rfl) ?_
              intro φ60 w60 s
              rw [nat_lss (a := ((l.getD (p + 1) 0).toNat)) (b := 128)]
              rcases Bool.eq_false_or_eq_true (decide (((l.getD (p + 1) 0).toNat) < 128)) with hc61 | hc61
              ·
                rw [hc61]
                refine ops_rule (C := []) [] [] 7 [] 0 (fun φ62 => [(73, .bool true), (72, undef), (71, undef), (70, undef), (69, undef), (68, undef), (67, undef)]) (fun φ62 => []) (fun φ62 => []) s trivial (fun φ62 => by kernel_rfl) ?_
                intro φ62 w62 s
                refine ops_done (by kernel_rfl) ?_
                refine cond_true_rule (b := true) (by kernel_rfl) rfl ?_
                refine wp_seq ?_
                refine region_rule ?_
                refine ops_rule (C := []) [] [] 3 [] 0 (fun φ63 => [(6, .bool false), (5, .int .i64 1), (4, .int .i64 0)]) (fun φ63 => []) (fun φ63 => []) s trivial (fun φ63 => by kernel_rfl) ?_
                intro φ63 w63 s
                refine ops_done (by kernel_rfl) ?_
                refine wp_ret ?_
                refine ret_rule (C := []) [] [] (.tuple #[.int .i64 0, .int .i64 1, .bool false]) [] [] s trivial (by kernel_rfl) ?_
                exact ⟨_, _, _, rfl, s, (sgn_bad (l := l) (p := p) (by have z0 := byte_lt (l.getD p 0); have z1 := byte_lt (l.getD (p + 1) 0); have z2 := byte_lt (l.getD (p + 2) 0); have z3 := byte_lt (l.getD (p + 3) 0); have hq0 := of_decide_eq_false hc6; have hq1 := of_decide_eq_true hc9; have hq2 := of_decide_eq_false hc11; have hq3 := of_decide_eq_true hc49; have hq4 := of_decide_eq_true hc51; have hq5 := of_decide_eq_false hc56; have hq6 := of_decide_eq_true hc61; unfold Lib.decodeN; (repeat' split) <;> first | with_reducible rfl | (exfalso; omega) | (refine Prod.ext ?_ ?_ <;> dsimp only <;> omega)))⟩
              ·
                rw [hc61]
                refine ops_rule (C := []) [] [] 4 [] 0 (fun φ64 => [(70, .int .i64 (IntKind.wrap .i64 (((p : Nat) : Int) + ((1 : Nat) : Int)))), (69, .int .i64 1), (68, .int .i64 ((p : Nat) : Int)), (67, .string ⟨(l).toArray⟩)]) (fun φ64 => []) (fun φ64 => []) s trivial (fun φ64 => by kernel_rfl) ?_
                intro φ64 w64 s
                rw [nat_addI (a := p) (b := 1) (by  have hq0 := of_decide_eq_false hc6; have hq1 := of_decide_eq_true hc9; have hq2 := of_decide_eq_false hc11; have hq3 := of_decide_eq_true hc49; have hq4 := of_decide_eq_true hc51; have hq5 := of_decide_eq_false hc56; have hq6 := of_decide_eq_false hc61; omega)]
                refine sem_rule (Instr.index 9 (.string ⟨(l).toArray⟩) (.int .i64 ((p + 1 : Nat) : Int))) (some 71) (.int .u8 (((l.getD (p + 1) 0).toNat : Nat) : Int)) (by kernel_rfl) (run_idxK (s := l) (i := p + 1) (by  have hq0 := of_decide_eq_false hc6; have hq1 := of_decide_eq_true hc9; have hq2 := of_decide_eq_false hc11; have hq3 := of_decide_eq_true hc49; have hq4 := of_decide_eq_true hc51; have hq5 := of_decide_eq_false hc56; have hq6 := of_decide_eq_false hc61; (try simp only [List.length_drop, List.length_take, List.length_append, List.length_cons, List.length_nil]); omega)) ?_
                refine ops_rule (C := []) [] [] 2 [] 0 (fun φ65 => [(73, .bool (decide ((((l.getD (p + 1) 0).toNat : Nat) : Int) > ((191 : Nat) : Int)))), (72, .bool (decide ((((l.getD (p + 1) 0).toNat : Nat) : Int) > ((191 : Nat) : Int))))]) (fun φ65 => []) (fun φ65 => []) s trivial (fun φ65 => by kernel_rfl) ?_
                intro φ65 w65 s
                rw [nat_gtr (a := ((l.getD (p + 1) 0).toNat)) (b := 191)]
                refine ops_done (by kernel_rfl) ?_
                rcases Bool.eq_false_or_eq_true (decide (191 < ((l.getD (p + 1) 0).toNat))) with hc66 | hc66
                ·
                  rw [hc66]
                  refine cond_true_rule (b := true) (by kernel_rfl) rfl ?_
                  refine wp_seq ?_
                  refine region_rule ?_
                  refine ops_rule (C := []) [] [] 3 [] 0 (fun φ67 => [(6, .bool false), (5, .int .i64 1), (4, .int .i64 0)]) (fun φ67 => []) (fun φ67 => []) s trivial (fun φ67 => by kernel_rfl) ?_
                  intro φ67 w67 s
                  refine ops_done (by kernel_rfl) ?_
                  refine wp_ret ?_
                  refine ret_rule (C := []) [] [] (.tuple #[.int .i64 0, .int .i64 1, .bool false]) [] [] s trivial (by kernel_rfl) ?_
                  exact ⟨_, _, _, rfl, s, (sgn_bad (l := l) (p := p) (by have z0 := byte_lt (l.getD p 0); have z1 := byte_lt (l.getD (p + 1) 0); have z2 := byte_lt (l.getD (p + 2) 0); have z3 := byte_lt (l.getD (p + 3) 0); have hq0 := of_decide_eq_false hc6; have hq1 := of_decide_eq_true hc9; have hq2 := of_decide_eq_false hc11; have hq3 := of_decide_eq_true hc49; have hq4 := of_decide_eq_true hc51; have hq5 := of_decide_eq_false hc56; have hq6 := of_decide_eq_false hc61; have hq7 := of_decide_eq_true hc66; unfold Lib.decodeN; (repeat' split) <;> first | with_reducible rfl | (exfalso; omega) | (refine Prod.ext ?_ ?_ <;> dsimp only <;> omega)))⟩
                ·
                  rw [hc66]
                  refine cond_false_rule (b := false) (by kernel_rfl) rfl ?_
                  refine wp_skip ?_
                  refine region_rule ?_
                  refine ops_rule (C := []) [] [] 6 [] 0 (fun φ68 => [(79, .int .i64 (IntKind.wrap .i64 (((p : Nat) : Int) + ((1 : Nat) : Int)))), (78, .int .i64 1), (77, .int .i64 ((p : Nat) : Int)), (76, .string ⟨(l).toArray⟩), (75, .int .i64 (IntKind.wrap .i64 (((64 : Nat) : Int) * ((((l.getD p 0).toNat) - 224 : Nat) : Int)))), (74, .int .i64 ((((l.getD p 0).toNat) - 224 : Nat) : Int))]) (fun φ68 => []) (fun φ68 => []) s trivial (fun φ68 => by kernel_rfl) ?_
                  intro φ68 w68 s
                  rw [nat_addI (a := p) (b := 1) (by  have hq0 := of_decide_eq_false hc6; have hq1 := of_decide_eq_true hc9; have hq2 := of_decide_eq_false hc11; have hq3 := of_decide_eq_true hc49; have hq4 := of_decide_eq_true hc51; have hq5 := of_decide_eq_false hc56; have hq6 := of_decide_eq_false hc61; have hq7 := of_decide_eq_false hc66; omega)]
                  rw [nat_mulI (a := 64) (b := (((l.getD p 0).toNat) - 224)) (by  have := byte_lt (l.getD p 0); have hq0 := of_decide_eq_false hc6; have hq1 := of_decide_eq_true hc9; have hq2 := of_decide_eq_false hc11; have hq3 := of_decide_eq_true hc49; have hq4 := of_decide_eq_true hc51; have hq5 := of_decide_eq_false hc56; have hq6 := of_decide_eq_false hc61; have hq7 := of_decide_eq_false hc66; omega)]
                  refine sem_rule (Instr.index 9 (.string ⟨(l).toArray⟩) (.int .i64 ((p + 1 : Nat) : Int))) (some 80) (.int .u8 (((l.getD (p + 1) 0).toNat : Nat) : Int)) (by kernel_rfl) (run_idxK (s := l) (i := p + 1) (by  have hq0 := of_decide_eq_false hc6; have hq1 := of_decide_eq_true hc9; have hq2 := of_decide_eq_false hc11; have hq3 := of_decide_eq_true hc49; have hq4 := of_decide_eq_true hc51; have hq5 := of_decide_eq_false hc56; have hq6 := of_decide_eq_false hc61; have hq7 := of_decide_eq_false hc66; (try simp only [List.length_drop, List.length_take, List.length_append, List.length_cons, List.length_nil]); omega)) ?_
                  refine ops_rule (C := []) [] [] 4 [] 0 (fun φ69 => [(10, .int .i64 (IntKind.wrap .i64 ((IntKind.wrap .i64 (((64 * (((l.getD p 0).toNat) - 224) : Nat) : Int) + (IntKind.wrap .i64 (((l.getD (p + 1) 0).toNat : Nat) : Int)))) - ((128 : Nat) : Int)))), (83, .int .i64 (IntKind.wrap .i64 ((IntKind.wrap .i64 (((64 * (((l.getD p 0).toNat) - 224) : Nat) : Int) + (IntKind.wrap .i64 (((l.getD (p + 1) 0).toNat : Nat) : Int)))) - ((128 : Nat) : Int)))), (82, .int .i64 (IntKind.wrap .i64 (((64 * (((l.getD p 0).toNat) - 224) : Nat) : Int) + (IntKind.wrap .i64 (((l.getD (p + 1) 0).toNat : Nat) : Int))))), (81, .int .i64 (IntKind.wrap .i64 (((l.getD (p + 1) 0).toNat : Nat) : Int)))]) (fun φ69 => []) (fun φ69 => []) s trivial (fun φ69 => by kernel_rfl) ?_
                  intro φ69 w69 s
                  rw [nat_wrapI (a := ((l.getD (p + 1) 0).toNat)) (by  have := byte_lt (l.getD (p + 1) 0); have hq0 := of_decide_eq_false hc6; have hq1 := of_decide_eq_true hc9; have hq2 := of_decide_eq_false hc11; have hq3 := of_decide_eq_true hc49; have hq4 := of_decide_eq_true hc51; have hq5 := of_decide_eq_false hc56; have hq6 := of_decide_eq_false hc61; have hq7 := of_decide_eq_false hc66; omega)]
                  rw [nat_addI (a := (64 * (((l.getD p 0).toNat) - 224))) (b := ((l.getD (p + 1) 0).toNat)) (by  have := byte_lt (l.getD (p + 1) 0); have := byte_lt (l.getD p 0); have hq0 := of_decide_eq_false hc6; have hq1 := of_decide_eq_true hc9; have hq2 := of_decide_eq_false hc11; have hq3 := of_decide_eq_true hc49; have hq4 := of_decide_eq_true hc51; have hq5 := of_decide_eq_false hc56; have hq6 := of_decide_eq_false hc61; have hq7 := of_decide_eq_false hc66; omega)]
                  rw [nat_subI (a := ((64 * (((l.getD p 0).toNat) - 224)) + ((l.getD (p + 1) 0).toNat))) (b := 128) (by  have := byte_lt (l.getD (p + 1) 0); have := byte_lt (l.getD p 0); have hq0 := of_decide_eq_false hc6; have hq1 := of_decide_eq_true hc9; have hq2 := of_decide_eq_false hc11; have hq3 := of_decide_eq_true hc49; have hq4 := of_decide_eq_true hc51; have hq5 := of_decide_eq_false hc56; have hq6 := of_decide_eq_false hc61; have hq7 := of_decide_eq_false hc66; omega) (by  have := byte_lt (l.getD (p + 1) 0); have := byte_lt (l.getD p 0); have hq0 := of_decide_eq_false hc6; have hq1 := of_decide_eq_true hc9; have hq2 := of_decide_eq_false hc11; have hq3 := of_decide_eq_true hc49; have hq4 := of_decide_eq_true hc51; have hq5 := of_decide_eq_false hc56; have hq6 := of_decide_eq_false hc61; have hq7 := of_decide_eq_false hc66; omega)]
                  refine ops_done (by kernel_rfl) ?_
                  refine region_rule ?_
                  refine ops_rule (C := []) [] [] 3 [] 0 (fun φ70 => [(11, .int .i64 2), (51, .int .i64 2), (50, .int .i64 1)]) (fun φ70 => []) (fun φ70 => []) s trivial (fun φ70 => by kernel_rfl) ?_
                  intro φ70 w70 s
                  refine ops_done (by kernel_rfl) ?_
                  refine rounds_step (n := 3) ?_
                  refine wp_seq ?_
                  refine wp_seq ?_
                  refine region_rule ?_
                  refine ops_rule (C := []) [] [] 3 [] 0 (fun φ71 => [(49, .bool true), (48, .int .i64 3), (47, .int .i64 2)]) (fun φ71 => []) (fun φ71 => []) s trivial (fun φ71 => by kernel_rfl) ?_
                  intro φ71 w71 s
                  refine ops_done (by kernel_rfl) ?_
                  refine cond_true_rule (b := true) (by kernel_rfl) rfl ?_
                  refine wp_skip ?_
                  refine wp_seq ?_
                  refine wp_block ?_
                  refine wp_seq ?_
                  refine wp_seq ?_
                  refine region_rule ?_
                  refine ops_rule (C := []) [] [] 7 [] 0 (fun φ72 => [(58, .bool (decide ((IntKind.wrap .i64 (((p : Nat) : Int) + ((2 : Nat) : Int))) ≥ (((l).length : Nat) : Int)))), (57, .bool (decide ((IntKind.wrap .i64 (((p : Nat) : Int) + ((2 : Nat) : Int))) ≥ (((l).length : Nat) : Int)))), (56, .int .i64 (((l).length : Nat) : Int)), (55, .string ⟨(l).toArray⟩), (54, .int .i64 (IntKind.wrap .i64 (((p : Nat) : Int) + ((2 : Nat) : Int)))), (53, .int .i64 2), (52, .int .i64 ((p : Nat) : Int))]) (fun φ72 => []) (fun φ72 => []) s trivial (fun φ72 => by kernel_rfl) ?_
                  intro φ72 w72 s
                  rw [nat_addI (a := p) (b := 2) (by  have hq0 := of_decide_eq_false hc6; have hq1 := of_decide_eq_true hc9; have hq2 := of_decide_eq_false hc11; have hq3 := of_decide_eq_true hc49; have hq4 := of_decide_eq_true hc51; have hq5 := of_decide_eq_false hc56; have hq6 := of_decide_eq_false hc61; have hq7 := of_decide_eq_false hc66; omega)]
                  rw [nat_geq (a := (p + 2)) (b := ((l).length))]
                  rcases Bool.eq_false_or_eq_true (decide (((l).length) ≤ (p + 2))) with hc73 | hc73
                  ·
                    rw [hc73]
                    refine ops_rule (C := []) [] [] 15 [] 0 (fun φ74 => [(73, .bool true), (72, undef), (71, undef), (70, undef), (69, undef), (68, undef), (67, undef), (66, .bool true), (65, .bool true), (64, undef), (63, undef), (62, undef), (61, undef), (60, undef), (59, undef)]) (fun φ74 => []) (fun φ74 => []) s trivial (fun φ74 => by kernel_rfl) ?_
                    intro φ74 w74 s
                    refine ops_done (by kernel_rfl) ?_
                    refine cond_true_rule (b := true) (by kernel_rfl) rfl ?_
                    refine wp_seq ?_
                    refine region_rule ?_
                    refine ops_rule (C := []) [] [] 3 [] 0 (fun φ75 => [(6, .bool false), (5, .int .i64 1), (4, .int .i64 0)]) (fun φ75 => []) (fun φ75 => []) s trivial (fun φ75 => by kernel_rfl) ?_
                    intro φ75 w75 s
                    refine ops_done (by kernel_rfl) ?_
                    refine wp_ret ?_
                    refine ret_rule (C := []) [] [] (.tuple #[.int .i64 0, .int .i64 1, .bool false]) [] [] s trivial (by kernel_rfl) ?_
                    exact ⟨_, _, _, rfl, s, (sgn_bad (l := l) (p := p) (by have z0 := byte_lt (l.getD p 0); have z1 := byte_lt (l.getD (p + 1) 0); have z2 := byte_lt (l.getD (p + 2) 0); have z3 := byte_lt (l.getD (p + 3) 0); have hq0 := of_decide_eq_false hc6; have hq1 := of_decide_eq_true hc9; have hq2 := of_decide_eq_false hc11; have hq3 := of_decide_eq_true hc49; have hq4 := of_decide_eq_true hc51; have hq5 := of_decide_eq_false hc56; have hq6 := of_decide_eq_false hc61; have hq7 := of_decide_eq_false hc66; have hq8 := of_decide_eq_true hc73; unfold Lib.decodeN; (repeat' split) <;> first | with_reducible rfl | (exfalso; omega) | (refine Prod.ext ?_ ?_ <;> dsimp only <;> omega)))⟩
                  ·
                    rw [hc73]
                    refine ops_rule (C := []) [] [] 4 [] 0 (fun φ76 => [(62, .int .i64 (IntKind.wrap .i64 (((p : Nat) : Int) + ((2 : Nat) : Int)))), (61, .int .i64 2), (60, .int .i64 ((p : Nat) : Int)), (59, .string ⟨(l).toArray⟩)]) (fun φ76 => []) (fun φ76 => []) s trivial (fun φ76 => by kernel_rfl) ?_
                    intro φ76 w76 s
                    rw [nat_addI (a := p) (b := 2) (by  have hq0 := of_decide_eq_false hc6; have hq1 := of_decide_eq_true hc9; have hq2 := of_decide_eq_false hc11; have hq3 := of_decide_eq_true hc49; have hq4 := of_decide_eq_true hc51; have hq5 := of_decide_eq_false hc56; have hq6 := of_decide_eq_false hc61; have hq7 := of_decide_eq_false hc66; have hq8 := of_decide_eq_false hc73; omega)]
                    refine sem_rule (Instr.index 9 (.string ⟨(l).toArray⟩) (.int .i64 ((p + 2 : Nat) : Int))) (some 63) (.int .u8 (((l.getD (p + 2) 0).toNat : Nat) : Int)) (by kernel_rfl) (run_idxK (s := l) (i := p + 2) (by  have hq0 := of_decide_eq_false hc6; have hq1 := of_decide_eq_true hc9; have hq2 := of_decide_eq_false hc11; have hq3 := of_decide_eq_true hc49; have hq4 := of_decide_eq_true hc51; have hq5 := of_decide_eq_false hc56; have hq6 := of_decide_eq_false hc61; have hq7 := of_decide_eq_false hc66; have hq8 := of_decide_eq_false hc73; (try simp only [List.length_drop, List.length_take, List.length_append, List.length_cons, List.length_nil]); omega)) ?_
                    refine ops_rule (C := []) [] [] 3 [] 0 (fun φ77 => [(66, .bool (decide ((((l.getD (p + 2) 0).toNat : Nat) : Int) < ((128 : Nat) : Int)))), (65, .bool (decide ((((l.getD (p + 2) 0).toNat : Nat) : Int) < ((128 : Nat) : Int)))), (64, .bool (decide ((((l.getD (p + 2) 0).toNat : Nat) : Int) < ((128 : Nat) : Int))))]) (fun φ77 => []) (fun φ77 => []) s trivial (fun φ77 => by kernel_rfl) ?_
                    intro φ77 w77 s
                    rw [nat_lss (a := ((l.getD (p + 2) 0).toNat)) (b := 128)]
                    rcases Bool.eq_false_or_eq_true (decide (((l.getD (p + 2) 0).toNat) < 128)) with hc78 | hc78
                    ·
                      rw [hc78]
                      refine ops_rule (C := []) [] [] 7 [] 0 (fun φ79 => [(73, .bool true), (72, undef), (71, undef), (70, undef), (69, undef), (68, undef), (67, undef)]) (fun φ79 => []) (fun φ79 => []) s trivial (fun φ79 => by kernel_rfl) ?_
                      intro φ79 w79 s
                      refine ops_done (by kernel_rfl) ?_
                      refine cond_true_rule (b := true) (by kernel_rfl) rfl ?_
                      refine wp_seq ?_
                      refine region_rule ?_
                      refine ops_rule (C := []) [] [] 3 [] 0 (fun φ80 => [(6, .bool false), (5, .int .i64 1), (4, .int .i64 0)]) (fun φ80 => []) (fun φ80 => []) s trivial (fun φ80 => by kernel_rfl) ?_
                      intro φ80 w80 s
                      refine ops_done (by kernel_rfl) ?_
                      refine wp_ret ?_
                      refine ret_rule (C := []) [] [] (.tuple #[.int .i64 0, .int .i64 1, .bool false]) [] [] s trivial (by kernel_rfl) ?_
                      exact ⟨_, _, _, rfl, s, (sgn_bad (l := l) (p := p) (by have z0 := byte_lt (l.getD p 0); have z1 := byte_lt (l.getD (p + 1) 0); have z2 := byte_lt (l.getD (p + 2) 0); have z3 := byte_lt (l.getD (p + 3) 0); have hq0 := of_decide_eq_false hc6; have hq1 := of_decide_eq_true hc9; have hq2 := of_decide_eq_false hc11; have hq3 := of_decide_eq_true hc49; have hq4 := of_decide_eq_true hc51; have hq5 := of_decide_eq_false hc56; have hq6 := of_decide_eq_false hc61; have hq7 := of_decide_eq_false hc66; have hq8 := of_decide_eq_false hc73; have hq9 := of_decide_eq_true hc78; unfold Lib.decodeN; (repeat' split) <;> first | with_reducible rfl | (exfalso; omega) | (refine Prod.ext ?_ ?_ <;> dsimp only <;> omega)))⟩
                    ·
                      rw [hc78]
                      refine ops_rule (C := []) [] [] 4 [] 0 (fun φ81 => [(70, .int .i64 (IntKind.wrap .i64 (((p : Nat) : Int) + ((2 : Nat) : Int)))), (69, .int .i64 2), (68, .int .i64 ((p : Nat) : Int)), (67, .string ⟨(l).toArray⟩)]) (fun φ81 => []) (fun φ81 => []) s trivial (fun φ81 => by kernel_rfl) ?_
                      intro φ81 w81 s
                      rw [nat_addI (a := p) (b := 2) (by  have hq0 := of_decide_eq_false hc6; have hq1 := of_decide_eq_true hc9; have hq2 := of_decide_eq_false hc11; have hq3 := of_decide_eq_true hc49; have hq4 := of_decide_eq_true hc51; have hq5 := of_decide_eq_false hc56; have hq6 := of_decide_eq_false hc61; have hq7 := of_decide_eq_false hc66; have hq8 := of_decide_eq_false hc73; have hq9 := of_decide_eq_false hc78; omega)]
                      refine sem_rule (Instr.index 9 (.string ⟨(l).toArray⟩) (.int .i64 ((p + 2 : Nat) : Int))) (some 71) (.int .u8 (((l.getD (p + 2) 0).toNat : Nat) : Int)) (by kernel_rfl) (run_idxK (s := l) (i := p + 2) (by  have hq0 := of_decide_eq_false hc6; have hq1 := of_decide_eq_true hc9; have hq2 := of_decide_eq_false hc11; have hq3 := of_decide_eq_true hc49; have hq4 := of_decide_eq_true hc51; have hq5 := of_decide_eq_false hc56; have hq6 := of_decide_eq_false hc61; have hq7 := of_decide_eq_false hc66; have hq8 := of_decide_eq_false hc73; have hq9 := of_decide_eq_false hc78; (try simp only [List.length_drop, List.length_take, List.length_append, List.length_cons, List.length_nil]); omega)) ?_
                      refine ops_rule (C := []) [] [] 2 [] 0 (fun φ82 => [(73, .bool (decide ((((l.getD (p + 2) 0).toNat : Nat) : Int) > ((191 : Nat) : Int)))), (72, .bool (decide ((((l.getD (p + 2) 0).toNat : Nat) : Int) > ((191 : Nat) : Int))))]) (fun φ82 => []) (fun φ82 => []) s trivial (fun φ82 => by kernel_rfl) ?_
                      intro φ82 w82 s
                      rw [nat_gtr (a := ((l.getD (p + 2) 0).toNat)) (b := 191)]
                      refine ops_done (by kernel_rfl) ?_
                      rcases Bool.eq_false_or_eq_true (decide (191 < ((l.getD (p + 2) 0).toNat))) with hc83 | hc83
                      ·
                        rw [hc83]
                        refine cond_true_rule (b := true) (by kernel_rfl) rfl ?_
                        refine wp_seq ?_
                        refine region_rule ?_
                        refine ops_rule (C := []) [] [] 3 [] 0 (fun φ84 => [(6, .bool false), (5, .int .i64 1), (4, .int .i64 0)]) (fun φ84 => []) (fun φ84 => []) s trivial (fun φ84 => by kernel_rfl) ?_
                        intro φ84 w84 s
                        refine ops_done (by kernel_rfl) ?_
                        refine wp_ret ?_
                        refine ret_rule (C := []) [] [] (.tuple #[.int .i64 0, .int .i64 1, .bool false]) [] [] s trivial (by kernel_rfl) ?_
                        exact ⟨_, _, _, rfl, s, (sgn_bad (l := l) (p := p) (by have z0 := byte_lt (l.getD p 0); have z1 := byte_lt (l.getD (p + 1) 0); have z2 := byte_lt (l.getD (p + 2) 0); have z3 := byte_lt (l.getD (p + 3) 0); have hq0 := of_decide_eq_false hc6; have hq1 := of_decide_eq_true hc9; have hq2 := of_decide_eq_false hc11; have hq3 := of_decide_eq_true hc49; have hq4 := of_decide_eq_true hc51; have hq5 := of_decide_eq_false hc56; have hq6 := of_decide_eq_false hc61; have hq7 := of_decide_eq_false hc66; have hq8 := of_decide_eq_false hc73; have hq9 := of_decide_eq_false hc78; have hq10 := of_decide_eq_true hc83; unfold Lib.decodeN; (repeat' split) <;> first | with_reducible rfl | (exfalso; omega) | (refine Prod.ext ?_ ?_ <;> dsimp only <;> omega)))⟩
                      ·
                        rw [hc83]
                        refine cond_false_rule (b := false) (by kernel_rfl) rfl ?_
                        refine wp_skip ?_
                        refine region_rule ?_
                        refine ops_rule (C := []) [] [] 6 [] 0 (fun φ85 => [(79, .int .i64 (IntKind.wrap .i64 (((p : Nat) : Int) + ((2 : Nat) : Int)))), (78, .int .i64 2), (77, .int .i64 ((p : Nat) : Int)), (76, .string ⟨(l).toArray⟩), (75, .int .i64 (IntKind.wrap .i64 (((64 : Nat) : Int) * ((((64 * (((l.getD p 0).toNat) - 224)) + ((l.getD (p + 1) 0).toNat)) - 128 : Nat) : Int)))), (74, .int .i64 ((((64 * (((l.getD p 0).toNat) - 224)) + ((l.getD (p + 1) 0).toNat)) - 128 : Nat) : Int))]) (fun φ85 => []) (fun φ85 => []) s trivial (fun φ85 => by kernel_rfl) ?_
                        intro φ85 w85 s
                        rw [nat_addI (a := p) (b := 2) (by  have hq0 := of_decide_eq_false hc6; have hq1 := of_decide_eq_true hc9; have hq2 := of_decide_eq_false hc11; have hq3 := of_decide_eq_true hc49; have hq4 := of_decide_eq_true hc51; have hq5 := of_decide_eq_false hc56; have hq6 := of_decide_eq_false hc61; have hq7 := of_decide_eq_false hc66; have hq8 := of_decide_eq_false hc73; have hq9 := of_decide_eq_false hc78; have hq10 := of_decide_eq_false hc83; omega)]
                        rw [nat_mulI (a := 64) (b := (((64 * (((l.getD p 0).toNat) - 224)) + ((l.getD (p + 1) 0).toNat)) - 128)) (by  have := byte_lt (l.getD (p + 1) 0); have := byte_lt (l.getD p 0); have hq0 := of_decide_eq_false hc6; have hq1 := of_decide_eq_true hc9; have hq2 := of_decide_eq_false hc11; have hq3 := of_decide_eq_true hc49; have hq4 := of_decide_eq_true hc51; have hq5 := of_decide_eq_false hc56; have hq6 := of_decide_eq_false hc61; have hq7 := of_decide_eq_false hc66; have hq8 := of_decide_eq_false hc73; have hq9 := of_decide_eq_false hc78; have hq10 := of_decide_eq_false hc83; omega)]
                        refine sem_rule (Instr.index 9 (.string ⟨(l).toArray⟩) (.int .i64 ((p + 2 : Nat) : Int))) (some 80) (.int .u8 (((l.getD (p + 2) 0).toNat : Nat) : Int)) (by kernel_rfl) (run_idxK (s := l) (i := p + 2) (by  have hq0 := of_decide_eq_false hc6; have hq1 := of_decide_eq_true hc9; have hq2 := of_decide_eq_false hc11; have hq3 := of_decide_eq_true hc49; have hq4 := of_decide_eq_true hc51; have hq5 := of_decide_eq_false hc56; have hq6 := of_decide_eq_false hc61; have hq7 := of_decide_eq_false hc66; have hq8 := of_decide_eq_false hc73; have hq9 := of_decide_eq_false hc78; have hq10 := of_decide_eq_false hc83; (try simp only [List.length_drop, List.length_take, List.length_append, List.length_cons, List.length_nil]); omega)) ?_
                        refine ops_rule (C := []) [] [] 4 [] 0 (fun φ86 => [(10, .int .i64 (IntKind.wrap .i64 ((IntKind.wrap .i64 (((64 * (((64 * (((l.getD p 0).toNat) - 224)) + ((l.getD (p + 1) 0).toNat)) - 128) : Nat) : Int) + (IntKind.wrap .i64 (((l.getD (p + 2) 0).toNat : Nat) : Int)))) - ((128 : Nat) : Int)))), (83, .int .i64 (IntKind.wrap .i64 ((IntKind.wrap .i64 (((64 * (((64 * (((l.getD p 0).toNat) - 224)) + ((l.getD (p + 1) 0).toNat)) - 128) : Nat) : Int) + (IntKind.wrap .i64 (((l.getD (p + 2) 0).toNat : Nat) : Int)))) - ((128 : Nat) : Int)))), (82, .int .i64 (IntKind.wrap .i64 (((64 * (((64 * (((l.getD p 0).toNat) - 224)) + ((l.getD (p + 1) 0).toNat)) - 128) : Nat) : Int) + (IntKind.wrap .i64 (((l.getD (p + 2) 0).toNat : Nat) : Int))))), (81, .int .i64 (IntKind.wrap .i64 (((l.getD (p + 2) 0).toNat : Nat) : Int)))]) (fun φ86 => []) (fun φ86 => []) s trivial (fun φ86 => by kernel_rfl) ?_
                        intro φ86 w86 s
                        rw [nat_wrapI (a := ((l.getD (p + 2) 0).toNat)) (by  have := byte_lt (l.getD (p + 2) 0); have hq0 := of_decide_eq_false hc6; have hq1 := of_decide_eq_true hc9; have hq2 := of_decide_eq_false hc11; have hq3 := of_decide_eq_true hc49; have hq4 := of_decide_eq_true hc51; have hq5 := of_decide_eq_false hc56; have hq6 := of_decide_eq_false hc61; have hq7 := of_decide_eq_false hc66; have hq8 := of_decide_eq_false hc73; have hq9 := of_decide_eq_false hc78; have hq10 := of_decide_eq_false hc83; omega)]
                        rw [nat_addI (a := (64 * (((64 * (((l.getD p 0).toNat) - 224)) + ((l.getD (p + 1) 0).toNat)) - 128))) (b := ((l.getD (p + 2) 0).toNat)) (by  have := byte_lt (l.getD (p + 1) 0); have := byte_lt (l.getD (p + 2) 0); have := byte_lt (l.getD p 0); have hq0 := of_decide_eq_false hc6; have hq1 := of_decide_eq_true hc9; have hq2 := of_decide_eq_false hc11; have hq3 := of_decide_eq_true hc49; have hq4 := of_decide_eq_true hc51; have hq5 := of_decide_eq_false hc56; have hq6 := of_decide_eq_false hc61; have hq7 := of_decide_eq_false hc66; have hq8 := of_decide_eq_false hc73; have hq9 := of_decide_eq_false hc78; have hq10 := of_decide_eq_false hc83; omega)]
                        rw [nat_subI (a := ((64 * (((64 * (((l.getD p 0).toNat) - 224)) + ((l.getD (p + 1) 0).toNat)) - 128)) + ((l.getD (p + 2) 0).toNat))) (b := 128) (by  have := byte_lt (l.getD (p + 1) 0); have := byte_lt (l.getD (p + 2) 0); have := byte_lt (l.getD p 0); have hq0 := of_decide_eq_false hc6; have hq1 := of_decide_eq_true hc9; have hq2 := of_decide_eq_false hc11; have hq3 := of_decide_eq_true hc49; have hq4 := of_decide_eq_true hc51; have hq5 := of_decide_eq_false hc56; have hq6 := of_decide_eq_false hc61; have hq7 := of_decide_eq_false hc66; have hq8 := of_decide_eq_false hc73; have hq9 := of_decide_eq_false hc78; have hq10 := of_decide_eq_false hc83; omega) (by  have := byte_lt (l.getD (p + 1) 0); have := byte_lt (l.getD (p + 2) 0); have := byte_lt (l.getD p 0); have hq0 := of_decide_eq_false hc6; have hq1 := of_decide_eq_true hc9; have hq2 := of_decide_eq_false hc11; have hq3 := of_decide_eq_true hc49; have hq4 := of_decide_eq_true hc51; have hq5 := of_decide_eq_false hc56; have hq6 := of_decide_eq_false hc61; have hq7 := of_decide_eq_false hc66; have hq8 := of_decide_eq_false hc73; have hq9 := of_decide_eq_false hc78; have hq10 := of_decide_eq_false hc83; omega)]
                        refine ops_done (by kernel_rfl) ?_
                        refine region_rule ?_
                        refine ops_rule (C := []) [] [] 3 [] 0 (fun φ87 => [(11, .int .i64 3), (51, .int .i64 3), (50, .int .i64 2)]) (fun φ87 => []) (fun φ87 => []) s trivial (fun φ87 => by kernel_rfl) ?_
                        intro φ87 w87 s
                        refine ops_done (by kernel_rfl) ?_
                        refine rounds_step (n := 2) ?_
                        refine wp_seq ?_
                        refine wp_seq ?_
                        refine region_rule ?_
                        refine ops_rule (C := []) [] [] 3 [] 0 (fun φ88 => [(49, .bool false), (48, .int .i64 3), (47, .int .i64 3)]) (fun φ88 => []) (fun φ88 => []) s trivial (fun φ88 => by kernel_rfl) ?_
                        intro φ88 w88 s
                        refine ops_done (by kernel_rfl) ?_
                        refine cond_false_rule (b := false) (by kernel_rfl) rfl ?_
                        refine wp_exit ?_
                        refine wp_seq ?_
                        refine wp_seq ?_
                        refine region_rule ?_
                        refine ops_rule (C := []) [] [] 4 [] 0 (fun φ89 => [(87, .bool (decide (((((64 * (((64 * (((l.getD p 0).toNat) - 224)) + ((l.getD (p + 1) 0).toNat)) - 128)) + ((l.getD (p + 2) 0).toNat)) - 128 : Nat) : Int) < ((2048 : Nat) : Int)))), (86, .bool (decide (((((64 * (((64 * (((l.getD p 0).toNat) - 224)) + ((l.getD (p + 1) 0).toNat)) - 128)) + ((l.getD (p + 2) 0).toNat)) - 128 : Nat) : Int) < ((2048 : Nat) : Int)))), (85, .int .i64 2048), (84, .int .i64 ((((64 * (((64 * (((l.getD p 0).toNat) - 224)) + ((l.getD (p + 1) 0).toNat)) - 128)) + ((l.getD (p + 2) 0).toNat)) - 128 : Nat) : Int))]) (fun φ89 => []) (fun φ89 => []) s trivial (fun φ89 => by kernel_rfl) ?_
                        intro φ89 w89 s
                        rw [nat_lss (a := (((64 * (((64 * (((l.getD p 0).toNat) - 224)) + ((l.getD (p + 1) 0).toNat)) - 128)) + ((l.getD (p + 2) 0).toNat)) - 128)) (b := 2048)]
                        rcases Bool.eq_false_or_eq_true (decide ((((64 * (((64 * (((l.getD p 0).toNat) - 224)) + ((l.getD (p + 1) 0).toNat)) - 128)) + ((l.getD (p + 2) 0).toNat)) - 128) < 2048)) with hc90 | hc90
                        ·
                          rw [hc90]
                          refine ops_rule (C := []) [] [] 11 [] 0 (fun φ91 => [(98, .bool true), (97, undef), (96, undef), (95, undef), (94, undef), (93, undef), (92, undef), (91, .bool true), (90, .bool true), (89, undef), (88, undef)]) (fun φ91 => []) (fun φ91 => []) s trivial (fun φ91 => by kernel_rfl) ?_
                          intro φ91 w91 s
                          refine ops_done (by kernel_rfl) ?_
                          refine cond_true_rule (b := true) (by kernel_rfl) rfl ?_
                          refine wp_seq ?_
                          refine region_rule ?_
                          refine ops_rule (C := []) [] [] 3 [] 0 (fun φ92 => [(6, .bool false), (5, .int .i64 1), (4, .int .i64 0)]) (fun φ92 => []) (fun φ92 => []) s trivial (fun φ92 => by kernel_rfl) ?_
                          intro φ92 w92 s
                          refine ops_done (by kernel_rfl) ?_
                          refine wp_ret ?_
                          refine ret_rule (C := []) [] [] (.tuple #[.int .i64 0, .int .i64 1, .bool false]) [] [] s trivial (by kernel_rfl) ?_
                          exact ⟨_, _, _, rfl, s, (sgn_bad (l := l) (p := p) (by have z0 := byte_lt (l.getD p 0); have z1 := byte_lt (l.getD (p + 1) 0); have z2 := byte_lt (l.getD (p + 2) 0); have z3 := byte_lt (l.getD (p + 3) 0); have hq0 := of_decide_eq_false hc6; have hq1 := of_decide_eq_true hc9; have hq2 := of_decide_eq_false hc11; have hq3 := of_decide_eq_true hc49; have hq4 := of_decide_eq_true hc51; have hq5 := of_decide_eq_false hc56; have hq6 := of_decide_eq_false hc61; have hq7 := of_decide_eq_false hc66; have hq8 := of_decide_eq_false hc73; have hq9 := of_decide_eq_false hc78; have hq10 := of_decide_eq_false hc83; have hq11 := of_decide_eq_true hc90; unfold Lib.decodeN; (repeat' split) <;> first | with_reducible rfl | (exfalso; omega) | (refine Prod.ext ?_ ?_ <;> dsimp only <;> omega)))⟩
                        ·
                          rw [hc90]
                          refine ops_rule (C := []) [] [] 4 [] 0 (fun φ93 => [(91, .bool (decide (((((64 * (((64 * (((l.getD p 0).toNat) - 224)) + ((l.getD (p + 1) 0).toNat)) - 128)) + ((l.getD (p + 2) 0).toNat)) - 128 : Nat) : Int) > ((1114111 : Nat) : Int)))), (90, .bool (decide (((((64 * (((64 * (((l.getD p 0).toNat) - 224)) + ((l.getD (p + 1) 0).toNat)) - 128)) + ((l.getD (p + 2) 0).toNat)) - 128 : Nat) : Int) > ((1114111 : Nat) : Int)))), (89, .bool (decide (((((64 * (((64 * (((l.getD p 0).toNat) - 224)) + ((l.getD (p + 1) 0).toNat)) - 128)) + ((l.getD (p + 2) 0).toNat)) - 128 : Nat) : Int) > ((1114111 : Nat) : Int)))), (88, .int .i64 ((((64 * (((64 * (((l.getD p 0).toNat) - 224)) + ((l.getD (p + 1) 0).toNat)) - 128)) + ((l.getD (p + 2) 0).toNat)) - 128 : Nat) : Int))]) (fun φ93 => []) (fun φ93 => []) s trivial (fun φ93 => by kernel_rfl) ?_
                          intro φ93 w93 s
                          rw [nat_gtr (a := (((64 * (((64 * (((l.getD p 0).toNat) - 224)) + ((l.getD (p + 1) 0).toNat)) - 128)) + ((l.getD (p + 2) 0).toNat)) - 128)) (b := 1114111)]
                          rcases Bool.eq_false_or_eq_true (decide (1114111 < (((64 * (((64 * (((l.getD p 0).toNat) - 224)) + ((l.getD (p + 1) 0).toNat)) - 128)) + ((l.getD (p + 2) 0).toNat)) - 128))) with hc94 | hc94
                          ·
                            rw [hc94]
                            refine ops_rule (C := []) [] [] 7 [] 0 (fun φ95 => [(98, .bool true), (97, undef), (96, undef), (95, undef), (94, undef), (93, undef), (92, undef)]) (fun φ95 => []) (fun φ95 => []) s trivial (fun φ95 => by kernel_rfl) ?_
                            intro φ95 w95 s
                            refine ops_done (by kernel_rfl) ?_
                            refine cond_true_rule (b := true) (by kernel_rfl) rfl ?_
                            refine wp_seq ?_
                            refine region_rule ?_
                            refine ops_rule (C := []) [] [] 3 [] 0 (fun φ96 => [(6, .bool false), (5, .int .i64 1), (4, .int .i64 0)]) (fun φ96 => []) (fun φ96 => []) s trivial (fun φ96 => by kernel_rfl) ?_
                            intro φ96 w96 s
                            refine ops_done (by kernel_rfl) ?_
                            refine wp_ret ?_
                            refine ret_rule (C := []) [] [] (.tuple #[.int .i64 0, .int .i64 1, .bool false]) [] [] s trivial (by kernel_rfl) ?_
                            exact ⟨_, _, _, rfl, s, (sgn_bad (l := l) (p := p) (by have z0 := byte_lt (l.getD p 0); have z1 := byte_lt (l.getD (p + 1) 0); have z2 := byte_lt (l.getD (p + 2) 0); have z3 := byte_lt (l.getD (p + 3) 0); have hq0 := of_decide_eq_false hc6; have hq1 := of_decide_eq_true hc9; have hq2 := of_decide_eq_false hc11; have hq3 := of_decide_eq_true hc49; have hq4 := of_decide_eq_true hc51; have hq5 := of_decide_eq_false hc56; have hq6 := of_decide_eq_false hc61; have hq7 := of_decide_eq_false hc66; have hq8 := of_decide_eq_false hc73; have hq9 := of_decide_eq_false hc78; have hq10 := of_decide_eq_false hc83; have hq11 := of_decide_eq_false hc90; have hq12 := of_decide_eq_true hc94; unfold Lib.decodeN; (repeat' split) <;> first | with_reducible rfl | (exfalso; omega) | (refine Prod.ext ?_ ?_ <;> dsimp only <;> omega)))⟩
                          ·
                            rw [hc94]
                            refine ops_rule (C := []) [] [] 3 [] 0 (fun φ97 => [(94, .bool (decide (((((64 * (((64 * (((l.getD p 0).toNat) - 224)) + ((l.getD (p + 1) 0).toNat)) - 128)) + ((l.getD (p + 2) 0).toNat)) - 128 : Nat) : Int) ≥ ((55296 : Nat) : Int)))), (93, .bool (decide (((((64 * (((64 * (((l.getD p 0).toNat) - 224)) + ((l.getD (p + 1) 0).toNat)) - 128)) + ((l.getD (p + 2) 0).toNat)) - 128 : Nat) : Int) ≥ ((55296 : Nat) : Int)))), (92, .int .i64 ((((64 * (((64 * (((l.getD p 0).toNat) - 224)) + ((l.getD (p + 1) 0).toNat)) - 128)) + ((l.getD (p + 2) 0).toNat)) - 128 : Nat) : Int))]) (fun φ97 => []) (fun φ97 => []) s trivial (fun φ97 => by kernel_rfl) ?_
                            intro φ97 w97 s
                            rw [nat_geq (a := (((64 * (((64 * (((l.getD p 0).toNat) - 224)) + ((l.getD (p + 1) 0).toNat)) - 128)) + ((l.getD (p + 2) 0).toNat)) - 128)) (b := 55296)]
                            rcases Bool.eq_false_or_eq_true (decide (55296 ≤ (((64 * (((64 * (((l.getD p 0).toNat) - 224)) + ((l.getD (p + 1) 0).toNat)) - 128)) + ((l.getD (p + 2) 0).toNat)) - 128))) with hc98 | hc98
                            ·
                              rw [hc98]
                              refine ops_rule (C := []) [] [] 4 [] 0 (fun φ99 => [(98, .bool (decide (((((64 * (((64 * (((l.getD p 0).toNat) - 224)) + ((l.getD (p + 1) 0).toNat)) - 128)) + ((l.getD (p + 2) 0).toNat)) - 128 : Nat) : Int) < ((57344 : Nat) : Int)))), (97, .bool (decide (((((64 * (((64 * (((l.getD p 0).toNat) - 224)) + ((l.getD (p + 1) 0).toNat)) - 128)) + ((l.getD (p + 2) 0).toNat)) - 128 : Nat) : Int) < ((57344 : Nat) : Int)))), (96, .bool (decide (((((64 * (((64 * (((l.getD p 0).toNat) - 224)) + ((l.getD (p + 1) 0).toNat)) - 128)) + ((l.getD (p + 2) 0).toNat)) - 128 : Nat) : Int) < ((57344 : Nat) : Int)))), (95, .int .i64 ((((64 * (((64 * (((l.getD p 0).toNat) - 224)) + ((l.getD (p + 1) 0).toNat)) - 128)) + ((l.getD (p + 2) 0).toNat)) - 128 : Nat) : Int))]) (fun φ99 => []) (fun φ99 => []) s trivial (fun φ99 => by kernel_rfl) ?_
                              intro φ99 w99 s
                              rw [nat_lss (a := (((64 * (((64 * (((l.getD p 0).toNat) - 224)) + ((l.getD (p + 1) 0).toNat)) - 128)) + ((l.getD (p + 2) 0).toNat)) - 128)) (b := 57344)]
                              refine ops_done (by kernel_rfl) ?_
                              rcases Bool.eq_false_or_eq_true (decide ((((64 * (((64 * (((l.getD p 0).toNat) - 224)) + ((l.getD (p + 1) 0).toNat)) - 128)) + ((l.getD (p + 2) 0).toNat)) - 128) < 57344)) with hc100 | hc100
                              ·
                                rw [hc100]
                                refine cond_true_rule (b := true) (by kernel_rfl) rfl ?_
                                refine wp_seq ?_
                                refine region_rule ?_
                                refine ops_rule (C := []) [] [] 3 [] 0 (fun φ101 => [(6, .bool false), (5, .int .i64 1), (4, .int .i64 0)]) (fun φ101 => []) (fun φ101 => []) s trivial (fun φ101 => by kernel_rfl) ?_
                                intro φ101 w101 s
                                refine ops_done (by kernel_rfl) ?_
                                refine wp_ret ?_
                                refine ret_rule (C := []) [] [] (.tuple #[.int .i64 0, .int .i64 1, .bool false]) [] [] s trivial (by kernel_rfl) ?_
                                exact ⟨_, _, _, rfl, s, (sgn_bad (l := l) (p := p) (by have z0 := byte_lt (l.getD p 0); have z1 := byte_lt (l.getD (p + 1) 0); have z2 := byte_lt (l.getD (p + 2) 0); have z3 := byte_lt (l.getD (p + 3) 0); have hq0 := of_decide_eq_false hc6; have hq1 := of_decide_eq_true hc9; have hq2 := of_decide_eq_false hc11; have hq3 := of_decide_eq_true hc49; have hq4 := of_decide_eq_true hc51; have hq5 := of_decide_eq_false hc56; have hq6 := of_decide_eq_false hc61; have hq7 := of_decide_eq_false hc66; have hq8 := of_decide_eq_false hc73; have hq9 := of_decide_eq_false hc78; have hq10 := of_decide_eq_false hc83; have hq11 := of_decide_eq_false hc90; have hq12 := of_decide_eq_false hc94; have hq13 := of_decide_eq_true hc98; have hq14 := of_decide_eq_true hc100; unfold Lib.decodeN; (repeat' split) <;> first | with_reducible rfl | (exfalso; omega) | (refine Prod.ext ?_ ?_ <;> dsimp only <;> omega)))⟩
                              ·
                                rw [hc100]
                                refine cond_false_rule (b := false) (by kernel_rfl) rfl ?_
                                refine wp_skip ?_
                                refine wp_seq ?_
                                refine region_rule ?_
                                refine ops_rule (C := []) [] [] 5 [] 0 (fun φ102 => [(6, .bool true), (5, .int .i64 3), (4, .int .i64 ((((64 * (((64 * (((l.getD p 0).toNat) - 224)) + ((l.getD (p + 1) 0).toNat)) - 128)) + ((l.getD (p + 2) 0).toNat)) - 128 : Nat) : Int)), (100, .int .i64 3), (99, .int .i64 ((((64 * (((64 * (((l.getD p 0).toNat) - 224)) + ((l.getD (p + 1) 0).toNat)) - 128)) + ((l.getD (p + 2) 0).toNat)) - 128 : Nat) : Int))]) (fun φ102 => []) (fun φ102 => []) s trivial (fun φ102 => by kernel_rfl) ?_
                                intro φ102 w102 s
                                refine ops_done (by kernel_rfl) ?_
                                refine wp_ret ?_
                                refine ret_rule (C := []) [] [] (.tuple #[.int .i64 ((((64 * (((64 * (((l.getD p 0).toNat) - 224)) + ((l.getD (p + 1) 0).toNat)) - 128)) + ((l.getD (p + 2) 0).toNat)) - 128 : Nat) : Int), .int .i64 3, .bool true]) [] [] s trivial (by kernel_rfl) ?_
                                exact ⟨_, _, _, rfl, s, (sgn_good (l := l) (p := p) (x := ((64 * (((64 * (((l.getD p 0).toNat) - 224)) + ((l.getD (p + 1) 0).toNat)) - 128)) + ((l.getD (p + 2) 0).toNat)) - 128) (w := 3) (by have z0 := byte_lt (l.getD p 0); have z1 := byte_lt (l.getD (p + 1) 0); have z2 := byte_lt (l.getD (p + 2) 0); have z3 := byte_lt (l.getD (p + 3) 0); have hq0 := of_decide_eq_false hc6; have hq1 := of_decide_eq_true hc9; have hq2 := of_decide_eq_false hc11; have hq3 := of_decide_eq_true hc49; have hq4 := of_decide_eq_true hc51; have hq5 := of_decide_eq_false hc56; have hq6 := of_decide_eq_false hc61; have hq7 := of_decide_eq_false hc66; have hq8 := of_decide_eq_false hc73; have hq9 := of_decide_eq_false hc78; have hq10 := of_decide_eq_false hc83; have hq11 := of_decide_eq_false hc90; have hq12 := of_decide_eq_false hc94; have hq13 := of_decide_eq_true hc98; have hq14 := of_decide_eq_false hc100; unfold Lib.decodeN; (repeat' split) <;> first | with_reducible rfl | (exfalso; omega) | (refine Prod.ext ?_ ?_ <;> dsimp only <;> omega)) (by have z0 := byte_lt (l.getD p 0); have z1 := byte_lt (l.getD (p + 1) 0); have z2 := byte_lt (l.getD (p + 2) 0); have z3 := byte_lt (l.getD (p + 3) 0); have hq0 := of_decide_eq_false hc6; have hq1 := of_decide_eq_true hc9; have hq2 := of_decide_eq_false hc11; have hq3 := of_decide_eq_true hc49; have hq4 := of_decide_eq_true hc51; have hq5 := of_decide_eq_false hc56; have hq6 := of_decide_eq_false hc61; have hq7 := of_decide_eq_false hc66; have hq8 := of_decide_eq_false hc73; have hq9 := of_decide_eq_false hc78; have hq10 := of_decide_eq_false hc83; have hq11 := of_decide_eq_false hc90; have hq12 := of_decide_eq_false hc94; have hq13 := of_decide_eq_true hc98; have hq14 := of_decide_eq_false hc100; omega))⟩
                            ·
                              rw [hc98]
                              refine ops_rule (C := []) [] [] 4 [] 0 (fun φ103 => [(98, .bool false), (97, .bool false), (96, undef), (95, undef)]) (fun φ103 => []) (fun φ103 => []) s trivial (fun φ103 => by kernel_rfl) ?_
                              intro φ103 w103 s
                              refine ops_done (by kernel_rfl) ?_
                              refine cond_false_rule (b := false) (by kernel_rfl) rfl ?_
                              refine wp_skip ?_
                              refine wp_seq ?_
                              refine region_rule ?_
                              refine ops_rule (C := []) [] [] 5 [] 0 (fun φ104 => [(6, .bool true), (5, .int .i64 3), (4, .int .i64 ((((64 * (((64 * (((l.getD p 0).toNat) - 224)) + ((l.getD (p + 1) 0).toNat)) - 128)) + ((l.getD (p + 2) 0).toNat)) - 128 : Nat) : Int)), (100, .int .i64 3), (99, .int .i64 ((((64 * (((64 * (((l.getD p 0).toNat) - 224)) + ((l.getD (p + 1) 0).toNat)) - 128)) + ((l.getD (p + 2) 0).toNat)) - 128 : Nat) : Int))]) (fun φ104 => []) (fun φ104 => []) s trivial (fun φ104 => by kernel_rfl) ?_
                              intro φ104 w104 s
                              refine ops_done (by kernel_rfl) ?_
                              refine wp_ret ?_
                              refine ret_rule (C := []) [] [] (.tuple #[.int .i64 ((((64 * (((64 * (((l.getD p 0).toNat) - 224)) + ((l.getD (p + 1) 0).toNat)) - 128)) + ((l.getD (p + 2) 0).toNat)) - 128 : Nat) : Int), .int .i64 3, .bool true]) [] [] s trivial (by kernel_rfl) ?_
                              exact ⟨_, _, _, rfl, s, (sgn_good (l := l) (p := p) (x := ((64 * (((64 * (((l.getD p 0).toNat) - 224)) + ((l.getD (p + 1) 0).toNat)) - 128)) + ((l.getD (p + 2) 0).toNat)) - 128) (w := 3) (by have z0 := byte_lt (l.getD p 0); have z1 := byte_lt (l.getD (p + 1) 0); have z2 := byte_lt (l.getD (p + 2) 0); have z3 := byte_lt (l.getD (p + 3) 0); have hq0 := of_decide_eq_false hc6; have hq1 := of_decide_eq_true hc9; have hq2 := of_decide_eq_false hc11; have hq3 := of_decide_eq_true hc49; have hq4 := of_decide_eq_true hc51; have hq5 := of_decide_eq_false hc56; have hq6 := of_decide_eq_false hc61; have hq7 := of_decide_eq_false hc66; have hq8 := of_decide_eq_false hc73; have hq9 := of_decide_eq_false hc78; have hq10 := of_decide_eq_false hc83; have hq11 := of_decide_eq_false hc90; have hq12 := of_decide_eq_false hc94; have hq13 := of_decide_eq_false hc98; unfold Lib.decodeN; (repeat' split) <;> first | with_reducible rfl | (exfalso; omega) | (refine Prod.ext ?_ ?_ <;> dsimp only <;> omega)) (by have z0 := byte_lt (l.getD p 0); have z1 := byte_lt (l.getD (p + 1) 0); have z2 := byte_lt (l.getD (p + 2) 0); have z3 := byte_lt (l.getD (p + 3) 0); have hq0 := of_decide_eq_false hc6; have hq1 := of_decide_eq_true hc9; have hq2 := of_decide_eq_false hc11; have hq3 := of_decide_eq_true hc49; have hq4 := of_decide_eq_true hc51; have hq5 := of_decide_eq_false hc56; have hq6 := of_decide_eq_false hc61; have hq7 := of_decide_eq_false hc66; have hq8 := of_decide_eq_false hc73; have hq9 := of_decide_eq_false hc78; have hq10 := of_decide_eq_false hc83; have hq11 := of_decide_eq_false hc90; have hq12 := of_decide_eq_false hc94; have hq13 := of_decide_eq_false hc98; omega))⟩
          ·
            rw [hc51]
            refine cond_false_rule (b := false) (by kernel_rfl) rfl ?_
            refine wp_seq ?_
            refine region_rule ?_
            refine ops_rule (C := []) [] [] 3 [] 0 (fun φ105 => [(41, .bool (decide ((((l.getD p 0).toNat : Nat) : Int) ≥ ((240 : Nat) : Int)))), (40, .bool (decide ((((l.getD p 0).toNat : Nat) : Int) ≥ ((240 : Nat) : Int)))), (39, .int .i64 (((l.getD p 0).toNat : Nat) : Int))]) (fun φ105 => []) (fun φ105 => []) s trivial (fun φ105 => by kernel_rfl) ?_
            intro φ105 w105 s
            rw [nat_geq (a := ((l.getD p 0).toNat)) (b := 240)]
            rcases Bool.eq_false_or_eq_true (decide (240 ≤ ((l.getD p 0).toNat))) with hc106 | hc106
            ·
              rw [hc106]
              refine ops_rule (C := []) [] [] 4 [] 0 (fun φ107 => [(38, .bool (decide ((((l.getD p 0).toNat : Nat) : Int) < ((248 : Nat) : Int)))), (44, .bool (decide ((((l.getD p 0).toNat : Nat) : Int) < ((248 : Nat) : Int)))), (43, .bool (decide ((((l.getD p 0).toNat : Nat) : Int) < ((248 : Nat) : Int)))), (42, .int .i64 (((l.getD p 0).toNat : Nat) : Int))]) (fun φ107 => []) (fun φ107 => []) s trivial (fun φ107 => by kernel_rfl) ?_
              intro φ107 w107 s
              rw [nat_lss (a := ((l.getD p 0).toNat)) (b := 248)]
              refine ops_done (by kernel_rfl) ?_
              rcases Bool.eq_false_or_eq_true (decide (((l.getD p 0).toNat) < 248)) with hc108 | hc108
              ·
                rw [hc108]
                refine cond_true_rule (b := true) (by kernel_rfl) rfl ?_
                refine region_rule ?_
                refine ops_rule (C := []) [] [] 5 [] 0 (fun φ109 => [(10, .int .i64 (IntKind.wrap .i64 ((((l.getD p 0).toNat : Nat) : Int) - ((240 : Nat) : Int)))), (9, .int .i64 65536), (8, .int .i64 4), (46, .int .i64 (IntKind.wrap .i64 ((((l.getD p 0).toNat : Nat) : Int) - ((240 : Nat) : Int)))), (45, .int .i64 (((l.getD p 0).toNat : Nat) : Int))]) (fun φ109 => []) (fun φ109 => []) s trivial (fun φ109 => by kernel_rfl) ?_
                intro φ109 w109 s
                rw [nat_subI (a := ((l.getD p 0).toNat)) (b := 240) (by  have := byte_lt (l.getD p 0); have hq0 := of_decide_eq_false hc6; have hq1 := of_decide_eq_true hc9; have hq2 := of_decide_eq_false hc11; have hq3 := of_decide_eq_true hc49; have hq4 := of_decide_eq_false hc51; have hq5 := of_decide_eq_true hc106; have hq6 := of_decide_eq_true hc108; omega) (by  have := byte_lt (l.getD p 0); have hq0 := of_decide_eq_false hc6; have hq1 := of_decide_eq_true hc9; have hq2 := of_decide_eq_false hc11; have hq3 := of_decide_eq_true hc49; have hq4 := of_decide_eq_false hc51; have hq5 := of_decide_eq_true hc106; have hq6 := of_decide_eq_true hc108; omega)]
                refine ops_done (by kernel_rfl) ?_
                refine wp_seq ?_
                refine wp_seq ?_
                refine region_rule ?_
                refine ops_rule (C := []) [] [] 1 [] 0 (fun φ110 => [(11, .int .i64 1)]) (fun φ110 => []) (fun φ110 => []) s trivial (fun φ110 => by kernel_rfl) ?_
                intro φ110 w110 s
                refine ops_done (by kernel_rfl) ?_
                refine wp_block ?_
                refine Go.wp_loop_rounds 5 ?_
                refine rounds_step (n := 4) ?_
                refine wp_seq ?_
                refine wp_seq ?_
                refine region_rule ?_
                refine ops_rule (C := []) [] [] 3 [] 0 (fun φ111 => [(49, .bool true), (48, .int .i64 4), (47, .int .i64 1)]) (fun φ111 => []) (fun φ111 => []) s trivial (fun φ111 => by kernel_rfl) ?_
                intro φ111 w111 s
                refine ops_done (by kernel_rfl) ?_
                refine cond_true_rule (b := true) (by kernel_rfl) rfl ?_
                refine wp_skip ?_
                refine wp_seq ?_
                refine wp_block ?_
                refine wp_seq ?_
                refine wp_seq ?_
                refine region_rule ?_
                refine ops_rule (C := []) [] [] 7 [] 0 (fun φ112 => [(58, .bool (decide ((IntKind.wrap .i64 (((p : Nat) : Int) + ((1 : Nat) : Int))) ≥ (((l).length : Nat) : Int)))), (57, .bool (decide ((IntKind.wrap .i64 (((p : Nat) : Int) + ((1 : Nat) : Int))) ≥ (((l).length : Nat) : Int)))), (56, .int .i64 (((l).length : Nat) : Int)), (55, .string ⟨(l).toArray⟩), (54, .int .i64 (IntKind.wrap .i64 (((p : Nat) : Int) + ((1 : Nat) : Int)))), (53, .int .i64 1), (52, .int .i64 ((p : Nat) : Int))]) (fun φ112 => []) (fun φ112 => []) s trivial (fun φ112 => by kernel_rfl) ?_
                intro φ112 w112 s
                rw [nat_addI (a := p) (b := 1) (by  have hq0 := of_decide_eq_false hc6; have hq1 := of_decide_eq_true hc9; have hq2 := of_decide_eq_false hc11; have hq3 := of_decide_eq_true hc49; have hq4 := of_decide_eq_false hc51; have hq5 := of_decide_eq_true hc106; have hq6 := of_decide_eq_true hc108; omega)]
                rw [nat_geq (a := (p + 1)) (b := ((l).length))]
                rcases Bool.eq_false_or_eq_true (decide (((l).length) ≤ (p + 1))) with hc113 | hc113
                ·
                  rw [hc113]
                  refine ops_rule (C := []) [] [] 15 [] 0 (fun φ114 => [(73, .bool true), (72, undef), (71, undef), (70, undef), (69, undef), (68, undef), (67, undef), (66, .bool true), (65, .bool true), (64, undef), (63, undef), (62, undef), (61, undef), (60, undef), (59, undef)]) (fun φ114 => []) (fun φ114 => []) s trivial (fun φ114 => by kernel_rfl) ?_
                  intro φ114 w114 s
                  refine ops_done (by kernel_rfl) ?_
                  refine cond_true_rule (b := true) (by kernel_rfl) rfl ?_
                  refine wp_seq ?_
                  refine region_rule ?_
                  refine ops_rule (C := []) [] [] 3 [] 0 (fun φ115 => [(6, .bool false), (5, .int .i64 1), (4, .int .i64 0)]) (fun φ115 => []) (fun φ115 => []) s trivial (fun φ115 => by kernel_rfl) ?_
                  intro φ115 w115 s
                  refine ops_done (by kernel_rfl) ?_
                  refine wp_ret ?_
                  refine ret_rule (C := []) [] [] (.tuple #[.int .i64 0, .int .i64 1, .bool false]) [] [] s trivial (by kernel_rfl) ?_
                  exact ⟨_, _, _, rfl, s, (sgn_bad (l := l) (p := p) (by have z0 := byte_lt (l.getD p 0); have z1 := byte_lt (l.getD (p + 1) 0); have z2 := byte_lt (l.getD (p + 2) 0); have z3 := byte_lt (l.getD (p + 3) 0); have hq0 := of_decide_eq_false hc6; have hq1 := of_decide_eq_true hc9; have hq2 := of_decide_eq_false hc11; have hq3 := of_decide_eq_true hc49; have hq4 := of_decide_eq_false hc51; have hq5 := of_decide_eq_true hc106; have hq6 := of_decide_eq_true hc108; have hq7 := of_decide_eq_true hc113; unfold Lib.decodeN; (repeat' split) <;> first | with_reducible rfl | (exfalso; omega) | (refine Prod.ext ?_ ?_ <;> dsimp only <;> omega)))⟩
                ·
                  rw [hc113]
                  refine ops_rule (C := []) [] [] 4 [] 0 (fun φ116 => [(62, .int .i64 (IntKind.wrap .i64 (((p : Nat) : Int) + ((1 : Nat) : Int)))), (61, .int .i64 1), (60, .int .i64 ((p : Nat) : Int)), (59, .string ⟨(l).toArray⟩)]) (fun φ116 => []) (fun φ116 => []) s trivial (fun φ116 => by kernel_rfl) ?_
                  intro φ116 w116 s
                  rw [nat_addI (a := p) (b := 1) (by  have hq0 := of_decide_eq_false hc6; have hq1 := of_decide_eq_true hc9; have hq2 := of_decide_eq_false hc11; have hq3 := of_decide_eq_true hc49; have hq4 := of_decide_eq_false hc51; have hq5 := of_decide_eq_true hc106; have hq6 := of_decide_eq_true hc108; have hq7 := of_decide_eq_false hc113; omega)]
                  refine sem_rule (Instr.index 9 (.string ⟨(l).toArray⟩) (.int .i64 ((p + 1 : Nat) : Int))) (some 63) (.int .u8 (((l.getD (p + 1) 0).toNat : Nat) : Int)) (by kernel_rfl) (run_idxK (s := l) (i := p + 1) (by  have hq0 := of_decide_eq_false hc6; have hq1 := of_decide_eq_true hc9; have hq2 := of_decide_eq_false hc11; have hq3 := of_decide_eq_true hc49; have hq4 := of_decide_eq_false hc51; have hq5 := of_decide_eq_true hc106; have hq6 := of_decide_eq_true hc108; have hq7 := of_decide_eq_false hc113; (try simp only [List.length_drop, List.length_take, List.length_append, List.length_cons, List.length_nil]); omega)) ?_
                  refine ops_rule (C := []) [] [] 3 [] 0 (fun φ117 => [(66, .bool (decide ((((l.getD (p + 1) 0).toNat : Nat) : Int) < ((128 : Nat) : Int)))), (65, .bool (decide ((((l.getD (p + 1) 0).toNat : Nat) : Int) < ((128 : Nat) : Int)))), (64, .bool (decide ((((l.getD (p + 1) 0).toNat : Nat) : Int) < ((128 : Nat) : Int))))]) (fun φ117 => []) (fun φ117 => []) s trivial (fun φ117 => by kernel_rfl) ?_
                  intro φ117 w117 s
                  rw [nat_lss (a := ((l.getD (p + 1) 0).toNat)) (b := 128)]
                  rcases Bool.eq_false_or_eq_true (decide (((l.getD (p + 1) 0).toNat) < 128)) with hc118 | hc118
                  ·
                    rw [hc118]
                    refine ops_rule (C := []) [] [] 7 [] 0 (fun φ119 => [(73, .bool true), (72, undef), (71, undef), (70, undef), (69, undef), (68, undef), (67, undef)]) (fun φ119 => []) (fun φ119 => []) s trivial (fun φ119 => by kernel_rfl) ?_
                    intro φ119 w119 s
                    refine ops_done (by kernel_rfl) ?_
                    refine cond_true_rule (b := true) (by kernel_rfl) rfl ?_
                    refine wp_seq ?_
                    refine region_rule ?_
                    refine ops_rule (C := []) [] [] 3 [] 0 (fun φ120 => [(6, .bool false), (5, .int .i64 1), (4, .int .i64 0)]) (fun φ120 => []) (fun φ120 => []) s trivial (fun φ120 => by kernel_rfl) ?_
                    intro φ120 w120 s
                    refine ops_done (by kernel_rfl) ?_
                    refine wp_ret ?_
                    refine ret_rule (C := []) [] [] (.tuple #[.int .i64 0, .int .i64 1, .bool false]) [] [] s trivial (by kernel_rfl) ?_
                    exact ⟨_, _, _, rfl, s, (sgn_bad (l := l) (p := p) (by have z0 := byte_lt (l.getD p 0); have z1 := byte_lt (l.getD (p + 1) 0); have z2 := byte_lt (l.getD (p + 2) 0); have z3 := byte_lt (l.getD (p + 3) 0); have hq0 := of_decide_eq_false hc6; have hq1 := of_decide_eq_true hc9; have hq2 := of_decide_eq_false hc11; have hq3 := of_decide_eq_true hc49; have hq4 := of_decide_eq_false hc51; have hq5 := of_decide_eq_true hc106; have hq6 := of_decide_eq_true hc108; have hq7 := of_decide_eq_false hc113; have hq8 := of_decide_eq_true hc118; unfold Lib.decodeN; (repeat' split) <;> first | with_reducible rfl | (exfalso; omega) | (refine Prod.ext ?_ ?_ <;> dsimp only <;> omega)))⟩
                  ·
                    rw [hc118]
                    refine ops_rule (C := []) [] [] 4 [] 0 (fun φ121 => [(70, .int .i64 (IntKind.wrap .i64 (((p : Nat) : Int) + ((1 : Nat) : Int)))), (69, .int .i64 1), (68, .int .i64 ((p : Nat) : Int)), (67, .string ⟨(l).toArray⟩)]) (fun φ121 => []) (fun φ121 => []) s trivial (fun φ121 => by kernel_rfl) ?_
                    intro φ121 w121 s
                    rw [nat_addI (a := p) (b := 1) (by  have hq0 := of_decide_eq_false hc6; have hq1 := of_decide_eq_true hc9; have hq2 := of_decide_eq_false hc11; have hq3 := of_decide_eq_true hc49; have hq4 := of_decide_eq_false hc51; have hq5 := of_decide_eq_true hc106; have hq6 := of_decide_eq_true hc108; have hq7 := of_decide_eq_false hc113; have hq8 := of_decide_eq_false hc118; omega)]
                    refine sem_rule (Instr.index 9 (.string ⟨(l).toArray⟩) (.int .i64 ((p + 1 : Nat) : Int))) (some 71) (.int .u8 (((l.getD (p + 1) 0).toNat : Nat) : Int)) (by kernel_rfl) (run_idxK (s := l) (i := p + 1) (by  have hq0 := of_decide_eq_false hc6; have hq1 := of_decide_eq_true hc9; have hq2 := of_decide_eq_false hc11; have hq3 := of_decide_eq_true hc49; have hq4 := of_decide_eq_false hc51; have hq5 := of_decide_eq_true hc106; have hq6 := of_decide_eq_true hc108; have hq7 := of_decide_eq_false hc113; have hq8 := of_decide_eq_false hc118; (try simp only [List.length_drop, List.length_take, List.length_append, List.length_cons, List.length_nil]); omega)) ?_
                    refine ops_rule (C := []) [] [] 2 [] 0 (fun φ122 => [(73, .bool (decide ((((l.getD (p + 1) 0).toNat : Nat) : Int) > ((191 : Nat) : Int)))), (72, .bool (decide ((((l.getD (p + 1) 0).toNat : Nat) : Int) > ((191 : Nat) : Int))))]) (fun φ122 => []) (fun φ122 => []) s trivial (fun φ122 => by kernel_rfl) ?_
                    intro φ122 w122 s
                    rw [nat_gtr (a := ((l.getD (p + 1) 0).toNat)) (b := 191)]
                    refine ops_done (by kernel_rfl) ?_
                    rcases Bool.eq_false_or_eq_true (decide (191 < ((l.getD (p + 1) 0).toNat))) with hc123 | hc123
                    ·
                      rw [hc123]
                      refine cond_true_rule (b := true) (by kernel_rfl) rfl ?_
                      refine wp_seq ?_
                      refine region_rule ?_
                      refine ops_rule (C := []) [] [] 3 [] 0 (fun φ124 => [(6, .bool false), (5, .int .i64 1), (4, .int .i64 0)]) (fun φ124 => []) (fun φ124 => []) s trivial (fun φ124 => by kernel_rfl) ?_
                      intro φ124 w124 s
                      refine ops_done (by kernel_rfl) ?_
                      refine wp_ret ?_
                      refine ret_rule (C := []) [] [] (.tuple #[.int .i64 0, .int .i64 1, .bool false]) [] [] s trivial (by kernel_rfl) ?_
                      exact ⟨_, _, _, rfl, s, (sgn_bad (l := l) (p := p) (by have z0 := byte_lt (l.getD p 0); have z1 := byte_lt (l.getD (p + 1) 0); have z2 := byte_lt (l.getD (p + 2) 0); have z3 := byte_lt (l.getD (p + 3) 0); have hq0 := of_decide_eq_false hc6; have hq1 := of_decide_eq_true hc9; have hq2 := of_decide_eq_false hc11; have hq3 := of_decide_eq_true hc49; have hq4 := of_decide_eq_false hc51; have hq5 := of_decide_eq_true hc106; have hq6 := of_decide_eq_true hc108; have hq7 := of_decide_eq_false hc113; have hq8 := of_decide_eq_false hc118; have hq9 := of_decide_eq_true hc123; unfold Lib.decodeN; (repeat' split) <;> first | with_reducible rfl | (exfalso; omega) | (refine Prod.ext ?_ ?_ <;> dsimp only <;> omega)))⟩
                    ·
                      rw [hc123]
                      refine cond_false_rule (b := false) (by kernel_rfl) rfl ?_
                      refine wp_skip ?_
                      refine region_rule ?_
                      refine ops_rule (C := []) [] [] 6 [] 0 (fun φ125 => [(79, .int .i64 (IntKind.wrap .i64 (((p : Nat) : Int) + ((1 : Nat) : Int)))), (78, .int .i64 1), (77, .int .i64 ((p : Nat) : Int)), (76, .string ⟨(l).toArray⟩), (75, .int .i64 (IntKind.wrap .i64 (((64 : Nat) : Int) * ((((l.getD p 0).toNat) - 240 : Nat) : Int)))), (74, .int .i64 ((((l.getD p 0).toNat) - 240 : Nat) : Int))]) (fun φ125 => []) (fun φ125 => []) s trivial (fun φ125 => by kernel_rfl) ?_
                      intro φ125 w125 s
                      rw [nat_addI (a := p) (b := 1) (by  have hq0 := of_decide_eq_false hc6; have hq1 := of_decide_eq_true hc9; have hq2 := of_decide_eq_false hc11; have hq3 := of_decide_eq_true hc49; have hq4 := of_decide_eq_false hc51; have hq5 := of_decide_eq_true hc106; have hq6 := of_decide_eq_true hc108; have hq7 := of_decide_eq_false hc113; have hq8 := of_decide_eq_false hc118; have hq9 := of_decide_eq_false hc123; omega)]
                      rw [nat_mulI (a := 64) (b := (((l.getD p 0).toNat) - 240)) (by  have := byte_lt (l.getD p 0); have hq0 := of_decide_eq_false hc6; have hq1 := of_decide_eq_true hc9; have hq2 := of_decide_eq_false hc11; have hq3 := of_decide_eq_true hc49; have hq4 := of_decide_eq_false hc51; have hq5 := of_decide_eq_true hc106; have hq6 := of_decide_eq_true hc108; have hq7 := of_decide_eq_false hc113; have hq8 := of_decide_eq_false hc118; have hq9 := of_decide_eq_false hc123; omega)]
                      refine sem_rule (Instr.index 9 (.string ⟨(l).toArray⟩) (.int .i64 ((p + 1 : Nat) : Int))) (some 80) (.int .u8 (((l.getD (p + 1) 0).toNat : Nat) : Int)) (by kernel_rfl) (run_idxK (s := l) (i := p + 1) (by  have hq0 := of_decide_eq_false hc6; have hq1 := of_decide_eq_true hc9; have hq2 := of_decide_eq_false hc11; have hq3 := of_decide_eq_true hc49; have hq4 := of_decide_eq_false hc51; have hq5 := of_decide_eq_true hc106; have hq6 := of_decide_eq_true hc108; have hq7 := of_decide_eq_false hc113; have hq8 := of_decide_eq_false hc118; have hq9 := of_decide_eq_false hc123; (try simp only [List.length_drop, List.length_take, List.length_append, List.length_cons, List.length_nil]); omega)) ?_
                      refine ops_rule (C := []) [] [] 4 [] 0 (fun φ126 => [(10, .int .i64 (IntKind.wrap .i64 ((IntKind.wrap .i64 (((64 * (((l.getD p 0).toNat) - 240) : Nat) : Int) + (IntKind.wrap .i64 (((l.getD (p + 1) 0).toNat : Nat) : Int)))) - ((128 : Nat) : Int)))), (83, .int .i64 (IntKind.wrap .i64 ((IntKind.wrap .i64 (((64 * (((l.getD p 0).toNat) - 240) : Nat) : Int) + (IntKind.wrap .i64 (((l.getD (p + 1) 0).toNat : Nat) : Int)))) - ((128 : Nat) : Int)))), (82, .int .i64 (IntKind.wrap .i64 (((64 * (((l.getD p 0).toNat) - 240) : Nat) : Int) + (IntKind.wrap .i64 (((l.getD (p + 1) 0).toNat : Nat) : Int))))), (81, .int .i64 (IntKind.wrap .i64 (((l.getD (p + 1) 0).toNat : Nat) : Int)))]) (fun φ126 => []) (fun φ126 => []) s trivial (fun φ126 => by kernel_rfl) ?_
                      intro φ126 w126 s
                      rw [nat_wrapI (a := ((l.getD (p + 1) 0).toNat)) (by  have := byte_lt (l.getD (p + 1) 0); have hq0 := of_decide_eq_false hc6; have hq1 := of_decide_eq_true hc9; have hq2 := of_decide_eq_false hc11; have hq3 := of_decide_eq_true hc49; have hq4 := of_decide_eq_false hc51; have hq5 := of_decide_eq_true hc106; have hq6 := of_decide_eq_true hc108; have hq7 := of_decide_eq_false hc113; have hq8 := of_decide_eq_false hc118; have hq9 := of_decide_eq_false hc123; omega)]
                      rw [nat_addI (a := (64 * (((l.getD p 0).toNat) - 240))) (b := ((l.getD (p + 1) 0).toNat)) (by  have := byte_lt (l.getD (p + 1) 0); have := byte_lt (l.getD p 0); have hq0 := of_decide_eq_false hc6; have hq1 := of_decide_eq_true hc9; have hq2 := of_decide_eq_false hc11; have hq3 := of_decide_eq_true hc49; have hq4 := of_decide_eq_false hc51; have hq5 := of_decide_eq_true hc106; have hq6 := of_decide_eq_true hc108; have hq7 := of_decide_eq_false hc113; have hq8 := of_decide_eq_false hc118; have hq9 := of_decide_eq_false hc123; omega)]
                      rw [nat_subI (a := ((64 * (((l.getD p 0).toNat) - 240)) + ((l.getD (p + 1) 0).toNat))) (b := 128) (by  have := byte_lt (l.getD (p + 1) 0); have := byte_lt (l.getD p 0); have hq0 := of_decide_eq_false hc6; have hq1 := of_decide_eq_true hc9; have hq2 := of_decide_eq_false hc11; have hq3 := of_decide_eq_true hc49; have hq4 := of_decide_eq_false hc51; have hq5 := of_decide_eq_true hc106; have hq6 := of_decide_eq_true hc108; have hq7 := of_decide_eq_false hc113; have hq8 := of_decide_eq_false hc118; have hq9 := of_decide_eq_false hc123; omega) (by  have := byte_lt (l.getD (p + 1) 0); have := byte_lt (l.getD p 0); have hq0 := of_decide_eq_false hc6; have hq1 := of_decide_eq_true hc9; have hq2 := of_decide_eq_false hc11; have hq3 := of_decide_eq_true hc49; have hq4 := of_decide_eq_false hc51; have hq5 := of_decide_eq_true hc106; have hq6 := of_decide_eq_true hc108; have hq7 := of_decide_eq_false hc113; have hq8 := of_decide_eq_false hc118; have hq9 := of_decide_eq_false hc123; omega)]
                      refine ops_done (by kernel_rfl) ?_
                      refine region_rule ?_
                      refine ops_rule (C := []) [] [] 3 [] 0 (fun φ127 => [(11, .int .i64 2), (51, .int .i64 2), (50, .int .i64 1)]) (fun φ127 => []) (fun φ127 => []) s trivial (fun φ127 => by kernel_rfl) ?_
                      intro φ127 w127 s
                      refine ops_done (by kernel_rfl) ?_
                      refine rounds_step (n := 3) ?_
                      refine wp_seq ?_
                      refine wp_seq ?_
                      refine region_rule ?_
                      refine ops_rule (C := []) [] [] 3 [] 0 (fun φ128 => [(49, .bool true), (48, .int .i64 4), (47, .int .i64 2)]) (fun φ128 => []) (fun φ128 => []) s trivial (fun φ128 => by kernel_rfl) ?_
                      intro φ128 w128 s
                      refine ops_done (by kernel_rfl) ?_
                      refine cond_true_rule (b := true) (by kernel_rfl) rfl ?_
                      refine wp_skip ?_
                      refine wp_seq ?_
                      refine wp_block ?_
                      refine wp_seq ?_
                      refine wp_seq ?_
                      refine region_rule ?_
                      refine ops_rule (C := []) [] [] 7 [] 0 (fun φ129 => [(58, .bool (decide ((IntKind.wrap .i64 (((p : Nat) : Int) + ((2 : Nat) : Int))) ≥ (((l).length : Nat) : Int)))), (57, .bool (decide ((IntKind.wrap .i64 (((p : Nat) : Int) + ((2 : Nat) : Int))) ≥ (((l).length : Nat) : Int)))), (56, .int .i64 (((l).length : Nat) : Int)), (55, .string ⟨(l).toArray⟩), (54, .int .i64 (IntKind.wrap .i64 (((p : Nat) : Int) + ((2 : Nat) : Int)))), (53, .int .i64 2), (52, .int .i64 ((p : Nat) : Int))]) (fun φ129 => []) (fun φ129 => []) s trivial (fun φ129 => by kernel_rfl) ?_
                      intro φ129 w129 s
                      rw [nat_addI (a := p) (b := 2) (by  have hq0 := of_decide_eq_false hc6; have hq1 := of_decide_eq_true hc9; have hq2 := of_decide_eq_false hc11; have hq3 := of_decide_eq_true hc49; have hq4 := of_decide_eq_false hc51; have hq5 := of_decide_eq_true hc106; have hq6 := of_decide_eq_true hc108; have hq7 := of_decide_eq_false hc113; have hq8 := of_decide_eq_false hc118; have hq9 := of_decide_eq_false hc123; omega)]
                      rw [nat_geq (a := (p + 2)) (b := ((l).length))]
                      rcases Bool.eq_false_or_eq_true (decide (((l).length) ≤ (p + 2))) with hc130 | hc130
                      ·
                        rw [hc130]
                        refine ops_rule (C := []) [] [] 15 [] 0 (fun φ131 => [(73, .bool true), (72, undef), (71, undef), (70, undef), (69, undef), (68, undef), (67, undef), (66, .bool true), (65, .bool true), (64, undef), (63, undef), (62, undef), (61, undef), (60, undef), (59, undef)]) (fun φ131 => []) (fun φ131 => []) s trivial (fun φ131 => by kernel_rfl) ?_
                        intro φ131 w131 s
                        refine ops_done (by kernel_rfl) ?_
                        refine cond_true_rule (b := true) (by kernel_rfl) rfl ?_
                        refine wp_seq ?_
                        refine region_rule ?_
                        refine ops_rule (C := []) [] [] 3 [] 0 (fun φ132 => [(6, .bool false), (5, .int .i64 1), (4, .int .i64 0)]) (fun φ132 => []) (fun φ132 => []) s trivial (fun φ132 => by kernel_rfl) ?_
                        intro φ132 w132 s
                        refine ops_done (by kernel_rfl) ?_
                        refine wp_ret ?_
                        refine ret_rule (C := []) [] [] (.tuple #[.int .i64 0, .int .i64 1, .bool false]) [] [] s trivial (by kernel_rfl) ?_
                        exact ⟨_, _, _, rfl, s, (sgn_bad (l := l) (p := p) (by have z0 := byte_lt (l.getD p 0); have z1 := byte_lt (l.getD (p + 1) 0); have z2 := byte_lt (l.getD (p + 2) 0); have z3 := byte_lt (l.getD (p + 3) 0); have hq0 := of_decide_eq_false hc6; have hq1 := of_decide_eq_true hc9; have hq2 := of_decide_eq_false hc11; have hq3 := of_decide_eq_true hc49; have hq4 := of_decide_eq_false hc51; have hq5 := of_decide_eq_true hc106; have hq6 := of_decide_eq_true hc108; have hq7 := of_decide_eq_false hc113; have hq8 := of_decide_eq_false hc118; have hq9 := of_decide_eq_false hc123; have hq10 := of_decide_eq_true hc130; unfold Lib.decodeN; (repeat' split) <;> first | with_reducible rfl | (exfalso; omega) | (refine Prod.ext ?_ ?_ <;> dsimp only <;> omega)))⟩
                      ·
                        rw [hc130]
                        refine ops_rule (C := []) [] [] 4 [] 0 (fun φ133 => [(62, .int .i64 (IntKind.wrap .i64 (((p : Nat) : Int) + ((2 : Nat) : Int)))), (61, .int .i64 2), (60, .int .i64 ((p : Nat) : Int)), (59, .string ⟨(l).toArray⟩)]) (fun φ133 => []) (fun φ133 => []) s trivial (fun φ133 => by kernel_rfl) ?_
                        intro φ133 w133 s
                        rw [nat_addI (a := p) (b := 2) (by  have hq0 := of_decide_eq_false hc6; have hq1 := of_decide_eq_true hc9; have hq2 := of_decide_eq_false hc11; have hq3 := of_decide_eq_true hc49; have hq4 := of_decide_eq_false hc51; have hq5 := of_decide_eq_true hc106; have hq6 := of_decide_eq_true hc108; have hq7 := of_decide_eq_false hc113; have hq8 := of_decide_eq_false hc118; have hq9 := of_decide_eq_false hc123; have hq10 := of_decide_eq_false hc130; omega)]
                        refine sem_rule (Instr.index 9 (.string ⟨(l).toArray⟩) (.int .i64 ((p + 2 : Nat) : Int))) (some 63) (.int .u8 (((l.getD (p + 2) 0).toNat : Nat) : Int)) (by kernel_rfl) (run_idxK (s := l) (i := p + 2) (by  have hq0 := of_decide_eq_false hc6; have hq1 := of_decide_eq_true hc9; have hq2 := of_decide_eq_false hc11; have hq3 := of_decide_eq_true hc49; have hq4 := of_decide_eq_false hc51; have hq5 := of_decide_eq_true hc106; have hq6 := of_decide_eq_true hc108; have hq7 := of_decide_eq_false hc113; have hq8 := of_decide_eq_false hc118; have hq9 := of_decide_eq_false hc123; have hq10 := of_decide_eq_false hc130; (try simp only [List.length_drop, List.length_take, List.length_append, List.length_cons, List.length_nil]); omega)) ?_
                        refine ops_rule (C := []) [] [] 3 [] 0 (fun φ134 => [(66, .bool (decide ((((l.getD (p + 2) 0).toNat : Nat) : Int) < ((128 : Nat) : Int)))), (65, .bool (decide ((((l.getD (p + 2) 0).toNat : Nat) : Int) < ((128 : Nat) : Int)))), (64, .bool (decide ((((l.getD (p + 2) 0).toNat : Nat) : Int) < ((128 : Nat) : Int))))]) (fun φ134 => []) (fun φ134 => []) s trivial (fun φ134 => by kernel_rfl) ?_
                        intro φ134 w134 s
                        rw [nat_lss (a := ((l.getD (p + 2) 0).toNat)) (b := 128)]
                        rcases Bool.eq_false_or_eq_true (decide (((l.getD (p + 2) 0).toNat) < 128)) with hc135 | hc135
                        ·
                          rw [hc135]
                          refine ops_rule (C := []) [] [] 7 [] 0 (fun φ136 => [(73, .bool true), (72, undef), (71, undef), (70, undef), (69, undef), (68, undef), (67, undef)]) (fun φ136 => []) (fun φ136 => []) s trivial (fun φ136 => by kernel_rfl) ?_
                          intro φ136 w136 s
                          refine ops_done (by kernel_rfl) ?_
                          refine cond_true_rule (b := true) (by kernel_rfl) rfl ?_
                          refine wp_seq ?_
                          refine region_rule ?_
                          refine ops_rule (C := []) [] [] 3 [] 0 (fun φ137 => [(6, .bool false), (5, .int .i64 1), (4, .int .i64 0)]) (fun φ137 => []) (fun φ137 => []) s trivial (fun φ137 => by kernel_rfl) ?_
                          intro φ137 w137 s
                          refine ops_done (by kernel_rfl) ?_
                          refine wp_ret ?_
                          refine ret_rule (C := []) [] [] (.tuple #[.int .i64 0, .int .i64 1, .bool false]) [] [] s trivial (by kernel_rfl) ?_
                          exact ⟨_, _, _, rfl, s, (sgn_bad (l := l) (p := p) (by have z0 := byte_lt (l.getD p 0); have z1 := byte_lt (l.getD (p + 1) 0); have z2 := byte_lt (l.getD (p + 2) 0); have z3 := byte_lt (l.getD (p + 3) 0); have hq0 := of_decide_eq_false hc6; have hq1 := of_decide_eq_true hc9; have hq2 := of_decide_eq_false hc11; have hq3 := of_decide_eq_true hc49; have hq4 := of_decide_eq_false hc51; have hq5 := of_decide_eq_true hc106; have hq6 := of_decide_eq_true hc108; have hq7 := of_decide_eq_false hc113; have hq8 := of_decide_eq_false hc118; have hq9 := of_decide_eq_false hc123; have hq10 := of_decide_eq_false hc130; have hq11 := of_decide_eq_true hc135; unfold Lib.decodeN; (repeat' split) <;> first | with_reducible rfl | (exfalso; omega) | (refine Prod.ext ?_ ?_ <;> dsimp only <;> omega)))⟩
                        ·
                          rw [hc135]
                          refine ops_rule (C := []) [] [] 4 [] 0 (fun φ138 => [(70, .int .i64 (IntKind.wrap .i64 (((p : Nat) : Int) + ((2 : Nat) : Int)))), (69, .int .i64 2), (68, .int .i64 ((p : Nat) : Int)), (67, .string ⟨(l).toArray⟩)]) (fun φ138 => []) (fun φ138 => []) s trivial (fun φ138 => by kernel_rfl) ?_
                          intro φ138 w138 s
                          rw [nat_addI (a := p) (b := 2) (by  have hq0 := of_decide_eq_false hc6; have hq1 := of_decide_eq_true hc9; have hq2 := of_decide_eq_false hc11; have hq3 := of_decide_eq_true hc49; have hq4 := of_decide_eq_false hc51; have hq5 := of_decide_eq_true hc106; have hq6 := of_decide_eq_true hc108; have hq7 := of_decide_eq_false hc113; have hq8 := of_decide_eq_false hc118; have hq9 := of_decide_eq_false hc123; have hq10 := of_decide_eq_false hc130; have hq11 := of_decide_eq_false hc135; omega)]
                          refine sem_rule (Instr.index 9 (.string ⟨(l).toArray⟩) (.int .i64 ((p + 2 : Nat) : Int))) (some 71) (.int .u8 (((l.getD (p + 2) 0).toNat : Nat) : Int)) (by kernel_rfl) (run_idxK (s := l) (i := p + 2) (by  have hq0 := of_decide_eq_false hc6; have hq1 := of_decide_eq_true hc9; have hq2 := of_decide_eq_false hc11; have hq3 := of_decide_eq_true hc49; have hq4 := of_decide_eq_false hc51; have hq5 := of_decide_eq_true hc106; have hq6 := of_decide_eq_true hc108; have hq7 := of_decide_eq_false hc113; have hq8 := of_decide_eq_false hc118; have hq9 := of_decide_eq_false hc123; have hq10 := of_decide_eq_false hc130; have hq11 := of_decide_eq_false hc135; (try simp only [List.length_drop, List.length_take, List.length_append, List.length_cons, List.length_nil]); omega)) ?_
                          refine ops_rule (C := []) [] [] 2 [] 0 (fun φ139 => [(73, .bool (decide ((((l.getD (p + 2) 0).toNat : Nat) : Int) > ((191 : Nat) : Int)))), (72, .bool (decide ((((l.getD (p + 2) 0).toNat : Nat) : Int) > ((191 : Nat) : Int))))]) (fun φ139 => []) (fun φ139 => []) s trivial (fun φ139 => by kernel_rfl) ?_
                          intro φ139 w139 s
                          rw [nat_gtr (a := ((l.getD (p + 2) 0).toNat)) (b := 191)]
                          refine ops_done (by kernel_rfl) ?_
                          rcases Bool.eq_false_or_eq_true (decide (191 < ((l.getD (p + 2) 0).toNat))) with hc140 | hc140
                          ·
                            rw [hc140]
                            refine cond_true_rule (b := true) (by kernel_rfl) rfl ?_
                            refine wp_seq ?_
                            refine region_rule ?_
                            refine ops_rule (C := []) [] [] 3 [] 0 (fun φ141 => [(6, .bool false), (5, .int .i64 1), (4, .int .i64 0)]) (fun φ141 => []) (fun φ141 => []) s trivial (fun φ141 => by kernel_rfl) ?_
                            intro φ141 w141 s
                            refine ops_done (by kernel_rfl) ?_
                            refine wp_ret ?_
                            refine ret_rule (C := []) [] [] (.tuple #[.int .i64 0, .int .i64 1, .bool false]) [] [] s trivial (by kernel_rfl) ?_
                            exact ⟨_, _, _, rfl, s, (sgn_bad (l := l) (p := p) (by have z0 := byte_lt (l.getD p 0); have z1 := byte_lt (l.getD (p + 1) 0); have z2 := byte_lt (l.getD (p + 2) 0); have z3 := byte_lt (l.getD (p + 3) 0); have hq0 := of_decide_eq_false hc6; have hq1 := of_decide_eq_true hc9; have hq2 := of_decide_eq_false hc11; have hq3 := of_decide_eq_true hc49; have hq4 := of_decide_eq_false hc51; have hq5 := of_decide_eq_true hc106; have hq6 := of_decide_eq_true hc108; have hq7 := of_decide_eq_false hc113; have hq8 := of_decide_eq_false hc118; have hq9 := of_decide_eq_false hc123; have hq10 := of_decide_eq_false hc130; have hq11 := of_decide_eq_false hc135; have hq12 := of_decide_eq_true hc140; unfold Lib.decodeN; (repeat' split) <;> first | with_reducible rfl | (exfalso; omega) | (refine Prod.ext ?_ ?_ <;> dsimp only <;> omega)))⟩
                          ·
                            rw [hc140]
                            refine cond_false_rule (b := false) (by kernel_rfl) rfl ?_
                            refine wp_skip ?_
                            refine region_rule ?_
                            refine ops_rule (C := []) [] [] 6 [] 0 (fun φ142 => [(79, .int .i64 (IntKind.wrap .i64 (((p : Nat) : Int) + ((2 : Nat) : Int)))), (78, .int .i64 2), (77, .int .i64 ((p : Nat) : Int)), (76, .string ⟨(l).toArray⟩), (75, .int .i64 (IntKind.wrap .i64 (((64 : Nat) : Int) * ((((64 * (((l.getD p 0).toNat) - 240)) + ((l.getD (p + 1) 0).toNat)) - 128 : Nat) : Int)))), (74, .int .i64 ((((64 * (((l.getD p 0).toNat) - 240)) + ((l.getD (p + 1) 0).toNat)) - 128 : Nat) : Int))]) (fun φ142 => []) (fun φ142 => []) s trivial (fun φ142 => by kernel_rfl) ?_
                            intro φ142 w142 s
                            rw [nat_addI (a := p) (b := 2) (by  have hq0 := of_decide_eq_false hc6; have hq1 := of_decide_eq_true hc9; have hq2 := of_decide_eq_false hc11; have hq3 := of_decide_eq_true hc49; have hq4 := of_decide_eq_false hc51; have hq5 := of_decide_eq_true hc106; have hq6 := of_decide_eq_true hc108; have hq7 := of_decide_eq_false hc113; have hq8 := of_decide_eq_false hc118; have hq9 := of_decide_eq_false hc123; have hq10 := of_decide_eq_false hc130; have hq11 := of_decide_eq_false hc135; have hq12 := of_decide_eq_false hc140; omega)]
                            rw [nat_mulI (a := 64) (b := (((64 * (((l.getD p 0).toNat) - 240)) + ((l.getD (p + 1) 0).toNat)) - 128)) (by  have := byte_lt (l.getD (p + 1) 0); have := byte_lt (l.getD p 0); have hq0 := of_decide_eq_false hc6; have hq1 := of_decide_eq_true hc9; have hq2 := of_decide_eq_false hc11; have hq3 := of_decide_eq_true hc49; have hq4 := of_decide_eq_false hc51; have hq5 := of_decide_eq_true hc106; have hq6 := of_decide_eq_true hc108; have hq7 := of_decide_eq_false hc113; have hq8 := of_decide_eq_false hc118; have hq9 := of_decide_eq_false hc123; have hq10 := of_decide_eq_false hc130; have hq11 := of_decide_eq_false hc135; have hq12 := of_decide_eq_false hc140; omega)]
                            refine sem_rule (Instr.index 9 (.string ⟨(l).toArray⟩) (.int .i64 ((p + 2 : Nat) : Int))) (some 80) (.int .u8 (((l.getD (p + 2) 0).toNat : Nat) : Int)) (by kernel_rfl) (run_idxK (s := l) (i := p + 2) (by  have hq0 := of_decide_eq_false hc6; have hq1 := of_decide_eq_true hc9; have hq2 := of_decide_eq_false hc11; have hq3 := of_decide_eq_true hc49; have hq4 := of_decide_eq_false hc51; have hq5 := of_decide_eq_true hc106; have hq6 := of_decide_eq_true hc108; have hq7 := of_decide_eq_false hc113; have hq8 := of_decide_eq_false hc118; have hq9 := of_decide_eq_false hc123; have hq10 := of_decide_eq_false hc130; have hq11 := of_decide_eq_false hc135; have hq12 := of_decide_eq_false hc140; (try simp only [List.length_drop, List.length_take, List.length_append, List.length_cons, List.length_nil]); omega)) ?_
                            refine ops_rule (C := []) [] [] 4 [] 0 (fun φ143 => [(10, .int .i64 (IntKind.wrap .i64 ((IntKind.wrap .i64 (((64 * (((64 * (((l.getD p 0).toNat) - 240)) + ((l.getD (p + 1) 0).toNat)) - 128) : Nat) : Int) + (IntKind.wrap .i64 (((l.getD (p + 2) 0).toNat : Nat) : Int)))) - ((128 : Nat) : Int)))), (83, .int .i64 (IntKind.wrap .i64 ((IntKind.wrap .i64 (((64 * (((64 * (((l.getD p 0).toNat) - 240)) + ((l.getD (p + 1) 0).toNat)) - 128) : Nat) : Int) + (IntKind.wrap .i64 (((l.getD (p + 2) 0).toNat : Nat) : Int)))) - ((128 : Nat) : Int)))), (82, .int .i64 (IntKind.wrap .i64 (((64 * (((64 * (((l.getD p 0).toNat) - 240)) + ((l.getD (p + 1) 0).toNat)) - 128) : Nat) : Int) + (IntKind.wrap .i64 (((l.getD (p + 2) 0).toNat : Nat) : Int))))), (81, .int .i64 (IntKind.wrap .i64 (((l.getD (p + 2) 0).toNat : Nat) : Int)))]) (fun φ143 => []) (fun φ143 => []) s trivial (fun φ143 => by kernel_rfl) ?_
                            intro φ143 w143 s
                            rw [nat_wrapI (a := ((l.getD (p + 2) 0).toNat)) (by  have := byte_lt (l.getD (p + 2) 0); have hq0 := of_decide_eq_false hc6; have hq1 := of_decide_eq_true hc9; have hq2 := of_decide_eq_false hc11; have hq3 := of_decide_eq_true hc49; have hq4 := of_decide_eq_false hc51; have hq5 := of_decide_eq_true hc106; have hq6 := of_decide_eq_true hc108; have hq7 := of_decide_eq_false hc113; have hq8 := of_decide_eq_false hc118; have hq9 := of_decide_eq_false hc123; have hq10 := of_decide_eq_false hc130; have hq11 := of_decide_eq_false hc135; have hq12 := of_decide_eq_false hc140; omega)]
                            rw [nat_addI (a := (64 * (((64 * (((l.getD p 0).toNat) - 240)) + ((l.getD (p + 1) 0).toNat)) - 128))) (b := ((l.getD (p + 2) 0).toNat)) (by  have := byte_lt (l.getD (p + 1) 0); have := byte_lt (l.getD (p + 2) 0); have := byte_lt (l.getD p 0); have hq0 := of_decide_eq_false hc6; have hq1 := of_decide_eq_true hc9; have hq2 := of_decide_eq_false hc11; have hq3 := of_decide_eq_true hc49; have hq4 := of_decide_eq_false hc51; have hq5 := of_decide_eq_true hc106; have hq6 := of_decide_eq_true hc108; have hq7 := of_decide_eq_false hc113; have hq8 := of_decide_eq_false hc118; have hq9 := of_decide_eq_false hc123; have hq10 := of_decide_eq_false hc130; have hq11 := of_decide_eq_false hc135; have hq12 := of_decide_eq_false hc140; omega)]
                            rw [nat_subI (a := ((64 * (((64 * (((l.getD p 0).toNat) - 240)) + ((l.getD (p + 1) 0).toNat)) - 128)) + ((l.getD (p + 2) 0).toNat))) (b := 128) (by  have := byte_lt (l.getD (p + 1) 0); have := byte_lt (l.getD (p + 2) 0); have := byte_lt (l.getD p 0); have hq0 := of_decide_eq_false hc6; have hq1 := of_decide_eq_true hc9; have hq2 := of_decide_eq_false hc11; have hq3 := of_decide_eq_true hc49; have hq4 := of_decide_eq_false hc51; have hq5 := of_decide_eq_true hc106; have hq6 := of_decide_eq_true hc108; have hq7 := of_decide_eq_false hc113; have hq8 := of_decide_eq_false hc118; have hq9 := of_decide_eq_false hc123; have hq10 := of_decide_eq_false hc130; have hq11 := of_decide_eq_false hc135; have hq12 := of_decide_eq_false hc140; omega) (by  have := byte_lt (l.getD (p + 1) 0); have := byte_lt (l.getD (p + 2) 0); have := byte_lt (l.getD p 0); have hq0 := of_decide_eq_false hc6; have hq1 := of_decide_eq_true hc9; have hq2 := of_decide_eq_false hc11; have hq3 := of_decide_eq_true hc49; have hq4 := of_decide_eq_false hc51; have hq5 := of_decide_eq_true hc106; have hq6 := of_decide_eq_true hc108; have hq7 := of_decide_eq_false hc113; have hq8 := of_decide_eq_false hc118; have hq9 := of_decide_eq_false hc123; have hq10 := of_decide_eq_false hc130; have hq11 := of_decide_eq_false hc135; have hq12 := of_decide_eq_false hc140; omega)]
                            refine ops_done (by kernel_rfl) ?_
                            refine region_rule ?_
                            refine ops_rule (C := []) [] [] 3 [] 0 (fun φ144 => [(11, .int .i64 3), (51, .int .i64 3), (50, .int .i64 2)]) (fun φ144 => []) (fun φ144 => []) s trivial (fun φ144 => by kernel_rfl) ?_
                            intro φ144 w144 s
                            refine ops_done (by kernel_rfl) ?_
                            refine rounds_step (n := 2) ?_
                            refine wp_seq ?_
                            refine wp_seq ?_
                            refine region_rule ?_
                            refine ops_rule (C := []) [] [] 3 [] 0 (fun φ145 => [(49, .bool true), (48, .int .i64 4), (47, .int .i64 3)]) (fun φ145 => []) (fun φ145 => []) s trivial (fun φ145 => by kernel_rfl) ?_
                            intro φ145 w145 s
                            refine ops_done (by kernel_rfl) ?_
                            refine cond_true_rule (b := true) (by kernel_rfl) rfl ?_
                            refine wp_skip ?_
                            refine wp_seq ?_
                            refine wp_block ?_
                            refine wp_seq ?_
                            refine wp_seq ?_
                            refine region_rule ?_
                            refine ops_rule (C := []) [] [] 7 [] 0 (fun φ146 => [(58, .bool (decide ((IntKind.wrap .i64 (((p : Nat) : Int) + ((3 : Nat) : Int))) ≥ (((l).length : Nat) : Int)))), (57, .bool (decide ((IntKind.wrap .i64 (((p : Nat) : Int) + ((3 : Nat) : Int))) ≥ (((l).length : Nat) : Int)))), (56, .int .i64 (((l).length : Nat) : Int)), (55, .string ⟨(l).toArray⟩), (54, .int .i64 (IntKind.wrap .i64 (((p : Nat) : Int) + ((3 : Nat) : Int)))), (53, .int .i64 3), (52, .int .i64 ((p : Nat) : Int))]) (fun φ146 => []) (fun φ146 => []) s trivial (fun φ146 => by kernel_rfl) ?_
                            intro φ146 w146 s
                            rw [nat_addI (a := p) (b := 3) (by  have hq0 := of_decide_eq_false hc6; have hq1 := of_decide_eq_true hc9; have hq2 := of_decide_eq_false hc11; have hq3 := of_decide_eq_true hc49; have hq4 := of_decide_eq_false hc51; have hq5 := of_decide_eq_true hc106; have hq6 := of_decide_eq_true hc108; have hq7 := of_decide_eq_false hc113; have hq8 := of_decide_eq_false hc118; have hq9 := of_decide_eq_false hc123; have hq10 := of_decide_eq_false hc130; have hq11 := of_decide_eq_false hc135; have hq12 := of_decide_eq_false hc140; omega)]
                            rw [nat_geq (a := (p + 3)) (b := ((l).length))]
                            rcases Bool.eq_false_or_eq_true (decide (((l).length) ≤ (p + 3))) with hc147 | hc147
                            ·
                              rw [hc147]
                              refine ops_rule (C := []) [] [] 15 [] 0 (fun φ148 => [(73, .bool true), (72, undef), (71, undef), (70, undef), (69, undef), (68, undef), (67, undef), (66, .bool true), (65, .bool true), (64, undef), (63, undef), (62, undef), (61, undef), (60, undef), (59, undef)]) (fun φ148 => []) (fun φ148 => []) s trivial (fun φ148 => by kernel_rfl) ?_
                              intro φ148 w148 s
                              refine ops_done (by kernel_rfl) ?_
                              refine cond_true_rule (b := true) (by kernel_rfl) rfl ?_
                              refine wp_seq ?_
                              refine region_rule ?_
                              refine ops_rule (C := []) [] [] 3 [] 0 (fun φ149 => [(6, .bool false), (5, .int .i64 1), (4, .int .i64 0)]) (fun φ149 => []) (fun φ149 => []) s trivial (fun φ149 => by kernel_rfl) ?_
                              intro φ149 w149 s
                              refine ops_done (by kernel_rfl) ?_
                              refine wp_ret ?_
                              refine ret_rule (C := []) [] [] (.tuple #[.int .i64 0, .int .i64 1, .bool false]) [] [] s trivial (by kernel_rfl) ?_
                              exact ⟨_, _, _, rfl, s, (sgn_bad (l := l) (p := p) (by have z0 := byte_lt (l.getD p 0); have z1 := byte_lt (l.getD (p + 1) 0); have z2 := byte_lt (l.getD (p + 2) 0); have z3 := byte_lt (l.getD (p + 3) 0); have hq0 := of_decide_eq_false hc6; have hq1 := of_decide_eq_true hc9; have hq2 := of_decide_eq_false hc11; have hq3 := of_decide_eq_true hc49; have hq4 := of_decide_eq_false hc51; have hq5 := of_decide_eq_true hc106; have hq6 := of_decide_eq_true hc108; have hq7 := of_decide_eq_false hc113; have hq8 := of_decide_eq_false hc118; have hq9 := of_decide_eq_false hc123; have hq10 := of_decide_eq_false hc130; have hq11 := of_decide_eq_false hc135; have hq12 := of_decide_eq_false hc140; have hq13 := of_decide_eq_true hc147; unfold Lib.decodeN; (repeat' split) <;> first | with_reducible rfl | (exfalso; omega) | (refine Prod.ext ?_ ?_ <;> dsimp only <;> omega)))⟩
                            ·
                              rw [hc147]
                              refine ops_rule (C := []) [] [] 4 [] 0 (fun φ150 => [(62, .int .i64 (IntKind.wrap .i64 (((p : Nat) : Int) + ((3 : Nat) : Int)))), (61, .int .i64 3), (60, .int .i64 ((p : Nat) : Int)), (59, .string ⟨(l).toArray⟩)]) (fun φ150 => []) (fun φ150 => []) s trivial (fun φ150 => by kernel_rfl) ?_
                              intro φ150 w150 s
                              rw [nat_addI (a := p) (b := 3) (by  have hq0 := of_decide_eq_false hc6; have hq1 := of_decide_eq_true hc9; have hq2 := of_decide_eq_false hc11; have hq3 := of_decide_eq_true hc49; have hq4 := of_decide_eq_false hc51; have hq5 := of_decide_eq_true hc106; have hq6 := of_decide_eq_true hc108; have hq7 := of_decide_eq_false hc113; have hq8 := of_decide_eq_false hc118; have hq9 := of_decide_eq_false hc123; have hq10 := of_decide_eq_false hc130; have hq11 := of_decide_eq_false hc135; have hq12 := of_decide_eq_false hc140; have hq13 := of_decide_eq_false hc147; omega)]
                              refine sem_rule (Instr.index 9 (.string ⟨(l).toArray⟩) (.int .i64 ((p + 3 : Nat) : Int))) (some 63) (.int .u8 (((l.getD (p + 3) 0).toNat : Nat) : Int)) (by kernel_rfl) (run_idxK (s := l) (i := p + 3) (by  have hq0 := of_decide_eq_false hc6; have hq1 := of_decide_eq_true hc9; have hq2 := of_decide_eq_false hc11; have hq3 := of_decide_eq_true hc49; have hq4 := of_decide_eq_false hc51; have hq5 := of_decide_eq_true hc106; have hq6 := of_decide_eq_true hc108; have hq7 := of_decide_eq_false hc113; have hq8 := of_decide_eq_false hc118; have hq9 := of_decide_eq_false hc123; have hq10 := of_decide_eq_false hc130; have hq11 := of_decide_eq_false hc135; have hq12 := of_decide_eq_false hc140; have hq13 := of_decide_eq_false hc147; (try simp only [List.length_drop, List.length_take, List.length_append, List.length_cons, List.length_nil]); omega)) ?_
                              refine ops_rule (C := []) [] [] 3 [] 0 (fun φ151 => [(66, .bool (decide ((((l.getD (p + 3) 0).toNat : Nat) : Int) < ((128 : Nat) : Int)))), (65, .bool (decide ((((l.getD (p + 3) 0).toNat : Nat) : Int) < ((128 : Nat) : Int)))), (64, .bool (decide ((((l.getD (p + 3) 0).toNat : Nat) : Int) < ((128 : Nat) : Int))))]) (fun φ151 => []) (fun φ151 => []) s trivial (fun φ151 => by kernel_rfl) ?_
                              intro φ151 w151 s
                              rw [nat_lss (a := ((l.getD (p + 3) 0).toNat)) (b := 128)]
                              rcases Bool.eq_false_or_eq_true (decide (((l.getD (p + 3) 0).toNat) < 128)) with hc152 | hc152
                              ·
                                rw [hc152]
                                refine ops_rule (C := []) [] [] 7 [] 0 (fun φ153 => [(73, .bool true), (72, undef), (71, undef), (70, undef), (69, undef), (68, undef), (67, undef)]) (fun φ153 => []) (fun φ153 => []) s trivial (fun φ153 => by kernel_rfl) ?_
                                intro φ153 w153 s
                                refine ops_done (by kernel_rfl) ?_
                                refine cond_true_rule (b := true) (by kernel_rfl) rfl ?_
                                refine wp_seq ?_
                                refine region_rule ?_
                                refine ops_rule (C := []) [] [] 3 [] 0 (fun φ154 => [(6, .bool false), (5, .int .i64 1), (4, .int .i64 0)]) (fun φ154 => []) (fun φ154 => []) s trivial (fun φ154 => by kernel_rfl) ?_
                                intro φ154 w154 s
                                refine ops_done (by kernel_rfl) ?_
                                refine wp_ret ?_
                                refine ret_rule (C := []) [] [] (.tuple #[.int .i64 0, .int .i64 1, .bool false]) [] [] s trivial (by kernel_rfl) ?_
                                exact ⟨_, _, _, rfl, s, (sgn_bad (l := l) (p := p) (by have z0 := byte_lt (l.getD p 0); have z1 := byte_lt (l.getD (p + 1) 0); have z2 := byte_lt (l.getD (p + 2) 0); have z3 := byte_lt (l.getD (p + 3) 0); have hq0 := of_decide_eq_false hc6; have hq1 := of_decide_eq_true hc9; have hq2 := of_decide_eq_false hc11; have hq3 := of_decide_eq_true hc49; have hq4 := of_decide_eq_false hc51; have hq5 := of_decide_eq_true hc106; have hq6 := of_decide_eq_true hc108; have hq7 := of_decide_eq_false hc113; have hq8 := of_decide_eq_false hc118; have hq9 := of_decide_eq_false hc123; have hq10 := of_decide_eq_false hc130; have hq11 := of_decide_eq_false hc135; have hq12 := of_decide_eq_false hc140; have hq13 := of_decide_eq_false hc147; have hq14 := of_decide_eq_true hc152; unfold Lib.decodeN; (repeat' split) <;> first | with_reducible rfl | (exfalso; omega) | (refine Prod.ext ?_ ?_ <;> dsimp only <;> omega)))⟩
                              ·
                                rw [hc152]
                                refine ops_rule (C := []) [] [] 4 [] 0 (fun φ155 => [(70, .int .i64 (IntKind.wrap .i64 (((p : Nat) : Int) + ((3 : Nat) : Int)))), (69, .int .i64 3), (68, .int .i64 ((p : Nat) : Int)), (67, .string ⟨(l).toArray⟩)]) (fun φ155 => []) (fun φ155 => []) s trivial (fun φ155 => by kernel_rfl) ?_
                                intro φ155 w155 s
                                rw [nat_addI (a := p) (b := 3) (by  have hq0 := of_decide_eq_false hc6; have hq1 := of_decide_eq_true hc9; have hq2 := of_decide_eq_false hc11; have hq3 := of_decide_eq_true hc49; have hq4 := of_decide_eq_false hc51; have hq5 := of_decide_eq_true hc106; have hq6 := of_decide_eq_true hc108; have hq7 := of_decide_eq_false hc113; have hq8 := of_decide_eq_false hc118; have hq9 := of_decide_eq_false hc123; have hq10 := of_decide_eq_false hc130; have hq11 := of_decide_eq_false hc135; have hq12 := of_decide_eq_false hc140; have hq13 := of_decide_eq_false hc147; have hq14 := of_decide_eq_false hc152; omega)]
                                refine sem_rule (Instr.index 9 (.string ⟨(l).toArray⟩) (.int .i64 ((p + 3 : Nat) : Int))) (some 71) (.int .u8 (((l.getD (p + 3) 0).toNat : Nat) : Int)) (by kernel_rfl) (run_idxK (s := l) (i := p + 3) (by  have hq0 := of_decide_eq_false hc6; have hq1 := of_decide_eq_true hc9; have hq2 := of_decide_eq_false hc11; have hq3 := of_decide_eq_true hc49; have hq4 := of_decide_eq_false hc51; have hq5 := of_decide_eq_true hc106; have hq6 := of_decide_eq_true hc108; have hq7 := of_decide_eq_false hc113; have hq8 := of_decide_eq_false hc118; have hq9 := of_decide_eq_false hc123; have hq10 := of_decide_eq_false hc130; have hq11 := of_decide_eq_false hc135; have hq12 := of_decide_eq_false hc140; have hq13 := of_decide_eq_false hc147; have hq14 := of_decide_eq_false hc152; (try simp only [List.length_drop, List.length_take, List.length_append, List.length_cons, List.length_nil]); omega)) ?_
                                refine ops_rule (C := []) [] [] 2 [] 0 (fun φ156 => [(73, .bool (decide ((((l.getD (p + 3) 0).toNat : Nat) : Int) > ((191 : Nat) : Int)))), (72, .bool (decide ((((l.getD (p + 3) 0).toNat : Nat) : Int) > ((191 : Nat) : Int))))]) (fun φ156 => []) (fun φ156 => []) s trivial (fun φ156 => by kernel_rfl) ?_
                                intro φ156 w156 s
                                rw [nat_gtr (a := ((l.getD (p + 3) 0).toNat)) (b := 191)]
                                refine ops_done (by kernel_rfl) ?_
                                rcases Bool.eq_false_or_eq_true (decide (191 < ((l.getD (p + 3) 0).toNat))) with hc157 | hc157
                                ·
                                  rw [hc157]
                                  refine cond_true_rule (b := true) (by kernel_rfl) rfl ?_
                                  refine wp_seq ?_
                                  refine region_rule ?_
                                  refine ops_rule (C := []) [] [] 3 [] 0 (fun φ158 => [(6, .bool false), (5, .int .i64 1), (4, .int .i64 0)]) (fun φ158 => []) (fun φ158 => []) s trivial (fun φ158 => by kernel_rfl) ?_
                                  intro φ158 w158 s
                                  refine ops_done (by kernel_rfl) ?_
                                  refine wp_ret ?_
                                  refine ret_rule (C := []) [] [] (.tuple #[.int .i64 0, .int .i64 1, .bool false]) [] [] s trivial (by kernel_rfl) ?_
                                  exact ⟨_, _, _, rfl, s, (sgn_bad (l := l) (p := p) (by have z0 := byte_lt (l.getD p 0); have z1 := byte_lt (l.getD (p + 1) 0); have z2 := byte_lt (l.getD (p + 2) 0); have z3 := byte_lt (l.getD (p + 3) 0); have hq0 := of_decide_eq_false hc6; have hq1 := of_decide_eq_true hc9; have hq2 := of_decide_eq_false hc11; have hq3 := of_decide_eq_true hc49; have hq4 := of_decide_eq_false hc51; have hq5 := of_decide_eq_true hc106; have hq6 := of_decide_eq_true hc108; have hq7 := of_decide_eq_false hc113; have hq8 := of_decide_eq_false hc118; have hq9 := of_decide_eq_false hc123; have hq10 := of_decide_eq_false hc130; have hq11 := of_decide_eq_false hc135; have hq12 := of_decide_eq_false hc140; have hq13 := of_decide_eq_false hc147; have hq14 := of_decide_eq_false hc152; have hq15 := of_decide_eq_true hc157; unfold Lib.decodeN; (repeat' split) <;> first | with_reducible rfl | (exfalso; omega) | (refine Prod.ext ?_ ?_ <;> dsimp only <;> omega)))⟩
                                ·
                                  rw [hc157]
                                  refine cond_false_rule (b := false) (by kernel_rfl) rfl ?_
                                  refine wp_skip ?_
                                  refine region_rule ?_
                                  refine ops_rule (C := []) [] [] 6 [] 0 (fun φ159 => [(79, .int .i64 (IntKind.wrap .i64 (((p : Nat) : Int) + ((3 : Nat) : Int)))), (78, .int .i64 3), (77, .int .i64 ((p : Nat) : Int)), (76, .string ⟨(l).toArray⟩), (75, .int .i64 (IntKind.wrap .i64 (((64 : Nat) : Int) * ((((64 * (((64 * (((l.getD p 0).toNat) - 240)) + ((l.getD (p + 1) 0).toNat)) - 128)) + ((l.getD (p + 2) 0).toNat)) - 128 : Nat) : Int)))), (74, .int .i64 ((((64 * (((64 * (((l.getD p 0).toNat) - 240)) + ((l.getD (p + 1) 0).toNat)) - 128)) + ((l.getD (p + 2) 0).toNat)) - 128 : Nat) : Int))]) (fun φ159 => []) (fun φ159 => []) s trivial (fun φ159 => by kernel_rfl) ?_
                                  intro φ159 w159 s
                                  rw [nat_addI (a := p) (b := 3) (by  have hq0 := of_decide_eq_false hc6; have hq1 := of_decide_eq_true hc9; have hq2 := of_decide_eq_false hc11; have hq3 := of_decide_eq_true hc49; have hq4 := of_decide_eq_false hc51; have hq5 := of_decide_eq_true hc106; have hq6 := of_decide_eq_true hc108; have hq7 := of_decide_eq_false hc113; have hq8 := of_decide_eq_false hc118; have hq9 := of_decide_eq_false hc123; have hq10 := of_decide_eq_false hc130; have hq11 := of_decide_eq_false hc135; have hq12 := of_decide_eq_false hc140; have hq13 := of_decide_eq_false hc147; have hq14 := of_decide_eq_false hc152; have hq15 := of_decide_eq_false hc157; omega)]
                                  rw [nat_mulI (a := 64) (b := (((64 * (((64 * (((l.getD p 0).toNat) - 240)) + ((l.getD (p + 1) 0).toNat)) - 128)) + ((l.getD (p + 2) 0).toNat)) - 128)) (by  have := byte_lt (l.getD (p + 1) 0); have := byte_lt (l.getD (p + 2) 0); have := byte_lt (l.getD p 0); have hq0 := of_decide_eq_false hc6; have hq1 := of_decide_eq_true hc9; have hq2 := of_decide_eq_false hc11; have hq3 := of_decide_eq_true hc49; have hq4 := of_decide_eq_false hc51; have hq5 := of_decide_eq_true hc106; have hq6 := of_decide_eq_true hc108; have hq7 := of_decide_eq_false hc113; have hq8 := of_decide_eq_false hc118; have hq9 := of_decide_eq_false hc123; have hq10 := of_decide_eq_false hc130; have hq11 := of_decide_eq_false hc135; have hq12 := of_decide_eq_false hc140; have hq13 := of_decide_eq_false hc147; have hq14 := of_decide_eq_false hc152; have hq15 := of_decide_eq_false hc157; omega)]
                                  refine sem_rule (Instr.index 9 (.string ⟨(l).toArray⟩) (.int .i64 ((p + 3 : Nat) : Int))) (some 80) (.int .u8 (((l.getD (p + 3) 0).toNat : Nat) : Int)) (by kernel_rfl) (run_idxK (s := l) (i := p + 3) (by  have hq0 := of_decide_eq_false hc6; have hq1 := of_decide_eq_true hc9; have hq2 := of_decide_eq_false hc11; have hq3 := of_decide_eq_true hc49; have hq4 := of_decide_eq_false hc51; have hq5 := of_decide_eq_true hc106; have hq6 := of_decide_eq_true hc108; have hq7 := of_decide_eq_false hc113; have hq8 := of_decide_eq_false hc118; have hq9 := of_decide_eq_false hc123; have hq10 := of_decide_eq_false hc130; have hq11 := of_decide_eq_false hc135; have hq12 := of_decide_eq_false hc140; have hq13 := of_decide_eq_false hc147; have hq14 := of_decide_eq_false hc152; have hq15 := of_decide_eq_false hc157; (try simp only [List.length_drop, List.length_take, List.length_append, List.length_cons, List.length_nil]); omega)) ?_
                                  refine ops_rule (C := []) [] [] 4 [] 0 (fun φ160 => [(10, .int .i64 (IntKind.wrap .i64 ((IntKind.wrap .i64 (((64 * (((64 * (((64 * (((l.getD p 0).toNat) - 240)) + ((l.getD (p + 1) 0).toNat)) - 128)) + ((l.getD (p + 2) 0).toNat)) - 128) : Nat) : Int) + (IntKind.wrap .i64 (((l.getD (p + 3) 0).toNat : Nat) : Int)))) - ((128 : Nat) : Int)))), (83, .int .i64 (IntKind.wrap .i64 ((IntKind.wrap .i64 (((64 * (((64 * (((64 * (((l.getD p 0).toNat) - 240)) + ((l.getD (p + 1) 0).toNat)) - 128)) + ((l.getD (p + 2) 0).toNat)) - 128) : Nat) : Int) + (IntKind.wrap .i64 (((l.getD (p + 3) 0).toNat : Nat) : Int)))) - ((128 : Nat) : Int)))), (82, .int .i64 (IntKind.wrap .i64 (((64 * (((64 * (((64 * (((l.getD p 0).toNat) - 240)) + ((l.getD (p + 1) 0).toNat)) - 128)) + ((l.getD (p + 2) 0).toNat)) - 128) : Nat) : Int) + (IntKind.wrap .i64 (((l.getD (p + 3) 0).toNat : Nat) : Int))))), (81, .int .i64 (IntKind.wrap .i64 (((l.getD (p + 3) 0).toNat : Nat) : Int)))]) (fun φ160 => []) (fun φ160 => []) s trivial (fun φ160 => by kernel_rfl) ?_
                                  intro φ160 w160 s
                                  rw [nat_wrapI (a := ((l.getD (p + 3) 0).toNat)) (by  have := byte_lt (l.getD (p + 3) 0); have hq0 := of_decide_eq_false hc6; have hq1 := of_decide_eq_true hc9; have hq2 := of_decide_eq_false hc11; have hq3 := of_decide_eq_true hc49; have hq4 := of_decide_eq_false hc51; have hq5 := of_decide_eq_true hc106; have hq6 := of_decide_eq_true hc108; have hq7 := of_decide_eq_false hc113; have hq8 := of_decide_eq_false hc118; have hq9 := of_decide_eq_false hc123; have hq10 := of_decide_eq_false hc130; have hq11 := of_decide_eq_false hc135; have hq12 := of_decide_eq_false hc140; have hq13 := of_decide_eq_false hc147; have hq14 := of_decide_eq_false hc152; have hq15 := of_decide_eq_false hc157; omega)]
                                  rw [nat_addI (a := (64 * (((64 * (((64 * (((l.getD p 0).toNat) - 240)) + ((l.getD (p + 1) 0).toNat)) - 128)) + ((l.getD (p + 2) 0).toNat)) - 128))) (b := ((l.getD (p + 3) 0).toNat)) (by  have := byte_lt (l.getD (p + 1) 0); have := byte_lt (l.getD (p + 2) 0); have := byte_lt (l.getD (p + 3) 0); have := byte_lt (l.getD p 0); have hq0 := of_decide_eq_false hc6; have hq1 := of_decide_eq_true hc9; have hq2 := of_decide_eq_false hc11; have hq3 := of_decide_eq_true hc49; have hq4 := of_decide_eq_false hc51; have hq5 := of_decide_eq_true hc106; have hq6 := of_decide_eq_true hc108; have hq7 := of_decide_eq_false hc113; have hq8 := of_decide_eq_false hc118; have hq9 := of_decide_eq_false hc123; have hq10 := of_decide_eq_false hc130; have hq11 := of_decide_eq_false hc135; have hq12 := of_decide_eq_false hc140; have hq13 := of_decide_eq_false hc147; have hq14 := of_decide_eq_false hc152; have hq15 := of_decide_eq_false hc157; omega)]
                                  rw [nat_subI (a := ((64 * (((64 * (((64 * (((l.getD p 0).toNat) - 240)) + ((l.getD (p + 1) 0).toNat)) - 128)) + ((l.getD (p + 2) 0).toNat)) - 128)) + ((l.getD (p + 3) 0).toNat))) (b := 128) (by  have := byte_lt (l.getD (p + 1) 0); have := byte_lt (l.getD (p + 2) 0); have := byte_lt (l.getD (p + 3) 0); have := byte_lt (l.getD p 0); have hq0 := of_decide_eq_false hc6; have hq1 := of_decide_eq_true hc9; have hq2 := of_decide_eq_false hc11; have hq3 := of_decide_eq_true hc49; have hq4 := of_decide_eq_false hc51; have hq5 := of_decide_eq_true hc106; have hq6 := of_decide_eq_true hc108; have hq7 := of_decide_eq_false hc113; have hq8 := of_decide_eq_false hc118; have hq9 := of_decide_eq_false hc123; have hq10 := of_decide_eq_false hc130; have hq11 := of_decide_eq_false hc135; have hq12 := of_decide_eq_false hc140; have hq13 := of_decide_eq_false hc147; have hq14 := of_decide_eq_false hc152; have hq15 := of_decide_eq_false hc157; omega) (by  have := byte_lt (l.getD (p + 1) 0); have := byte_lt (l.getD (p + 2) 0); have := byte_lt (l.getD (p + 3) 0); have := byte_lt (l.getD p 0); have hq0 := of_decide_eq_false hc6; have hq1 := of_decide_eq_true hc9; have hq2 := of_decide_eq_false hc11; have hq3 := of_decide_eq_true hc49; have hq4 := of_decide_eq_false hc51; have hq5 := of_decide_eq_true hc106; have hq6 := of_decide_eq_true hc108; have hq7 := of_decide_eq_false hc113; have hq8 := of_decide_eq_false hc118; have hq9 := of_decide_eq_false hc123; have hq10 := of_decide_eq_false hc130; have hq11 := of_decide_eq_false hc135; have hq12 := of_decide_eq_false hc140; have hq13 := of_decide_eq_false hc147; have hq14 := of_decide_eq_false hc152; have hq15 := of_decide_eq_false hc157; omega)]
                                  refine ops_done (by kernel_rfl) ?_
                                  refine region_rule ?_
                                  refine ops_rule (C := []) [] [] 3 [] 0 (fun φ161 => [(11, .int .i64 4), (51, .int .i64 4), (50, .int .i64 3)]) (fun φ161 => []) (fun φ161 => []) s trivial (fun φ161 => by kernel_rfl) ?_
                                  intro φ161 w161 s
                                  refine ops_done (by kernel_rfl) ?_
                                  refine rounds_step (n := 1) ?_
                                  refine wp_seq ?_
                                  refine wp_seq ?_
                                  refine region_rule ?_
                                  refine ops_rule (C := []) [] [] 3 [] 0 (fun φ162 => [(49, .bool false), (48, .int .i64 4), (47, .int .i64 4)]) (fun φ162 => []) (fun φ162 => []) s trivial (fun φ162 => by kernel_rfl) ?_
                                  intro φ162 w162 s
                                  refine ops_done (by kernel_rfl) ?_
                                  refine cond_false_rule (b := false) (by kernel_rfl) rfl ?_
                                  refine wp_exit ?_
                                  refine wp_seq ?_
                                  refine wp_seq ?_
                                  refine region_rule ?_
                                  refine ops_rule (C := []) [] [] 4 [] 0 (fun φ163 => [(87, .bool (decide (((((64 * (((64 * (((64 * (((l.getD p 0).toNat) - 240)) + ((l.getD (p + 1) 0).toNat)) - 128)) + ((l.getD (p + 2) 0).toNat)) - 128)) + ((l.getD (p + 3) 0).toNat)) - 128 : Nat) : Int) < ((65536 : Nat) : Int)))), (86, .bool (decide (((((64 * (((64 * (((64 * (((l.getD p 0).toNat) - 240)) + ((l.getD (p + 1) 0).toNat)) - 128)) + ((l.getD (p + 2) 0).toNat)) - 128)) + ((l.getD (p + 3) 0).toNat)) - 128 : Nat) : Int) < ((65536 : Nat) : Int)))), (85, .int .i64 65536), (84, .int .i64 ((((64 * (((64 * (((64 * (((l.getD p 0).toNat) - 240)) + ((l.getD (p + 1) 0).toNat)) - 128)) + ((l.getD (p + 2) 0).toNat)) - 128)) + ((l.getD (p + 3) 0).toNat)) - 128 : Nat) : Int))]) (fun φ163 => []) (fun φ163 => []) s trivial (fun φ163 => by kernel_rfl) ?_
                                  intro φ163 w163 s
                                  rw [nat_lss (a := (((64 * (((64 * (((64 * (((l.getD p 0).toNat) - 240)) + ((l.getD (p + 1) 0).toNat)) - 128)) + ((l.getD (p + 2) 0).toNat)) - 128)) + ((l.getD (p + 3) 0).toNat)) - 128)) (b := 65536)]
                                  rcases Bool.eq_false_or_eq_true (decide ((((64 * (((64 * (((64 * (((l.getD p 0).toNat) - 240)) + ((l.getD (p + 1) 0).toNat)) - 128)) + ((l.getD (p + 2) 0).toNat)) - 128)) + ((l.getD (p + 3) 0).toNat)) - 128) < 65536)) with hc164 | hc164
                                  ·
                                    rw [hc164]
                                    refine ops_rule (C := []) [] [] 11 [] 0 (fun φ165 => [(98, .bool true), (97, undef), (96, undef), (95, undef), (94, undef), (93, undef), (92, undef), (91, .bool true), (90, .bool true), (89, undef), (88, undef)]) (fun φ165 => []) (fun φ165 => []) s trivial (fun φ165 => by kernel_rfl) ?_
                                    intro φ165 w165 s
                                    refine ops_done (by kernel_rfl) ?_
                                    refine cond_true_rule (b := true) (by kernel_rfl) rfl ?_
                                    refine wp_seq ?_
                                    refine region_rule ?_
                                    refine ops_rule (C := []) [] [] 3 [] 0 (fun φ166 => [(6, .bool false), (5, .int .i64 1), (4, .int .i64 0)]) (fun φ166 => []) (fun φ166 => []) s trivial (fun φ166 => by kernel_rfl) ?_
                                    intro φ166 w166 s
                                    refine ops_done (by kernel_rfl) ?_
                                    refine wp_ret ?_
                                    refine ret_rule (C := []) [] [] (.tuple #[.int .i64 0, .int .i64 1, .bool false]) [] [] s trivial (by kernel_rfl) ?_
                                    exact ⟨_, _, _, rfl, s, (sgn_bad (l := l) (p := p) (by have z0 := byte_lt (l.getD p 0); have z1 := byte_lt (l.getD (p + 1) 0); have z2 := byte_lt (l.getD (p + 2) 0); have z3 := byte_lt (l.getD (p + 3) 0); have hq0 := of_decide_eq_false hc6; have hq1 := of_decide_eq_true hc9; have hq2 := of_decide_eq_false hc11; have hq3 := of_decide_eq_true hc49; have hq4 := of_decide_eq_false hc51; have hq5 := of_decide_eq_true hc106; have hq6 := of_decide_eq_true hc108; have hq7 := of_decide_eq_false hc113; have hq8 := of_decide_eq_false hc118; have hq9 := of_decide_eq_false hc123; have hq10 := of_decide_eq_false hc130; have hq11 := of_decide_eq_false hc135; have hq12 := of_decide_eq_false hc140; have hq13 := of_decide_eq_false hc147; have hq14 := of_decide_eq_false hc152; have hq15 := of_decide_eq_false hc157; have hq16 := of_decide_eq_true hc164; unfold Lib.decodeN; (repeat' split) <;> first | with_reducible rfl | (exfalso; omega) | (refine Prod.ext ?_ ?_ <;> dsimp only <;> omega)))⟩
                                  ·
                                    rw [hc164]
                                    refine ops_rule (C := []) [] [] 4 [] 0 (fun φ167 => [(91, .bool (decide (((((64 * (((64 * (((64 * (((l.getD p 0).toNat) - 240)) + ((l.getD (p + 1) 0).toNat)) - 128)) + ((l.getD (p + 2) 0).toNat)) - 128)) + ((l.getD (p + 3) 0).toNat)) - 128 : Nat) : Int) > ((1114111 : Nat) : Int)))), (90, .bool (decide (((((64 * (((64 * (((64 * (((l.getD p 0).toNat) - 240)) + ((l.getD (p + 1) 0).toNat)) - 128)) + ((l.getD (p + 2) 0).toNat)) - 128)) + ((l.getD (p + 3) 0).toNat)) - 128 : Nat) : Int) > ((1114111 : Nat) : Int)))), (89, .bool (decide (((((64 * (((64 * (((64 * (((l.getD p 0).toNat) - 240)) + ((l.getD (p + 1) 0).toNat)) - 128)) + ((l.getD (p + 2) 0).toNat)) - 128)) + ((l.getD (p + 3) 0).toNat)) - 128 : Nat) : Int) > ((1114111 : Nat) : Int)))), (88, .int .i64 ((((64 * (((64 * (((64 * (((l.getD p 0).toNat) - 240)) + ((l.getD (p + 1) 0).toNat)) - 128)) + ((l.getD (p + 2) 0).toNat)) - 128)) + ((l.getD (p + 3) 0).toNat)) - 128 : Nat) : Int))]) (fun φ167 => []) (fun φ167 => []) s trivial (fun φ167 => by kernel_rfl) ?_
                                    intro φ167 w167 s
                                    rw [nat_gtr (a := (((64 * (((64 * (((64 * (((l.getD p 0).toNat) - 240)) + ((l.getD (p + 1) 0).toNat)) - 128)) + ((l.getD (p + 2) 0).toNat)) - 128)) + ((l.getD (p + 3) 0).toNat)) - 128)) (b := 1114111)]
                                    rcases Bool.eq_false_or_eq_true (decide (1114111 < (((64 * (((64 * (((64 * (((l.getD p 0).toNat) - 240)) + ((l.getD (p + 1) 0).toNat)) - 128)) + ((l.getD (p + 2) 0).toNat)) - 128)) + ((l.getD (p + 3) 0).toNat)) - 128))) with hc168 | hc168
                                    ·
                                      rw [hc168]
                                      refine ops_rule (C := []) [] [] 7 [] 0 (fun φ169 => [(98, .bool true), (97, undef), (96, undef), (95, undef), (94, undef), (93, undef), (92, undef)]) (fun φ169 => []) (fun φ169 => []) s trivial (fun φ169 => by kernel_rfl) ?_
                                      intro φ169 w169 s
                                      refine ops_done (by kernel_rfl) ?_
                                      refine cond_true_rule (b := true) (by kernel_rfl) rfl ?_
                                      refine wp_seq ?_
                                      refine region_rule ?_
                                      refine ops_rule (C := []) [] [] 3 [] 0 (fun φ170 => [(6, .bool false), (5, .int .i64 1), (4, .int .i64 0)]) (fun φ170 => []) (fun φ170 => []) s trivial (fun φ170 => by kernel_rfl) ?_
                                      intro φ170 w170 s
                                      refine ops_done (by kernel_rfl) ?_
                                      refine wp_ret ?_
                                      refine ret_rule (C := []) [] [] (.tuple #[.int .i64 0, .int .i64 1, .bool false]) [] [] s trivial (by kernel_rfl) ?_
                                      exact ⟨_, _, _, rfl, s, (sgn_bad (l := l) (p := p) (by have z0 := byte_lt (l.getD p 0); have z1 := byte_lt (l.getD (p + 1) 0); have z2 := byte_lt (l.getD (p + 2) 0); have z3 := byte_lt (l.getD (p + 3) 0); have hq0 := of_decide_eq_false hc6; have hq1 := of_decide_eq_true hc9; have hq2 := of_decide_eq_false hc11; have hq3 := of_decide_eq_true hc49; have hq4 := of_decide_eq_false hc51; have hq5 := of_decide_eq_true hc106; have hq6 := of_decide_eq_true hc108; have hq7 := of_decide_eq_false hc113; have hq8 := of_decide_eq_false hc118; have hq9 := of_decide_eq_false hc123; have hq10 := of_decide_eq_false hc130; have hq11 := of_decide_eq_false hc135; have hq12 := of_decide_eq_false hc140; have hq13 := of_decide_eq_false hc147; have hq14 := of_decide_eq_false hc152; have hq15 := of_decide_eq_false hc157; have hq16 := of_decide_eq_false hc164; have hq17 := of_decide_eq_true hc168; unfold Lib.decodeN; (repeat' split) <;> first | with_reducible rfl | (exfalso; omega) | (refine Prod.ext ?_ ?_ <;> dsimp only <;> omega)))⟩
                                    ·
                                      rw [hc168]
                                      refine ops_rule (C := []) [] [] 3 [] 0 (fun φ171 => [(94, .bool (decide (((((64 * (((64 * (((64 * (((l.getD p 0).toNat) - 240)) + ((l.getD (p + 1) 0).toNat)) - 128)) + ((l.getD (p + 2) 0).toNat)) - 128)) + ((l.getD (p + 3) 0).toNat)) - 128 : Nat) : Int) ≥ ((55296 : Nat) : Int)))), (93, .bool (decide (((((64 * (((64 * (((64 * (((l.getD p 0).toNat) - 240)) + ((l.getD (p + 1) 0).toNat)) - 128)) + ((l.getD (p + 2) 0).toNat)) - 128)) + ((l.getD (p + 3) 0).toNat)) - 128 : Nat) : Int) ≥ ((55296 : Nat) : Int)))), (92, .int .i64 ((((64 * (((64 * (((64 * (((l.getD p 0).toNat) - 240)) + ((l.getD (p + 1) 0).toNat)) - 128)) + ((l.getD (p + 2) 0).toNat)) - 128)) + ((l.getD (p + 3) 0).toNat)) - 128 : Nat) : Int))]) (fun φ171 => []) (fun φ171 => []) s trivial (fun φ171 => by kernel_rfl) ?_
                                      intro φ171 w171 s
                                      rw [nat_geq (a := (((64 * (((64 * (((64 * (((l.getD p 0).toNat) - 240)) + ((l.getD (p + 1) 0).toNat)) - 128)) + ((l.getD (p + 2) 0).toNat)) - 128)) + ((l.getD (p + 3) 0).toNat)) - 128)) (b := 55296)]
                                      rcases Bool.eq_false_or_eq_true (decide (55296 ≤ (((64 * (((64 * (((64 * (((l.getD p 0).toNat) - 240)) + ((l.getD (p + 1) 0).toNat)) - 128)) + ((l.getD (p + 2) 0).toNat)) - 128)) + ((l.getD (p + 3) 0).toNat)) - 128))) with hc172 | hc172
                                      ·
                                        rw [hc172]
                                        refine ops_rule (C := []) [] [] 4 [] 0 (fun φ173 => [(98, .bool (decide (((((64 * (((64 * (((64 * (((l.getD p 0).toNat) - 240)) + ((l.getD (p + 1) 0).toNat)) - 128)) + ((l.getD (p + 2) 0).toNat)) - 128)) + ((l.getD (p + 3) 0).toNat)) - 128 : Nat) : Int) < ((57344 : Nat) : Int)))), (97, .bool (decide (((((64 * (((64 * (((64 * (((l.getD p 0).toNat) - 240)) + ((l.getD (p + 1) 0).toNat)) - 128)) + ((l.getD (p + 2) 0).toNat)) - 128)) + ((l.getD (p + 3) 0).toNat)) - 128 : Nat) : Int) < ((57344 : Nat) : Int)))), (96, .bool (decide (((((64 * (((64 * (((64 * (((l.getD p 0).toNat) - 240)) + ((l.getD (p + 1) 0).toNat)) - 128)) + ((l.getD (p + 2) 0).toNat)) - 128)) + ((l.getD (p + 3) 0).toNat)) - 128 : Nat) : Int) < ((57344 : Nat) : Int)))), (95, .int .i64 ((((64 * (((64 * (((64 * (((l.getD p 0).toNat) - 240)) + ((l.getD (p + 1) 0).toNat)) - 128)) + ((l.getD (p + 2) 0).toNat)) - 128)) + ((l.getD (p + 3) 0).toNat)) - 128 : Nat) : Int))]) (fun φ173 => []) (fun φ173 => []) s trivial (fun φ173 => by kernel_rfl) ?_
                                        intro φ173 w173 s
                                        rw [nat_lss (a := (((64 * (((64 * (((64 * (((l.getD p 0).toNat) - 240)) + ((l.getD (p + 1) 0).toNat)) - 128)) + ((l.getD (p + 2) 0).toNat)) - 128)) + ((l.getD (p + 3) 0).toNat)) - 128)) (b := 57344)]
                                        refine ops_done (by kernel_rfl) ?_
                                        rcases Bool.eq_false_or_eq_true (decide ((((64 * (((64 * (((64 * (((l.getD p 0).toNat) - 240)) + ((l.getD (p + 1) 0).toNat)) - 128)) + ((l.getD (p + 2) 0).toNat)) - 128)) + ((l.getD (p + 3) 0).toNat)) - 128) < 57344)) with hc174 | hc174
                                        ·
                                          exact absurd (of_decide_eq_true hc174) (by have := byte_lt (l.getD (p + 1) 0); have := byte_lt (l.getD (p + 2) 0); have := byte_lt (l.getD (p + 3) 0); have := byte_lt (l.getD p 0); have hq0 := of_decide_eq_false hc6; have hq1 := of_decide_eq_true hc9; have hq2 := of_decide_eq_false hc11; have hq3 := of_decide_eq_true hc49; have hq4 := of_decide_eq_false hc51; have hq5 := of_decide_eq_true hc106; have hq6 := of_decide_eq_true hc108; have hq7 := of_decide_eq_false hc113; have hq8 := of_decide_eq_false hc118; have hq9 := of_decide_eq_false hc123; have hq10 := of_decide_eq_false hc130; have hq11 := of_decide_eq_false hc135; have hq12 := of_decide_eq_false hc140; have hq13 := of_decide_eq_false hc147; have hq14 := of_decide_eq_false hc152; have hq15 := of_decide_eq_false hc157; have hq16 := of_decide_eq_false hc164; have hq17 := of_decide_eq_false hc168; have hq18 := of_decide_eq_true hc172; omega)
                                        ·
                                          rw [hc174]
                                          refine cond_false_rule (b := false) (by kernel_rfl) rfl ?_
                                          refine wp_skip ?_
                                          refine wp_seq ?_
                                          refine region_rule ?_
                                          refine ops_rule (C := []) [] [] 5 [] 0 (fun φ175 => [(6, .bool true), (5, .int .i64 4), (4, .int .i64 ((((64 * (((64 * (((64 * (((l.getD p 0).toNat) - 240)) + ((l.getD (p + 1) 0).toNat)) - 128)) + ((l.getD (p + 2) 0).toNat)) - 128)) + ((l.getD (p + 3) 0).toNat)) - 128 : Nat) : Int)), (100, .int .i64 4), (99, .int .i64 ((((64 * (((64 * (((64 * (((l.getD p 0).toNat) - 240)) + ((l.getD (p + 1) 0).toNat)) - 128)) + ((l.getD (p + 2) 0).toNat)) - 128)) + ((l.getD (p + 3) 0).toNat)) - 128 : Nat) : Int))]) (fun φ175 => []) (fun φ175 => []) s trivial (fun φ175 => by kernel_rfl) ?_
                                          intro φ175 w175 s
                                          refine ops_done (by kernel_rfl) ?_
                                          refine wp_ret ?_
                                          refine ret_rule (C := []) [] [] (.tuple #[.int .i64 ((((64 * (((64 * (((64 * (((l.getD p 0).toNat) - 240)) + ((l.getD (p + 1) 0).toNat)) - 128)) + ((l.getD (p + 2) 0).toNat)) - 128)) + ((l.getD (p + 3) 0).toNat)) - 128 : Nat) : Int), .int .i64 4, .bool true]) [] [] s trivial (by kernel_rfl) ?_
                                          exact ⟨_, _, _, rfl, s, (sgn_good (l := l) (p := p) (x := ((64 * (((64 * (((64 * (((l.getD p 0).toNat) - 240)) + ((l.getD (p + 1) 0).toNat)) - 128)) + ((l.getD (p + 2) 0).toNat)) - 128)) + ((l.getD (p + 3) 0).toNat)) - 128) (w := 4) (by have z0 := byte_lt (l.getD p 0); have z1 := byte_lt (l.getD (p + 1) 0); have z2 := byte_lt (l.getD (p + 2) 0); have z3 := byte_lt (l.getD (p + 3) 0); have hq0 := of_decide_eq_false hc6; have hq1 := of_decide_eq_true hc9; have hq2 := of_decide_eq_false hc11; have hq3 := of_decide_eq_true hc49; have hq4 := of_decide_eq_false hc51; have hq5 := of_decide_eq_true hc106; have hq6 := of_decide_eq_true hc108; have hq7 := of_decide_eq_false hc113; have hq8 := of_decide_eq_false hc118; have hq9 := of_decide_eq_false hc123; have hq10 := of_decide_eq_false hc130; have hq11 := of_decide_eq_false hc135; have hq12 := of_decide_eq_false hc140; have hq13 := of_decide_eq_false hc147; have hq14 := of_decide_eq_false hc152; have hq15 := of_decide_eq_false hc157; have hq16 := of_decide_eq_false hc164; have hq17 := of_decide_eq_false hc168; have hq18 := of_decide_eq_true hc172; have hq19 := of_decide_eq_false hc174; unfold Lib.decodeN; (repeat' split) <;> first | with_reducible rfl | (exfalso; omega) | (refine Prod.ext ?_ ?_ <;> dsimp only <;> omega)) (by have z0 := byte_lt (l.getD p 0); have z1 := byte_lt (l.getD (p + 1) 0); have z2 := byte_lt (l.getD (p + 2) 0); have z3 := byte_lt (l.getD (p + 3) 0); have hq0 := of_decide_eq_false hc6; have hq1 := of_decide_eq_true hc9; have hq2 := of_decide_eq_false hc11; have hq3 := of_decide_eq_true hc49; have hq4 := of_decide_eq_false hc51; have hq5 := of_decide_eq_true hc106; have hq6 := of_decide_eq_true hc108; have hq7 := of_decide_eq_false hc113; have hq8 := of_decide_eq_false hc118; have hq9 := of_decide_eq_false hc123; have hq10 := of_decide_eq_false hc130; have hq11 := of_decide_eq_false hc135; have hq12 := of_decide_eq_false hc140; have hq13 := of_decide_eq_false hc147; have hq14 := of_decide_eq_false hc152; have hq15 := of_decide_eq_false hc157; have hq16 := of_decide_eq_false hc164; have hq17 := of_decide_eq_false hc168; have hq18 := of_decide_eq_true hc172; have hq19 := of_decide_eq_false hc174; omega))⟩
                                      ·
                                        exact absurd (of_decide_eq_false hc172) (by have := byte_lt (l.getD (p + 1) 0); have := byte_lt (l.getD (p + 2) 0); have := byte_lt (l.getD (p + 3) 0); have := byte_lt (l.getD p 0); have hq0 := of_decide_eq_false hc6; have hq1 := of_decide_eq_true hc9; have hq2 := of_decide_eq_false hc11; have hq3 := of_decide_eq_true hc49; have hq4 := of_decide_eq_false hc51; have hq5 := of_decide_eq_true hc106; have hq6 := of_decide_eq_true hc108; have hq7 := of_decide_eq_false hc113; have hq8 := of_decide_eq_false hc118; have hq9 := of_decide_eq_false hc123; have hq10 := of_decide_eq_false hc130; have hq11 := of_decide_eq_false hc135; have hq12 := of_decide_eq_false hc140; have hq13 := of_decide_eq_false hc147; have hq14 := of_decide_eq_false hc152; have hq15 := of_decide_eq_false hc157; have hq16 := of_decide_eq_false hc164; have hq17 := of_decide_eq_false hc168; omega)
              ·
                rw [hc108]
                refine cond_false_rule (b := false) (by kernel_rfl) rfl ?_
                refine wp_seq ?_
                refine region_rule ?_
                refine ops_rule (C := []) [] [] 3 [] 0 (fun φ176 => [(6, .bool false), (5, .int .i64 1), (4, .int .i64 0)]) (fun φ176 => []) (fun φ176 => []) s trivial (fun φ176 => by kernel_rfl) ?_
                intro φ176 w176 s
                refine ops_done (by kernel_rfl) ?_
                refine wp_ret ?_
                refine ret_rule (C := []) [] [] (.tuple #[.int .i64 0, .int .i64 1, .bool false]) [] [] s trivial (by kernel_rfl) ?_
                exact ⟨_, _, _, rfl, s, (sgn_bad (l := l) (p := p) (by have z0 := byte_lt (l.getD p 0); have z1 := byte_lt (l.getD (p + 1) 0); have z2 := byte_lt (l.getD (p + 2) 0); have z3 := byte_lt (l.getD (p + 3) 0); have hq0 := of_decide_eq_false hc6; have hq1 := of_decide_eq_true hc9; have hq2 := of_decide_eq_false hc11; have hq3 := of_decide_eq_true hc49; have hq4 := of_decide_eq_false hc51; have hq5 := of_decide_eq_true hc106; have hq6 := of_decide_eq_false hc108; unfold Lib.decodeN; (repeat' split) <;> first | with_reducible rfl | (exfalso; omega) | (refine Prod.ext ?_ ?_ <;> dsimp only <;> omega)))⟩
            ·
              exact absurd (of_decide_eq_false hc106) (by have := byte_lt (l.getD p 0); have hq0 := of_decide_eq_false hc6; have hq1 := of_decide_eq_true hc9; have hq2 := of_decide_eq_false hc11; have hq3 := of_decide_eq_true hc49; have hq4 := of_decide_eq_false hc51; omega)
        ·
          exact absurd (of_decide_eq_false hc49) (by have := byte_lt (l.getD p 0); have hq0 := of_decide_eq_false hc6; have hq1 := of_decide_eq_true hc9; have hq2 := of_decide_eq_false hc11; omega)
    ·
      rw [hc9]
      refine ops_rule (C := []) [] [] 4 [] 0 (fun φ177 => [(20, .bool false), (26, .bool false), (25, undef), (24, undef)]) (fun φ177 => []) (fun φ177 => []) s trivial (fun φ177 => by kernel_rfl) ?_
      intro φ177 w177 s
      refine ops_done (by kernel_rfl) ?_
      refine cond_false_rule (b := false) (by kernel_rfl) rfl ?_
      refine wp_seq ?_
      refine region_rule ?_
      refine ops_rule (C := []) [] [] 3 [] 0 (fun φ178 => [(32, .bool (decide ((((l.getD p 0).toNat : Nat) : Int) ≥ ((224 : Nat) : Int)))), (31, .bool (decide ((((l.getD p 0).toNat : Nat) : Int) ≥ ((224 : Nat) : Int)))), (30, .int .i64 (((l.getD p 0).toNat : Nat) : Int))]) (fun φ178 => []) (fun φ178 => []) s trivial (fun φ178 => by kernel_rfl) ?_
      intro φ178 w178 s
      rw [nat_geq (a := ((l.getD p 0).toNat)) (b := 224)]
      rcases Bool.eq_false_or_eq_true (decide (224 ≤ ((l.getD p 0).toNat))) with hc179 | hc179
      ·
        exact absurd (of_decide_eq_true hc179) (by have := byte_lt (l.getD p 0); have hq0 := of_decide_eq_false hc6; have hq1 := of_decide_eq_false hc9; omega)
      ·
        rw [hc179]
        refine ops_rule (C := []) [] [] 4 [] 0 (fun φ180 => [(29, .bool false), (35, .bool false), (34, undef), (33, undef)]) (fun φ180 => []) (fun φ180 => []) s trivial (fun φ180 => by kernel_rfl) ?_
        intro φ180 w180 s
        refine ops_done (by kernel_rfl) ?_
        refine cond_false_rule (b := false) (by kernel_rfl) rfl ?_
        refine wp_seq ?_
        refine region_rule ?_
        refine ops_rule (C := []) [] [] 3 [] 0 (fun φ181 => [(41, .bool (decide ((((l.getD p 0).toNat : Nat) : Int) ≥ ((240 : Nat) : Int)))), (40, .bool (decide ((((l.getD p 0).toNat : Nat) : Int) ≥ ((240 : Nat) : Int)))), (39, .int .i64 (((l.getD p 0).toNat : Nat) : Int))]) (fun φ181 => []) (fun φ181 => []) s trivial (fun φ181 => by kernel_rfl) ?_
        intro φ181 w181 s
        rw [nat_geq (a := ((l.getD p 0).toNat)) (b := 240)]
        rcases Bool.eq_false_or_eq_true (decide (240 ≤ ((l.getD p 0).toNat))) with hc182 | hc182
        ·
          exact absurd (of_decide_eq_true hc182) (by have := byte_lt (l.getD p 0); have hq0 := of_decide_eq_false hc6; have hq1 := of_decide_eq_false hc9; have hq2 := of_decide_eq_false hc179; omega)
        ·
          rw [hc182]
          refine ops_rule (C := []) [] [] 4 [] 0 (fun φ183 => [(38, .bool false), (44, .bool false), (43, undef), (42, undef)]) (fun φ183 => []) (fun φ183 => []) s trivial (fun φ183 => by kernel_rfl) ?_
          intro φ183 w183 s
          refine ops_done (by kernel_rfl) ?_
          refine cond_false_rule (b := false) (by kernel_rfl) rfl ?_
          refine wp_seq ?_
          refine region_rule ?_
          refine ops_rule (C := []) [] [] 3 [] 0 (fun φ184 => [(6, .bool false), (5, .int .i64 1), (4, .int .i64 0)]) (fun φ184 => []) (fun φ184 => []) s trivial (fun φ184 => by kernel_rfl) ?_
          intro φ184 w184 s
          refine ops_done (by kernel_rfl) ?_
          refine wp_ret ?_
          refine ret_rule (C := []) [] [] (.tuple #[.int .i64 0, .int .i64 1, .bool false]) [] [] s trivial (by kernel_rfl) ?_
          exact ⟨_, _, _, rfl, s, (sgn_bad (l := l) (p := p) (by have z0 := byte_lt (l.getD p 0); have z1 := byte_lt (l.getD (p + 1) 0); have z2 := byte_lt (l.getD (p + 2) 0); have z3 := byte_lt (l.getD (p + 3) 0); have hq0 := of_decide_eq_false hc6; have hq1 := of_decide_eq_false hc9; have hq2 := of_decide_eq_false hc179; have hq3 := of_decide_eq_false hc182; unfold Lib.decodeN; (repeat' split) <;> first | with_reducible rfl | (exfalso; omega) | (refine Prod.ext ?_ ?_ <;> dsimp only <;> omega)))⟩

end Go.Proofs.YtcpmjogeafhpnaaDoor.Tx


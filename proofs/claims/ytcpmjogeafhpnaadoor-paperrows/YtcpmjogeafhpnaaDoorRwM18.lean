/- The document's sign. -/
import Derived.Test.YtcpmjogeafhpnaaDoorRwM17
set_option linter.all false
set_option maxRecDepth 100000
namespace Go.Proofs.YtcpmjogeafhpnaaDoor.Tx
open Go.RowKit Go.Sep
attribute [local irreducible] Go.wpList Go.Code.wp

set_option maxHeartbeats 4000000 in
theorem sign_c {I : IM} {l : List UInt8} {p : Nat} (hn : l.length ≤ 1000000000) (hp : p < l.length) : Fun Tryd.prog 103 #[.string ⟨(l).toArray⟩, .int .i64 ((p : Nat) : Int)] I (fun v J => v = sgV (sgX l p) (dW l p) (!(dB l p))) := by
 refine enter_rule 101 [(0, .string ⟨(l).toArray⟩), (1, .int .i64 p)] Tryd.func103 rfl (by kernel_rfl) ?_
 intro w s
 refine seqR ?_
 refine oKD [] [] 3 [] 0 (fun φ1 => [(6, .bool false), (5, .int .i64 0), (4, .int .i64 0)]) (fun φ1 => []) s (fun φ1 => by kernel_rfl) (by kernel_rfl) ?_
 intro φ1 w1 s
 refine seqR ?_
 refine oK [] [] 2 [] 0 (fun φ2 => [(13, .int .i64 p), (12, .string ⟨(l).toArray⟩)]) (fun φ2 => []) s (fun φ2 => by kernel_rfl) ?_
 intro φ2 w2 s
 refine sem_rule (Instr.index 9 (.string ⟨(l).toArray⟩) (.int .i64 p)) (some 14) (.int .u8 (((l.getD p 0).toNat : Nat) : Int)) (by kernel_rfl) (run_idxK (s := l) (i := p) (by   (try simp only [List.length_drop, List.length_take, List.length_append, List.length_cons, List.length_nil]); omega)) ?_
 refine oK [] [] 2 [] 0 (fun φ3 => [(7, .int .i64 (IntKind.wrap .i64 (((l.getD p 0).toNat : Nat) : Int))), (15, .int .i64 (IntKind.wrap .i64 (((l.getD p 0).toNat : Nat) : Int)))]) (fun φ3 => []) s (fun φ3 => by kernel_rfl) ?_
 intro φ3 w3 s
 rw [nat_wrapI (a := ((l.getD p 0).toNat)) (by  have := byte_lt (l.getD p 0);  omega)]
 refine ops_done (by kernel_rfl) ?_
 refine seqR ?_
 refine oKD [] [] 3 [] 0 (fun φ4 => [(10, .int .i64 0), (9, .int .i64 0), (8, .int .i64 0)]) (fun φ4 => []) s (fun φ4 => by kernel_rfl) (by kernel_rfl) ?_
 intro φ4 w4 s
 refine wp_seq ?_
 refine wp_block ?_
 refine seqR ?_
 refine oK [] [] 3 [] 0 (fun φ5 => [(16, .bool (decide ((((l.getD p 0).toNat : Nat) : Int) < ((128 : Nat) : Int)))), (18, .bool (decide ((((l.getD p 0).toNat : Nat) : Int) < ((128 : Nat) : Int)))), (17, .int .i64 (((l.getD p 0).toNat : Nat) : Int))]) (fun φ5 => []) s (fun φ5 => by kernel_rfl) ?_
 intro φ5 w5 s
 rw [nat_lss (a := ((l.getD p 0).toNat)) (b := 128)]
 refine ops_done (by kernel_rfl) ?_
 rcases Bool.eq_false_or_eq_true (decide (((l.getD p 0).toNat) < 128)) with hc6 | hc6
 ·
  rw [hc6]
  refine cond_true_rule (b := true) (by kernel_rfl) rfl ?_
  refine seqR ?_
  refine oKD [] [] 4 [] 0 (fun φ7 => [(6, .bool true), (5, .int .i64 1), (4, .int .i64 (((l.getD p 0).toNat : Nat) : Int)), (19, .int .i64 (((l.getD p 0).toNat : Nat) : Int))]) (fun φ7 => []) s (fun φ7 => by kernel_rfl) (by kernel_rfl) ?_
  intro φ7 w7 s
  refine wp_ret ?_
  refine ret_rule (C := []) [] [] (.tuple #[.int .i64 (((l.getD p 0).toNat : Nat) : Int), .int .i64 1, .bool true]) [] [] s trivial (by kernel_rfl) ?_
  exact ⟨_, _, _, rfl, s, (sgn_good (l := l) (p := p) (x := (l.getD p 0).toNat) (w := 1) (by have z0 := byte_lt (l.getD p 0); have z1 := byte_lt (l.getD (p + 1) 0); have z2 := byte_lt (l.getD (p + 2) 0); have z3 := byte_lt (l.getD (p + 3) 0); have hq0 := dT9 hc6; unfold Lib.decodeN; (repeat' split) <;> first | with_reducible rfl | (exfalso; omega) | (refine Prod.ext ?_ ?_ <;> dsimp only <;> omega)) (by have z0 := byte_lt (l.getD p 0); have z1 := byte_lt (l.getD (p + 1) 0); have z2 := byte_lt (l.getD (p + 2) 0); have z3 := byte_lt (l.getD (p + 3) 0); have hq0 := dT9 hc6; omega))⟩
 ·
  rw [hc6]
  refine cond_false_rule (b := false) (by kernel_rfl) rfl ?_
  refine seqR ?_
  refine oK [] [] 3 [] 0 (fun φ8 => [(23, .bool (decide ((((l.getD p 0).toNat : Nat) : Int) ≥ ((192 : Nat) : Int)))), (22, .bool (decide ((((l.getD p 0).toNat : Nat) : Int) ≥ ((192 : Nat) : Int)))), (21, .int .i64 (((l.getD p 0).toNat : Nat) : Int))]) (fun φ8 => []) s (fun φ8 => by kernel_rfl) ?_
  intro φ8 w8 s
  rw [nat_geq (a := ((l.getD p 0).toNat)) (b := 192)]
  rcases Bool.eq_false_or_eq_true (decide (192 ≤ ((l.getD p 0).toNat))) with hc9 | hc9
  ·
   rw [hc9]
   refine oK [] [] 4 [] 0 (fun φ10 => [(20, .bool (decide ((((l.getD p 0).toNat : Nat) : Int) < ((224 : Nat) : Int)))), (26, .bool (decide ((((l.getD p 0).toNat : Nat) : Int) < ((224 : Nat) : Int)))), (25, .bool (decide ((((l.getD p 0).toNat : Nat) : Int) < ((224 : Nat) : Int)))), (24, .int .i64 (((l.getD p 0).toNat : Nat) : Int))]) (fun φ10 => []) s (fun φ10 => by kernel_rfl) ?_
   intro φ10 w10 s
   rw [nat_lss (a := ((l.getD p 0).toNat)) (b := 224)]
   refine ops_done (by kernel_rfl) ?_
   rcases Bool.eq_false_or_eq_true (decide (((l.getD p 0).toNat) < 224)) with hc11 | hc11
   ·
    rw [hc11]
    refine cond_true_rule (b := true) (by kernel_rfl) rfl ?_
    refine region_rule ?_
    refine oK [] [] 5 [] 0 (fun φ12 => [(10, .int .i64 (IntKind.wrap .i64 ((((l.getD p 0).toNat : Nat) : Int) - ((192 : Nat) : Int)))), (9, .int .i64 128), (8, .int .i64 2), (28, .int .i64 (IntKind.wrap .i64 ((((l.getD p 0).toNat : Nat) : Int) - ((192 : Nat) : Int)))), (27, .int .i64 (((l.getD p 0).toNat : Nat) : Int))]) (fun φ12 => []) s (fun φ12 => by kernel_rfl) ?_
    intro φ12 w12 s
    rw [nat_subI (a := ((l.getD p 0).toNat)) (b := 192) (by  have := byte_lt (l.getD p 0); have hq0 := dF9 hc6; have hq1 := dT9 hc9; have hq2 := dT9 hc11; omega) (by  have := byte_lt (l.getD p 0); have hq0 := dF9 hc6; have hq1 := dT9 hc9; have hq2 := dT9 hc11; omega)]
    refine ops_done (by kernel_rfl) ?_
    refine wp_seq ?_
    refine seqR ?_
    refine oKD [] [] 1 [] 0 (fun φ13 => [(11, .int .i64 1)]) (fun φ13 => []) s (fun φ13 => by kernel_rfl) (by kernel_rfl) ?_
    intro φ13 w13 s
    refine wp_block ?_
    refine Go.wp_loop_rounds 5 ?_
    refine rounds_step (n := 4) ?_
    refine wp_seq ?_
    refine seqR ?_
    refine oKD [] [] 3 [] 0 (fun φ14 => [(49, .bool true), (48, .int .i64 2), (47, .int .i64 1)]) (fun φ14 => []) s (fun φ14 => by kernel_rfl) (by kernel_rfl) ?_
    intro φ14 w14 s
    refine cond_true_rule (b := true) (by kernel_rfl) rfl ?_
    refine wp_skip ?_
    refine wp_seq ?_
    refine wp_block ?_
    refine wp_seq ?_
    refine seqR ?_
    refine oK [] [] 7 [] 0 (fun φ15 => [(58, .bool (decide ((IntKind.wrap .i64 (((p : Nat) : Int) + ((1 : Nat) : Int))) ≥ (((l).length : Nat) : Int)))), (57, .bool (decide ((IntKind.wrap .i64 (((p : Nat) : Int) + ((1 : Nat) : Int))) ≥ (((l).length : Nat) : Int)))), (56, .int .i64 (((l).length : Nat) : Int)), (55, .string ⟨(l).toArray⟩), (54, .int .i64 (IntKind.wrap .i64 (((p : Nat) : Int) + ((1 : Nat) : Int)))), (53, .int .i64 1), (52, .int .i64 p)]) (fun φ15 => []) s (fun φ15 => by kernel_rfl) ?_
    intro φ15 w15 s
    rw [nat_addI (a := p) (b := 1) (by  have hq0 := dF9 hc6; have hq1 := dT9 hc9; have hq2 := dT9 hc11; omega)]
    rw [nat_geq (a := (p + 1)) (b := ((l).length))]
    rcases Bool.eq_false_or_eq_true (decide (((l).length) ≤ (p + 1))) with hc16 | hc16
    ·
     rw [hc16]
     refine oKD [] [] 15 [] 0 (fun φ17 => [(73, .bool true), (72, undef), (71, undef), (70, undef), (69, undef), (68, undef), (67, undef), (66, .bool true), (65, .bool true), (64, undef), (63, undef), (62, undef), (61, undef), (60, undef), (59, undef)]) (fun φ17 => []) s (fun φ17 => by kernel_rfl) (by kernel_rfl) ?_
     intro φ17 w17 s
     refine cond_true_rule (b := true) (by kernel_rfl) rfl ?_
     refine seqR ?_
     refine oKD [] [] 3 [] 0 (fun φ18 => [(6, .bool false), (5, .int .i64 1), (4, .int .i64 0)]) (fun φ18 => []) s (fun φ18 => by kernel_rfl) (by kernel_rfl) ?_
     intro φ18 w18 s
     refine wp_ret ?_
     refine ret_rule (C := []) [] [] (.tuple #[.int .i64 0, .int .i64 1, .bool false]) [] [] s trivial (by kernel_rfl) ?_
     exact ⟨_, _, _, rfl, s, (sgn_bad (l := l) (p := p) (by have z0 := byte_lt (l.getD p 0); have z1 := byte_lt (l.getD (p + 1) 0); have z2 := byte_lt (l.getD (p + 2) 0); have z3 := byte_lt (l.getD (p + 3) 0); have hq0 := dF9 hc6; have hq1 := dT9 hc9; have hq2 := dT9 hc11; have hq3 := dT9 hc16; unfold Lib.decodeN; (repeat' split) <;> first | with_reducible rfl | (exfalso; omega) | (refine Prod.ext ?_ ?_ <;> dsimp only <;> omega)))⟩
    ·
     rw [hc16]
     refine oK [] [] 4 [] 0 (fun φ19 => [(62, .int .i64 (IntKind.wrap .i64 (((p : Nat) : Int) + ((1 : Nat) : Int)))), (61, .int .i64 1), (60, .int .i64 p), (59, .string ⟨(l).toArray⟩)]) (fun φ19 => []) s (fun φ19 => by kernel_rfl) ?_
     intro φ19 w19 s
     rw [nat_addI (a := p) (b := 1) (by  have hq0 := dF9 hc6; have hq1 := dT9 hc9; have hq2 := dT9 hc11; have hq3 := dF9 hc16; omega)]
     refine sem_rule (Instr.index 9 (.string ⟨(l).toArray⟩) (.int .i64 ((p + 1 : Nat) : Int))) (some 63) (.int .u8 (((l.getD (p + 1) 0).toNat : Nat) : Int)) (by kernel_rfl) (run_idxK (s := l) (i := p + 1) (by  have hq0 := dF9 hc6; have hq1 := dT9 hc9; have hq2 := dT9 hc11; have hq3 := dF9 hc16; (try simp only [List.length_drop, List.length_take, List.length_append, List.length_cons, List.length_nil]); omega)) ?_
     refine oK [] [] 3 [] 0 (fun φ20 => [(66, .bool (decide ((((l.getD (p + 1) 0).toNat : Nat) : Int) < ((128 : Nat) : Int)))), (65, .bool (decide ((((l.getD (p + 1) 0).toNat : Nat) : Int) < ((128 : Nat) : Int)))), (64, .bool (decide ((((l.getD (p + 1) 0).toNat : Nat) : Int) < ((128 : Nat) : Int))))]) (fun φ20 => []) s (fun φ20 => by kernel_rfl) ?_
     intro φ20 w20 s
     rw [nat_lss (a := ((l.getD (p + 1) 0).toNat)) (b := 128)]
     rcases Bool.eq_false_or_eq_true (decide (((l.getD (p + 1) 0).toNat) < 128)) with hc21 | hc21
     ·
      rw [hc21]
      refine oKD [] [] 7 [] 0 (fun φ22 => [(73, .bool true), (72, undef), (71, undef), (70, undef), (69, undef), (68, undef), (67, undef)]) (fun φ22 => []) s (fun φ22 => by kernel_rfl) (by kernel_rfl) ?_
      intro φ22 w22 s
      refine cond_true_rule (b := true) (by kernel_rfl) rfl ?_
      refine seqR ?_
      refine oKD [] [] 3 [] 0 (fun φ23 => [(6, .bool false), (5, .int .i64 1), (4, .int .i64 0)]) (fun φ23 => []) s (fun φ23 => by kernel_rfl) (by kernel_rfl) ?_
      intro φ23 w23 s
      refine wp_ret ?_
      refine ret_rule (C := []) [] [] (.tuple #[.int .i64 0, .int .i64 1, .bool false]) [] [] s trivial (by kernel_rfl) ?_
      exact ⟨_, _, _, rfl, s, (sgn_bad (l := l) (p := p) (by have z0 := byte_lt (l.getD p 0); have z1 := byte_lt (l.getD (p + 1) 0); have z2 := byte_lt (l.getD (p + 2) 0); have z3 := byte_lt (l.getD (p + 3) 0); have hq0 := dF9 hc6; have hq1 := dT9 hc9; have hq2 := dT9 hc11; have hq3 := dF9 hc16; have hq4 := dT9 hc21; unfold Lib.decodeN; (repeat' split) <;> first | with_reducible rfl | (exfalso; omega) | (refine Prod.ext ?_ ?_ <;> dsimp only <;> omega)))⟩
     ·
      rw [hc21]
      refine oK [] [] 4 [] 0 (fun φ24 => [(70, .int .i64 (IntKind.wrap .i64 (((p : Nat) : Int) + ((1 : Nat) : Int)))), (69, .int .i64 1), (68, .int .i64 p), (67, .string ⟨(l).toArray⟩)]) (fun φ24 => []) s (fun φ24 => by kernel_rfl) ?_
      intro φ24 w24 s
      rw [nat_addI (a := p) (b := 1) (by  have hq0 := dF9 hc6; have hq1 := dT9 hc9; have hq2 := dT9 hc11; have hq3 := dF9 hc16; have hq4 := dF9 hc21; omega)]
      refine sem_rule (Instr.index 9 (.string ⟨(l).toArray⟩) (.int .i64 ((p + 1 : Nat) : Int))) (some 71) (.int .u8 (((l.getD (p + 1) 0).toNat : Nat) : Int)) (by kernel_rfl) (run_idxK (s := l) (i := p + 1) (by  have hq0 := dF9 hc6; have hq1 := dT9 hc9; have hq2 := dT9 hc11; have hq3 := dF9 hc16; have hq4 := dF9 hc21; (try simp only [List.length_drop, List.length_take, List.length_append, List.length_cons, List.length_nil]); omega)) ?_
      refine oK [] [] 2 [] 0 (fun φ25 => [(73, .bool (decide ((((l.getD (p + 1) 0).toNat : Nat) : Int) > ((191 : Nat) : Int)))), (72, .bool (decide ((((l.getD (p + 1) 0).toNat : Nat) : Int) > ((191 : Nat) : Int))))]) (fun φ25 => []) s (fun φ25 => by kernel_rfl) ?_
      intro φ25 w25 s
      rw [nat_gtr (a := ((l.getD (p + 1) 0).toNat)) (b := 191)]
      refine ops_done (by kernel_rfl) ?_
      rcases Bool.eq_false_or_eq_true (decide (191 < ((l.getD (p + 1) 0).toNat))) with hc26 | hc26
      ·
       rw [hc26]
       refine cond_true_rule (b := true) (by kernel_rfl) rfl ?_
       refine seqR ?_
       refine oKD [] [] 3 [] 0 (fun φ27 => [(6, .bool false), (5, .int .i64 1), (4, .int .i64 0)]) (fun φ27 => []) s (fun φ27 => by kernel_rfl) (by kernel_rfl) ?_
       intro φ27 w27 s
       refine wp_ret ?_
       refine ret_rule (C := []) [] [] (.tuple #[.int .i64 0, .int .i64 1, .bool false]) [] [] s trivial (by kernel_rfl) ?_
       exact ⟨_, _, _, rfl, s, (sgn_bad (l := l) (p := p) (by have z0 := byte_lt (l.getD p 0); have z1 := byte_lt (l.getD (p + 1) 0); have z2 := byte_lt (l.getD (p + 2) 0); have z3 := byte_lt (l.getD (p + 3) 0); have hq0 := dF9 hc6; have hq1 := dT9 hc9; have hq2 := dT9 hc11; have hq3 := dF9 hc16; have hq4 := dF9 hc21; have hq5 := dT9 hc26; unfold Lib.decodeN; (repeat' split) <;> first | with_reducible rfl | (exfalso; omega) | (refine Prod.ext ?_ ?_ <;> dsimp only <;> omega)))⟩
      ·
       rw [hc26]
       refine cond_false_rule (b := false) (by kernel_rfl) rfl ?_
       refine wp_skip ?_
       refine region_rule ?_
       refine oK [] [] 6 [] 0 (fun φ28 => [(79, .int .i64 (IntKind.wrap .i64 (((p : Nat) : Int) + ((1 : Nat) : Int)))), (78, .int .i64 1), (77, .int .i64 p), (76, .string ⟨(l).toArray⟩), (75, .int .i64 (IntKind.wrap .i64 (((64 : Nat) : Int) * ((((l.getD p 0).toNat) - 192 : Nat) : Int)))), (74, .int .i64 ((((l.getD p 0).toNat) - 192 : Nat) : Int))]) (fun φ28 => []) s (fun φ28 => by kernel_rfl) ?_
       intro φ28 w28 s
       rw [nat_addI (a := p) (b := 1) (by  have hq0 := dF9 hc6; have hq1 := dT9 hc9; have hq2 := dT9 hc11; have hq3 := dF9 hc16; have hq4 := dF9 hc21; have hq5 := dF9 hc26; omega)]
       rw [nat_mulI (a := 64) (b := (((l.getD p 0).toNat) - 192)) (by  have := byte_lt (l.getD p 0); have hq0 := dF9 hc6; have hq1 := dT9 hc9; have hq2 := dT9 hc11; have hq3 := dF9 hc16; have hq4 := dF9 hc21; have hq5 := dF9 hc26; omega)]
       refine sem_rule (Instr.index 9 (.string ⟨(l).toArray⟩) (.int .i64 ((p + 1 : Nat) : Int))) (some 80) (.int .u8 (((l.getD (p + 1) 0).toNat : Nat) : Int)) (by kernel_rfl) (run_idxK (s := l) (i := p + 1) (by  have hq0 := dF9 hc6; have hq1 := dT9 hc9; have hq2 := dT9 hc11; have hq3 := dF9 hc16; have hq4 := dF9 hc21; have hq5 := dF9 hc26; (try simp only [List.length_drop, List.length_take, List.length_append, List.length_cons, List.length_nil]); omega)) ?_
       refine oK [] [] 4 [] 0 (fun φ29 => [(10, .int .i64 (IntKind.wrap .i64 ((IntKind.wrap .i64 (((64 * (((l.getD p 0).toNat) - 192) : Nat) : Int) + (IntKind.wrap .i64 (((l.getD (p + 1) 0).toNat : Nat) : Int)))) - ((128 : Nat) : Int)))), (83, .int .i64 (IntKind.wrap .i64 ((IntKind.wrap .i64 (((64 * (((l.getD p 0).toNat) - 192) : Nat) : Int) + (IntKind.wrap .i64 (((l.getD (p + 1) 0).toNat : Nat) : Int)))) - ((128 : Nat) : Int)))), (82, .int .i64 (IntKind.wrap .i64 (((64 * (((l.getD p 0).toNat) - 192) : Nat) : Int) + (IntKind.wrap .i64 (((l.getD (p + 1) 0).toNat : Nat) : Int))))), (81, .int .i64 (IntKind.wrap .i64 (((l.getD (p + 1) 0).toNat : Nat) : Int)))]) (fun φ29 => []) s (fun φ29 => by kernel_rfl) ?_
       intro φ29 w29 s
       rw [nat_wrapI (a := ((l.getD (p + 1) 0).toNat)) (by  have := byte_lt (l.getD (p + 1) 0); have hq0 := dF9 hc6; have hq1 := dT9 hc9; have hq2 := dT9 hc11; have hq3 := dF9 hc16; have hq4 := dF9 hc21; have hq5 := dF9 hc26; omega)]
       rw [nat_addI (a := (64 * (((l.getD p 0).toNat) - 192))) (b := ((l.getD (p + 1) 0).toNat)) (by  have := byte_lt (l.getD (p + 1) 0); have := byte_lt (l.getD p 0); have hq0 := dF9 hc6; have hq1 := dT9 hc9; have hq2 := dT9 hc11; have hq3 := dF9 hc16; have hq4 := dF9 hc21; have hq5 := dF9 hc26; omega)]
       rw [nat_subI (a := ((64 * (((l.getD p 0).toNat) - 192)) + ((l.getD (p + 1) 0).toNat))) (b := 128) (by  have := byte_lt (l.getD (p + 1) 0); have := byte_lt (l.getD p 0); have hq0 := dF9 hc6; have hq1 := dT9 hc9; have hq2 := dT9 hc11; have hq3 := dF9 hc16; have hq4 := dF9 hc21; have hq5 := dF9 hc26; omega) (by  have := byte_lt (l.getD (p + 1) 0); have := byte_lt (l.getD p 0); have hq0 := dF9 hc6; have hq1 := dT9 hc9; have hq2 := dT9 hc11; have hq3 := dF9 hc16; have hq4 := dF9 hc21; have hq5 := dF9 hc26; omega)]
       refine ops_done (by kernel_rfl) ?_
       refine region_rule ?_
       refine oKD [] [] 3 [] 0 (fun φ30 => [(11, .int .i64 2), (51, .int .i64 2), (50, .int .i64 1)]) (fun φ30 => []) s (fun φ30 => by kernel_rfl) (by kernel_rfl) ?_
       intro φ30 w30 s
       refine rounds_step (n := 3) ?_
       refine wp_seq ?_
       refine seqR ?_
       refine oKD [] [] 3 [] 0 (fun φ31 => [(49, .bool false), (48, .int .i64 2), (47, .int .i64 2)]) (fun φ31 => []) s (fun φ31 => by kernel_rfl) (by kernel_rfl) ?_
       intro φ31 w31 s
       refine cond_false_rule (b := false) (by kernel_rfl) rfl ?_
       refine wp_exit ?_
       refine wp_seq ?_
       refine seqR ?_
       refine oK [] [] 4 [] 0 (fun φ32 => [(87, .bool (decide (((((64 * (((l.getD p 0).toNat) - 192)) + ((l.getD (p + 1) 0).toNat)) - 128 : Nat) : Int) < ((128 : Nat) : Int)))), (86, .bool (decide (((((64 * (((l.getD p 0).toNat) - 192)) + ((l.getD (p + 1) 0).toNat)) - 128 : Nat) : Int) < ((128 : Nat) : Int)))), (85, .int .i64 128), (84, .int .i64 ((((64 * (((l.getD p 0).toNat) - 192)) + ((l.getD (p + 1) 0).toNat)) - 128 : Nat) : Int))]) (fun φ32 => []) s (fun φ32 => by kernel_rfl) ?_
       intro φ32 w32 s
       rw [nat_lss (a := (((64 * (((l.getD p 0).toNat) - 192)) + ((l.getD (p + 1) 0).toNat)) - 128)) (b := 128)]
       rcases Bool.eq_false_or_eq_true (decide ((((64 * (((l.getD p 0).toNat) - 192)) + ((l.getD (p + 1) 0).toNat)) - 128) < 128)) with hc33 | hc33
       ·
        rw [hc33]
        refine oKD [] [] 11 [] 0 (fun φ34 => [(98, .bool true), (97, undef), (96, undef), (95, undef), (94, undef), (93, undef), (92, undef), (91, .bool true), (90, .bool true), (89, undef), (88, undef)]) (fun φ34 => []) s (fun φ34 => by kernel_rfl) (by kernel_rfl) ?_
        intro φ34 w34 s
        refine cond_true_rule (b := true) (by kernel_rfl) rfl ?_
        refine seqR ?_
        refine oKD [] [] 3 [] 0 (fun φ35 => [(6, .bool false), (5, .int .i64 1), (4, .int .i64 0)]) (fun φ35 => []) s (fun φ35 => by kernel_rfl) (by kernel_rfl) ?_
        intro φ35 w35 s
        refine wp_ret ?_
        refine ret_rule (C := []) [] [] (.tuple #[.int .i64 0, .int .i64 1, .bool false]) [] [] s trivial (by kernel_rfl) ?_
        exact ⟨_, _, _, rfl, s, (sgn_bad (l := l) (p := p) (by have z0 := byte_lt (l.getD p 0); have z1 := byte_lt (l.getD (p + 1) 0); have z2 := byte_lt (l.getD (p + 2) 0); have z3 := byte_lt (l.getD (p + 3) 0); have hq0 := dF9 hc6; have hq1 := dT9 hc9; have hq2 := dT9 hc11; have hq3 := dF9 hc16; have hq4 := dF9 hc21; have hq5 := dF9 hc26; have hq6 := dT9 hc33; unfold Lib.decodeN; (repeat' split) <;> first | with_reducible rfl | (exfalso; omega) | (refine Prod.ext ?_ ?_ <;> dsimp only <;> omega)))⟩
       ·
        rw [hc33]
        refine oK [] [] 4 [] 0 (fun φ36 => [(91, .bool (decide (((((64 * (((l.getD p 0).toNat) - 192)) + ((l.getD (p + 1) 0).toNat)) - 128 : Nat) : Int) > ((1114111 : Nat) : Int)))), (90, .bool (decide (((((64 * (((l.getD p 0).toNat) - 192)) + ((l.getD (p + 1) 0).toNat)) - 128 : Nat) : Int) > ((1114111 : Nat) : Int)))), (89, .bool (decide (((((64 * (((l.getD p 0).toNat) - 192)) + ((l.getD (p + 1) 0).toNat)) - 128 : Nat) : Int) > ((1114111 : Nat) : Int)))), (88, .int .i64 ((((64 * (((l.getD p 0).toNat) - 192)) + ((l.getD (p + 1) 0).toNat)) - 128 : Nat) : Int))]) (fun φ36 => []) s (fun φ36 => by kernel_rfl) ?_
        intro φ36 w36 s
        rw [nat_gtr (a := (((64 * (((l.getD p 0).toNat) - 192)) + ((l.getD (p + 1) 0).toNat)) - 128)) (b := 1114111)]
        rcases Bool.eq_false_or_eq_true (decide (1114111 < (((64 * (((l.getD p 0).toNat) - 192)) + ((l.getD (p + 1) 0).toNat)) - 128))) with hc37 | hc37
        ·
         rw [hc37]
         refine oKD [] [] 7 [] 0 (fun φ38 => [(98, .bool true), (97, undef), (96, undef), (95, undef), (94, undef), (93, undef), (92, undef)]) (fun φ38 => []) s (fun φ38 => by kernel_rfl) (by kernel_rfl) ?_
         intro φ38 w38 s
         refine cond_true_rule (b := true) (by kernel_rfl) rfl ?_
         refine seqR ?_
         refine oKD [] [] 3 [] 0 (fun φ39 => [(6, .bool false), (5, .int .i64 1), (4, .int .i64 0)]) (fun φ39 => []) s (fun φ39 => by kernel_rfl) (by kernel_rfl) ?_
         intro φ39 w39 s
         refine wp_ret ?_
         refine ret_rule (C := []) [] [] (.tuple #[.int .i64 0, .int .i64 1, .bool false]) [] [] s trivial (by kernel_rfl) ?_
         exact ⟨_, _, _, rfl, s, (sgn_bad (l := l) (p := p) (by have z0 := byte_lt (l.getD p 0); have z1 := byte_lt (l.getD (p + 1) 0); have z2 := byte_lt (l.getD (p + 2) 0); have z3 := byte_lt (l.getD (p + 3) 0); have hq0 := dF9 hc6; have hq1 := dT9 hc9; have hq2 := dT9 hc11; have hq3 := dF9 hc16; have hq4 := dF9 hc21; have hq5 := dF9 hc26; have hq6 := dF9 hc33; have hq7 := dT9 hc37; unfold Lib.decodeN; (repeat' split) <;> first | with_reducible rfl | (exfalso; omega) | (refine Prod.ext ?_ ?_ <;> dsimp only <;> omega)))⟩
        ·
         rw [hc37]
         refine oK [] [] 3 [] 0 (fun φ40 => [(94, .bool (decide (((((64 * (((l.getD p 0).toNat) - 192)) + ((l.getD (p + 1) 0).toNat)) - 128 : Nat) : Int) ≥ ((55296 : Nat) : Int)))), (93, .bool (decide (((((64 * (((l.getD p 0).toNat) - 192)) + ((l.getD (p + 1) 0).toNat)) - 128 : Nat) : Int) ≥ ((55296 : Nat) : Int)))), (92, .int .i64 ((((64 * (((l.getD p 0).toNat) - 192)) + ((l.getD (p + 1) 0).toNat)) - 128 : Nat) : Int))]) (fun φ40 => []) s (fun φ40 => by kernel_rfl) ?_
         intro φ40 w40 s
         rw [nat_geq (a := (((64 * (((l.getD p 0).toNat) - 192)) + ((l.getD (p + 1) 0).toNat)) - 128)) (b := 55296)]
         rcases Bool.eq_false_or_eq_true (decide (55296 ≤ (((64 * (((l.getD p 0).toNat) - 192)) + ((l.getD (p + 1) 0).toNat)) - 128))) with hc41 | hc41
         ·
          rw [hc41]
          refine oK [] [] 4 [] 0 (fun φ42 => [(98, .bool (decide (((((64 * (((l.getD p 0).toNat) - 192)) + ((l.getD (p + 1) 0).toNat)) - 128 : Nat) : Int) < ((57344 : Nat) : Int)))), (97, .bool (decide (((((64 * (((l.getD p 0).toNat) - 192)) + ((l.getD (p + 1) 0).toNat)) - 128 : Nat) : Int) < ((57344 : Nat) : Int)))), (96, .bool (decide (((((64 * (((l.getD p 0).toNat) - 192)) + ((l.getD (p + 1) 0).toNat)) - 128 : Nat) : Int) < ((57344 : Nat) : Int)))), (95, .int .i64 ((((64 * (((l.getD p 0).toNat) - 192)) + ((l.getD (p + 1) 0).toNat)) - 128 : Nat) : Int))]) (fun φ42 => []) s (fun φ42 => by kernel_rfl) ?_
          intro φ42 w42 s
          rw [nat_lss (a := (((64 * (((l.getD p 0).toNat) - 192)) + ((l.getD (p + 1) 0).toNat)) - 128)) (b := 57344)]
          refine ops_done (by kernel_rfl) ?_
          rcases Bool.eq_false_or_eq_true (decide ((((64 * (((l.getD p 0).toNat) - 192)) + ((l.getD (p + 1) 0).toNat)) - 128) < 57344)) with hc43 | hc43
          ·
           rw [hc43]
           refine cond_true_rule (b := true) (by kernel_rfl) rfl ?_
           refine seqR ?_
           refine oKD [] [] 3 [] 0 (fun φ44 => [(6, .bool false), (5, .int .i64 1), (4, .int .i64 0)]) (fun φ44 => []) s (fun φ44 => by kernel_rfl) (by kernel_rfl) ?_
           intro φ44 w44 s
           refine wp_ret ?_
           refine ret_rule (C := []) [] [] (.tuple #[.int .i64 0, .int .i64 1, .bool false]) [] [] s trivial (by kernel_rfl) ?_
           exact ⟨_, _, _, rfl, s, (sgn_bad (l := l) (p := p) (by have z0 := byte_lt (l.getD p 0); have z1 := byte_lt (l.getD (p + 1) 0); have z2 := byte_lt (l.getD (p + 2) 0); have z3 := byte_lt (l.getD (p + 3) 0); have hq0 := dF9 hc6; have hq1 := dT9 hc9; have hq2 := dT9 hc11; have hq3 := dF9 hc16; have hq4 := dF9 hc21; have hq5 := dF9 hc26; have hq6 := dF9 hc33; have hq7 := dF9 hc37; have hq8 := dT9 hc41; have hq9 := dT9 hc43; unfold Lib.decodeN; (repeat' split) <;> first | with_reducible rfl | (exfalso; omega) | (refine Prod.ext ?_ ?_ <;> dsimp only <;> omega)))⟩
          ·
           rw [hc43]
           refine cond_false_rule (b := false) (by kernel_rfl) rfl ?_
           refine wp_skip ?_
           refine seqR ?_
           refine oKD [] [] 5 [] 0 (fun φ45 => [(6, .bool true), (5, .int .i64 2), (4, .int .i64 ((((64 * (((l.getD p 0).toNat) - 192)) + ((l.getD (p + 1) 0).toNat)) - 128 : Nat) : Int)), (100, .int .i64 2), (99, .int .i64 ((((64 * (((l.getD p 0).toNat) - 192)) + ((l.getD (p + 1) 0).toNat)) - 128 : Nat) : Int))]) (fun φ45 => []) s (fun φ45 => by kernel_rfl) (by kernel_rfl) ?_
           intro φ45 w45 s
           refine wp_ret ?_
           refine ret_rule (C := []) [] [] (.tuple #[.int .i64 ((((64 * (((l.getD p 0).toNat) - 192)) + ((l.getD (p + 1) 0).toNat)) - 128 : Nat) : Int), .int .i64 2, .bool true]) [] [] s trivial (by kernel_rfl) ?_
           exact ⟨_, _, _, rfl, s, (sgn_good (l := l) (p := p) (x := ((64 * (((l.getD p 0).toNat) - 192)) + ((l.getD (p + 1) 0).toNat)) - 128) (w := 2) (by have z0 := byte_lt (l.getD p 0); have z1 := byte_lt (l.getD (p + 1) 0); have z2 := byte_lt (l.getD (p + 2) 0); have z3 := byte_lt (l.getD (p + 3) 0); have hq0 := dF9 hc6; have hq1 := dT9 hc9; have hq2 := dT9 hc11; have hq3 := dF9 hc16; have hq4 := dF9 hc21; have hq5 := dF9 hc26; have hq6 := dF9 hc33; have hq7 := dF9 hc37; have hq8 := dT9 hc41; have hq9 := dF9 hc43; unfold Lib.decodeN; (repeat' split) <;> first | with_reducible rfl | (exfalso; omega) | (refine Prod.ext ?_ ?_ <;> dsimp only <;> omega)) (by have z0 := byte_lt (l.getD p 0); have z1 := byte_lt (l.getD (p + 1) 0); have z2 := byte_lt (l.getD (p + 2) 0); have z3 := byte_lt (l.getD (p + 3) 0); have hq0 := dF9 hc6; have hq1 := dT9 hc9; have hq2 := dT9 hc11; have hq3 := dF9 hc16; have hq4 := dF9 hc21; have hq5 := dF9 hc26; have hq6 := dF9 hc33; have hq7 := dF9 hc37; have hq8 := dT9 hc41; have hq9 := dF9 hc43; omega))⟩
         ·
          rw [hc41]
          refine oKD [] [] 4 [] 0 (fun φ46 => [(98, .bool false), (97, .bool false), (96, undef), (95, undef)]) (fun φ46 => []) s (fun φ46 => by kernel_rfl) (by kernel_rfl) ?_
          intro φ46 w46 s
          refine cond_false_rule (b := false) (by kernel_rfl) rfl ?_
          refine wp_skip ?_
          refine seqR ?_
          refine oKD [] [] 5 [] 0 (fun φ47 => [(6, .bool true), (5, .int .i64 2), (4, .int .i64 ((((64 * (((l.getD p 0).toNat) - 192)) + ((l.getD (p + 1) 0).toNat)) - 128 : Nat) : Int)), (100, .int .i64 2), (99, .int .i64 ((((64 * (((l.getD p 0).toNat) - 192)) + ((l.getD (p + 1) 0).toNat)) - 128 : Nat) : Int))]) (fun φ47 => []) s (fun φ47 => by kernel_rfl) (by kernel_rfl) ?_
          intro φ47 w47 s
          refine wp_ret ?_
          refine ret_rule (C := []) [] [] (.tuple #[.int .i64 ((((64 * (((l.getD p 0).toNat) - 192)) + ((l.getD (p + 1) 0).toNat)) - 128 : Nat) : Int), .int .i64 2, .bool true]) [] [] s trivial (by kernel_rfl) ?_
          exact ⟨_, _, _, rfl, s, (sgn_good (l := l) (p := p) (x := ((64 * (((l.getD p 0).toNat) - 192)) + ((l.getD (p + 1) 0).toNat)) - 128) (w := 2) (by have z0 := byte_lt (l.getD p 0); have z1 := byte_lt (l.getD (p + 1) 0); have z2 := byte_lt (l.getD (p + 2) 0); have z3 := byte_lt (l.getD (p + 3) 0); have hq0 := dF9 hc6; have hq1 := dT9 hc9; have hq2 := dT9 hc11; have hq3 := dF9 hc16; have hq4 := dF9 hc21; have hq5 := dF9 hc26; have hq6 := dF9 hc33; have hq7 := dF9 hc37; have hq8 := dF9 hc41; unfold Lib.decodeN; (repeat' split) <;> first | with_reducible rfl | (exfalso; omega) | (refine Prod.ext ?_ ?_ <;> dsimp only <;> omega)) (by have z0 := byte_lt (l.getD p 0); have z1 := byte_lt (l.getD (p + 1) 0); have z2 := byte_lt (l.getD (p + 2) 0); have z3 := byte_lt (l.getD (p + 3) 0); have hq0 := dF9 hc6; have hq1 := dT9 hc9; have hq2 := dT9 hc11; have hq3 := dF9 hc16; have hq4 := dF9 hc21; have hq5 := dF9 hc26; have hq6 := dF9 hc33; have hq7 := dF9 hc37; have hq8 := dF9 hc41; omega))⟩
   ·
    rw [hc11]
    refine cond_false_rule (b := false) (by kernel_rfl) rfl ?_
    refine seqR ?_
    refine oK [] [] 3 [] 0 (fun φ48 => [(32, .bool (decide ((((l.getD p 0).toNat : Nat) : Int) ≥ ((224 : Nat) : Int)))), (31, .bool (decide ((((l.getD p 0).toNat : Nat) : Int) ≥ ((224 : Nat) : Int)))), (30, .int .i64 (((l.getD p 0).toNat : Nat) : Int))]) (fun φ48 => []) s (fun φ48 => by kernel_rfl) ?_
    intro φ48 w48 s
    rw [nat_geq (a := ((l.getD p 0).toNat)) (b := 224)]
    rcases Bool.eq_false_or_eq_true (decide (224 ≤ ((l.getD p 0).toNat))) with hc49 | hc49
    ·
     rw [hc49]
     refine oK [] [] 4 [] 0 (fun φ50 => [(29, .bool (decide ((((l.getD p 0).toNat : Nat) : Int) < ((240 : Nat) : Int)))), (35, .bool (decide ((((l.getD p 0).toNat : Nat) : Int) < ((240 : Nat) : Int)))), (34, .bool (decide ((((l.getD p 0).toNat : Nat) : Int) < ((240 : Nat) : Int)))), (33, .int .i64 (((l.getD p 0).toNat : Nat) : Int))]) (fun φ50 => []) s (fun φ50 => by kernel_rfl) ?_
     intro φ50 w50 s
     rw [nat_lss (a := ((l.getD p 0).toNat)) (b := 240)]
     refine ops_done (by kernel_rfl) ?_
     rcases Bool.eq_false_or_eq_true (decide (((l.getD p 0).toNat) < 240)) with hc51 | hc51
     ·
      rw [hc51]
      refine cond_true_rule (b := true) (by kernel_rfl) rfl ?_
      refine region_rule ?_
      refine oK [] [] 5 [] 0 (fun φ52 => [(10, .int .i64 (IntKind.wrap .i64 ((((l.getD p 0).toNat : Nat) : Int) - ((224 : Nat) : Int)))), (9, .int .i64 2048), (8, .int .i64 3), (37, .int .i64 (IntKind.wrap .i64 ((((l.getD p 0).toNat : Nat) : Int) - ((224 : Nat) : Int)))), (36, .int .i64 (((l.getD p 0).toNat : Nat) : Int))]) (fun φ52 => []) s (fun φ52 => by kernel_rfl) ?_
      intro φ52 w52 s
      rw [nat_subI (a := ((l.getD p 0).toNat)) (b := 224) (by  have := byte_lt (l.getD p 0); have hq0 := dF9 hc6; have hq1 := dT9 hc9; have hq2 := dF9 hc11; have hq3 := dT9 hc49; have hq4 := dT9 hc51; omega) (by  have := byte_lt (l.getD p 0); have hq0 := dF9 hc6; have hq1 := dT9 hc9; have hq2 := dF9 hc11; have hq3 := dT9 hc49; have hq4 := dT9 hc51; omega)]
      refine ops_done (by kernel_rfl) ?_
      refine wp_seq ?_
      refine seqR ?_
      refine oKD [] [] 1 [] 0 (fun φ53 => [(11, .int .i64 1)]) (fun φ53 => []) s (fun φ53 => by kernel_rfl) (by kernel_rfl) ?_
      intro φ53 w53 s
      refine wp_block ?_
      refine Go.wp_loop_rounds 5 ?_
      refine rounds_step (n := 4) ?_
      refine wp_seq ?_
      refine seqR ?_
      refine oKD [] [] 3 [] 0 (fun φ54 => [(49, .bool true), (48, .int .i64 3), (47, .int .i64 1)]) (fun φ54 => []) s (fun φ54 => by kernel_rfl) (by kernel_rfl) ?_
      intro φ54 w54 s
      refine cond_true_rule (b := true) (by kernel_rfl) rfl ?_
      refine wp_skip ?_
      refine wp_seq ?_
      refine wp_block ?_
      refine wp_seq ?_
      refine seqR ?_
      refine oK [] [] 7 [] 0 (fun φ55 => [(58, .bool (decide ((IntKind.wrap .i64 (((p : Nat) : Int) + ((1 : Nat) : Int))) ≥ (((l).length : Nat) : Int)))), (57, .bool (decide ((IntKind.wrap .i64 (((p : Nat) : Int) + ((1 : Nat) : Int))) ≥ (((l).length : Nat) : Int)))), (56, .int .i64 (((l).length : Nat) : Int)), (55, .string ⟨(l).toArray⟩), (54, .int .i64 (IntKind.wrap .i64 (((p : Nat) : Int) + ((1 : Nat) : Int)))), (53, .int .i64 1), (52, .int .i64 p)]) (fun φ55 => []) s (fun φ55 => by kernel_rfl) ?_
      intro φ55 w55 s
      rw [nat_addI (a := p) (b := 1) (by  have hq0 := dF9 hc6; have hq1 := dT9 hc9; have hq2 := dF9 hc11; have hq3 := dT9 hc49; have hq4 := dT9 hc51; omega)]
      rw [nat_geq (a := (p + 1)) (b := ((l).length))]
      rcases Bool.eq_false_or_eq_true (decide (((l).length) ≤ (p + 1))) with hc56 | hc56
      ·
       rw [hc56]
       refine oKD [] [] 15 [] 0 (fun φ57 => [(73, .bool true), (72, undef), (71, undef), (70, undef), (69, undef), (68, undef), (67, undef), (66, .bool true), (65, .bool true), (64, undef), (63, undef), (62, undef), (61, undef), (60, undef), (59, undef)]) (fun φ57 => []) s (fun φ57 => by kernel_rfl) (by kernel_rfl) ?_
       intro φ57 w57 s
       refine cond_true_rule (b := true) (by kernel_rfl) rfl ?_
       refine seqR ?_
       refine oKD [] [] 3 [] 0 (fun φ58 => [(6, .bool false), (5, .int .i64 1), (4, .int .i64 0)]) (fun φ58 => []) s (fun φ58 => by kernel_rfl) (by kernel_rfl) ?_
       intro φ58 w58 s
       refine wp_ret ?_
       refine ret_rule (C := []) [] [] (.tuple #[.int .i64 0, .int .i64 1, .bool false]) [] [] s trivial (by kernel_rfl) ?_
       exact ⟨_, _, _, rfl, s, (sgn_bad (l := l) (p := p) (by have z0 := byte_lt (l.getD p 0); have z1 := byte_lt (l.getD (p + 1) 0); have z2 := byte_lt (l.getD (p + 2) 0); have z3 := byte_lt (l.getD (p + 3) 0); have hq0 := dF9 hc6; have hq1 := dT9 hc9; have hq2 := dF9 hc11; have hq3 := dT9 hc49; have hq4 := dT9 hc51; have hq5 := dT9 hc56; unfold Lib.decodeN; (repeat' split) <;> first | with_reducible rfl | (exfalso; omega) | (refine Prod.ext ?_ ?_ <;> dsimp only <;> omega)))⟩
      ·
       rw [hc56]
       refine oK [] [] 4 [] 0 (fun φ59 => [(62, .int .i64 (IntKind.wrap .i64 (((p : Nat) : Int) + ((1 : Nat) : Int)))), (61, .int .i64 1), (60, .int .i64 p), (59, .string ⟨(l).toArray⟩)]) (fun φ59 => []) s (fun φ59 => by kernel_rfl) ?_
       intro φ59 w59 s
       rw [nat_addI (a := p) (b := 1) (by  have hq0 := dF9 hc6; have hq1 := dT9 hc9; have hq2 := dF9 hc11; have hq3 := dT9 hc49; have hq4 := dT9 hc51; have hq5 := dF9 hc56; omega)]
       refine sem_rule (Instr.index 9 (.string ⟨(l).toArray⟩) (.int .i64 ((p + 1 : Nat) : Int))) (some 63) (.int .u8 (((l.getD (p + 1) 0).toNat : Nat) : Int)) (by kernel_rfl) (run_idxK (s := l) (i := p + 1) (by  have hq0 := dF9 hc6; have hq1 := dT9 hc9; have hq2 := dF9 hc11; have hq3 := dT9 hc49; have hq4 := dT9 hc51; have hq5 := dF9 hc56; (try simp only [List.length_drop, List.length_take, List.length_append, List.length_cons, List.length_nil]); omega)) ?_
       refine oK [] [] 3 [] 0 (fun φ60 => [(66, .bool (decide ((((l.getD (p + 1) 0).toNat : Nat) : Int) < ((128 : Nat) : Int)))), (65, .bool (decide ((((l.getD (p + 1) 0).toNat : Nat) : Int) < ((128 : Nat) : Int)))), (64, .bool (decide ((((l.getD (p + 1) 0).toNat : Nat) : Int) < ((128 : Nat) : Int))))]) (fun φ60 => []) s (fun φ60 => by kernel_rfl) ?_
       intro φ60 w60 s
       rw [nat_lss (a := ((l.getD (p + 1) 0).toNat)) (b := 128)]
       rcases Bool.eq_false_or_eq_true (decide (((l.getD (p + 1) 0).toNat) < 128)) with hc61 | hc61
       ·
        rw [hc61]
        refine oKD [] [] 7 [] 0 (fun φ62 => [(73, .bool true), (72, undef), (71, undef), (70, undef), (69, undef), (68, undef), (67, undef)]) (fun φ62 => []) s (fun φ62 => by kernel_rfl) (by kernel_rfl) ?_
        intro φ62 w62 s
        refine cond_true_rule (b := true) (by kernel_rfl) rfl ?_
        refine seqR ?_
        refine oKD [] [] 3 [] 0 (fun φ63 => [(6, .bool false), (5, .int .i64 1), (4, .int .i64 0)]) (fun φ63 => []) s (fun φ63 => by kernel_rfl) (by kernel_rfl) ?_
        intro φ63 w63 s
        refine wp_ret ?_
        refine ret_rule (C := []) [] [] (.tuple #[.int .i64 0, .int .i64 1, .bool false]) [] [] s trivial (by kernel_rfl) ?_
        exact ⟨_, _, _, rfl, s, (sgn_bad (l := l) (p := p) (by have z0 := byte_lt (l.getD p 0); have z1 := byte_lt (l.getD (p + 1) 0); have z2 := byte_lt (l.getD (p + 2) 0); have z3 := byte_lt (l.getD (p + 3) 0); have hq0 := dF9 hc6; have hq1 := dT9 hc9; have hq2 := dF9 hc11; have hq3 := dT9 hc49; have hq4 := dT9 hc51; have hq5 := dF9 hc56; have hq6 := dT9 hc61; unfold Lib.decodeN; (repeat' split) <;> first | with_reducible rfl | (exfalso; omega) | (refine Prod.ext ?_ ?_ <;> dsimp only <;> omega)))⟩
       ·
        rw [hc61]
        refine oK [] [] 4 [] 0 (fun φ64 => [(70, .int .i64 (IntKind.wrap .i64 (((p : Nat) : Int) + ((1 : Nat) : Int)))), (69, .int .i64 1), (68, .int .i64 p), (67, .string ⟨(l).toArray⟩)]) (fun φ64 => []) s (fun φ64 => by kernel_rfl) ?_
        intro φ64 w64 s
        rw [nat_addI (a := p) (b := 1) (by  have hq0 := dF9 hc6; have hq1 := dT9 hc9; have hq2 := dF9 hc11; have hq3 := dT9 hc49; have hq4 := dT9 hc51; have hq5 := dF9 hc56; have hq6 := dF9 hc61; omega)]
        refine sem_rule (Instr.index 9 (.string ⟨(l).toArray⟩) (.int .i64 ((p + 1 : Nat) : Int))) (some 71) (.int .u8 (((l.getD (p + 1) 0).toNat : Nat) : Int)) (by kernel_rfl) (run_idxK (s := l) (i := p + 1) (by  have hq0 := dF9 hc6; have hq1 := dT9 hc9; have hq2 := dF9 hc11; have hq3 := dT9 hc49; have hq4 := dT9 hc51; have hq5 := dF9 hc56; have hq6 := dF9 hc61; (try simp only [List.length_drop, List.length_take, List.length_append, List.length_cons, List.length_nil]); omega)) ?_
        refine oK [] [] 2 [] 0 (fun φ65 => [(73, .bool (decide ((((l.getD (p + 1) 0).toNat : Nat) : Int) > ((191 : Nat) : Int)))), (72, .bool (decide ((((l.getD (p + 1) 0).toNat : Nat) : Int) > ((191 : Nat) : Int))))]) (fun φ65 => []) s (fun φ65 => by kernel_rfl) ?_
        intro φ65 w65 s
        rw [nat_gtr (a := ((l.getD (p + 1) 0).toNat)) (b := 191)]
        refine ops_done (by kernel_rfl) ?_
        rcases Bool.eq_false_or_eq_true (decide (191 < ((l.getD (p + 1) 0).toNat))) with hc66 | hc66
        ·
         rw [hc66]
         refine cond_true_rule (b := true) (by kernel_rfl) rfl ?_
         refine seqR ?_
         refine oKD [] [] 3 [] 0 (fun φ67 => [(6, .bool false), (5, .int .i64 1), (4, .int .i64 0)]) (fun φ67 => []) s (fun φ67 => by kernel_rfl) (by kernel_rfl) ?_
         intro φ67 w67 s
         refine wp_ret ?_
         refine ret_rule (C := []) [] [] (.tuple #[.int .i64 0, .int .i64 1, .bool false]) [] [] s trivial (by kernel_rfl) ?_
         exact ⟨_, _, _, rfl, s, (sgn_bad (l := l) (p := p) (by have z0 := byte_lt (l.getD p 0); have z1 := byte_lt (l.getD (p + 1) 0); have z2 := byte_lt (l.getD (p + 2) 0); have z3 := byte_lt (l.getD (p + 3) 0); have hq0 := dF9 hc6; have hq1 := dT9 hc9; have hq2 := dF9 hc11; have hq3 := dT9 hc49; have hq4 := dT9 hc51; have hq5 := dF9 hc56; have hq6 := dF9 hc61; have hq7 := dT9 hc66; unfold Lib.decodeN; (repeat' split) <;> first | with_reducible rfl | (exfalso; omega) | (refine Prod.ext ?_ ?_ <;> dsimp only <;> omega)))⟩
        ·
         rw [hc66]
         refine cond_false_rule (b := false) (by kernel_rfl) rfl ?_
         refine wp_skip ?_
         refine region_rule ?_
         refine oK [] [] 6 [] 0 (fun φ68 => [(79, .int .i64 (IntKind.wrap .i64 (((p : Nat) : Int) + ((1 : Nat) : Int)))), (78, .int .i64 1), (77, .int .i64 p), (76, .string ⟨(l).toArray⟩), (75, .int .i64 (IntKind.wrap .i64 (((64 : Nat) : Int) * ((((l.getD p 0).toNat) - 224 : Nat) : Int)))), (74, .int .i64 ((((l.getD p 0).toNat) - 224 : Nat) : Int))]) (fun φ68 => []) s (fun φ68 => by kernel_rfl) ?_
         intro φ68 w68 s
         rw [nat_addI (a := p) (b := 1) (by  have hq0 := dF9 hc6; have hq1 := dT9 hc9; have hq2 := dF9 hc11; have hq3 := dT9 hc49; have hq4 := dT9 hc51; have hq5 := dF9 hc56; have hq6 := dF9 hc61; have hq7 := dF9 hc66; omega)]
         rw [nat_mulI (a := 64) (b := (((l.getD p 0).toNat) - 224)) (by  have := byte_lt (l.getD p 0); have hq0 := dF9 hc6; have hq1 := dT9 hc9; have hq2 := dF9 hc11; have hq3 := dT9 hc49; have hq4 := dT9 hc51; have hq5 := dF9 hc56; have hq6 := dF9 hc61; have hq7 := dF9 hc66; omega)]
         refine sem_rule (Instr.index 9 (.string ⟨(l).toArray⟩) (.int .i64 ((p + 1 : Nat) : Int))) (some 80) (.int .u8 (((l.getD (p + 1) 0).toNat : Nat) : Int)) (by kernel_rfl) (run_idxK (s := l) (i := p + 1) (by  have hq0 := dF9 hc6; have hq1 := dT9 hc9; have hq2 := dF9 hc11; have hq3 := dT9 hc49; have hq4 := dT9 hc51; have hq5 := dF9 hc56; have hq6 := dF9 hc61; have hq7 := dF9 hc66; (try simp only [List.length_drop, List.length_take, List.length_append, List.length_cons, List.length_nil]); omega)) ?_
         refine oK [] [] 4 [] 0 (fun φ69 => [(10, .int .i64 (IntKind.wrap .i64 ((IntKind.wrap .i64 (((64 * (((l.getD p 0).toNat) - 224) : Nat) : Int) + (IntKind.wrap .i64 (((l.getD (p + 1) 0).toNat : Nat) : Int)))) - ((128 : Nat) : Int)))), (83, .int .i64 (IntKind.wrap .i64 ((IntKind.wrap .i64 (((64 * (((l.getD p 0).toNat) - 224) : Nat) : Int) + (IntKind.wrap .i64 (((l.getD (p + 1) 0).toNat : Nat) : Int)))) - ((128 : Nat) : Int)))), (82, .int .i64 (IntKind.wrap .i64 (((64 * (((l.getD p 0).toNat) - 224) : Nat) : Int) + (IntKind.wrap .i64 (((l.getD (p + 1) 0).toNat : Nat) : Int))))), (81, .int .i64 (IntKind.wrap .i64 (((l.getD (p + 1) 0).toNat : Nat) : Int)))]) (fun φ69 => []) s (fun φ69 => by kernel_rfl) ?_
         intro φ69 w69 s
         rw [nat_wrapI (a := ((l.getD (p + 1) 0).toNat)) (by  have := byte_lt (l.getD (p + 1) 0); have hq0 := dF9 hc6; have hq1 := dT9 hc9; have hq2 := dF9 hc11; have hq3 := dT9 hc49; have hq4 := dT9 hc51; have hq5 := dF9 hc56; have hq6 := dF9 hc61; have hq7 := dF9 hc66; omega)]
         rw [nat_addI (a := (64 * (((l.getD p 0).toNat) - 224))) (b := ((l.getD (p + 1) 0).toNat)) (by  have := byte_lt (l.getD (p + 1) 0); have := byte_lt (l.getD p 0); have hq0 := dF9 hc6; have hq1 := dT9 hc9; have hq2 := dF9 hc11; have hq3 := dT9 hc49; have hq4 := dT9 hc51; have hq5 := dF9 hc56; have hq6 := dF9 hc61; have hq7 := dF9 hc66; omega)]
         rw [nat_subI (a := ((64 * (((l.getD p 0).toNat) - 224)) + ((l.getD (p + 1) 0).toNat))) (b := 128) (by  have := byte_lt (l.getD (p + 1) 0); have := byte_lt (l.getD p 0); have hq0 := dF9 hc6; have hq1 := dT9 hc9; have hq2 := dF9 hc11; have hq3 := dT9 hc49; have hq4 := dT9 hc51; have hq5 := dF9 hc56; have hq6 := dF9 hc61; have hq7 := dF9 hc66; omega) (by  have := byte_lt (l.getD (p + 1) 0); have := byte_lt (l.getD p 0); have hq0 := dF9 hc6; have hq1 := dT9 hc9; have hq2 := dF9 hc11; have hq3 := dT9 hc49; have hq4 := dT9 hc51; have hq5 := dF9 hc56; have hq6 := dF9 hc61; have hq7 := dF9 hc66; omega)]
         refine ops_done (by kernel_rfl) ?_
         refine region_rule ?_
         refine oKD [] [] 3 [] 0 (fun φ70 => [(11, .int .i64 2), (51, .int .i64 2), (50, .int .i64 1)]) (fun φ70 => []) s (fun φ70 => by kernel_rfl) (by kernel_rfl) ?_
         intro φ70 w70 s
         refine rounds_step (n := 3) ?_
         refine wp_seq ?_
         refine seqR ?_
         refine oKD [] [] 3 [] 0 (fun φ71 => [(49, .bool true), (48, .int .i64 3), (47, .int .i64 2)]) (fun φ71 => []) s (fun φ71 => by kernel_rfl) (by kernel_rfl) ?_
         intro φ71 w71 s
         refine cond_true_rule (b := true) (by kernel_rfl) rfl ?_
         refine wp_skip ?_
         refine wp_seq ?_
         refine wp_block ?_
         refine wp_seq ?_
         refine seqR ?_
         refine oK [] [] 7 [] 0 (fun φ72 => [(58, .bool (decide ((IntKind.wrap .i64 (((p : Nat) : Int) + ((2 : Nat) : Int))) ≥ (((l).length : Nat) : Int)))), (57, .bool (decide ((IntKind.wrap .i64 (((p : Nat) : Int) + ((2 : Nat) : Int))) ≥ (((l).length : Nat) : Int)))), (56, .int .i64 (((l).length : Nat) : Int)), (55, .string ⟨(l).toArray⟩), (54, .int .i64 (IntKind.wrap .i64 (((p : Nat) : Int) + ((2 : Nat) : Int)))), (53, .int .i64 2), (52, .int .i64 p)]) (fun φ72 => []) s (fun φ72 => by kernel_rfl) ?_
         intro φ72 w72 s
         rw [nat_addI (a := p) (b := 2) (by  have hq0 := dF9 hc6; have hq1 := dT9 hc9; have hq2 := dF9 hc11; have hq3 := dT9 hc49; have hq4 := dT9 hc51; have hq5 := dF9 hc56; have hq6 := dF9 hc61; have hq7 := dF9 hc66; omega)]
         rw [nat_geq (a := (p + 2)) (b := ((l).length))]
         rcases Bool.eq_false_or_eq_true (decide (((l).length) ≤ (p + 2))) with hc73 | hc73
         ·
          rw [hc73]
          refine oKD [] [] 15 [] 0 (fun φ74 => [(73, .bool true), (72, undef), (71, undef), (70, undef), (69, undef), (68, undef), (67, undef), (66, .bool true), (65, .bool true), (64, undef), (63, undef), (62, undef), (61, undef), (60, undef), (59, undef)]) (fun φ74 => []) s (fun φ74 => by kernel_rfl) (by kernel_rfl) ?_
          intro φ74 w74 s
          refine cond_true_rule (b := true) (by kernel_rfl) rfl ?_
          refine seqR ?_
          refine oKD [] [] 3 [] 0 (fun φ75 => [(6, .bool false), (5, .int .i64 1), (4, .int .i64 0)]) (fun φ75 => []) s (fun φ75 => by kernel_rfl) (by kernel_rfl) ?_
          intro φ75 w75 s
          refine wp_ret ?_
          refine ret_rule (C := []) [] [] (.tuple #[.int .i64 0, .int .i64 1, .bool false]) [] [] s trivial (by kernel_rfl) ?_
          exact ⟨_, _, _, rfl, s, (sgn_bad (l := l) (p := p) (by have z0 := byte_lt (l.getD p 0); have z1 := byte_lt (l.getD (p + 1) 0); have z2 := byte_lt (l.getD (p + 2) 0); have z3 := byte_lt (l.getD (p + 3) 0); have hq0 := dF9 hc6; have hq1 := dT9 hc9; have hq2 := dF9 hc11; have hq3 := dT9 hc49; have hq4 := dT9 hc51; have hq5 := dF9 hc56; have hq6 := dF9 hc61; have hq7 := dF9 hc66; have hq8 := dT9 hc73; unfold Lib.decodeN; (repeat' split) <;> first | with_reducible rfl | (exfalso; omega) | (refine Prod.ext ?_ ?_ <;> dsimp only <;> omega)))⟩
         ·
          rw [hc73]
          refine oK [] [] 4 [] 0 (fun φ76 => [(62, .int .i64 (IntKind.wrap .i64 (((p : Nat) : Int) + ((2 : Nat) : Int)))), (61, .int .i64 2), (60, .int .i64 p), (59, .string ⟨(l).toArray⟩)]) (fun φ76 => []) s (fun φ76 => by kernel_rfl) ?_
          intro φ76 w76 s
          rw [nat_addI (a := p) (b := 2) (by  have hq0 := dF9 hc6; have hq1 := dT9 hc9; have hq2 := dF9 hc11; have hq3 := dT9 hc49; have hq4 := dT9 hc51; have hq5 := dF9 hc56; have hq6 := dF9 hc61; have hq7 := dF9 hc66; have hq8 := dF9 hc73; omega)]
          refine sem_rule (Instr.index 9 (.string ⟨(l).toArray⟩) (.int .i64 ((p + 2 : Nat) : Int))) (some 63) (.int .u8 (((l.getD (p + 2) 0).toNat : Nat) : Int)) (by kernel_rfl) (run_idxK (s := l) (i := p + 2) (by  have hq0 := dF9 hc6; have hq1 := dT9 hc9; have hq2 := dF9 hc11; have hq3 := dT9 hc49; have hq4 := dT9 hc51; have hq5 := dF9 hc56; have hq6 := dF9 hc61; have hq7 := dF9 hc66; have hq8 := dF9 hc73; (try simp only [List.length_drop, List.length_take, List.length_append, List.length_cons, List.length_nil]); omega)) ?_
          refine oK [] [] 3 [] 0 (fun φ77 => [(66, .bool (decide ((((l.getD (p + 2) 0).toNat : Nat) : Int) < ((128 : Nat) : Int)))), (65, .bool (decide ((((l.getD (p + 2) 0).toNat : Nat) : Int) < ((128 : Nat) : Int)))), (64, .bool (decide ((((l.getD (p + 2) 0).toNat : Nat) : Int) < ((128 : Nat) : Int))))]) (fun φ77 => []) s (fun φ77 => by kernel_rfl) ?_
          intro φ77 w77 s
          rw [nat_lss (a := ((l.getD (p + 2) 0).toNat)) (b := 128)]
          rcases Bool.eq_false_or_eq_true (decide (((l.getD (p + 2) 0).toNat) < 128)) with hc78 | hc78
          ·
           rw [hc78]
           refine oKD [] [] 7 [] 0 (fun φ79 => [(73, .bool true), (72, undef), (71, undef), (70, undef), (69, undef), (68, undef), (67, undef)]) (fun φ79 => []) s (fun φ79 => by kernel_rfl) (by kernel_rfl) ?_
           intro φ79 w79 s
           refine cond_true_rule (b := true) (by kernel_rfl) rfl ?_
           refine seqR ?_
           refine oKD [] [] 3 [] 0 (fun φ80 => [(6, .bool false), (5, .int .i64 1), (4, .int .i64 0)]) (fun φ80 => []) s (fun φ80 => by kernel_rfl) (by kernel_rfl) ?_
           intro φ80 w80 s
           refine wp_ret ?_
           refine ret_rule (C := []) [] [] (.tuple #[.int .i64 0, .int .i64 1, .bool false]) [] [] s trivial (by kernel_rfl) ?_
           exact ⟨_, _, _, rfl, s, (sgn_bad (l := l) (p := p) (by have z0 := byte_lt (l.getD p 0); have z1 := byte_lt (l.getD (p + 1) 0); have z2 := byte_lt (l.getD (p + 2) 0); have z3 := byte_lt (l.getD (p + 3) 0); have hq0 := dF9 hc6; have hq1 := dT9 hc9; have hq2 := dF9 hc11; have hq3 := dT9 hc49; have hq4 := dT9 hc51; have hq5 := dF9 hc56; have hq6 := dF9 hc61; have hq7 := dF9 hc66; have hq8 := dF9 hc73; have hq9 := dT9 hc78; unfold Lib.decodeN; (repeat' split) <;> first | with_reducible rfl | (exfalso; omega) | (refine Prod.ext ?_ ?_ <;> dsimp only <;> omega)))⟩
          ·
           rw [hc78]
           refine oK [] [] 4 [] 0 (fun φ81 => [(70, .int .i64 (IntKind.wrap .i64 (((p : Nat) : Int) + ((2 : Nat) : Int)))), (69, .int .i64 2), (68, .int .i64 p), (67, .string ⟨(l).toArray⟩)]) (fun φ81 => []) s (fun φ81 => by kernel_rfl) ?_
           intro φ81 w81 s
           rw [nat_addI (a := p) (b := 2) (by  have hq0 := dF9 hc6; have hq1 := dT9 hc9; have hq2 := dF9 hc11; have hq3 := dT9 hc49; have hq4 := dT9 hc51; have hq5 := dF9 hc56; have hq6 := dF9 hc61; have hq7 := dF9 hc66; have hq8 := dF9 hc73; have hq9 := dF9 hc78; omega)]
           refine sem_rule (Instr.index 9 (.string ⟨(l).toArray⟩) (.int .i64 ((p + 2 : Nat) : Int))) (some 71) (.int .u8 (((l.getD (p + 2) 0).toNat : Nat) : Int)) (by kernel_rfl) (run_idxK (s := l) (i := p + 2) (by  have hq0 := dF9 hc6; have hq1 := dT9 hc9; have hq2 := dF9 hc11; have hq3 := dT9 hc49; have hq4 := dT9 hc51; have hq5 := dF9 hc56; have hq6 := dF9 hc61; have hq7 := dF9 hc66; have hq8 := dF9 hc73; have hq9 := dF9 hc78; (try simp only [List.length_drop, List.length_take, List.length_append, List.length_cons, List.length_nil]); omega)) ?_
           refine oK [] [] 2 [] 0 (fun φ82 => [(73, .bool (decide ((((l.getD (p + 2) 0).toNat : Nat) : Int) > ((191 : Nat) : Int)))), (72, .bool (decide ((((l.getD (p + 2) 0).toNat : Nat) : Int) > ((191 : Nat) : Int))))]) (fun φ82 => []) s (fun φ82 => by kernel_rfl) ?_
           intro φ82 w82 s
           rw [nat_gtr (a := ((l.getD (p + 2) 0).toNat)) (b := 191)]
           refine ops_done (by kernel_rfl) ?_
           rcases Bool.eq_false_or_eq_true (decide (191 < ((l.getD (p + 2) 0).toNat))) with hc83 | hc83
           ·
            rw [hc83]
            refine cond_true_rule (b := true) (by kernel_rfl) rfl ?_
            refine seqR ?_
            refine oKD [] [] 3 [] 0 (fun φ84 => [(6, .bool false), (5, .int .i64 1), (4, .int .i64 0)]) (fun φ84 => []) s (fun φ84 => by kernel_rfl) (by kernel_rfl) ?_
            intro φ84 w84 s
            refine wp_ret ?_
            refine ret_rule (C := []) [] [] (.tuple #[.int .i64 0, .int .i64 1, .bool false]) [] [] s trivial (by kernel_rfl) ?_
            exact ⟨_, _, _, rfl, s, (sgn_bad (l := l) (p := p) (by have z0 := byte_lt (l.getD p 0); have z1 := byte_lt (l.getD (p + 1) 0); have z2 := byte_lt (l.getD (p + 2) 0); have z3 := byte_lt (l.getD (p + 3) 0); have hq0 := dF9 hc6; have hq1 := dT9 hc9; have hq2 := dF9 hc11; have hq3 := dT9 hc49; have hq4 := dT9 hc51; have hq5 := dF9 hc56; have hq6 := dF9 hc61; have hq7 := dF9 hc66; have hq8 := dF9 hc73; have hq9 := dF9 hc78; have hq10 := dT9 hc83; unfold Lib.decodeN; (repeat' split) <;> first | with_reducible rfl | (exfalso; omega) | (refine Prod.ext ?_ ?_ <;> dsimp only <;> omega)))⟩
           ·
            rw [hc83]
            refine cond_false_rule (b := false) (by kernel_rfl) rfl ?_
            refine wp_skip ?_
            refine region_rule ?_
            refine oK [] [] 6 [] 0 (fun φ85 => [(79, .int .i64 (IntKind.wrap .i64 (((p : Nat) : Int) + ((2 : Nat) : Int)))), (78, .int .i64 2), (77, .int .i64 p), (76, .string ⟨(l).toArray⟩), (75, .int .i64 (IntKind.wrap .i64 (((64 : Nat) : Int) * ((((64 * (((l.getD p 0).toNat) - 224)) + ((l.getD (p + 1) 0).toNat)) - 128 : Nat) : Int)))), (74, .int .i64 ((((64 * (((l.getD p 0).toNat) - 224)) + ((l.getD (p + 1) 0).toNat)) - 128 : Nat) : Int))]) (fun φ85 => []) s (fun φ85 => by kernel_rfl) ?_
            intro φ85 w85 s
            rw [nat_addI (a := p) (b := 2) (by  have hq0 := dF9 hc6; have hq1 := dT9 hc9; have hq2 := dF9 hc11; have hq3 := dT9 hc49; have hq4 := dT9 hc51; have hq5 := dF9 hc56; have hq6 := dF9 hc61; have hq7 := dF9 hc66; have hq8 := dF9 hc73; have hq9 := dF9 hc78; have hq10 := dF9 hc83; omega)]
            rw [nat_mulI (a := 64) (b := (((64 * (((l.getD p 0).toNat) - 224)) + ((l.getD (p + 1) 0).toNat)) - 128)) (by  have := byte_lt (l.getD (p + 1) 0); have := byte_lt (l.getD p 0); have hq0 := dF9 hc6; have hq1 := dT9 hc9; have hq2 := dF9 hc11; have hq3 := dT9 hc49; have hq4 := dT9 hc51; have hq5 := dF9 hc56; have hq6 := dF9 hc61; have hq7 := dF9 hc66; have hq8 := dF9 hc73; have hq9 := dF9 hc78; have hq10 := dF9 hc83; omega)]
            refine sem_rule (Instr.index 9 (.string ⟨(l).toArray⟩) (.int .i64 ((p + 2 : Nat) : Int))) (some 80) (.int .u8 (((l.getD (p + 2) 0).toNat : Nat) : Int)) (by kernel_rfl) (run_idxK (s := l) (i := p + 2) (by  have hq0 := dF9 hc6; have hq1 := dT9 hc9; have hq2 := dF9 hc11; have hq3 := dT9 hc49; have hq4 := dT9 hc51; have hq5 := dF9 hc56; have hq6 := dF9 hc61; have hq7 := dF9 hc66; have hq8 := dF9 hc73; have hq9 := dF9 hc78; have hq10 := dF9 hc83; (try simp only [List.length_drop, List.length_take, List.length_append, List.length_cons, List.length_nil]); omega)) ?_
            refine oK [] [] 4 [] 0 (fun φ86 => [(10, .int .i64 (IntKind.wrap .i64 ((IntKind.wrap .i64 (((64 * (((64 * (((l.getD p 0).toNat) - 224)) + ((l.getD (p + 1) 0).toNat)) - 128) : Nat) : Int) + (IntKind.wrap .i64 (((l.getD (p + 2) 0).toNat : Nat) : Int)))) - ((128 : Nat) : Int)))), (83, .int .i64 (IntKind.wrap .i64 ((IntKind.wrap .i64 (((64 * (((64 * (((l.getD p 0).toNat) - 224)) + ((l.getD (p + 1) 0).toNat)) - 128) : Nat) : Int) + (IntKind.wrap .i64 (((l.getD (p + 2) 0).toNat : Nat) : Int)))) - ((128 : Nat) : Int)))), (82, .int .i64 (IntKind.wrap .i64 (((64 * (((64 * (((l.getD p 0).toNat) - 224)) + ((l.getD (p + 1) 0).toNat)) - 128) : Nat) : Int) + (IntKind.wrap .i64 (((l.getD (p + 2) 0).toNat : Nat) : Int))))), (81, .int .i64 (IntKind.wrap .i64 (((l.getD (p + 2) 0).toNat : Nat) : Int)))]) (fun φ86 => []) s (fun φ86 => by kernel_rfl) ?_
            intro φ86 w86 s
            rw [nat_wrapI (a := ((l.getD (p + 2) 0).toNat)) (by  have := byte_lt (l.getD (p + 2) 0); have hq0 := dF9 hc6; have hq1 := dT9 hc9; have hq2 := dF9 hc11; have hq3 := dT9 hc49; have hq4 := dT9 hc51; have hq5 := dF9 hc56; have hq6 := dF9 hc61; have hq7 := dF9 hc66; have hq8 := dF9 hc73; have hq9 := dF9 hc78; have hq10 := dF9 hc83; omega)]
            rw [nat_addI (a := (64 * (((64 * (((l.getD p 0).toNat) - 224)) + ((l.getD (p + 1) 0).toNat)) - 128))) (b := ((l.getD (p + 2) 0).toNat)) (by  have := byte_lt (l.getD (p + 1) 0); have := byte_lt (l.getD (p + 2) 0); have := byte_lt (l.getD p 0); have hq0 := dF9 hc6; have hq1 := dT9 hc9; have hq2 := dF9 hc11; have hq3 := dT9 hc49; have hq4 := dT9 hc51; have hq5 := dF9 hc56; have hq6 := dF9 hc61; have hq7 := dF9 hc66; have hq8 := dF9 hc73; have hq9 := dF9 hc78; have hq10 := dF9 hc83; omega)]
            rw [nat_subI (a := ((64 * (((64 * (((l.getD p 0).toNat) - 224)) + ((l.getD (p + 1) 0).toNat)) - 128)) + ((l.getD (p + 2) 0).toNat))) (b := 128) (by  have := byte_lt (l.getD (p + 1) 0); have := byte_lt (l.getD (p + 2) 0); have := byte_lt (l.getD p 0); have hq0 := dF9 hc6; have hq1 := dT9 hc9; have hq2 := dF9 hc11; have hq3 := dT9 hc49; have hq4 := dT9 hc51; have hq5 := dF9 hc56; have hq6 := dF9 hc61; have hq7 := dF9 hc66; have hq8 := dF9 hc73; have hq9 := dF9 hc78; have hq10 := dF9 hc83; omega) (by  have := byte_lt (l.getD (p + 1) 0); have := byte_lt (l.getD (p + 2) 0); have := byte_lt (l.getD p 0); have hq0 := dF9 hc6; have hq1 := dT9 hc9; have hq2 := dF9 hc11; have hq3 := dT9 hc49; have hq4 := dT9 hc51; have hq5 := dF9 hc56; have hq6 := dF9 hc61; have hq7 := dF9 hc66; have hq8 := dF9 hc73; have hq9 := dF9 hc78; have hq10 := dF9 hc83; omega)]
            refine ops_done (by kernel_rfl) ?_
            refine region_rule ?_
            refine oKD [] [] 3 [] 0 (fun φ87 => [(11, .int .i64 3), (51, .int .i64 3), (50, .int .i64 2)]) (fun φ87 => []) s (fun φ87 => by kernel_rfl) (by kernel_rfl) ?_
            intro φ87 w87 s
            refine rounds_step (n := 2) ?_
            refine wp_seq ?_
            refine seqR ?_
            refine oKD [] [] 3 [] 0 (fun φ88 => [(49, .bool false), (48, .int .i64 3), (47, .int .i64 3)]) (fun φ88 => []) s (fun φ88 => by kernel_rfl) (by kernel_rfl) ?_
            intro φ88 w88 s
            refine cond_false_rule (b := false) (by kernel_rfl) rfl ?_
            refine wp_exit ?_
            refine wp_seq ?_
            refine seqR ?_
            refine oK [] [] 4 [] 0 (fun φ89 => [(87, .bool (decide (((((64 * (((64 * (((l.getD p 0).toNat) - 224)) + ((l.getD (p + 1) 0).toNat)) - 128)) + ((l.getD (p + 2) 0).toNat)) - 128 : Nat) : Int) < ((2048 : Nat) : Int)))), (86, .bool (decide (((((64 * (((64 * (((l.getD p 0).toNat) - 224)) + ((l.getD (p + 1) 0).toNat)) - 128)) + ((l.getD (p + 2) 0).toNat)) - 128 : Nat) : Int) < ((2048 : Nat) : Int)))), (85, .int .i64 2048), (84, .int .i64 ((((64 * (((64 * (((l.getD p 0).toNat) - 224)) + ((l.getD (p + 1) 0).toNat)) - 128)) + ((l.getD (p + 2) 0).toNat)) - 128 : Nat) : Int))]) (fun φ89 => []) s (fun φ89 => by kernel_rfl) ?_
            intro φ89 w89 s
            rw [nat_lss (a := (((64 * (((64 * (((l.getD p 0).toNat) - 224)) + ((l.getD (p + 1) 0).toNat)) - 128)) + ((l.getD (p + 2) 0).toNat)) - 128)) (b := 2048)]
            rcases Bool.eq_false_or_eq_true (decide ((((64 * (((64 * (((l.getD p 0).toNat) - 224)) + ((l.getD (p + 1) 0).toNat)) - 128)) + ((l.getD (p + 2) 0).toNat)) - 128) < 2048)) with hc90 | hc90
            ·
             rw [hc90]
             refine oKD [] [] 11 [] 0 (fun φ91 => [(98, .bool true), (97, undef), (96, undef), (95, undef), (94, undef), (93, undef), (92, undef), (91, .bool true), (90, .bool true), (89, undef), (88, undef)]) (fun φ91 => []) s (fun φ91 => by kernel_rfl) (by kernel_rfl) ?_
             intro φ91 w91 s
             refine cond_true_rule (b := true) (by kernel_rfl) rfl ?_
             refine seqR ?_
             refine oKD [] [] 3 [] 0 (fun φ92 => [(6, .bool false), (5, .int .i64 1), (4, .int .i64 0)]) (fun φ92 => []) s (fun φ92 => by kernel_rfl) (by kernel_rfl) ?_
             intro φ92 w92 s
             refine wp_ret ?_
             refine ret_rule (C := []) [] [] (.tuple #[.int .i64 0, .int .i64 1, .bool false]) [] [] s trivial (by kernel_rfl) ?_
             exact ⟨_, _, _, rfl, s, (sgn_bad (l := l) (p := p) (by have z0 := byte_lt (l.getD p 0); have z1 := byte_lt (l.getD (p + 1) 0); have z2 := byte_lt (l.getD (p + 2) 0); have z3 := byte_lt (l.getD (p + 3) 0); have hq0 := dF9 hc6; have hq1 := dT9 hc9; have hq2 := dF9 hc11; have hq3 := dT9 hc49; have hq4 := dT9 hc51; have hq5 := dF9 hc56; have hq6 := dF9 hc61; have hq7 := dF9 hc66; have hq8 := dF9 hc73; have hq9 := dF9 hc78; have hq10 := dF9 hc83; have hq11 := dT9 hc90; unfold Lib.decodeN; (repeat' split) <;> first | with_reducible rfl | (exfalso; omega) | (refine Prod.ext ?_ ?_ <;> dsimp only <;> omega)))⟩
            ·
             rw [hc90]
             refine oK [] [] 4 [] 0 (fun φ93 => [(91, .bool (decide (((((64 * (((64 * (((l.getD p 0).toNat) - 224)) + ((l.getD (p + 1) 0).toNat)) - 128)) + ((l.getD (p + 2) 0).toNat)) - 128 : Nat) : Int) > ((1114111 : Nat) : Int)))), (90, .bool (decide (((((64 * (((64 * (((l.getD p 0).toNat) - 224)) + ((l.getD (p + 1) 0).toNat)) - 128)) + ((l.getD (p + 2) 0).toNat)) - 128 : Nat) : Int) > ((1114111 : Nat) : Int)))), (89, .bool (decide (((((64 * (((64 * (((l.getD p 0).toNat) - 224)) + ((l.getD (p + 1) 0).toNat)) - 128)) + ((l.getD (p + 2) 0).toNat)) - 128 : Nat) : Int) > ((1114111 : Nat) : Int)))), (88, .int .i64 ((((64 * (((64 * (((l.getD p 0).toNat) - 224)) + ((l.getD (p + 1) 0).toNat)) - 128)) + ((l.getD (p + 2) 0).toNat)) - 128 : Nat) : Int))]) (fun φ93 => []) s (fun φ93 => by kernel_rfl) ?_
             intro φ93 w93 s
             rw [nat_gtr (a := (((64 * (((64 * (((l.getD p 0).toNat) - 224)) + ((l.getD (p + 1) 0).toNat)) - 128)) + ((l.getD (p + 2) 0).toNat)) - 128)) (b := 1114111)]
             rcases Bool.eq_false_or_eq_true (decide (1114111 < (((64 * (((64 * (((l.getD p 0).toNat) - 224)) + ((l.getD (p + 1) 0).toNat)) - 128)) + ((l.getD (p + 2) 0).toNat)) - 128))) with hc94 | hc94
             ·
              rw [hc94]
              refine oKD [] [] 7 [] 0 (fun φ95 => [(98, .bool true), (97, undef), (96, undef), (95, undef), (94, undef), (93, undef), (92, undef)]) (fun φ95 => []) s (fun φ95 => by kernel_rfl) (by kernel_rfl) ?_
              intro φ95 w95 s
              refine cond_true_rule (b := true) (by kernel_rfl) rfl ?_
              refine seqR ?_
              refine oKD [] [] 3 [] 0 (fun φ96 => [(6, .bool false), (5, .int .i64 1), (4, .int .i64 0)]) (fun φ96 => []) s (fun φ96 => by kernel_rfl) (by kernel_rfl) ?_
              intro φ96 w96 s
              refine wp_ret ?_
              refine ret_rule (C := []) [] [] (.tuple #[.int .i64 0, .int .i64 1, .bool false]) [] [] s trivial (by kernel_rfl) ?_
              exact ⟨_, _, _, rfl, s, (sgn_bad (l := l) (p := p) (by have z0 := byte_lt (l.getD p 0); have z1 := byte_lt (l.getD (p + 1) 0); have z2 := byte_lt (l.getD (p + 2) 0); have z3 := byte_lt (l.getD (p + 3) 0); have hq0 := dF9 hc6; have hq1 := dT9 hc9; have hq2 := dF9 hc11; have hq3 := dT9 hc49; have hq4 := dT9 hc51; have hq5 := dF9 hc56; have hq6 := dF9 hc61; have hq7 := dF9 hc66; have hq8 := dF9 hc73; have hq9 := dF9 hc78; have hq10 := dF9 hc83; have hq11 := dF9 hc90; have hq12 := dT9 hc94; unfold Lib.decodeN; (repeat' split) <;> first | with_reducible rfl | (exfalso; omega) | (refine Prod.ext ?_ ?_ <;> dsimp only <;> omega)))⟩
             ·
              rw [hc94]
              refine oK [] [] 3 [] 0 (fun φ97 => [(94, .bool (decide (((((64 * (((64 * (((l.getD p 0).toNat) - 224)) + ((l.getD (p + 1) 0).toNat)) - 128)) + ((l.getD (p + 2) 0).toNat)) - 128 : Nat) : Int) ≥ ((55296 : Nat) : Int)))), (93, .bool (decide (((((64 * (((64 * (((l.getD p 0).toNat) - 224)) + ((l.getD (p + 1) 0).toNat)) - 128)) + ((l.getD (p + 2) 0).toNat)) - 128 : Nat) : Int) ≥ ((55296 : Nat) : Int)))), (92, .int .i64 ((((64 * (((64 * (((l.getD p 0).toNat) - 224)) + ((l.getD (p + 1) 0).toNat)) - 128)) + ((l.getD (p + 2) 0).toNat)) - 128 : Nat) : Int))]) (fun φ97 => []) s (fun φ97 => by kernel_rfl) ?_
              intro φ97 w97 s
              rw [nat_geq (a := (((64 * (((64 * (((l.getD p 0).toNat) - 224)) + ((l.getD (p + 1) 0).toNat)) - 128)) + ((l.getD (p + 2) 0).toNat)) - 128)) (b := 55296)]
              rcases Bool.eq_false_or_eq_true (decide (55296 ≤ (((64 * (((64 * (((l.getD p 0).toNat) - 224)) + ((l.getD (p + 1) 0).toNat)) - 128)) + ((l.getD (p + 2) 0).toNat)) - 128))) with hc98 | hc98
              ·
               rw [hc98]
               refine oK [] [] 4 [] 0 (fun φ99 => [(98, .bool (decide (((((64 * (((64 * (((l.getD p 0).toNat) - 224)) + ((l.getD (p + 1) 0).toNat)) - 128)) + ((l.getD (p + 2) 0).toNat)) - 128 : Nat) : Int) < ((57344 : Nat) : Int)))), (97, .bool (decide (((((64 * (((64 * (((l.getD p 0).toNat) - 224)) + ((l.getD (p + 1) 0).toNat)) - 128)) + ((l.getD (p + 2) 0).toNat)) - 128 : Nat) : Int) < ((57344 : Nat) : Int)))), (96, .bool (decide (((((64 * (((64 * (((l.getD p 0).toNat) - 224)) + ((l.getD (p + 1) 0).toNat)) - 128)) + ((l.getD (p + 2) 0).toNat)) - 128 : Nat) : Int) < ((57344 : Nat) : Int)))), (95, .int .i64 ((((64 * (((64 * (((l.getD p 0).toNat) - 224)) + ((l.getD (p + 1) 0).toNat)) - 128)) + ((l.getD (p + 2) 0).toNat)) - 128 : Nat) : Int))]) (fun φ99 => []) s (fun φ99 => by kernel_rfl) ?_
               intro φ99 w99 s
               rw [nat_lss (a := (((64 * (((64 * (((l.getD p 0).toNat) - 224)) + ((l.getD (p + 1) 0).toNat)) - 128)) + ((l.getD (p + 2) 0).toNat)) - 128)) (b := 57344)]
               refine ops_done (by kernel_rfl) ?_
               rcases Bool.eq_false_or_eq_true (decide ((((64 * (((64 * (((l.getD p 0).toNat) - 224)) + ((l.getD (p + 1) 0).toNat)) - 128)) + ((l.getD (p + 2) 0).toNat)) - 128) < 57344)) with hc100 | hc100
               ·
                rw [hc100]
                refine cond_true_rule (b := true) (by kernel_rfl) rfl ?_
                refine seqR ?_
                refine oKD [] [] 3 [] 0 (fun φ101 => [(6, .bool false), (5, .int .i64 1), (4, .int .i64 0)]) (fun φ101 => []) s (fun φ101 => by kernel_rfl) (by kernel_rfl) ?_
                intro φ101 w101 s
                refine wp_ret ?_
                refine ret_rule (C := []) [] [] (.tuple #[.int .i64 0, .int .i64 1, .bool false]) [] [] s trivial (by kernel_rfl) ?_
                exact ⟨_, _, _, rfl, s, (sgn_bad (l := l) (p := p) (by have z0 := byte_lt (l.getD p 0); have z1 := byte_lt (l.getD (p + 1) 0); have z2 := byte_lt (l.getD (p + 2) 0); have z3 := byte_lt (l.getD (p + 3) 0); have hq0 := dF9 hc6; have hq1 := dT9 hc9; have hq2 := dF9 hc11; have hq3 := dT9 hc49; have hq4 := dT9 hc51; have hq5 := dF9 hc56; have hq6 := dF9 hc61; have hq7 := dF9 hc66; have hq8 := dF9 hc73; have hq9 := dF9 hc78; have hq10 := dF9 hc83; have hq11 := dF9 hc90; have hq12 := dF9 hc94; have hq13 := dT9 hc98; have hq14 := dT9 hc100; unfold Lib.decodeN; (repeat' split) <;> first | with_reducible rfl | (exfalso; omega) | (refine Prod.ext ?_ ?_ <;> dsimp only <;> omega)))⟩
               ·
                rw [hc100]
                refine cond_false_rule (b := false) (by kernel_rfl) rfl ?_
                refine wp_skip ?_
                refine seqR ?_
                refine oKD [] [] 5 [] 0 (fun φ102 => [(6, .bool true), (5, .int .i64 3), (4, .int .i64 ((((64 * (((64 * (((l.getD p 0).toNat) - 224)) + ((l.getD (p + 1) 0).toNat)) - 128)) + ((l.getD (p + 2) 0).toNat)) - 128 : Nat) : Int)), (100, .int .i64 3), (99, .int .i64 ((((64 * (((64 * (((l.getD p 0).toNat) - 224)) + ((l.getD (p + 1) 0).toNat)) - 128)) + ((l.getD (p + 2) 0).toNat)) - 128 : Nat) : Int))]) (fun φ102 => []) s (fun φ102 => by kernel_rfl) (by kernel_rfl) ?_
                intro φ102 w102 s
                refine wp_ret ?_
                refine ret_rule (C := []) [] [] (.tuple #[.int .i64 ((((64 * (((64 * (((l.getD p 0).toNat) - 224)) + ((l.getD (p + 1) 0).toNat)) - 128)) + ((l.getD (p + 2) 0).toNat)) - 128 : Nat) : Int), .int .i64 3, .bool true]) [] [] s trivial (by kernel_rfl) ?_
                exact ⟨_, _, _, rfl, s, (sgn_good (l := l) (p := p) (x := ((64 * (((64 * (((l.getD p 0).toNat) - 224)) + ((l.getD (p + 1) 0).toNat)) - 128)) + ((l.getD (p + 2) 0).toNat)) - 128) (w := 3) (by have z0 := byte_lt (l.getD p 0); have z1 := byte_lt (l.getD (p + 1) 0); have z2 := byte_lt (l.getD (p + 2) 0); have z3 := byte_lt (l.getD (p + 3) 0); have hq0 := dF9 hc6; have hq1 := dT9 hc9; have hq2 := dF9 hc11; have hq3 := dT9 hc49; have hq4 := dT9 hc51; have hq5 := dF9 hc56; have hq6 := dF9 hc61; have hq7 := dF9 hc66; have hq8 := dF9 hc73; have hq9 := dF9 hc78; have hq10 := dF9 hc83; have hq11 := dF9 hc90; have hq12 := dF9 hc94; have hq13 := dT9 hc98; have hq14 := dF9 hc100; unfold Lib.decodeN; (repeat' split) <;> first | with_reducible rfl | (exfalso; omega) | (refine Prod.ext ?_ ?_ <;> dsimp only <;> omega)) (by have z0 := byte_lt (l.getD p 0); have z1 := byte_lt (l.getD (p + 1) 0); have z2 := byte_lt (l.getD (p + 2) 0); have z3 := byte_lt (l.getD (p + 3) 0); have hq0 := dF9 hc6; have hq1 := dT9 hc9; have hq2 := dF9 hc11; have hq3 := dT9 hc49; have hq4 := dT9 hc51; have hq5 := dF9 hc56; have hq6 := dF9 hc61; have hq7 := dF9 hc66; have hq8 := dF9 hc73; have hq9 := dF9 hc78; have hq10 := dF9 hc83; have hq11 := dF9 hc90; have hq12 := dF9 hc94; have hq13 := dT9 hc98; have hq14 := dF9 hc100; omega))⟩
              ·
               rw [hc98]
               refine oKD [] [] 4 [] 0 (fun φ103 => [(98, .bool false), (97, .bool false), (96, undef), (95, undef)]) (fun φ103 => []) s (fun φ103 => by kernel_rfl) (by kernel_rfl) ?_
               intro φ103 w103 s
               refine cond_false_rule (b := false) (by kernel_rfl) rfl ?_
               refine wp_skip ?_
               refine seqR ?_
               refine oKD [] [] 5 [] 0 (fun φ104 => [(6, .bool true), (5, .int .i64 3), (4, .int .i64 ((((64 * (((64 * (((l.getD p 0).toNat) - 224)) + ((l.getD (p + 1) 0).toNat)) - 128)) + ((l.getD (p + 2) 0).toNat)) - 128 : Nat) : Int)), (100, .int .i64 3), (99, .int .i64 ((((64 * (((64 * (((l.getD p 0).toNat) - 224)) + ((l.getD (p + 1) 0).toNat)) - 128)) + ((l.getD (p + 2) 0).toNat)) - 128 : Nat) : Int))]) (fun φ104 => []) s (fun φ104 => by kernel_rfl) (by kernel_rfl) ?_
               intro φ104 w104 s
               refine wp_ret ?_
               refine ret_rule (C := []) [] [] (.tuple #[.int .i64 ((((64 * (((64 * (((l.getD p 0).toNat) - 224)) + ((l.getD (p + 1) 0).toNat)) - 128)) + ((l.getD (p + 2) 0).toNat)) - 128 : Nat) : Int), .int .i64 3, .bool true]) [] [] s trivial (by kernel_rfl) ?_
               exact ⟨_, _, _, rfl, s, (sgn_good (l := l) (p := p) (x := ((64 * (((64 * (((l.getD p 0).toNat) - 224)) + ((l.getD (p + 1) 0).toNat)) - 128)) + ((l.getD (p + 2) 0).toNat)) - 128) (w := 3) (by have z0 := byte_lt (l.getD p 0); have z1 := byte_lt (l.getD (p + 1) 0); have z2 := byte_lt (l.getD (p + 2) 0); have z3 := byte_lt (l.getD (p + 3) 0); have hq0 := dF9 hc6; have hq1 := dT9 hc9; have hq2 := dF9 hc11; have hq3 := dT9 hc49; have hq4 := dT9 hc51; have hq5 := dF9 hc56; have hq6 := dF9 hc61; have hq7 := dF9 hc66; have hq8 := dF9 hc73; have hq9 := dF9 hc78; have hq10 := dF9 hc83; have hq11 := dF9 hc90; have hq12 := dF9 hc94; have hq13 := dF9 hc98; unfold Lib.decodeN; (repeat' split) <;> first | with_reducible rfl | (exfalso; omega) | (refine Prod.ext ?_ ?_ <;> dsimp only <;> omega)) (by have z0 := byte_lt (l.getD p 0); have z1 := byte_lt (l.getD (p + 1) 0); have z2 := byte_lt (l.getD (p + 2) 0); have z3 := byte_lt (l.getD (p + 3) 0); have hq0 := dF9 hc6; have hq1 := dT9 hc9; have hq2 := dF9 hc11; have hq3 := dT9 hc49; have hq4 := dT9 hc51; have hq5 := dF9 hc56; have hq6 := dF9 hc61; have hq7 := dF9 hc66; have hq8 := dF9 hc73; have hq9 := dF9 hc78; have hq10 := dF9 hc83; have hq11 := dF9 hc90; have hq12 := dF9 hc94; have hq13 := dF9 hc98; omega))⟩
     ·
      rw [hc51]
      refine cond_false_rule (b := false) (by kernel_rfl) rfl ?_
      refine seqR ?_
      refine oK [] [] 3 [] 0 (fun φ105 => [(41, .bool (decide ((((l.getD p 0).toNat : Nat) : Int) ≥ ((240 : Nat) : Int)))), (40, .bool (decide ((((l.getD p 0).toNat : Nat) : Int) ≥ ((240 : Nat) : Int)))), (39, .int .i64 (((l.getD p 0).toNat : Nat) : Int))]) (fun φ105 => []) s (fun φ105 => by kernel_rfl) ?_
      intro φ105 w105 s
      rw [nat_geq (a := ((l.getD p 0).toNat)) (b := 240)]
      rcases Bool.eq_false_or_eq_true (decide (240 ≤ ((l.getD p 0).toNat))) with hc106 | hc106
      ·
       rw [hc106]
       refine oK [] [] 4 [] 0 (fun φ107 => [(38, .bool (decide ((((l.getD p 0).toNat : Nat) : Int) < ((248 : Nat) : Int)))), (44, .bool (decide ((((l.getD p 0).toNat : Nat) : Int) < ((248 : Nat) : Int)))), (43, .bool (decide ((((l.getD p 0).toNat : Nat) : Int) < ((248 : Nat) : Int)))), (42, .int .i64 (((l.getD p 0).toNat : Nat) : Int))]) (fun φ107 => []) s (fun φ107 => by kernel_rfl) ?_
       intro φ107 w107 s
       rw [nat_lss (a := ((l.getD p 0).toNat)) (b := 248)]
       refine ops_done (by kernel_rfl) ?_
       rcases Bool.eq_false_or_eq_true (decide (((l.getD p 0).toNat) < 248)) with hc108 | hc108
       ·
        rw [hc108]
        refine cond_true_rule (b := true) (by kernel_rfl) rfl ?_
        refine region_rule ?_
        refine oK [] [] 5 [] 0 (fun φ109 => [(10, .int .i64 (IntKind.wrap .i64 ((((l.getD p 0).toNat : Nat) : Int) - ((240 : Nat) : Int)))), (9, .int .i64 65536), (8, .int .i64 4), (46, .int .i64 (IntKind.wrap .i64 ((((l.getD p 0).toNat : Nat) : Int) - ((240 : Nat) : Int)))), (45, .int .i64 (((l.getD p 0).toNat : Nat) : Int))]) (fun φ109 => []) s (fun φ109 => by kernel_rfl) ?_
        intro φ109 w109 s
        rw [nat_subI (a := ((l.getD p 0).toNat)) (b := 240) (by  have := byte_lt (l.getD p 0); have hq0 := dF9 hc6; have hq1 := dT9 hc9; have hq2 := dF9 hc11; have hq3 := dT9 hc49; have hq4 := dF9 hc51; have hq5 := dT9 hc106; have hq6 := dT9 hc108; omega) (by  have := byte_lt (l.getD p 0); have hq0 := dF9 hc6; have hq1 := dT9 hc9; have hq2 := dF9 hc11; have hq3 := dT9 hc49; have hq4 := dF9 hc51; have hq5 := dT9 hc106; have hq6 := dT9 hc108; omega)]
        refine ops_done (by kernel_rfl) ?_
        refine wp_seq ?_
        refine seqR ?_
        refine oKD [] [] 1 [] 0 (fun φ110 => [(11, .int .i64 1)]) (fun φ110 => []) s (fun φ110 => by kernel_rfl) (by kernel_rfl) ?_
        intro φ110 w110 s
        refine wp_block ?_
        refine Go.wp_loop_rounds 5 ?_
        refine rounds_step (n := 4) ?_
        refine wp_seq ?_
        refine seqR ?_
        refine oKD [] [] 3 [] 0 (fun φ111 => [(49, .bool true), (48, .int .i64 4), (47, .int .i64 1)]) (fun φ111 => []) s (fun φ111 => by kernel_rfl) (by kernel_rfl) ?_
        intro φ111 w111 s
        refine cond_true_rule (b := true) (by kernel_rfl) rfl ?_
        refine wp_skip ?_
        refine wp_seq ?_
        refine wp_block ?_
        refine wp_seq ?_
        refine seqR ?_
        refine oK [] [] 7 [] 0 (fun φ112 => [(58, .bool (decide ((IntKind.wrap .i64 (((p : Nat) : Int) + ((1 : Nat) : Int))) ≥ (((l).length : Nat) : Int)))), (57, .bool (decide ((IntKind.wrap .i64 (((p : Nat) : Int) + ((1 : Nat) : Int))) ≥ (((l).length : Nat) : Int)))), (56, .int .i64 (((l).length : Nat) : Int)), (55, .string ⟨(l).toArray⟩), (54, .int .i64 (IntKind.wrap .i64 (((p : Nat) : Int) + ((1 : Nat) : Int)))), (53, .int .i64 1), (52, .int .i64 p)]) (fun φ112 => []) s (fun φ112 => by kernel_rfl) ?_
        intro φ112 w112 s
        rw [nat_addI (a := p) (b := 1) (by  have hq0 := dF9 hc6; have hq1 := dT9 hc9; have hq2 := dF9 hc11; have hq3 := dT9 hc49; have hq4 := dF9 hc51; have hq5 := dT9 hc106; have hq6 := dT9 hc108; omega)]
        rw [nat_geq (a := (p + 1)) (b := ((l).length))]
        rcases Bool.eq_false_or_eq_true (decide (((l).length) ≤ (p + 1))) with hc113 | hc113
        ·
         rw [hc113]
         refine oKD [] [] 15 [] 0 (fun φ114 => [(73, .bool true), (72, undef), (71, undef), (70, undef), (69, undef), (68, undef), (67, undef), (66, .bool true), (65, .bool true), (64, undef), (63, undef), (62, undef), (61, undef), (60, undef), (59, undef)]) (fun φ114 => []) s (fun φ114 => by kernel_rfl) (by kernel_rfl) ?_
         intro φ114 w114 s
         refine cond_true_rule (b := true) (by kernel_rfl) rfl ?_
         refine seqR ?_
         refine oKD [] [] 3 [] 0 (fun φ115 => [(6, .bool false), (5, .int .i64 1), (4, .int .i64 0)]) (fun φ115 => []) s (fun φ115 => by kernel_rfl) (by kernel_rfl) ?_
         intro φ115 w115 s
         refine wp_ret ?_
         refine ret_rule (C := []) [] [] (.tuple #[.int .i64 0, .int .i64 1, .bool false]) [] [] s trivial (by kernel_rfl) ?_
         exact ⟨_, _, _, rfl, s, (sgn_bad (l := l) (p := p) (by have z0 := byte_lt (l.getD p 0); have z1 := byte_lt (l.getD (p + 1) 0); have z2 := byte_lt (l.getD (p + 2) 0); have z3 := byte_lt (l.getD (p + 3) 0); have hq0 := dF9 hc6; have hq1 := dT9 hc9; have hq2 := dF9 hc11; have hq3 := dT9 hc49; have hq4 := dF9 hc51; have hq5 := dT9 hc106; have hq6 := dT9 hc108; have hq7 := dT9 hc113; unfold Lib.decodeN; (repeat' split) <;> first | with_reducible rfl | (exfalso; omega) | (refine Prod.ext ?_ ?_ <;> dsimp only <;> omega)))⟩
        ·
         rw [hc113]
         refine oK [] [] 4 [] 0 (fun φ116 => [(62, .int .i64 (IntKind.wrap .i64 (((p : Nat) : Int) + ((1 : Nat) : Int)))), (61, .int .i64 1), (60, .int .i64 p), (59, .string ⟨(l).toArray⟩)]) (fun φ116 => []) s (fun φ116 => by kernel_rfl) ?_
         intro φ116 w116 s
         rw [nat_addI (a := p) (b := 1) (by  have hq0 := dF9 hc6; have hq1 := dT9 hc9; have hq2 := dF9 hc11; have hq3 := dT9 hc49; have hq4 := dF9 hc51; have hq5 := dT9 hc106; have hq6 := dT9 hc108; have hq7 := dF9 hc113; omega)]
         refine sem_rule (Instr.index 9 (.string ⟨(l).toArray⟩) (.int .i64 ((p + 1 : Nat) : Int))) (some 63) (.int .u8 (((l.getD (p + 1) 0).toNat : Nat) : Int)) (by kernel_rfl) (run_idxK (s := l) (i := p + 1) (by  have hq0 := dF9 hc6; have hq1 := dT9 hc9; have hq2 := dF9 hc11; have hq3 := dT9 hc49; have hq4 := dF9 hc51; have hq5 := dT9 hc106; have hq6 := dT9 hc108; have hq7 := dF9 hc113; (try simp only [List.length_drop, List.length_take, List.length_append, List.length_cons, List.length_nil]); omega)) ?_
         refine oK [] [] 3 [] 0 (fun φ117 => [(66, .bool (decide ((((l.getD (p + 1) 0).toNat : Nat) : Int) < ((128 : Nat) : Int)))), (65, .bool (decide ((((l.getD (p + 1) 0).toNat : Nat) : Int) < ((128 : Nat) : Int)))), (64, .bool (decide ((((l.getD (p + 1) 0).toNat : Nat) : Int) < ((128 : Nat) : Int))))]) (fun φ117 => []) s (fun φ117 => by kernel_rfl) ?_
         intro φ117 w117 s
         rw [nat_lss (a := ((l.getD (p + 1) 0).toNat)) (b := 128)]
         rcases Bool.eq_false_or_eq_true (decide (((l.getD (p + 1) 0).toNat) < 128)) with hc118 | hc118
         ·
          rw [hc118]
          refine oKD [] [] 7 [] 0 (fun φ119 => [(73, .bool true), (72, undef), (71, undef), (70, undef), (69, undef), (68, undef), (67, undef)]) (fun φ119 => []) s (fun φ119 => by kernel_rfl) (by kernel_rfl) ?_
          intro φ119 w119 s
          refine cond_true_rule (b := true) (by kernel_rfl) rfl ?_
          refine seqR ?_
          refine oKD [] [] 3 [] 0 (fun φ120 => [(6, .bool false), (5, .int .i64 1), (4, .int .i64 0)]) (fun φ120 => []) s (fun φ120 => by kernel_rfl) (by kernel_rfl) ?_
          intro φ120 w120 s
          refine wp_ret ?_
          refine ret_rule (C := []) [] [] (.tuple #[.int .i64 0, .int .i64 1, .bool false]) [] [] s trivial (by kernel_rfl) ?_
          exact ⟨_, _, _, rfl, s, (sgn_bad (l := l) (p := p) (by have z0 := byte_lt (l.getD p 0); have z1 := byte_lt (l.getD (p + 1) 0); have z2 := byte_lt (l.getD (p + 2) 0); have z3 := byte_lt (l.getD (p + 3) 0); have hq0 := dF9 hc6; have hq1 := dT9 hc9; have hq2 := dF9 hc11; have hq3 := dT9 hc49; have hq4 := dF9 hc51; have hq5 := dT9 hc106; have hq6 := dT9 hc108; have hq7 := dF9 hc113; have hq8 := dT9 hc118; unfold Lib.decodeN; (repeat' split) <;> first | with_reducible rfl | (exfalso; omega) | (refine Prod.ext ?_ ?_ <;> dsimp only <;> omega)))⟩
         ·
          rw [hc118]
          refine oK [] [] 4 [] 0 (fun φ121 => [(70, .int .i64 (IntKind.wrap .i64 (((p : Nat) : Int) + ((1 : Nat) : Int)))), (69, .int .i64 1), (68, .int .i64 p), (67, .string ⟨(l).toArray⟩)]) (fun φ121 => []) s (fun φ121 => by kernel_rfl) ?_
          intro φ121 w121 s
          rw [nat_addI (a := p) (b := 1) (by  have hq0 := dF9 hc6; have hq1 := dT9 hc9; have hq2 := dF9 hc11; have hq3 := dT9 hc49; have hq4 := dF9 hc51; have hq5 := dT9 hc106; have hq6 := dT9 hc108; have hq7 := dF9 hc113; have hq8 := dF9 hc118; omega)]
          refine sem_rule (Instr.index 9 (.string ⟨(l).toArray⟩) (.int .i64 ((p + 1 : Nat) : Int))) (some 71) (.int .u8 (((l.getD (p + 1) 0).toNat : Nat) : Int)) (by kernel_rfl) (run_idxK (s := l) (i := p + 1) (by  have hq0 := dF9 hc6; have hq1 := dT9 hc9; have hq2 := dF9 hc11; have hq3 := dT9 hc49; have hq4 := dF9 hc51; have hq5 := dT9 hc106; have hq6 := dT9 hc108; have hq7 := dF9 hc113; have hq8 := dF9 hc118; (try simp only [List.length_drop, List.length_take, List.length_append, List.length_cons, List.length_nil]); omega)) ?_
          refine oK [] [] 2 [] 0 (fun φ122 => [(73, .bool (decide ((((l.getD (p + 1) 0).toNat : Nat) : Int) > ((191 : Nat) : Int)))), (72, .bool (decide ((((l.getD (p + 1) 0).toNat : Nat) : Int) > ((191 : Nat) : Int))))]) (fun φ122 => []) s (fun φ122 => by kernel_rfl) ?_
          intro φ122 w122 s
          rw [nat_gtr (a := ((l.getD (p + 1) 0).toNat)) (b := 191)]
          refine ops_done (by kernel_rfl) ?_
          rcases Bool.eq_false_or_eq_true (decide (191 < ((l.getD (p + 1) 0).toNat))) with hc123 | hc123
          ·
           rw [hc123]
           refine cond_true_rule (b := true) (by kernel_rfl) rfl ?_
           refine seqR ?_
           refine oKD [] [] 3 [] 0 (fun φ124 => [(6, .bool false), (5, .int .i64 1), (4, .int .i64 0)]) (fun φ124 => []) s (fun φ124 => by kernel_rfl) (by kernel_rfl) ?_
           intro φ124 w124 s
           refine wp_ret ?_
           refine ret_rule (C := []) [] [] (.tuple #[.int .i64 0, .int .i64 1, .bool false]) [] [] s trivial (by kernel_rfl) ?_
           exact ⟨_, _, _, rfl, s, (sgn_bad (l := l) (p := p) (by have z0 := byte_lt (l.getD p 0); have z1 := byte_lt (l.getD (p + 1) 0); have z2 := byte_lt (l.getD (p + 2) 0); have z3 := byte_lt (l.getD (p + 3) 0); have hq0 := dF9 hc6; have hq1 := dT9 hc9; have hq2 := dF9 hc11; have hq3 := dT9 hc49; have hq4 := dF9 hc51; have hq5 := dT9 hc106; have hq6 := dT9 hc108; have hq7 := dF9 hc113; have hq8 := dF9 hc118; have hq9 := dT9 hc123; unfold Lib.decodeN; (repeat' split) <;> first | with_reducible rfl | (exfalso; omega) | (refine Prod.ext ?_ ?_ <;> dsimp only <;> omega)))⟩
          ·
           rw [hc123]
           refine cond_false_rule (b := false) (by kernel_rfl) rfl ?_
           refine wp_skip ?_
           refine region_rule ?_
           refine oK [] [] 6 [] 0 (fun φ125 => [(79, .int .i64 (IntKind.wrap .i64 (((p : Nat) : Int) + ((1 : Nat) : Int)))), (78, .int .i64 1), (77, .int .i64 p), (76, .string ⟨(l).toArray⟩), (75, .int .i64 (IntKind.wrap .i64 (((64 : Nat) : Int) * ((((l.getD p 0).toNat) - 240 : Nat) : Int)))), (74, .int .i64 ((((l.getD p 0).toNat) - 240 : Nat) : Int))]) (fun φ125 => []) s (fun φ125 => by kernel_rfl) ?_
           intro φ125 w125 s
           rw [nat_addI (a := p) (b := 1) (by  have hq0 := dF9 hc6; have hq1 := dT9 hc9; have hq2 := dF9 hc11; have hq3 := dT9 hc49; have hq4 := dF9 hc51; have hq5 := dT9 hc106; have hq6 := dT9 hc108; have hq7 := dF9 hc113; have hq8 := dF9 hc118; have hq9 := dF9 hc123; omega)]
           rw [nat_mulI (a := 64) (b := (((l.getD p 0).toNat) - 240)) (by  have := byte_lt (l.getD p 0); have hq0 := dF9 hc6; have hq1 := dT9 hc9; have hq2 := dF9 hc11; have hq3 := dT9 hc49; have hq4 := dF9 hc51; have hq5 := dT9 hc106; have hq6 := dT9 hc108; have hq7 := dF9 hc113; have hq8 := dF9 hc118; have hq9 := dF9 hc123; omega)]
           refine sem_rule (Instr.index 9 (.string ⟨(l).toArray⟩) (.int .i64 ((p + 1 : Nat) : Int))) (some 80) (.int .u8 (((l.getD (p + 1) 0).toNat : Nat) : Int)) (by kernel_rfl) (run_idxK (s := l) (i := p + 1) (by  have hq0 := dF9 hc6; have hq1 := dT9 hc9; have hq2 := dF9 hc11; have hq3 := dT9 hc49; have hq4 := dF9 hc51; have hq5 := dT9 hc106; have hq6 := dT9 hc108; have hq7 := dF9 hc113; have hq8 := dF9 hc118; have hq9 := dF9 hc123; (try simp only [List.length_drop, List.length_take, List.length_append, List.length_cons, List.length_nil]); omega)) ?_
           refine oK [] [] 4 [] 0 (fun φ126 => [(10, .int .i64 (IntKind.wrap .i64 ((IntKind.wrap .i64 (((64 * (((l.getD p 0).toNat) - 240) : Nat) : Int) + (IntKind.wrap .i64 (((l.getD (p + 1) 0).toNat : Nat) : Int)))) - ((128 : Nat) : Int)))), (83, .int .i64 (IntKind.wrap .i64 ((IntKind.wrap .i64 (((64 * (((l.getD p 0).toNat) - 240) : Nat) : Int) + (IntKind.wrap .i64 (((l.getD (p + 1) 0).toNat : Nat) : Int)))) - ((128 : Nat) : Int)))), (82, .int .i64 (IntKind.wrap .i64 (((64 * (((l.getD p 0).toNat) - 240) : Nat) : Int) + (IntKind.wrap .i64 (((l.getD (p + 1) 0).toNat : Nat) : Int))))), (81, .int .i64 (IntKind.wrap .i64 (((l.getD (p + 1) 0).toNat : Nat) : Int)))]) (fun φ126 => []) s (fun φ126 => by kernel_rfl) ?_
           intro φ126 w126 s
           rw [nat_wrapI (a := ((l.getD (p + 1) 0).toNat)) (by  have := byte_lt (l.getD (p + 1) 0); have hq0 := dF9 hc6; have hq1 := dT9 hc9; have hq2 := dF9 hc11; have hq3 := dT9 hc49; have hq4 := dF9 hc51; have hq5 := dT9 hc106; have hq6 := dT9 hc108; have hq7 := dF9 hc113; have hq8 := dF9 hc118; have hq9 := dF9 hc123; omega)]
           rw [nat_addI (a := (64 * (((l.getD p 0).toNat) - 240))) (b := ((l.getD (p + 1) 0).toNat)) (by  have := byte_lt (l.getD (p + 1) 0); have := byte_lt (l.getD p 0); have hq0 := dF9 hc6; have hq1 := dT9 hc9; have hq2 := dF9 hc11; have hq3 := dT9 hc49; have hq4 := dF9 hc51; have hq5 := dT9 hc106; have hq6 := dT9 hc108; have hq7 := dF9 hc113; have hq8 := dF9 hc118; have hq9 := dF9 hc123; omega)]
           rw [nat_subI (a := ((64 * (((l.getD p 0).toNat) - 240)) + ((l.getD (p + 1) 0).toNat))) (b := 128) (by  have := byte_lt (l.getD (p + 1) 0); have := byte_lt (l.getD p 0); have hq0 := dF9 hc6; have hq1 := dT9 hc9; have hq2 := dF9 hc11; have hq3 := dT9 hc49; have hq4 := dF9 hc51; have hq5 := dT9 hc106; have hq6 := dT9 hc108; have hq7 := dF9 hc113; have hq8 := dF9 hc118; have hq9 := dF9 hc123; omega) (by  have := byte_lt (l.getD (p + 1) 0); have := byte_lt (l.getD p 0); have hq0 := dF9 hc6; have hq1 := dT9 hc9; have hq2 := dF9 hc11; have hq3 := dT9 hc49; have hq4 := dF9 hc51; have hq5 := dT9 hc106; have hq6 := dT9 hc108; have hq7 := dF9 hc113; have hq8 := dF9 hc118; have hq9 := dF9 hc123; omega)]
           refine ops_done (by kernel_rfl) ?_
           refine region_rule ?_
           refine oKD [] [] 3 [] 0 (fun φ127 => [(11, .int .i64 2), (51, .int .i64 2), (50, .int .i64 1)]) (fun φ127 => []) s (fun φ127 => by kernel_rfl) (by kernel_rfl) ?_
           intro φ127 w127 s
           refine rounds_step (n := 3) ?_
           refine wp_seq ?_
           refine seqR ?_
           refine oKD [] [] 3 [] 0 (fun φ128 => [(49, .bool true), (48, .int .i64 4), (47, .int .i64 2)]) (fun φ128 => []) s (fun φ128 => by kernel_rfl) (by kernel_rfl) ?_
           intro φ128 w128 s
           refine cond_true_rule (b := true) (by kernel_rfl) rfl ?_
           refine wp_skip ?_
           refine wp_seq ?_
           refine wp_block ?_
           refine wp_seq ?_
           refine seqR ?_
           refine oK [] [] 7 [] 0 (fun φ129 => [(58, .bool (decide ((IntKind.wrap .i64 (((p : Nat) : Int) + ((2 : Nat) : Int))) ≥ (((l).length : Nat) : Int)))), (57, .bool (decide ((IntKind.wrap .i64 (((p : Nat) : Int) + ((2 : Nat) : Int))) ≥ (((l).length : Nat) : Int)))), (56, .int .i64 (((l).length : Nat) : Int)), (55, .string ⟨(l).toArray⟩), (54, .int .i64 (IntKind.wrap .i64 (((p : Nat) : Int) + ((2 : Nat) : Int)))), (53, .int .i64 2), (52, .int .i64 p)]) (fun φ129 => []) s (fun φ129 => by kernel_rfl) ?_
           intro φ129 w129 s
           rw [nat_addI (a := p) (b := 2) (by  have hq0 := dF9 hc6; have hq1 := dT9 hc9; have hq2 := dF9 hc11; have hq3 := dT9 hc49; have hq4 := dF9 hc51; have hq5 := dT9 hc106; have hq6 := dT9 hc108; have hq7 := dF9 hc113; have hq8 := dF9 hc118; have hq9 := dF9 hc123; omega)]
           rw [nat_geq (a := (p + 2)) (b := ((l).length))]
           rcases Bool.eq_false_or_eq_true (decide (((l).length) ≤ (p + 2))) with hc130 | hc130
           ·
            rw [hc130]
            refine oKD [] [] 15 [] 0 (fun φ131 => [(73, .bool true), (72, undef), (71, undef), (70, undef), (69, undef), (68, undef), (67, undef), (66, .bool true), (65, .bool true), (64, undef), (63, undef), (62, undef), (61, undef), (60, undef), (59, undef)]) (fun φ131 => []) s (fun φ131 => by kernel_rfl) (by kernel_rfl) ?_
            intro φ131 w131 s
            refine cond_true_rule (b := true) (by kernel_rfl) rfl ?_
            refine seqR ?_
            refine oKD [] [] 3 [] 0 (fun φ132 => [(6, .bool false), (5, .int .i64 1), (4, .int .i64 0)]) (fun φ132 => []) s (fun φ132 => by kernel_rfl) (by kernel_rfl) ?_
            intro φ132 w132 s
            refine wp_ret ?_
            refine ret_rule (C := []) [] [] (.tuple #[.int .i64 0, .int .i64 1, .bool false]) [] [] s trivial (by kernel_rfl) ?_
            exact ⟨_, _, _, rfl, s, (sgn_bad (l := l) (p := p) (by have z0 := byte_lt (l.getD p 0); have z1 := byte_lt (l.getD (p + 1) 0); have z2 := byte_lt (l.getD (p + 2) 0); have z3 := byte_lt (l.getD (p + 3) 0); have hq0 := dF9 hc6; have hq1 := dT9 hc9; have hq2 := dF9 hc11; have hq3 := dT9 hc49; have hq4 := dF9 hc51; have hq5 := dT9 hc106; have hq6 := dT9 hc108; have hq7 := dF9 hc113; have hq8 := dF9 hc118; have hq9 := dF9 hc123; have hq10 := dT9 hc130; unfold Lib.decodeN; (repeat' split) <;> first | with_reducible rfl | (exfalso; omega) | (refine Prod.ext ?_ ?_ <;> dsimp only <;> omega)))⟩
           ·
            rw [hc130]
            refine oK [] [] 4 [] 0 (fun φ133 => [(62, .int .i64 (IntKind.wrap .i64 (((p : Nat) : Int) + ((2 : Nat) : Int)))), (61, .int .i64 2), (60, .int .i64 p), (59, .string ⟨(l).toArray⟩)]) (fun φ133 => []) s (fun φ133 => by kernel_rfl) ?_
            intro φ133 w133 s
            rw [nat_addI (a := p) (b := 2) (by  have hq0 := dF9 hc6; have hq1 := dT9 hc9; have hq2 := dF9 hc11; have hq3 := dT9 hc49; have hq4 := dF9 hc51; have hq5 := dT9 hc106; have hq6 := dT9 hc108; have hq7 := dF9 hc113; have hq8 := dF9 hc118; have hq9 := dF9 hc123; have hq10 := dF9 hc130; omega)]
            refine sem_rule (Instr.index 9 (.string ⟨(l).toArray⟩) (.int .i64 ((p + 2 : Nat) : Int))) (some 63) (.int .u8 (((l.getD (p + 2) 0).toNat : Nat) : Int)) (by kernel_rfl) (run_idxK (s := l) (i := p + 2) (by  have hq0 := dF9 hc6; have hq1 := dT9 hc9; have hq2 := dF9 hc11; have hq3 := dT9 hc49; have hq4 := dF9 hc51; have hq5 := dT9 hc106; have hq6 := dT9 hc108; have hq7 := dF9 hc113; have hq8 := dF9 hc118; have hq9 := dF9 hc123; have hq10 := dF9 hc130; (try simp only [List.length_drop, List.length_take, List.length_append, List.length_cons, List.length_nil]); omega)) ?_
            refine oK [] [] 3 [] 0 (fun φ134 => [(66, .bool (decide ((((l.getD (p + 2) 0).toNat : Nat) : Int) < ((128 : Nat) : Int)))), (65, .bool (decide ((((l.getD (p + 2) 0).toNat : Nat) : Int) < ((128 : Nat) : Int)))), (64, .bool (decide ((((l.getD (p + 2) 0).toNat : Nat) : Int) < ((128 : Nat) : Int))))]) (fun φ134 => []) s (fun φ134 => by kernel_rfl) ?_
            intro φ134 w134 s
            rw [nat_lss (a := ((l.getD (p + 2) 0).toNat)) (b := 128)]
            rcases Bool.eq_false_or_eq_true (decide (((l.getD (p + 2) 0).toNat) < 128)) with hc135 | hc135
            ·
             rw [hc135]
             refine oKD [] [] 7 [] 0 (fun φ136 => [(73, .bool true), (72, undef), (71, undef), (70, undef), (69, undef), (68, undef), (67, undef)]) (fun φ136 => []) s (fun φ136 => by kernel_rfl) (by kernel_rfl) ?_
             intro φ136 w136 s
             refine cond_true_rule (b := true) (by kernel_rfl) rfl ?_
             refine seqR ?_
             refine oKD [] [] 3 [] 0 (fun φ137 => [(6, .bool false), (5, .int .i64 1), (4, .int .i64 0)]) (fun φ137 => []) s (fun φ137 => by kernel_rfl) (by kernel_rfl) ?_
             intro φ137 w137 s
             refine wp_ret ?_
             refine ret_rule (C := []) [] [] (.tuple #[.int .i64 0, .int .i64 1, .bool false]) [] [] s trivial (by kernel_rfl) ?_
             exact ⟨_, _, _, rfl, s, (sgn_bad (l := l) (p := p) (by have z0 := byte_lt (l.getD p 0); have z1 := byte_lt (l.getD (p + 1) 0); have z2 := byte_lt (l.getD (p + 2) 0); have z3 := byte_lt (l.getD (p + 3) 0); have hq0 := dF9 hc6; have hq1 := dT9 hc9; have hq2 := dF9 hc11; have hq3 := dT9 hc49; have hq4 := dF9 hc51; have hq5 := dT9 hc106; have hq6 := dT9 hc108; have hq7 := dF9 hc113; have hq8 := dF9 hc118; have hq9 := dF9 hc123; have hq10 := dF9 hc130; have hq11 := dT9 hc135; unfold Lib.decodeN; (repeat' split) <;> first | with_reducible rfl | (exfalso; omega) | (refine Prod.ext ?_ ?_ <;> dsimp only <;> omega)))⟩
            ·
             rw [hc135]
             refine oK [] [] 4 [] 0 (fun φ138 => [(70, .int .i64 (IntKind.wrap .i64 (((p : Nat) : Int) + ((2 : Nat) : Int)))), (69, .int .i64 2), (68, .int .i64 p), (67, .string ⟨(l).toArray⟩)]) (fun φ138 => []) s (fun φ138 => by kernel_rfl) ?_
             intro φ138 w138 s
             rw [nat_addI (a := p) (b := 2) (by  have hq0 := dF9 hc6; have hq1 := dT9 hc9; have hq2 := dF9 hc11; have hq3 := dT9 hc49; have hq4 := dF9 hc51; have hq5 := dT9 hc106; have hq6 := dT9 hc108; have hq7 := dF9 hc113; have hq8 := dF9 hc118; have hq9 := dF9 hc123; have hq10 := dF9 hc130; have hq11 := dF9 hc135; omega)]
             refine sem_rule (Instr.index 9 (.string ⟨(l).toArray⟩) (.int .i64 ((p + 2 : Nat) : Int))) (some 71) (.int .u8 (((l.getD (p + 2) 0).toNat : Nat) : Int)) (by kernel_rfl) (run_idxK (s := l) (i := p + 2) (by  have hq0 := dF9 hc6; have hq1 := dT9 hc9; have hq2 := dF9 hc11; have hq3 := dT9 hc49; have hq4 := dF9 hc51; have hq5 := dT9 hc106; have hq6 := dT9 hc108; have hq7 := dF9 hc113; have hq8 := dF9 hc118; have hq9 := dF9 hc123; have hq10 := dF9 hc130; have hq11 := dF9 hc135; (try simp only [List.length_drop, List.length_take, List.length_append, List.length_cons, List.length_nil]); omega)) ?_
             refine oK [] [] 2 [] 0 (fun φ139 => [(73, .bool (decide ((((l.getD (p + 2) 0).toNat : Nat) : Int) > ((191 : Nat) : Int)))), (72, .bool (decide ((((l.getD (p + 2) 0).toNat : Nat) : Int) > ((191 : Nat) : Int))))]) (fun φ139 => []) s (fun φ139 => by kernel_rfl) ?_
             intro φ139 w139 s
             rw [nat_gtr (a := ((l.getD (p + 2) 0).toNat)) (b := 191)]
             refine ops_done (by kernel_rfl) ?_
             rcases Bool.eq_false_or_eq_true (decide (191 < ((l.getD (p + 2) 0).toNat))) with hc140 | hc140
             ·
              rw [hc140]
              refine cond_true_rule (b := true) (by kernel_rfl) rfl ?_
              refine seqR ?_
              refine oKD [] [] 3 [] 0 (fun φ141 => [(6, .bool false), (5, .int .i64 1), (4, .int .i64 0)]) (fun φ141 => []) s (fun φ141 => by kernel_rfl) (by kernel_rfl) ?_
              intro φ141 w141 s
              refine wp_ret ?_
              refine ret_rule (C := []) [] [] (.tuple #[.int .i64 0, .int .i64 1, .bool false]) [] [] s trivial (by kernel_rfl) ?_
              exact ⟨_, _, _, rfl, s, (sgn_bad (l := l) (p := p) (by have z0 := byte_lt (l.getD p 0); have z1 := byte_lt (l.getD (p + 1) 0); have z2 := byte_lt (l.getD (p + 2) 0); have z3 := byte_lt (l.getD (p + 3) 0); have hq0 := dF9 hc6; have hq1 := dT9 hc9; have hq2 := dF9 hc11; have hq3 := dT9 hc49; have hq4 := dF9 hc51; have hq5 := dT9 hc106; have hq6 := dT9 hc108; have hq7 := dF9 hc113; have hq8 := dF9 hc118; have hq9 := dF9 hc123; have hq10 := dF9 hc130; have hq11 := dF9 hc135; have hq12 := dT9 hc140; unfold Lib.decodeN; (repeat' split) <;> first | with_reducible rfl | (exfalso; omega) | (refine Prod.ext ?_ ?_ <;> dsimp only <;> omega)))⟩
             ·
              rw [hc140]
              refine cond_false_rule (b := false) (by kernel_rfl) rfl ?_
              refine wp_skip ?_
              refine region_rule ?_
              refine oK [] [] 6 [] 0 (fun φ142 => [(79, .int .i64 (IntKind.wrap .i64 (((p : Nat) : Int) + ((2 : Nat) : Int)))), (78, .int .i64 2), (77, .int .i64 p), (76, .string ⟨(l).toArray⟩), (75, .int .i64 (IntKind.wrap .i64 (((64 : Nat) : Int) * ((((64 * (((l.getD p 0).toNat) - 240)) + ((l.getD (p + 1) 0).toNat)) - 128 : Nat) : Int)))), (74, .int .i64 ((((64 * (((l.getD p 0).toNat) - 240)) + ((l.getD (p + 1) 0).toNat)) - 128 : Nat) : Int))]) (fun φ142 => []) s (fun φ142 => by kernel_rfl) ?_
              intro φ142 w142 s
              rw [nat_addI (a := p) (b := 2) (by  have hq0 := dF9 hc6; have hq1 := dT9 hc9; have hq2 := dF9 hc11; have hq3 := dT9 hc49; have hq4 := dF9 hc51; have hq5 := dT9 hc106; have hq6 := dT9 hc108; have hq7 := dF9 hc113; have hq8 := dF9 hc118; have hq9 := dF9 hc123; have hq10 := dF9 hc130; have hq11 := dF9 hc135; have hq12 := dF9 hc140; omega)]
              rw [nat_mulI (a := 64) (b := (((64 * (((l.getD p 0).toNat) - 240)) + ((l.getD (p + 1) 0).toNat)) - 128)) (by  have := byte_lt (l.getD (p + 1) 0); have := byte_lt (l.getD p 0); have hq0 := dF9 hc6; have hq1 := dT9 hc9; have hq2 := dF9 hc11; have hq3 := dT9 hc49; have hq4 := dF9 hc51; have hq5 := dT9 hc106; have hq6 := dT9 hc108; have hq7 := dF9 hc113; have hq8 := dF9 hc118; have hq9 := dF9 hc123; have hq10 := dF9 hc130; have hq11 := dF9 hc135; have hq12 := dF9 hc140; omega)]
              refine sem_rule (Instr.index 9 (.string ⟨(l).toArray⟩) (.int .i64 ((p + 2 : Nat) : Int))) (some 80) (.int .u8 (((l.getD (p + 2) 0).toNat : Nat) : Int)) (by kernel_rfl) (run_idxK (s := l) (i := p + 2) (by  have hq0 := dF9 hc6; have hq1 := dT9 hc9; have hq2 := dF9 hc11; have hq3 := dT9 hc49; have hq4 := dF9 hc51; have hq5 := dT9 hc106; have hq6 := dT9 hc108; have hq7 := dF9 hc113; have hq8 := dF9 hc118; have hq9 := dF9 hc123; have hq10 := dF9 hc130; have hq11 := dF9 hc135; have hq12 := dF9 hc140; (try simp only [List.length_drop, List.length_take, List.length_append, List.length_cons, List.length_nil]); omega)) ?_
              refine oK [] [] 4 [] 0 (fun φ143 => [(10, .int .i64 (IntKind.wrap .i64 ((IntKind.wrap .i64 (((64 * (((64 * (((l.getD p 0).toNat) - 240)) + ((l.getD (p + 1) 0).toNat)) - 128) : Nat) : Int) + (IntKind.wrap .i64 (((l.getD (p + 2) 0).toNat : Nat) : Int)))) - ((128 : Nat) : Int)))), (83, .int .i64 (IntKind.wrap .i64 ((IntKind.wrap .i64 (((64 * (((64 * (((l.getD p 0).toNat) - 240)) + ((l.getD (p + 1) 0).toNat)) - 128) : Nat) : Int) + (IntKind.wrap .i64 (((l.getD (p + 2) 0).toNat : Nat) : Int)))) - ((128 : Nat) : Int)))), (82, .int .i64 (IntKind.wrap .i64 (((64 * (((64 * (((l.getD p 0).toNat) - 240)) + ((l.getD (p + 1) 0).toNat)) - 128) : Nat) : Int) + (IntKind.wrap .i64 (((l.getD (p + 2) 0).toNat : Nat) : Int))))), (81, .int .i64 (IntKind.wrap .i64 (((l.getD (p + 2) 0).toNat : Nat) : Int)))]) (fun φ143 => []) s (fun φ143 => by kernel_rfl) ?_
              intro φ143 w143 s
              rw [nat_wrapI (a := ((l.getD (p + 2) 0).toNat)) (by  have := byte_lt (l.getD (p + 2) 0); have hq0 := dF9 hc6; have hq1 := dT9 hc9; have hq2 := dF9 hc11; have hq3 := dT9 hc49; have hq4 := dF9 hc51; have hq5 := dT9 hc106; have hq6 := dT9 hc108; have hq7 := dF9 hc113; have hq8 := dF9 hc118; have hq9 := dF9 hc123; have hq10 := dF9 hc130; have hq11 := dF9 hc135; have hq12 := dF9 hc140; omega)]
              rw [nat_addI (a := (64 * (((64 * (((l.getD p 0).toNat) - 240)) + ((l.getD (p + 1) 0).toNat)) - 128))) (b := ((l.getD (p + 2) 0).toNat)) (by  have := byte_lt (l.getD (p + 1) 0); have := byte_lt (l.getD (p + 2) 0); have := byte_lt (l.getD p 0); have hq0 := dF9 hc6; have hq1 := dT9 hc9; have hq2 := dF9 hc11; have hq3 := dT9 hc49; have hq4 := dF9 hc51; have hq5 := dT9 hc106; have hq6 := dT9 hc108; have hq7 := dF9 hc113; have hq8 := dF9 hc118; have hq9 := dF9 hc123; have hq10 := dF9 hc130; have hq11 := dF9 hc135; have hq12 := dF9 hc140; omega)]
              rw [nat_subI (a := ((64 * (((64 * (((l.getD p 0).toNat) - 240)) + ((l.getD (p + 1) 0).toNat)) - 128)) + ((l.getD (p + 2) 0).toNat))) (b := 128) (by  have := byte_lt (l.getD (p + 1) 0); have := byte_lt (l.getD (p + 2) 0); have := byte_lt (l.getD p 0); have hq0 := dF9 hc6; have hq1 := dT9 hc9; have hq2 := dF9 hc11; have hq3 := dT9 hc49; have hq4 := dF9 hc51; have hq5 := dT9 hc106; have hq6 := dT9 hc108; have hq7 := dF9 hc113; have hq8 := dF9 hc118; have hq9 := dF9 hc123; have hq10 := dF9 hc130; have hq11 := dF9 hc135; have hq12 := dF9 hc140; omega) (by  have := byte_lt (l.getD (p + 1) 0); have := byte_lt (l.getD (p + 2) 0); have := byte_lt (l.getD p 0); have hq0 := dF9 hc6; have hq1 := dT9 hc9; have hq2 := dF9 hc11; have hq3 := dT9 hc49; have hq4 := dF9 hc51; have hq5 := dT9 hc106; have hq6 := dT9 hc108; have hq7 := dF9 hc113; have hq8 := dF9 hc118; have hq9 := dF9 hc123; have hq10 := dF9 hc130; have hq11 := dF9 hc135; have hq12 := dF9 hc140; omega)]
              refine ops_done (by kernel_rfl) ?_
              refine region_rule ?_
              refine oKD [] [] 3 [] 0 (fun φ144 => [(11, .int .i64 3), (51, .int .i64 3), (50, .int .i64 2)]) (fun φ144 => []) s (fun φ144 => by kernel_rfl) (by kernel_rfl) ?_
              intro φ144 w144 s
              refine rounds_step (n := 2) ?_
              refine wp_seq ?_
              refine seqR ?_
              refine oKD [] [] 3 [] 0 (fun φ145 => [(49, .bool true), (48, .int .i64 4), (47, .int .i64 3)]) (fun φ145 => []) s (fun φ145 => by kernel_rfl) (by kernel_rfl) ?_
              intro φ145 w145 s
              refine cond_true_rule (b := true) (by kernel_rfl) rfl ?_
              refine wp_skip ?_
              refine wp_seq ?_
              refine wp_block ?_
              refine wp_seq ?_
              refine seqR ?_
              refine oK [] [] 7 [] 0 (fun φ146 => [(58, .bool (decide ((IntKind.wrap .i64 (((p : Nat) : Int) + ((3 : Nat) : Int))) ≥ (((l).length : Nat) : Int)))), (57, .bool (decide ((IntKind.wrap .i64 (((p : Nat) : Int) + ((3 : Nat) : Int))) ≥ (((l).length : Nat) : Int)))), (56, .int .i64 (((l).length : Nat) : Int)), (55, .string ⟨(l).toArray⟩), (54, .int .i64 (IntKind.wrap .i64 (((p : Nat) : Int) + ((3 : Nat) : Int)))), (53, .int .i64 3), (52, .int .i64 p)]) (fun φ146 => []) s (fun φ146 => by kernel_rfl) ?_
              intro φ146 w146 s
              rw [nat_addI (a := p) (b := 3) (by  have hq0 := dF9 hc6; have hq1 := dT9 hc9; have hq2 := dF9 hc11; have hq3 := dT9 hc49; have hq4 := dF9 hc51; have hq5 := dT9 hc106; have hq6 := dT9 hc108; have hq7 := dF9 hc113; have hq8 := dF9 hc118; have hq9 := dF9 hc123; have hq10 := dF9 hc130; have hq11 := dF9 hc135; have hq12 := dF9 hc140; omega)]
              rw [nat_geq (a := (p + 3)) (b := ((l).length))]
              rcases Bool.eq_false_or_eq_true (decide (((l).length) ≤ (p + 3))) with hc147 | hc147
              ·
               rw [hc147]
               refine oKD [] [] 15 [] 0 (fun φ148 => [(73, .bool true), (72, undef), (71, undef), (70, undef), (69, undef), (68, undef), (67, undef), (66, .bool true), (65, .bool true), (64, undef), (63, undef), (62, undef), (61, undef), (60, undef), (59, undef)]) (fun φ148 => []) s (fun φ148 => by kernel_rfl) (by kernel_rfl) ?_
               intro φ148 w148 s
               refine cond_true_rule (b := true) (by kernel_rfl) rfl ?_
               refine seqR ?_
               refine oKD [] [] 3 [] 0 (fun φ149 => [(6, .bool false), (5, .int .i64 1), (4, .int .i64 0)]) (fun φ149 => []) s (fun φ149 => by kernel_rfl) (by kernel_rfl) ?_
               intro φ149 w149 s
               refine wp_ret ?_
               refine ret_rule (C := []) [] [] (.tuple #[.int .i64 0, .int .i64 1, .bool false]) [] [] s trivial (by kernel_rfl) ?_
               exact ⟨_, _, _, rfl, s, (sgn_bad (l := l) (p := p) (by have z0 := byte_lt (l.getD p 0); have z1 := byte_lt (l.getD (p + 1) 0); have z2 := byte_lt (l.getD (p + 2) 0); have z3 := byte_lt (l.getD (p + 3) 0); have hq0 := dF9 hc6; have hq1 := dT9 hc9; have hq2 := dF9 hc11; have hq3 := dT9 hc49; have hq4 := dF9 hc51; have hq5 := dT9 hc106; have hq6 := dT9 hc108; have hq7 := dF9 hc113; have hq8 := dF9 hc118; have hq9 := dF9 hc123; have hq10 := dF9 hc130; have hq11 := dF9 hc135; have hq12 := dF9 hc140; have hq13 := dT9 hc147; unfold Lib.decodeN; (repeat' split) <;> first | with_reducible rfl | (exfalso; omega) | (refine Prod.ext ?_ ?_ <;> dsimp only <;> omega)))⟩
              ·
               rw [hc147]
               refine oK [] [] 4 [] 0 (fun φ150 => [(62, .int .i64 (IntKind.wrap .i64 (((p : Nat) : Int) + ((3 : Nat) : Int)))), (61, .int .i64 3), (60, .int .i64 p), (59, .string ⟨(l).toArray⟩)]) (fun φ150 => []) s (fun φ150 => by kernel_rfl) ?_
               intro φ150 w150 s
               rw [nat_addI (a := p) (b := 3) (by  have hq0 := dF9 hc6; have hq1 := dT9 hc9; have hq2 := dF9 hc11; have hq3 := dT9 hc49; have hq4 := dF9 hc51; have hq5 := dT9 hc106; have hq6 := dT9 hc108; have hq7 := dF9 hc113; have hq8 := dF9 hc118; have hq9 := dF9 hc123; have hq10 := dF9 hc130; have hq11 := dF9 hc135; have hq12 := dF9 hc140; have hq13 := dF9 hc147; omega)]
               refine sem_rule (Instr.index 9 (.string ⟨(l).toArray⟩) (.int .i64 ((p + 3 : Nat) : Int))) (some 63) (.int .u8 (((l.getD (p + 3) 0).toNat : Nat) : Int)) (by kernel_rfl) (run_idxK (s := l) (i := p + 3) (by  have hq0 := dF9 hc6; have hq1 := dT9 hc9; have hq2 := dF9 hc11; have hq3 := dT9 hc49; have hq4 := dF9 hc51; have hq5 := dT9 hc106; have hq6 := dT9 hc108; have hq7 := dF9 hc113; have hq8 := dF9 hc118; have hq9 := dF9 hc123; have hq10 := dF9 hc130; have hq11 := dF9 hc135; have hq12 := dF9 hc140; have hq13 := dF9 hc147; (try simp only [List.length_drop, List.length_take, List.length_append, List.length_cons, List.length_nil]); omega)) ?_
               refine oK [] [] 3 [] 0 (fun φ151 => [(66, .bool (decide ((((l.getD (p + 3) 0).toNat : Nat) : Int) < ((128 : Nat) : Int)))), (65, .bool (decide ((((l.getD (p + 3) 0).toNat : Nat) : Int) < ((128 : Nat) : Int)))), (64, .bool (decide ((((l.getD (p + 3) 0).toNat : Nat) : Int) < ((128 : Nat) : Int))))]) (fun φ151 => []) s (fun φ151 => by kernel_rfl) ?_
               intro φ151 w151 s
               rw [nat_lss (a := ((l.getD (p + 3) 0).toNat)) (b := 128)]
               rcases Bool.eq_false_or_eq_true (decide (((l.getD (p + 3) 0).toNat) < 128)) with hc152 | hc152
               ·
                rw [hc152]
                refine oKD [] [] 7 [] 0 (fun φ153 => [(73, .bool true), (72, undef), (71, undef), (70, undef), (69, undef), (68, undef), (67, undef)]) (fun φ153 => []) s (fun φ153 => by kernel_rfl) (by kernel_rfl) ?_
                intro φ153 w153 s
                refine cond_true_rule (b := true) (by kernel_rfl) rfl ?_
                refine seqR ?_
                refine oKD [] [] 3 [] 0 (fun φ154 => [(6, .bool false), (5, .int .i64 1), (4, .int .i64 0)]) (fun φ154 => []) s (fun φ154 => by kernel_rfl) (by kernel_rfl) ?_
                intro φ154 w154 s
                refine wp_ret ?_
                refine ret_rule (C := []) [] [] (.tuple #[.int .i64 0, .int .i64 1, .bool false]) [] [] s trivial (by kernel_rfl) ?_
                exact ⟨_, _, _, rfl, s, (sgn_bad (l := l) (p := p) (by have z0 := byte_lt (l.getD p 0); have z1 := byte_lt (l.getD (p + 1) 0); have z2 := byte_lt (l.getD (p + 2) 0); have z3 := byte_lt (l.getD (p + 3) 0); have hq0 := dF9 hc6; have hq1 := dT9 hc9; have hq2 := dF9 hc11; have hq3 := dT9 hc49; have hq4 := dF9 hc51; have hq5 := dT9 hc106; have hq6 := dT9 hc108; have hq7 := dF9 hc113; have hq8 := dF9 hc118; have hq9 := dF9 hc123; have hq10 := dF9 hc130; have hq11 := dF9 hc135; have hq12 := dF9 hc140; have hq13 := dF9 hc147; have hq14 := dT9 hc152; unfold Lib.decodeN; (repeat' split) <;> first | with_reducible rfl | (exfalso; omega) | (refine Prod.ext ?_ ?_ <;> dsimp only <;> omega)))⟩
               ·
                rw [hc152]
                refine oK [] [] 4 [] 0 (fun φ155 => [(70, .int .i64 (IntKind.wrap .i64 (((p : Nat) : Int) + ((3 : Nat) : Int)))), (69, .int .i64 3), (68, .int .i64 p), (67, .string ⟨(l).toArray⟩)]) (fun φ155 => []) s (fun φ155 => by kernel_rfl) ?_
                intro φ155 w155 s
                rw [nat_addI (a := p) (b := 3) (by  have hq0 := dF9 hc6; have hq1 := dT9 hc9; have hq2 := dF9 hc11; have hq3 := dT9 hc49; have hq4 := dF9 hc51; have hq5 := dT9 hc106; have hq6 := dT9 hc108; have hq7 := dF9 hc113; have hq8 := dF9 hc118; have hq9 := dF9 hc123; have hq10 := dF9 hc130; have hq11 := dF9 hc135; have hq12 := dF9 hc140; have hq13 := dF9 hc147; have hq14 := dF9 hc152; omega)]
                refine sem_rule (Instr.index 9 (.string ⟨(l).toArray⟩) (.int .i64 ((p + 3 : Nat) : Int))) (some 71) (.int .u8 (((l.getD (p + 3) 0).toNat : Nat) : Int)) (by kernel_rfl) (run_idxK (s := l) (i := p + 3) (by  have hq0 := dF9 hc6; have hq1 := dT9 hc9; have hq2 := dF9 hc11; have hq3 := dT9 hc49; have hq4 := dF9 hc51; have hq5 := dT9 hc106; have hq6 := dT9 hc108; have hq7 := dF9 hc113; have hq8 := dF9 hc118; have hq9 := dF9 hc123; have hq10 := dF9 hc130; have hq11 := dF9 hc135; have hq12 := dF9 hc140; have hq13 := dF9 hc147; have hq14 := dF9 hc152; (try simp only [List.length_drop, List.length_take, List.length_append, List.length_cons, List.length_nil]); omega)) ?_
                refine oK [] [] 2 [] 0 (fun φ156 => [(73, .bool (decide ((((l.getD (p + 3) 0).toNat : Nat) : Int) > ((191 : Nat) : Int)))), (72, .bool (decide ((((l.getD (p + 3) 0).toNat : Nat) : Int) > ((191 : Nat) : Int))))]) (fun φ156 => []) s (fun φ156 => by kernel_rfl) ?_
                intro φ156 w156 s
                rw [nat_gtr (a := ((l.getD (p + 3) 0).toNat)) (b := 191)]
                refine ops_done (by kernel_rfl) ?_
                rcases Bool.eq_false_or_eq_true (decide (191 < ((l.getD (p + 3) 0).toNat))) with hc157 | hc157
                ·
                 rw [hc157]
                 refine cond_true_rule (b := true) (by kernel_rfl) rfl ?_
                 refine seqR ?_
                 refine oKD [] [] 3 [] 0 (fun φ158 => [(6, .bool false), (5, .int .i64 1), (4, .int .i64 0)]) (fun φ158 => []) s (fun φ158 => by kernel_rfl) (by kernel_rfl) ?_
                 intro φ158 w158 s
                 refine wp_ret ?_
                 refine ret_rule (C := []) [] [] (.tuple #[.int .i64 0, .int .i64 1, .bool false]) [] [] s trivial (by kernel_rfl) ?_
                 exact ⟨_, _, _, rfl, s, (sgn_bad (l := l) (p := p) (by have z0 := byte_lt (l.getD p 0); have z1 := byte_lt (l.getD (p + 1) 0); have z2 := byte_lt (l.getD (p + 2) 0); have z3 := byte_lt (l.getD (p + 3) 0); have hq0 := dF9 hc6; have hq1 := dT9 hc9; have hq2 := dF9 hc11; have hq3 := dT9 hc49; have hq4 := dF9 hc51; have hq5 := dT9 hc106; have hq6 := dT9 hc108; have hq7 := dF9 hc113; have hq8 := dF9 hc118; have hq9 := dF9 hc123; have hq10 := dF9 hc130; have hq11 := dF9 hc135; have hq12 := dF9 hc140; have hq13 := dF9 hc147; have hq14 := dF9 hc152; have hq15 := dT9 hc157; unfold Lib.decodeN; (repeat' split) <;> first | with_reducible rfl | (exfalso; omega) | (refine Prod.ext ?_ ?_ <;> dsimp only <;> omega)))⟩
                ·
                 rw [hc157]
                 refine cond_false_rule (b := false) (by kernel_rfl) rfl ?_
                 refine wp_skip ?_
                 refine region_rule ?_
                 refine oK [] [] 6 [] 0 (fun φ159 => [(79, .int .i64 (IntKind.wrap .i64 (((p : Nat) : Int) + ((3 : Nat) : Int)))), (78, .int .i64 3), (77, .int .i64 p), (76, .string ⟨(l).toArray⟩), (75, .int .i64 (IntKind.wrap .i64 (((64 : Nat) : Int) * ((((64 * (((64 * (((l.getD p 0).toNat) - 240)) + ((l.getD (p + 1) 0).toNat)) - 128)) + ((l.getD (p + 2) 0).toNat)) - 128 : Nat) : Int)))), (74, .int .i64 ((((64 * (((64 * (((l.getD p 0).toNat) - 240)) + ((l.getD (p + 1) 0).toNat)) - 128)) + ((l.getD (p + 2) 0).toNat)) - 128 : Nat) : Int))]) (fun φ159 => []) s (fun φ159 => by kernel_rfl) ?_
                 intro φ159 w159 s
                 rw [nat_addI (a := p) (b := 3) (by  have hq0 := dF9 hc6; have hq1 := dT9 hc9; have hq2 := dF9 hc11; have hq3 := dT9 hc49; have hq4 := dF9 hc51; have hq5 := dT9 hc106; have hq6 := dT9 hc108; have hq7 := dF9 hc113; have hq8 := dF9 hc118; have hq9 := dF9 hc123; have hq10 := dF9 hc130; have hq11 := dF9 hc135; have hq12 := dF9 hc140; have hq13 := dF9 hc147; have hq14 := dF9 hc152; have hq15 := dF9 hc157; omega)]
                 rw [nat_mulI (a := 64) (b := (((64 * (((64 * (((l.getD p 0).toNat) - 240)) + ((l.getD (p + 1) 0).toNat)) - 128)) + ((l.getD (p + 2) 0).toNat)) - 128)) (by  have := byte_lt (l.getD (p + 1) 0); have := byte_lt (l.getD (p + 2) 0); have := byte_lt (l.getD p 0); have hq0 := dF9 hc6; have hq1 := dT9 hc9; have hq2 := dF9 hc11; have hq3 := dT9 hc49; have hq4 := dF9 hc51; have hq5 := dT9 hc106; have hq6 := dT9 hc108; have hq7 := dF9 hc113; have hq8 := dF9 hc118; have hq9 := dF9 hc123; have hq10 := dF9 hc130; have hq11 := dF9 hc135; have hq12 := dF9 hc140; have hq13 := dF9 hc147; have hq14 := dF9 hc152; have hq15 := dF9 hc157; omega)]
                 refine sem_rule (Instr.index 9 (.string ⟨(l).toArray⟩) (.int .i64 ((p + 3 : Nat) : Int))) (some 80) (.int .u8 (((l.getD (p + 3) 0).toNat : Nat) : Int)) (by kernel_rfl) (run_idxK (s := l) (i := p + 3) (by  have hq0 := dF9 hc6; have hq1 := dT9 hc9; have hq2 := dF9 hc11; have hq3 := dT9 hc49; have hq4 := dF9 hc51; have hq5 := dT9 hc106; have hq6 := dT9 hc108; have hq7 := dF9 hc113; have hq8 := dF9 hc118; have hq9 := dF9 hc123; have hq10 := dF9 hc130; have hq11 := dF9 hc135; have hq12 := dF9 hc140; have hq13 := dF9 hc147; have hq14 := dF9 hc152; have hq15 := dF9 hc157; (try simp only [List.length_drop, List.length_take, List.length_append, List.length_cons, List.length_nil]); omega)) ?_
                 refine oK [] [] 4 [] 0 (fun φ160 => [(10, .int .i64 (IntKind.wrap .i64 ((IntKind.wrap .i64 (((64 * (((64 * (((64 * (((l.getD p 0).toNat) - 240)) + ((l.getD (p + 1) 0).toNat)) - 128)) + ((l.getD (p + 2) 0).toNat)) - 128) : Nat) : Int) + (IntKind.wrap .i64 (((l.getD (p + 3) 0).toNat : Nat) : Int)))) - ((128 : Nat) : Int)))), (83, .int .i64 (IntKind.wrap .i64 ((IntKind.wrap .i64 (((64 * (((64 * (((64 * (((l.getD p 0).toNat) - 240)) + ((l.getD (p + 1) 0).toNat)) - 128)) + ((l.getD (p + 2) 0).toNat)) - 128) : Nat) : Int) + (IntKind.wrap .i64 (((l.getD (p + 3) 0).toNat : Nat) : Int)))) - ((128 : Nat) : Int)))), (82, .int .i64 (IntKind.wrap .i64 (((64 * (((64 * (((64 * (((l.getD p 0).toNat) - 240)) + ((l.getD (p + 1) 0).toNat)) - 128)) + ((l.getD (p + 2) 0).toNat)) - 128) : Nat) : Int) + (IntKind.wrap .i64 (((l.getD (p + 3) 0).toNat : Nat) : Int))))), (81, .int .i64 (IntKind.wrap .i64 (((l.getD (p + 3) 0).toNat : Nat) : Int)))]) (fun φ160 => []) s (fun φ160 => by kernel_rfl) ?_
                 intro φ160 w160 s
                 rw [nat_wrapI (a := ((l.getD (p + 3) 0).toNat)) (by  have := byte_lt (l.getD (p + 3) 0); have hq0 := dF9 hc6; have hq1 := dT9 hc9; have hq2 := dF9 hc11; have hq3 := dT9 hc49; have hq4 := dF9 hc51; have hq5 := dT9 hc106; have hq6 := dT9 hc108; have hq7 := dF9 hc113; have hq8 := dF9 hc118; have hq9 := dF9 hc123; have hq10 := dF9 hc130; have hq11 := dF9 hc135; have hq12 := dF9 hc140; have hq13 := dF9 hc147; have hq14 := dF9 hc152; have hq15 := dF9 hc157; omega)]
                 rw [nat_addI (a := (64 * (((64 * (((64 * (((l.getD p 0).toNat) - 240)) + ((l.getD (p + 1) 0).toNat)) - 128)) + ((l.getD (p + 2) 0).toNat)) - 128))) (b := ((l.getD (p + 3) 0).toNat)) (by  have := byte_lt (l.getD (p + 1) 0); have := byte_lt (l.getD (p + 2) 0); have := byte_lt (l.getD (p + 3) 0); have := byte_lt (l.getD p 0); have hq0 := dF9 hc6; have hq1 := dT9 hc9; have hq2 := dF9 hc11; have hq3 := dT9 hc49; have hq4 := dF9 hc51; have hq5 := dT9 hc106; have hq6 := dT9 hc108; have hq7 := dF9 hc113; have hq8 := dF9 hc118; have hq9 := dF9 hc123; have hq10 := dF9 hc130; have hq11 := dF9 hc135; have hq12 := dF9 hc140; have hq13 := dF9 hc147; have hq14 := dF9 hc152; have hq15 := dF9 hc157; omega)]
                 rw [nat_subI (a := ((64 * (((64 * (((64 * (((l.getD p 0).toNat) - 240)) + ((l.getD (p + 1) 0).toNat)) - 128)) + ((l.getD (p + 2) 0).toNat)) - 128)) + ((l.getD (p + 3) 0).toNat))) (b := 128) (by  have := byte_lt (l.getD (p + 1) 0); have := byte_lt (l.getD (p + 2) 0); have := byte_lt (l.getD (p + 3) 0); have := byte_lt (l.getD p 0); have hq0 := dF9 hc6; have hq1 := dT9 hc9; have hq2 := dF9 hc11; have hq3 := dT9 hc49; have hq4 := dF9 hc51; have hq5 := dT9 hc106; have hq6 := dT9 hc108; have hq7 := dF9 hc113; have hq8 := dF9 hc118; have hq9 := dF9 hc123; have hq10 := dF9 hc130; have hq11 := dF9 hc135; have hq12 := dF9 hc140; have hq13 := dF9 hc147; have hq14 := dF9 hc152; have hq15 := dF9 hc157; omega) (by  have := byte_lt (l.getD (p + 1) 0); have := byte_lt (l.getD (p + 2) 0); have := byte_lt (l.getD (p + 3) 0); have := byte_lt (l.getD p 0); have hq0 := dF9 hc6; have hq1 := dT9 hc9; have hq2 := dF9 hc11; have hq3 := dT9 hc49; have hq4 := dF9 hc51; have hq5 := dT9 hc106; have hq6 := dT9 hc108; have hq7 := dF9 hc113; have hq8 := dF9 hc118; have hq9 := dF9 hc123; have hq10 := dF9 hc130; have hq11 := dF9 hc135; have hq12 := dF9 hc140; have hq13 := dF9 hc147; have hq14 := dF9 hc152; have hq15 := dF9 hc157; omega)]
                 refine ops_done (by kernel_rfl) ?_
                 refine region_rule ?_
                 refine oKD [] [] 3 [] 0 (fun φ161 => [(11, .int .i64 4), (51, .int .i64 4), (50, .int .i64 3)]) (fun φ161 => []) s (fun φ161 => by kernel_rfl) (by kernel_rfl) ?_
                 intro φ161 w161 s
                 refine rounds_step (n := 1) ?_
                 refine wp_seq ?_
                 refine seqR ?_
                 refine oKD [] [] 3 [] 0 (fun φ162 => [(49, .bool false), (48, .int .i64 4), (47, .int .i64 4)]) (fun φ162 => []) s (fun φ162 => by kernel_rfl) (by kernel_rfl) ?_
                 intro φ162 w162 s
                 refine cond_false_rule (b := false) (by kernel_rfl) rfl ?_
                 refine wp_exit ?_
                 refine wp_seq ?_
                 refine seqR ?_
                 refine oK [] [] 4 [] 0 (fun φ163 => [(87, .bool (decide (((((64 * (((64 * (((64 * (((l.getD p 0).toNat) - 240)) + ((l.getD (p + 1) 0).toNat)) - 128)) + ((l.getD (p + 2) 0).toNat)) - 128)) + ((l.getD (p + 3) 0).toNat)) - 128 : Nat) : Int) < ((65536 : Nat) : Int)))), (86, .bool (decide (((((64 * (((64 * (((64 * (((l.getD p 0).toNat) - 240)) + ((l.getD (p + 1) 0).toNat)) - 128)) + ((l.getD (p + 2) 0).toNat)) - 128)) + ((l.getD (p + 3) 0).toNat)) - 128 : Nat) : Int) < ((65536 : Nat) : Int)))), (85, .int .i64 65536), (84, .int .i64 ((((64 * (((64 * (((64 * (((l.getD p 0).toNat) - 240)) + ((l.getD (p + 1) 0).toNat)) - 128)) + ((l.getD (p + 2) 0).toNat)) - 128)) + ((l.getD (p + 3) 0).toNat)) - 128 : Nat) : Int))]) (fun φ163 => []) s (fun φ163 => by kernel_rfl) ?_
                 intro φ163 w163 s
                 rw [nat_lss (a := (((64 * (((64 * (((64 * (((l.getD p 0).toNat) - 240)) + ((l.getD (p + 1) 0).toNat)) - 128)) + ((l.getD (p + 2) 0).toNat)) - 128)) + ((l.getD (p + 3) 0).toNat)) - 128)) (b := 65536)]
                 rcases Bool.eq_false_or_eq_true (decide ((((64 * (((64 * (((64 * (((l.getD p 0).toNat) - 240)) + ((l.getD (p + 1) 0).toNat)) - 128)) + ((l.getD (p + 2) 0).toNat)) - 128)) + ((l.getD (p + 3) 0).toNat)) - 128) < 65536)) with hc164 | hc164
                 ·
                  rw [hc164]
                  refine oKD [] [] 11 [] 0 (fun φ165 => [(98, .bool true), (97, undef), (96, undef), (95, undef), (94, undef), (93, undef), (92, undef), (91, .bool true), (90, .bool true), (89, undef), (88, undef)]) (fun φ165 => []) s (fun φ165 => by kernel_rfl) (by kernel_rfl) ?_
                  intro φ165 w165 s
                  refine cond_true_rule (b := true) (by kernel_rfl) rfl ?_
                  refine seqR ?_
                  refine oKD [] [] 3 [] 0 (fun φ166 => [(6, .bool false), (5, .int .i64 1), (4, .int .i64 0)]) (fun φ166 => []) s (fun φ166 => by kernel_rfl) (by kernel_rfl) ?_
                  intro φ166 w166 s
                  refine wp_ret ?_
                  refine ret_rule (C := []) [] [] (.tuple #[.int .i64 0, .int .i64 1, .bool false]) [] [] s trivial (by kernel_rfl) ?_
                  exact ⟨_, _, _, rfl, s, (sgn_bad (l := l) (p := p) (by have z0 := byte_lt (l.getD p 0); have z1 := byte_lt (l.getD (p + 1) 0); have z2 := byte_lt (l.getD (p + 2) 0); have z3 := byte_lt (l.getD (p + 3) 0); have hq0 := dF9 hc6; have hq1 := dT9 hc9; have hq2 := dF9 hc11; have hq3 := dT9 hc49; have hq4 := dF9 hc51; have hq5 := dT9 hc106; have hq6 := dT9 hc108; have hq7 := dF9 hc113; have hq8 := dF9 hc118; have hq9 := dF9 hc123; have hq10 := dF9 hc130; have hq11 := dF9 hc135; have hq12 := dF9 hc140; have hq13 := dF9 hc147; have hq14 := dF9 hc152; have hq15 := dF9 hc157; have hq16 := dT9 hc164; unfold Lib.decodeN; (repeat' split) <;> first | with_reducible rfl | (exfalso; omega) | (refine Prod.ext ?_ ?_ <;> dsimp only <;> omega)))⟩
                 ·
                  rw [hc164]
                  refine oK [] [] 4 [] 0 (fun φ167 => [(91, .bool (decide (((((64 * (((64 * (((64 * (((l.getD p 0).toNat) - 240)) + ((l.getD (p + 1) 0).toNat)) - 128)) + ((l.getD (p + 2) 0).toNat)) - 128)) + ((l.getD (p + 3) 0).toNat)) - 128 : Nat) : Int) > ((1114111 : Nat) : Int)))), (90, .bool (decide (((((64 * (((64 * (((64 * (((l.getD p 0).toNat) - 240)) + ((l.getD (p + 1) 0).toNat)) - 128)) + ((l.getD (p + 2) 0).toNat)) - 128)) + ((l.getD (p + 3) 0).toNat)) - 128 : Nat) : Int) > ((1114111 : Nat) : Int)))), (89, .bool (decide (((((64 * (((64 * (((64 * (((l.getD p 0).toNat) - 240)) + ((l.getD (p + 1) 0).toNat)) - 128)) + ((l.getD (p + 2) 0).toNat)) - 128)) + ((l.getD (p + 3) 0).toNat)) - 128 : Nat) : Int) > ((1114111 : Nat) : Int)))), (88, .int .i64 ((((64 * (((64 * (((64 * (((l.getD p 0).toNat) - 240)) + ((l.getD (p + 1) 0).toNat)) - 128)) + ((l.getD (p + 2) 0).toNat)) - 128)) + ((l.getD (p + 3) 0).toNat)) - 128 : Nat) : Int))]) (fun φ167 => []) s (fun φ167 => by kernel_rfl) ?_
                  intro φ167 w167 s
                  rw [nat_gtr (a := (((64 * (((64 * (((64 * (((l.getD p 0).toNat) - 240)) + ((l.getD (p + 1) 0).toNat)) - 128)) + ((l.getD (p + 2) 0).toNat)) - 128)) + ((l.getD (p + 3) 0).toNat)) - 128)) (b := 1114111)]
                  rcases Bool.eq_false_or_eq_true (decide (1114111 < (((64 * (((64 * (((64 * (((l.getD p 0).toNat) - 240)) + ((l.getD (p + 1) 0).toNat)) - 128)) + ((l.getD (p + 2) 0).toNat)) - 128)) + ((l.getD (p + 3) 0).toNat)) - 128))) with hc168 | hc168
                  ·
                   rw [hc168]
                   refine oKD [] [] 7 [] 0 (fun φ169 => [(98, .bool true), (97, undef), (96, undef), (95, undef), (94, undef), (93, undef), (92, undef)]) (fun φ169 => []) s (fun φ169 => by kernel_rfl) (by kernel_rfl) ?_
                   intro φ169 w169 s
                   refine cond_true_rule (b := true) (by kernel_rfl) rfl ?_
                   refine seqR ?_
                   refine oKD [] [] 3 [] 0 (fun φ170 => [(6, .bool false), (5, .int .i64 1), (4, .int .i64 0)]) (fun φ170 => []) s (fun φ170 => by kernel_rfl) (by kernel_rfl) ?_
                   intro φ170 w170 s
                   refine wp_ret ?_
                   refine ret_rule (C := []) [] [] (.tuple #[.int .i64 0, .int .i64 1, .bool false]) [] [] s trivial (by kernel_rfl) ?_
                   exact ⟨_, _, _, rfl, s, (sgn_bad (l := l) (p := p) (by have z0 := byte_lt (l.getD p 0); have z1 := byte_lt (l.getD (p + 1) 0); have z2 := byte_lt (l.getD (p + 2) 0); have z3 := byte_lt (l.getD (p + 3) 0); have hq0 := dF9 hc6; have hq1 := dT9 hc9; have hq2 := dF9 hc11; have hq3 := dT9 hc49; have hq4 := dF9 hc51; have hq5 := dT9 hc106; have hq6 := dT9 hc108; have hq7 := dF9 hc113; have hq8 := dF9 hc118; have hq9 := dF9 hc123; have hq10 := dF9 hc130; have hq11 := dF9 hc135; have hq12 := dF9 hc140; have hq13 := dF9 hc147; have hq14 := dF9 hc152; have hq15 := dF9 hc157; have hq16 := dF9 hc164; have hq17 := dT9 hc168; unfold Lib.decodeN; (repeat' split) <;> first | with_reducible rfl | (exfalso; omega) | (refine Prod.ext ?_ ?_ <;> dsimp only <;> omega)))⟩
                  ·
                   rw [hc168]
                   refine oK [] [] 3 [] 0 (fun φ171 => [(94, .bool (decide (((((64 * (((64 * (((64 * (((l.getD p 0).toNat) - 240)) + ((l.getD (p + 1) 0).toNat)) - 128)) + ((l.getD (p + 2) 0).toNat)) - 128)) + ((l.getD (p + 3) 0).toNat)) - 128 : Nat) : Int) ≥ ((55296 : Nat) : Int)))), (93, .bool (decide (((((64 * (((64 * (((64 * (((l.getD p 0).toNat) - 240)) + ((l.getD (p + 1) 0).toNat)) - 128)) + ((l.getD (p + 2) 0).toNat)) - 128)) + ((l.getD (p + 3) 0).toNat)) - 128 : Nat) : Int) ≥ ((55296 : Nat) : Int)))), (92, .int .i64 ((((64 * (((64 * (((64 * (((l.getD p 0).toNat) - 240)) + ((l.getD (p + 1) 0).toNat)) - 128)) + ((l.getD (p + 2) 0).toNat)) - 128)) + ((l.getD (p + 3) 0).toNat)) - 128 : Nat) : Int))]) (fun φ171 => []) s (fun φ171 => by kernel_rfl) ?_
                   intro φ171 w171 s
                   rw [nat_geq (a := (((64 * (((64 * (((64 * (((l.getD p 0).toNat) - 240)) + ((l.getD (p + 1) 0).toNat)) - 128)) + ((l.getD (p + 2) 0).toNat)) - 128)) + ((l.getD (p + 3) 0).toNat)) - 128)) (b := 55296)]
                   rcases Bool.eq_false_or_eq_true (decide (55296 ≤ (((64 * (((64 * (((64 * (((l.getD p 0).toNat) - 240)) + ((l.getD (p + 1) 0).toNat)) - 128)) + ((l.getD (p + 2) 0).toNat)) - 128)) + ((l.getD (p + 3) 0).toNat)) - 128))) with hc172 | hc172
                   ·
                    rw [hc172]
                    refine oK [] [] 4 [] 0 (fun φ173 => [(98, .bool (decide (((((64 * (((64 * (((64 * (((l.getD p 0).toNat) - 240)) + ((l.getD (p + 1) 0).toNat)) - 128)) + ((l.getD (p + 2) 0).toNat)) - 128)) + ((l.getD (p + 3) 0).toNat)) - 128 : Nat) : Int) < ((57344 : Nat) : Int)))), (97, .bool (decide (((((64 * (((64 * (((64 * (((l.getD p 0).toNat) - 240)) + ((l.getD (p + 1) 0).toNat)) - 128)) + ((l.getD (p + 2) 0).toNat)) - 128)) + ((l.getD (p + 3) 0).toNat)) - 128 : Nat) : Int) < ((57344 : Nat) : Int)))), (96, .bool (decide (((((64 * (((64 * (((64 * (((l.getD p 0).toNat) - 240)) + ((l.getD (p + 1) 0).toNat)) - 128)) + ((l.getD (p + 2) 0).toNat)) - 128)) + ((l.getD (p + 3) 0).toNat)) - 128 : Nat) : Int) < ((57344 : Nat) : Int)))), (95, .int .i64 ((((64 * (((64 * (((64 * (((l.getD p 0).toNat) - 240)) + ((l.getD (p + 1) 0).toNat)) - 128)) + ((l.getD (p + 2) 0).toNat)) - 128)) + ((l.getD (p + 3) 0).toNat)) - 128 : Nat) : Int))]) (fun φ173 => []) s (fun φ173 => by kernel_rfl) ?_
                    intro φ173 w173 s
                    rw [nat_lss (a := (((64 * (((64 * (((64 * (((l.getD p 0).toNat) - 240)) + ((l.getD (p + 1) 0).toNat)) - 128)) + ((l.getD (p + 2) 0).toNat)) - 128)) + ((l.getD (p + 3) 0).toNat)) - 128)) (b := 57344)]
                    refine ops_done (by kernel_rfl) ?_
                    rcases Bool.eq_false_or_eq_true (decide ((((64 * (((64 * (((64 * (((l.getD p 0).toNat) - 240)) + ((l.getD (p + 1) 0).toNat)) - 128)) + ((l.getD (p + 2) 0).toNat)) - 128)) + ((l.getD (p + 3) 0).toNat)) - 128) < 57344)) with hc174 | hc174
                    ·
                     exact absurd (dT9 hc174) (by have := byte_lt (l.getD (p + 1) 0); have := byte_lt (l.getD (p + 2) 0); have := byte_lt (l.getD (p + 3) 0); have := byte_lt (l.getD p 0); have hq0 := dF9 hc6; have hq1 := dT9 hc9; have hq2 := dF9 hc11; have hq3 := dT9 hc49; have hq4 := dF9 hc51; have hq5 := dT9 hc106; have hq6 := dT9 hc108; have hq7 := dF9 hc113; have hq8 := dF9 hc118; have hq9 := dF9 hc123; have hq10 := dF9 hc130; have hq11 := dF9 hc135; have hq12 := dF9 hc140; have hq13 := dF9 hc147; have hq14 := dF9 hc152; have hq15 := dF9 hc157; have hq16 := dF9 hc164; have hq17 := dF9 hc168; have hq18 := dT9 hc172; omega)
                    ·
                     rw [hc174]
                     refine cond_false_rule (b := false) (by kernel_rfl) rfl ?_
                     refine wp_skip ?_
                     refine seqR ?_
                     refine oKD [] [] 5 [] 0 (fun φ175 => [(6, .bool true), (5, .int .i64 4), (4, .int .i64 ((((64 * (((64 * (((64 * (((l.getD p 0).toNat) - 240)) + ((l.getD (p + 1) 0).toNat)) - 128)) + ((l.getD (p + 2) 0).toNat)) - 128)) + ((l.getD (p + 3) 0).toNat)) - 128 : Nat) : Int)), (100, .int .i64 4), (99, .int .i64 ((((64 * (((64 * (((64 * (((l.getD p 0).toNat) - 240)) + ((l.getD (p + 1) 0).toNat)) - 128)) + ((l.getD (p + 2) 0).toNat)) - 128)) + ((l.getD (p + 3) 0).toNat)) - 128 : Nat) : Int))]) (fun φ175 => []) s (fun φ175 => by kernel_rfl) (by kernel_rfl) ?_
                     intro φ175 w175 s
                     refine wp_ret ?_
                     refine ret_rule (C := []) [] [] (.tuple #[.int .i64 ((((64 * (((64 * (((64 * (((l.getD p 0).toNat) - 240)) + ((l.getD (p + 1) 0).toNat)) - 128)) + ((l.getD (p + 2) 0).toNat)) - 128)) + ((l.getD (p + 3) 0).toNat)) - 128 : Nat) : Int), .int .i64 4, .bool true]) [] [] s trivial (by kernel_rfl) ?_
                     exact ⟨_, _, _, rfl, s, (sgn_good (l := l) (p := p) (x := ((64 * (((64 * (((64 * (((l.getD p 0).toNat) - 240)) + ((l.getD (p + 1) 0).toNat)) - 128)) + ((l.getD (p + 2) 0).toNat)) - 128)) + ((l.getD (p + 3) 0).toNat)) - 128) (w := 4) (by have z0 := byte_lt (l.getD p 0); have z1 := byte_lt (l.getD (p + 1) 0); have z2 := byte_lt (l.getD (p + 2) 0); have z3 := byte_lt (l.getD (p + 3) 0); have hq0 := dF9 hc6; have hq1 := dT9 hc9; have hq2 := dF9 hc11; have hq3 := dT9 hc49; have hq4 := dF9 hc51; have hq5 := dT9 hc106; have hq6 := dT9 hc108; have hq7 := dF9 hc113; have hq8 := dF9 hc118; have hq9 := dF9 hc123; have hq10 := dF9 hc130; have hq11 := dF9 hc135; have hq12 := dF9 hc140; have hq13 := dF9 hc147; have hq14 := dF9 hc152; have hq15 := dF9 hc157; have hq16 := dF9 hc164; have hq17 := dF9 hc168; have hq18 := dT9 hc172; have hq19 := dF9 hc174; unfold Lib.decodeN; (repeat' split) <;> first | with_reducible rfl | (exfalso; omega) | (refine Prod.ext ?_ ?_ <;> dsimp only <;> omega)) (by have z0 := byte_lt (l.getD p 0); have z1 := byte_lt (l.getD (p + 1) 0); have z2 := byte_lt (l.getD (p + 2) 0); have z3 := byte_lt (l.getD (p + 3) 0); have hq0 := dF9 hc6; have hq1 := dT9 hc9; have hq2 := dF9 hc11; have hq3 := dT9 hc49; have hq4 := dF9 hc51; have hq5 := dT9 hc106; have hq6 := dT9 hc108; have hq7 := dF9 hc113; have hq8 := dF9 hc118; have hq9 := dF9 hc123; have hq10 := dF9 hc130; have hq11 := dF9 hc135; have hq12 := dF9 hc140; have hq13 := dF9 hc147; have hq14 := dF9 hc152; have hq15 := dF9 hc157; have hq16 := dF9 hc164; have hq17 := dF9 hc168; have hq18 := dT9 hc172; have hq19 := dF9 hc174; omega))⟩
                   ·
                    exact absurd (dF9 hc172) (by have := byte_lt (l.getD (p + 1) 0); have := byte_lt (l.getD (p + 2) 0); have := byte_lt (l.getD (p + 3) 0); have := byte_lt (l.getD p 0); have hq0 := dF9 hc6; have hq1 := dT9 hc9; have hq2 := dF9 hc11; have hq3 := dT9 hc49; have hq4 := dF9 hc51; have hq5 := dT9 hc106; have hq6 := dT9 hc108; have hq7 := dF9 hc113; have hq8 := dF9 hc118; have hq9 := dF9 hc123; have hq10 := dF9 hc130; have hq11 := dF9 hc135; have hq12 := dF9 hc140; have hq13 := dF9 hc147; have hq14 := dF9 hc152; have hq15 := dF9 hc157; have hq16 := dF9 hc164; have hq17 := dF9 hc168; omega)
       ·
        rw [hc108]
        refine cond_false_rule (b := false) (by kernel_rfl) rfl ?_
        refine seqR ?_
        refine oKD [] [] 3 [] 0 (fun φ176 => [(6, .bool false), (5, .int .i64 1), (4, .int .i64 0)]) (fun φ176 => []) s (fun φ176 => by kernel_rfl) (by kernel_rfl) ?_
        intro φ176 w176 s
        refine wp_ret ?_
        refine ret_rule (C := []) [] [] (.tuple #[.int .i64 0, .int .i64 1, .bool false]) [] [] s trivial (by kernel_rfl) ?_
        exact ⟨_, _, _, rfl, s, (sgn_bad (l := l) (p := p) (by have z0 := byte_lt (l.getD p 0); have z1 := byte_lt (l.getD (p + 1) 0); have z2 := byte_lt (l.getD (p + 2) 0); have z3 := byte_lt (l.getD (p + 3) 0); have hq0 := dF9 hc6; have hq1 := dT9 hc9; have hq2 := dF9 hc11; have hq3 := dT9 hc49; have hq4 := dF9 hc51; have hq5 := dT9 hc106; have hq6 := dF9 hc108; unfold Lib.decodeN; (repeat' split) <;> first | with_reducible rfl | (exfalso; omega) | (refine Prod.ext ?_ ?_ <;> dsimp only <;> omega)))⟩
      ·
       exact absurd (dF9 hc106) (by have := byte_lt (l.getD p 0); have hq0 := dF9 hc6; have hq1 := dT9 hc9; have hq2 := dF9 hc11; have hq3 := dT9 hc49; have hq4 := dF9 hc51; omega)
    ·
     exact absurd (dF9 hc49) (by have := byte_lt (l.getD p 0); have hq0 := dF9 hc6; have hq1 := dT9 hc9; have hq2 := dF9 hc11; omega)
  ·
   rw [hc9]
   refine oKD [] [] 4 [] 0 (fun φ177 => [(20, .bool false), (26, .bool false), (25, undef), (24, undef)]) (fun φ177 => []) s (fun φ177 => by kernel_rfl) (by kernel_rfl) ?_
   intro φ177 w177 s
   refine cond_false_rule (b := false) (by kernel_rfl) rfl ?_
   refine seqR ?_
   refine oK [] [] 3 [] 0 (fun φ178 => [(32, .bool (decide ((((l.getD p 0).toNat : Nat) : Int) ≥ ((224 : Nat) : Int)))), (31, .bool (decide ((((l.getD p 0).toNat : Nat) : Int) ≥ ((224 : Nat) : Int)))), (30, .int .i64 (((l.getD p 0).toNat : Nat) : Int))]) (fun φ178 => []) s (fun φ178 => by kernel_rfl) ?_
   intro φ178 w178 s
   rw [nat_geq (a := ((l.getD p 0).toNat)) (b := 224)]
   rcases Bool.eq_false_or_eq_true (decide (224 ≤ ((l.getD p 0).toNat))) with hc179 | hc179
   ·
    exact absurd (dT9 hc179) (by have := byte_lt (l.getD p 0); have hq0 := dF9 hc6; have hq1 := dF9 hc9; omega)
   ·
    rw [hc179]
    refine oKD [] [] 4 [] 0 (fun φ180 => [(29, .bool false), (35, .bool false), (34, undef), (33, undef)]) (fun φ180 => []) s (fun φ180 => by kernel_rfl) (by kernel_rfl) ?_
    intro φ180 w180 s
    refine cond_false_rule (b := false) (by kernel_rfl) rfl ?_
    refine seqR ?_
    refine oK [] [] 3 [] 0 (fun φ181 => [(41, .bool (decide ((((l.getD p 0).toNat : Nat) : Int) ≥ ((240 : Nat) : Int)))), (40, .bool (decide ((((l.getD p 0).toNat : Nat) : Int) ≥ ((240 : Nat) : Int)))), (39, .int .i64 (((l.getD p 0).toNat : Nat) : Int))]) (fun φ181 => []) s (fun φ181 => by kernel_rfl) ?_
    intro φ181 w181 s
    rw [nat_geq (a := ((l.getD p 0).toNat)) (b := 240)]
    rcases Bool.eq_false_or_eq_true (decide (240 ≤ ((l.getD p 0).toNat))) with hc182 | hc182
    ·
     exact absurd (dT9 hc182) (by have := byte_lt (l.getD p 0); have hq0 := dF9 hc6; have hq1 := dF9 hc9; have hq2 := dF9 hc179; omega)
    ·
     rw [hc182]
     refine oKD [] [] 4 [] 0 (fun φ183 => [(38, .bool false), (44, .bool false), (43, undef), (42, undef)]) (fun φ183 => []) s (fun φ183 => by kernel_rfl) (by kernel_rfl) ?_
     intro φ183 w183 s
     refine cond_false_rule (b := false) (by kernel_rfl) rfl ?_
     refine seqR ?_
     refine oKD [] [] 3 [] 0 (fun φ184 => [(6, .bool false), (5, .int .i64 1), (4, .int .i64 0)]) (fun φ184 => []) s (fun φ184 => by kernel_rfl) (by kernel_rfl) ?_
     intro φ184 w184 s
     refine wp_ret ?_
     refine ret_rule (C := []) [] [] (.tuple #[.int .i64 0, .int .i64 1, .bool false]) [] [] s trivial (by kernel_rfl) ?_
     exact ⟨_, _, _, rfl, s, (sgn_bad (l := l) (p := p) (by have z0 := byte_lt (l.getD p 0); have z1 := byte_lt (l.getD (p + 1) 0); have z2 := byte_lt (l.getD (p + 2) 0); have z3 := byte_lt (l.getD (p + 3) 0); have hq0 := dF9 hc6; have hq1 := dF9 hc9; have hq2 := dF9 hc179; have hq3 := dF9 hc182; unfold Lib.decodeN; (repeat' split) <;> first | with_reducible rfl | (exfalso; omega) | (refine Prod.ext ?_ ?_ <;> dsimp only <;> omega)))⟩

end Go.Proofs.YtcpmjogeafhpnaaDoor.Tx

/- Signs are counted and looked at: the document's; the program's Runes. -/
set_option linter.all false
set_option maxRecDepth 100000
namespace Go.Proofs.YtcpmjogeafhpnaaDoor.Tx
open Go.RowKit Go.Sep
attribute [local irreducible] Go.wpList Go.Code.wp

theorem okS_go {l : List UInt8} {p : Nat} (h : p < l.length) (hg : (!badD (dR l p, dW l p) && plainD (dR l p, dW l p)) = true) (e : okS l = okS (l.drop p)) : okS l = okS (l.drop (p + dW l p)) := by
  rw [e]; unfold okS; rw [steps_at h, List.all_cons, hg]; rfl
theorem okS_no {l : List UInt8} {p : Nat} (h : p < l.length) (hg : (!badD (dR l p, dW l p) && plainD (dR l p, dW l p)) = false) (e : okS l = okS (l.drop p)) : okS l = false := by
  rw [e]; unfold okS; rw [steps_at h, List.all_cons, hg]; rfl
theorem okS_end {l : List UInt8} {p : Nat} (h : ¬ p < l.length) (e : okS l = okS (l.drop p)) : okS l = true := by
  rw [e]; unfold okS; rw [steps_end h]; rfl
theorem sg_good {l : List UInt8} {p : Nat} (hb : dB l p = false) (h1 : ¬ sgX l p < 32) (h2 : ¬ sgX l p = 127) : (!badD (dR l p, dW l p) && plainD (dR l p, dW l p)) = true := by
  unfold dB at hb; unfold sgX dB at h1 h2; rw [hb] at h1 h2 ⊢; simp only [cond_false] at h1 h2
  unfold plainD; simp only [h1, h2]; rfl
theorem sg_bad1 {l : List UInt8} {p : Nat} (hb : dB l p = true) : (!badD (dR l p, dW l p) && plainD (dR l p, dW l p)) = false := by
  unfold dB at hb; rw [hb]; rfl
theorem sg_bad2 {l : List UInt8} {p : Nat} (hb : dB l p = false) (h1 : sgX l p < 32) : (!badD (dR l p, dW l p) && plainD (dR l p, dW l p)) = false := by
  unfold dB at hb; unfold sgX dB at h1; rw [hb] at h1 ⊢; simp only [cond_false] at h1
  unfold plainD; simp only [h1]; rfl
theorem sg_bad3 {l : List UInt8} {p : Nat} (hb : dB l p = false) (h1 : sgX l p = 127) : (!badD (dR l p, dW l p) && plainD (dR l p, dW l p)) = false := by
  unfold dB at hb; unfold sgX dB at h1; rw [hb] at h1 ⊢; simp only [cond_false] at h1
  unfold plainD; simp only [h1]; rfl
theorem ck_long {l : List UInt8} {mi : Int} (h : ((l.length : Int) > mi)) : Value.int .i64 9 = .int .i64 ((ckE l mi : Nat) : Int) := by
  unfold ckE; rw [decide_eq_true h]; rfl
theorem ck_bad {l : List UInt8} {mi : Int} (h : ¬ ((l.length : Int) > mi)) (e : okS l = false) : Value.int .i64 7 = .int .i64 ((ckE l mi : Nat) : Int) := by
  unfold ckE; rw [decide_eq_false h, e]; rfl
theorem ck_good {l : List UInt8} {mi : Int} (h : ¬ ((l.length : Int) > mi)) (e : okS l = true) : Value.int .i64 0 = .int .i64 ((ckE l mi : Nat) : Int) := by
  unfold ckE; rw [decide_eq_false h, e]; rfl

set_option maxHeartbeats 2000000 in
theorem refCheck_c {I : IM} {l : List UInt8} (hn : l.length ≤ 1000000) {mi : Int} : Fun Tryd.prog 62 #[.string ⟨(l).toArray⟩, .int .i64 mi] I (fun v J => v = .int .i64 ((ckE l mi : Nat) : Int)) := by
 refine enter_rule 37 [(0, .string ⟨(l).toArray⟩), (1, .int .i64 mi)] Tryd.func62 rfl (by kernel_rfl) ?_
 intro w s
 refine seqR ?_
 refine oKD [] [] 1 [] 0 (fun φ1 => [(4, .int .i64 0)]) (fun φ1 => []) s (fun φ1 => by kernel_rfl) (by kernel_rfl) ?_
 intro φ1 w1 s
 refine wp_seq ?_
 refine seqR ?_
 refine oKD [] [] 4 [] 0 (fun φ2 => [(12, .bool (decide (((l.length : Nat) : Int) > mi))), (11, .int .i64 mi), (10, .int .i64 l.length), (9, .string ⟨(l).toArray⟩)]) (fun φ2 => []) s (fun φ2 => by kernel_rfl) (by kernel_rfl) ?_
 intro φ2 w2 s
 rcases Bool.eq_false_or_eq_true (decide (((l.length : Nat) : Int) > mi)) with hc3 | hc3
 ·
  rw [hc3]
  refine cond_true_rule (b := true) (by kernel_rfl) rfl ?_
  refine seqR ?_
  refine oKD [] [] 1 [] 0 (fun φ4 => [(4, .int .i64 9)]) (fun φ4 => []) s (fun φ4 => by kernel_rfl) (by kernel_rfl) ?_
  intro φ4 w4 s
  refine wp_ret ?_
  refine ret_rule (C := []) [] [] (.int .i64 9) [] [] s trivial (by kernel_rfl) ?_
  exact ⟨_, _, _, rfl, s, (ck_long (dT9 hc3))⟩
 ·
  rw [hc3]
  refine cond_false_rule (b := false) (by kernel_rfl) rfl ?_
  refine wp_skip ?_
  refine wp_seq ?_
  refine seqR ?_
  refine oKD [] [] 1 [] 0 (fun φ5 => [(5, .int .i64 0)]) (fun φ5 => []) s (fun φ5 => by kernel_rfl) (by kernel_rfl) ?_
  intro φ5 w5 s
  refine wp_block ?_
  have hle6 := IM.Le.refl I
  refine loop_rule (fun (x : Nat) => [(0, .string ⟨(l).toArray⟩), (1, .int .i64 mi), (4, .int .i64 0), (5, .int .i64 x)]) (fun (x : Nat) => []) (fun m (x : Nat) J => IM.Le I J ∧ l.length ≤ x + m ∧ okS l = okS (l.drop x)) (l.length) 0 s (by kernel_rfl) List.Sublist.slnil ⟨IM.Le.refl _, by omega, rfl⟩ ?_
  rintro m7 p7 I7 w7 ev7 s ⟨le7, hi7_0, hi7_1⟩
  try dsimp only at s hi7_0 hi7_1 ⊢
  replace hle6 := leMono le7 hle6
  refine wp_seq ?_
  refine seqR ?_
  refine oK [] [] 4 [] 0 (fun φ8 => [(16, .bool (decide (((p7 : Nat) : Int) < ((l.length : Nat) : Int)))), (15, .int .i64 l.length), (14, .string ⟨(l).toArray⟩), (13, .int .i64 p7)]) (fun φ8 => []) s (fun φ8 => by kernel_rfl) ?_
  intro φ8 w8 s
  rw [nat_lss (a := p7) (b := l.length)]
  refine ops_done (by kernel_rfl) ?_
  rcases Bool.eq_false_or_eq_true (decide (p7 < l.length)) with hc9 | hc9
  ·
   rw [hc9]
   refine cond_true_rule (b := true) (by kernel_rfl) rfl ?_
   refine wp_skip ?_
   refine wp_block ?_
   refine seqR ?_
   refine oK [] [] 2 [] 0 (fun φ10 => [(19, .int .i64 p7), (18, .string ⟨(l).toArray⟩)]) (fun φ10 => []) s (fun φ10 => by kernel_rfl) ?_
   intro φ10 w10 s
   refine call_rule (some 20) s (sign_c (l := l) (p := p7) (by omega) (by have hz2 := dW_pos l p7; have hz3 := dW_le (dT9 hc9);  have hq0 := dF9 hc3; have hq1 := dT9 hc9; (try simp only [List.length_drop, List.length_take, List.length_append, List.length_cons, List.length_nil]); omega)) (by kernel_rfl) ?_
   intro v11 I11 w11 le11 h11 s
   replace hle6 := leMono le11 hle6
   obtain rfl := h11
   refine oKD [] [] 7 [] 0 (fun φ12 => [(8, .bool (!(dB l p7))), (7, .int .i64 (dW l p7)), (6, .int .i64 (sgX l p7)), (23, .bool (!(dB l p7))), (22, .int .i64 (dW l p7)), (21, .int .i64 (sgX l p7)), (17, .tuple #[.int .i64 (sgX l p7), .int .i64 (dW l p7), .bool (!(dB l p7))])]) (fun φ12 => []) s (fun φ12 => by kernel_rfl) (by kernel_rfl) ?_
   intro φ12 w12 s
   refine wp_seq ?_
   refine seqR ?_
   refine oK [] [] 3 [] 0 (fun φ13 => [(26, .bool (!(!(dB l p7)))), (25, .bool (!(!(dB l p7)))), (24, .bool (!(dB l p7)))]) (fun φ13 => []) s (fun φ13 => by kernel_rfl) ?_
   intro φ13 w13 s
   rcases Bool.eq_false_or_eq_true (dB l p7) with hc14 | hc14
   ·
    rw [hc14]
    refine oKD [] [] 7 [] 0 (fun φ15 => [(33, .bool true), (32, undef), (31, undef), (30, .bool true), (29, .bool true), (28, undef), (27, undef)]) (fun φ15 => []) s (fun φ15 => by kernel_rfl) (by kernel_rfl) ?_
    intro φ15 w15 s
    refine cond_true_rule (b := true) (by kernel_rfl) rfl ?_
    refine seqR ?_
    refine oKD [] [] 1 [] 0 (fun φ16 => [(4, .int .i64 7)]) (fun φ16 => []) s (fun φ16 => by kernel_rfl) (by kernel_rfl) ?_
    intro φ16 w16 s
    refine wp_ret ?_
    refine ret_rule (C := []) [] [] (.int .i64 7) [] [] s trivial (by kernel_rfl) ?_
    exact ⟨_, _, _, rfl, s, (ck_bad (dF9 hc3) (okS_no (dT9 hc9) (sg_bad1 hc14) hi7_1))⟩
   ·
    rw [hc14]
    refine oK [] [] 4 [] 0 (fun φ17 => [(30, .bool (decide (((sgX l p7 : Nat) : Int) < ((32 : Nat) : Int)))), (29, .bool (decide (((sgX l p7 : Nat) : Int) < ((32 : Nat) : Int)))), (28, .bool (decide (((sgX l p7 : Nat) : Int) < ((32 : Nat) : Int)))), (27, .int .i64 (sgX l p7))]) (fun φ17 => []) s (fun φ17 => by kernel_rfl) ?_
    intro φ17 w17 s
    rw [nat_lss (a := (sgX l p7)) (b := 32)]
    rcases Bool.eq_false_or_eq_true (decide ((sgX l p7) < 32)) with hc18 | hc18
    ·
     rw [hc18]
     refine oKD [] [] 3 [] 0 (fun φ19 => [(33, .bool true), (32, undef), (31, undef)]) (fun φ19 => []) s (fun φ19 => by kernel_rfl) (by kernel_rfl) ?_
     intro φ19 w19 s
     refine cond_true_rule (b := true) (by kernel_rfl) rfl ?_
     refine seqR ?_
     refine oKD [] [] 1 [] 0 (fun φ20 => [(4, .int .i64 7)]) (fun φ20 => []) s (fun φ20 => by kernel_rfl) (by kernel_rfl) ?_
     intro φ20 w20 s
     refine wp_ret ?_
     refine ret_rule (C := []) [] [] (.int .i64 7) [] [] s trivial (by kernel_rfl) ?_
     exact ⟨_, _, _, rfl, s, (ck_bad (dF9 hc3) (okS_no (dT9 hc9) (sg_bad2 hc14 (dT9 hc18)) hi7_1))⟩
    ·
     rw [hc18]
     refine oK [] [] 3 [] 0 (fun φ21 => [(33, .bool (((sgX l p7 : Nat) : Int) == ((127 : Nat) : Int))), (32, .bool (((sgX l p7 : Nat) : Int) == ((127 : Nat) : Int))), (31, .int .i64 (sgX l p7))]) (fun φ21 => []) s (fun φ21 => by kernel_rfl) ?_
     intro φ21 w21 s
     rw [nat_eql (a := (sgX l p7)) (b := 127)]
     refine ops_done (by kernel_rfl) ?_
     rcases Bool.eq_false_or_eq_true (decide ((sgX l p7) = 127)) with hc22 | hc22
     ·
      rw [hc22]
      refine cond_true_rule (b := true) (by kernel_rfl) rfl ?_
      refine seqR ?_
      refine oKD [] [] 1 [] 0 (fun φ23 => [(4, .int .i64 7)]) (fun φ23 => []) s (fun φ23 => by kernel_rfl) (by kernel_rfl) ?_
      intro φ23 w23 s
      refine wp_ret ?_
      refine ret_rule (C := []) [] [] (.int .i64 7) [] [] s trivial (by kernel_rfl) ?_
      exact ⟨_, _, _, rfl, s, (ck_bad (dF9 hc3) (okS_no (dT9 hc9) (sg_bad3 hc14 (dT9 hc22)) hi7_1))⟩
     ·
      rw [hc22]
      refine cond_false_rule (b := false) (by kernel_rfl) rfl ?_
      refine wp_skip ?_
      refine region_rule ?_
      refine oK [] [] 4 [] 0 (fun φ24 => [(5, .int .i64 (IntKind.wrap .i64 (((p7 : Nat) : Int) + ((dW l p7 : Nat) : Int)))), (36, .int .i64 (IntKind.wrap .i64 (((p7 : Nat) : Int) + ((dW l p7 : Nat) : Int)))), (35, .int .i64 (dW l p7)), (34, .int .i64 p7)]) (fun φ24 => []) s (fun φ24 => by kernel_rfl) ?_
      intro φ24 w24 s
      rw [nat_addI (a := p7) (b := (dW l p7)) (by have hz2 := dW_pos l p7; have hz3 := dW_le (dT9 hc9);  have hq0 := dF9 hc3; have hq1 := dT9 hc9; have hq3 := dF9 hc18; have hq4 := dF9 hc22; omega)]
      refine ops_done (by kernel_rfl) ?_
      have hq9 := dT9 hc9
      have hw9 := dW_pos l p7
      have hv9 := dW_le hq9
      exact ⟨⟨m7 - 1, p7 + dW l p7, _, _, _, by omega, rfl, s, List.Sublist.slnil, by kernel_rfl, hle6, by show l.length ≤ p7 + dW l p7 + (m7 - 1); omega, okS_go hq9 (sg_good hc14 (dF9 hc18) (dF9 hc22)) hi7_1⟩⟩
  ·
   rw [hc9]
   refine cond_false_rule (b := false) (by kernel_rfl) rfl ?_
   refine wp_exit ?_
   refine seqR ?_
   refine oKD [] [] 1 [] 0 (fun φ25 => [(4, .int .i64 0)]) (fun φ25 => []) s (fun φ25 => by kernel_rfl) (by kernel_rfl) ?_
   intro φ25 w25 s
   refine wp_ret ?_
   refine ret_rule (C := []) [] [] (.int .i64 0) [] [] s trivial (by kernel_rfl) ?_
   exact ⟨_, _, _, rfl, s, (ck_good (dF9 hc3) (okS_end (dF9 hc9) hi7_1))⟩

set_option maxHeartbeats 2000000 in
theorem runes_c {I : IM} {l : List UInt8} (hn : l.length ≤ 1000000) : Fun Tryd.prog 122 #[.string ⟨(l).toArray⟩] I (fun v J => v = .int .i64 ((nR l : Nat) : Int)) := by
 refine enter_rule 11 [(0, .string ⟨(l).toArray⟩)] Tryd.func122 rfl (by kernel_rfl) ?_
 intro w s
 refine seqR ?_
 refine oKD [] [] 1 [] 0 (fun φ1 => [(2, .int .i64 0)]) (fun φ1 => []) s (fun φ1 => by kernel_rfl) (by kernel_rfl) ?_
 intro φ1 w1 s
 refine seqR ?_
 refine oKD [] [] 1 [] 0 (fun φ2 => [(3, .int .i64 0)]) (fun φ2 => []) s (fun φ2 => by kernel_rfl) (by kernel_rfl) ?_
 intro φ2 w2 s
 refine wp_seq ?_
 refine seqR ?_
 refine oK [] [] 1 [] 0 (fun φ3 => [(4, .string ⟨(l).toArray⟩)]) (fun φ3 => []) s (fun φ3 => by kernel_rfl) ?_
 intro φ3 w3 s
 obtain ⟨k4, w4, hr4, s⟩ := range_new (H := []) s ⟨(l).toArray⟩
 refine sem_rule (Instr.range 9 (.string ⟨(l).toArray⟩)) (some 5) (pB k4) (by kernel_rfl) hr4 ?_
 refine ops_done (by kernel_rfl) ?_
 refine wp_block ?_
 have hle5 := IM.Le.refl I
 refine loop_rule (fun (x : Nat × Nat) => [(0, .string ⟨(l).toArray⟩), (2, .int .i64 0), (5, pB k4), (3, .int .i64 x.1)]) (fun (x : Nat × Nat) => [(k4, .stringIter ⟨(l).toArray⟩ x.2)]) (fun m (x : Nat × Nat) J => IM.Le I J ∧ l.length ≤ x.2 + m ∧ x.1 + (steps (l.drop x.2)).length = nR l ∧ x.1 ≤ x.2) (l.length) (0, 0) s (by kernel_rfl) (List.Sublist.cons₂ _ List.Sublist.slnil) ⟨IM.Le.refl _, by omega, Nat.zero_add _, Nat.le_refl _⟩ ?_
 rintro m6 ⟨q6, p6⟩ I6 w6 ev6 s ⟨le6, hi6_0, hi6_1, hi6_2⟩
 try dsimp only at s hi6_0 hi6_1 hi6_2 ⊢
 replace hle5 := leMono le6 hle5
 refine seqR ?_
 rcases Bool.eq_false_or_eq_true (decide (p6 < l.length)) with hc7 | hc7
 ·
  obtain ⟨w8, hr8, s⟩ := next_own (k := k4) (pos := p6) (l := l) (ty := 0) s (dT9 hc7)
  refine sem_rule (Instr.next (pB k4) true 0) (some 6) (.tuple #[.bool true, .int .i64 p6, .int .i32 (dR l p6)]) (by kernel_rfl) hr8 ?_
  refine oKD _ [] 1 [] 0 (fun φ9 => [(7, .bool true)]) (fun φ9 => []) s (fun φ9 => by kernel_rfl) (by kernel_rfl) ?_
  intro φ9 w9 s
  refine wp_seq ?_
  refine cond_true_rule (b := true) (by kernel_rfl) rfl ?_
  refine wp_skip ?_
  refine wp_block ?_
  refine region_rule ?_
  refine oK _ [] 3 [] 0 (fun φ10 => [(3, .int .i64 (IntKind.wrap .i64 (((q6 : Nat) : Int) + ((1 : Nat) : Int)))), (9, .int .i64 (IntKind.wrap .i64 (((q6 : Nat) : Int) + ((1 : Nat) : Int)))), (8, .int .i64 q6)]) (fun φ10 => []) s (fun φ10 => by kernel_rfl) ?_
  intro φ10 w10 s
  rw [nat_addI (a := q6) (b := 1) (by have hz0 := hi6_2; have hz2 := dW_pos l p6; have hz3 := dW_le (dT9 hc7);  have hq0 := dT9 hc7; omega)]
  refine ops_done (by kernel_rfl) ?_
  have hq9 := dT9 hc7
  have hw9 := dW_pos l p6
  have hv9 := dW_le hq9
  exact ⟨⟨m6 - 1, (q6 + 1, p6 + dW l p6), _, _, _, by omega, rfl, s, (List.Sublist.cons₂ _ List.Sublist.slnil), by kernel_rfl, hle5, by show l.length ≤ p6 + dW l p6 + (m6 - 1); omega, by have e9 := hi6_1; rw [steps_at hq9, List.length_cons] at e9; show q6 + 1 + (steps (l.drop (p6 + dW l p6))).length = nR l; omega, by show q6 + 1 ≤ p6 + dW l p6; have h8 := hi6_2; omega⟩⟩
 ·
  refine sem_rule (Instr.next (pB k4) true 0) (some 6) (.tuple #[.bool false]) (by kernel_rfl) (next_end (k := k4) (pos := p6) (l := l) (ty := 0) s (dF9 hc7)) ?_
  refine oKD [(k4, .stringIter ⟨(l).toArray⟩ p6)] [] 1 [] 0 (fun φ12 => [(7, .bool false)]) (fun φ12 => []) s (fun φ12 => by kernel_rfl) (by kernel_rfl) ?_
  intro φ12 w12 s
  refine wp_seq ?_
  refine cond_false_rule (b := false) (by kernel_rfl) rfl ?_
  refine wp_exit ?_
  refine seqR ?_
  refine oKD _ [] 2 [] 0 (fun φ13 => [(2, .int .i64 q6), (10, .int .i64 q6)]) (fun φ13 => []) s (fun φ13 => by kernel_rfl) (by kernel_rfl) ?_
  intro φ13 w13 s
  refine wp_ret ?_
  refine ret_rule (C := []) _ [] (.int .i64 q6) [] [] s trivial (by kernel_rfl) ?_
  exact ⟨_, _, _, rfl, s, (by have e9 := hi6_1; rw [steps_end (dF9 hc7), List.length_nil, Nat.add_zero] at e9; rw [e9])⟩

end Go.Proofs.YtcpmjogeafhpnaaDoor.Tx

/- A byte as signs. -/
set_option linter.all false
set_option maxRecDepth 100000
namespace Go.Proofs.YtcpmjogeafhpnaaDoor.Tx
open Go.RowKit Go.Sep
theorem ofNat_toNat (x : UInt8) : UInt8.ofNat x.toNat = x := by simp
end Go.Proofs.YtcpmjogeafhpnaaDoor.Tx

